import Derived.Test.YtjhihliciadipaaKR
import Derived.Test.YtjhihliciadipaaKP
import Derived.Test.YtjhihliciadipaaK21
set_option linter.unusedVariables false
set_option linter.unusedSimpArgs false
set_option linter.unnecessarySimpa false
namespace Go.Proofs.Ytjhihliciadipaa
open Go.RowKit

theorem NW.at {P : Pl} (h : NW P.g.s) (q : Nat) (u : Vs) : NW (P.at q u).g.s := h
theorem start_tr {q : Nat} {l : List Int} (p : Nat) (hp : p < 4) (b : ByteArray) :
    NW (askPl (newPl q (setK l)) p b).g.s ∧ ∃ t, (askPl (newPl q (setK l)) p b).g.s.trs = [t] ∧ t.fails = 0 ∧ openT t = true := by
  have hform : (askPl (newPl q (setK l)) p b).g.s = askSt (newPl q (setK l)).g.s p b := by unfold askPl; rw [if_pos (by show ([] : List Int).length < 8; simp)]
  have hlat : (newPl q (setK l)).g.s.lat.getD p (0, 0) = (0, 0) := by
    show ([(0, 0), (0, 0), (0, 0), (0, 0)] : List (Int × Int)).getD p (0, 0) = (0, 0)
    rcases p with _ | _ | _ | _ | p <;> first | rfl | omega
  have hlk := look_hm { (newPl q (setK l)).g.s with trs := (newPl q (setK l)).g.s.trs ++ [askT p (readP b) ((newPl q (setK l)).g.s.lat.getD p (0, 0))] }
  rw [hform]
  have e0 : askT p (readP b) (0, 0) = rawT p (readP b) := by rw [askT_eq, if_pos rfl]
  unfold askSt
  refine ⟨?_, ?_⟩
  · intro t ht e he hin
    rw [look_in] at hin
    obtain ⟨x, hx, -⟩ := hin
    have hx2 : x ∈ ([] : List (Er × ByteArray)) := hx
    simp at hx2
  · rw [hlat, e0] at hlk ⊢
    generalize plookS { (newPl q (setK l)).g.s with trs := (newPl q (setK l)).g.s.trs ++ [rawT p (readP b)] } = s' at *
    have hl1 : s'.trs.length = 1 := hlk.n
    obtain ⟨t', h1, h2⟩ := hlk.get (i := 0) (t := rawT p (readP b)) rfl
    obtain ⟨x, y, e⟩ := h2.1.e
    refine ⟨t', ?_, by rw [h2.2]; rfl, by rw [e]; rfl⟩
    cases hx : s'.trs with
    | nil => rw [hx] at hl1; simp at hl1
    | cons a l =>
      rw [hx] at hl1 h1
      simp at hl1 h1
      subst hl1 h1; rfl
structure PatE (v : Int) (p : Nat) (st : St) (nn : Nat) (P : Pl) (t : Tr) (T : ByteArray) : Prop where
  tr : P.g.s.trs = [t]
  tk : P.taken = [T]
  no : ¬ stT t = 1
  ls : st.t ≤ nn → stT t = 4 ∧ t.hd = ⟨502, 0, 0, 0, 0⟩ ∧ T = ByteArray.empty
  dn : (nn : Int) < st.t → stT t = 3 ∧ t.hd = ⟨200, v, totK p v, 0, totK p v⟩ ∧ T = objK p v 0 (totK p v).toNat
structure PatI (B v : Int) (p : Nat) (st : St) (nn : Nat) (I : Nat → Nat → Pl → Prop) : Prop where
  at' : ∀ j k P q u, I j k P → I j k (P.at q u)
  cl : ∀ j k P, I j k P → Cl B v (6 * j + k) P ∧ P.paths.length = 1 ∧ P.st = st
  fl : ∀ j k P (m : Nat), I j k P → k < nn → (m : Int) < st.m → POk (nextPl P m).1.g.s → POk (fstPl P m).g.s → I j (k + 1) (fstPl P m)
  rd : ∀ j P, I j nn P → POk (nextPl P 0).1.g.s → POk (roundPl P v).g.s → I (j + 1) 0 (roundPl P v)
  en : ∀ P, I 70 0 P → ∃ t T, PatE v p st nn P t T
theorem one_path {K : Kn} {n : Nat} {P : Pl} (h : PI K n P) {t : Tr} (ht : P.g.s.trs = [t]) : P.paths.length = 1 := by rw [← h.ok.n1, ht]; rfl
theorem taken_one {K : Kn} {n : Nat} {P : Pl} (h : PI K n P) {t : Tr} (ht : P.g.s.trs = [t]) : ∃ T, P.taken = [T] := by
  have hn : P.taken.length = 1 := by rw [h.si.n, ht]; rfl
  cases hx : P.taken with
  | nil => rw [hx] at hn; simp at hn
  | cons a l => rw [hx] at hn; simp at hn; subst hn; exact ⟨a, rfl⟩
theorem pat_inv (B v : Int) (p : Nat) (nn : Nat) (l : List Int) (hB : (setK l).b = B) (hp : p < 4) (hv : 1 ≤ v) (hv2 : v ≤ 99) (hnn : nn ≤ 4) :
    ∃ I, PatI B v p (setK l) nn I ∧ ∀ q, POk (newPl q (setK l)).g.s → POk (askPl (newPl q (setK l)) p ByteArray.empty).g.s → I 0 0 (askPl (newPl q (setK l)) p ByteArray.empty) := by
  have hr0 : readP ByteArray.empty = (0, 0, 0) := read4
  by_cases hlt : (nn : Int) < (setK l).t
  · refine ⟨P1 B v p (setK l), ⟨fun j k P q u h => ⟨h.ri.at q u, h.nw.at q u, h.es, h.fl⟩, fun j k P h => ?_, fun j k P m h hk hm a b => h.fail (by omega) m hm a b, fun j P h a b => h.round hnn (by omega) hv2 a b, fun P h => ?_⟩, fun q a b => ?_⟩
    · obtain ⟨t, ht, -⟩ := h.fl
      have hC := h.ri.cl
      exact ⟨⟨hC.pi.up (by omega), hC.pk, hC.bl, hC.aw⟩, one_path hC.pi ht, h.es⟩
    · obtain ⟨t, T, hE⟩ := h.ri.done hv
      refine ⟨t, T, hE.tr, hE.tk, by rw [hE.st]; omega, fun h => by omega, fun _ => ⟨hE.st, hE.hd, ?_⟩⟩
      have := hE.T
      rw [hE.hd] at this
      exact this
    · obtain ⟨hnw, t, ht, hf, -⟩ := start_tr (q := q) (l := l) p hp ByteArray.empty
      have hri := ri_start (v := v) hB p hp ByteArray.empty a b
      rw [hr0] at hri
      refine ⟨hri, hnw, ?_, t, ht, by omega, fun _ => hf⟩
      unfold askPl; split <;> rfl
  · refine ⟨P2 B v (setK l), ⟨fun j k P q u h => ⟨h.cl.at q u, h.nw.at q u, h.es, h.fl⟩, fun j k P h => ?_, fun j k P m h hk hm a b => h.fail m hm a b, fun j P h a b => h.round hnn (by omega) b, fun P h => ?_⟩, fun q a b => ?_⟩
    · obtain ⟨t, ht, -⟩ := h.fl
      exact ⟨h.cl, one_path h.cl.pi ht, h.es⟩
    · obtain ⟨t, ht, hfl⟩ := h.fl
      obtain ⟨T, hT⟩ := taken_one h.cl.pi ht
      have hTI := h.cl.pi.si.ts 0 t T (by rw [ht]; rfl) (by rw [hT]; rfl)
      have hj : t.lost = true ∧ t.hd = ⟨502, 0, 0, 0, 0⟩ := hfl.resolve_left (fun x => by have := x.1; omega)
      have hst : stT t = 4 := by unfold stT; rw [hj.1, if_pos rfl]
      refine ⟨t, T, ht, hT, by omega, fun _ => ⟨hst, hj.2, ?_⟩, fun h => absurd h hlt⟩
      have h1 := hTI.tz
      have h2 := hTI.ok.k1
      have h3 := hTI.ok.k0
      rw [hj.2] at h2
      simp only at h2
      refine ba_nil _ ?_
      cases he : T.toList.isEmpty
      · have := ba_pos _ he; omega
      · rfl
    · obtain ⟨hnw, t, ht, hf, ho⟩ := start_tr (q := q) (l := l) p hp ByteArray.empty
      have hri := ri_start (v := v) hB p hp ByteArray.empty a b
      have ht1 := (setK_ok l).f9
      refine ⟨hri.cl, hnw, ?_, t, ht, Or.inl ⟨rfl, ho, by rw [hf]; rfl, by simp only [Int.natCast_zero]; omega⟩⟩
      unfold askPl; split <;> rfl
/-- What the calls of a failure come to. -/
def FsIdle (y : Nat) (w : World) (ix : Int) (F : World → Prop) : Prop :=
  Calls Try.prog 13 #[.pointer (some ⟨y, 0, none⟩), .int .i64 ix] w fun e w2 => e = .returned (.bool false) ∧ F w2
def FsSent (y : Nat) (w : World) (ix M : Int) (m : Nat) (F : World → Prop) : Prop :=
  Calls Try.prog 13 #[.pointer (some ⟨y, 0, none⟩), .int .i64 ix] w fun e w2 => e = .returned (.bool true) ∧ (w2.cell? ⟨y, 1, none⟩ = some (.int .i64 M) ∧ y < w2.heap.size) ∧
    Calls Try.prog 22 #[.pointer (some ⟨y, 0, none⟩), .int .i64 m] w2 fun e w3 => e = .returned (.tuple #[]) ∧ F w3
theorem fl_q (P : Pl) (m : Nat) : (flPl P m).q = P.q := by unfold flPl; split <;> rfl
theorem fst_calls (y : Nat) (col : Nat → Nat) (k : Nat) (B v : Int) (n : Nat) (Q : Pl) (V : Pv) (w : World) (ix : Int) (hix : I64 ix) (hL : PlAt w y col k Q V) (hC : Cl B v n Q) :
    FsIdle y w ix (fun w' => POk (nextPl Q (mirK Q ix)).1.g.s ∧ PlTo w w' y col k (fstPl Q (mirK Q ix))) ∨ FsSent y w ix Q.st.m (mirK Q ix) (fun w' => POk (nextPl Q (mirK Q ix)).1.g.s ∧ PlTo w w' y col k (fstPl Q (mirK Q ix))) := by
  have hK : KnOk (KnV B v) Q.g.s.blk := by rw [hC.bl]; exact KnV_ok _ _
  have HN := next_any y col k _ _ Q V ix w hL hC.pi hK hix
  obtain ⟨-, hm3, hmm, -, -⟩ := mirK_bd hC.pi ix
  have hpi := nextPl_PI hC.pi hC.pk hK (mirK Q ix) hm3
  generalize mirK Q ix = m at *
  unfold fstPl
  have hq := next_q Q m
  have hs := next_st Q m
  have hmi : (nextPl Q m).1.g.s.mir = Q.g.s.mir := by
    rw [← hpi.j.st.1, ← hC.pi.j.st.1, hs]
  cases hb : (nextPl Q m).2
  · rw [hb] at HN
    left
    refine HN.mono ?_
    rintro e w2 ⟨rfl, hT⟩
    exact ⟨rfl, hT.pk, hT⟩
  · rw [hb] at HN
    right
    refine HN.mono ?_
    rintro e w2 ⟨rfl, col2, V2, v2, hL2, hS2⟩
    have hpk2 : POk (nextPl Q m).1.g.s := (hL2.pg id).1.ok
    refine ⟨rfl, ⟨?_, hL2.lt⟩, ?_⟩
    · rw [← hs]; exact hL2.cSt 1 (by omega)
    · refine (yfail_any y col2 k _ _ _ V2 m w2 hL2 (hpi.at _ v2) (by show (m : Int) < (nextPl Q m).1.g.s.mir; rw [hmi]; exact hmm)).mono ?_
      rintro e w3 ⟨rfl, hT3⟩
      rw [lay_at, flPl_at] at hT3
      refine ⟨rfl, hpk2, ?_⟩
      simp only [if_true]
      exact PlTo.trans hS2 (hT3.unat (fl_q _ _))
end Go.Proofs.Ytjhihliciadipaa

namespace Go.Proofs.Ytjhihliciadipaa
open Go.RowKit

set_option maxRecDepth 100000 in
set_option maxHeartbeats 8000000 in
theorem Patient_walk (l : List Int) (x1 x2 x3 : Int) (v : Value) (w : World) (hv : IntsAt w v l) (hl : l.length ≤ 17592186044416) (hi : ∀ x ∈ l, I64 x) (h1 : I64 x1) (h2 : I64 x2) (h3 : I64 x3) :
    Calls Try.prog 4 #[v, .int .i64 x1, .int .i64 x2, .int .i64 x3] w fun e w' => e = .returned (.bool true) ∧ Ext w w' := by
  have HB := begin_any l v zCol 1 w hv (by omega) hi
  have hpb := pickK_bd x1 4 (by omega)
  have htb := pickK_bd x2 99 (by omega)
  have hnb := pickK_bd x3 5 (by omega)
  have PK1 := hide (fun w' => pickK_any x1 4 w' h1 (by omega) (by omega))
  have PK2 := hide (fun w' => pickK_any x2 99 w' h2 (by omega) (by omega))
  have PK3 := hide (fun w' => pickK_any x3 5 w' h3 (by omega) (by omega))
  obtain ⟨p, hp⟩ := Int.eq_ofNat_of_zero_le hpb.1
  rw [hp] at PK1 hpb
  obtain ⟨nn, hnn⟩ := Int.eq_ofNat_of_zero_le hnb.1
  rw [hnn] at PK3 hnb
  generalize hc : pickK x2 99 = c at *
  have hB := setK_ok l
  obtain ⟨B, hBe⟩ : ∃ B, B = (setK l).b := ⟨_, rfl⟩
  obtain ⟨I, hI, hI0⟩ := pat_inv B (1 + c) p nn l hBe.symm (by omega) (by omega) (by omega) (by omega)
  have HIv := hide hI
  have HI0 := hide hI0
  clear hp hc hnn hI hI0
  go_enter Try.func4, Try.ntmps4
  go_upto_region 2 with (go_at_call 9; refine HB.mono ?_; rintro e w1 ⟨y, q, rfl, hL1, hE1⟩)
  have PK1' := PK1.out w1
  go_upto_region 3 with (go_at_call 10; refine PK1'.mono ?_; rintro e w2 ⟨rfl, hw2⟩; have hw2 := hw2.symm; subst hw2)
  have PK2' := PK2.out w1
  go_upto_region 4 with (go_at_call 10; refine PK2'.mono ?_; rintro e w2 ⟨rfl, hw2⟩; have hw2 := hw2.symm; subst hw2)
  have PK3' := PK3.out w1
  go_upto_region 5 with (go_at_call 10; refine PK3'.mono ?_; rintro e w2 ⟨rfl, hw2⟩; have hw2 := hw2.symm; subst hw2)
  have HA := yask_any y _ 1 _ newPv p ByteArray.empty w1 hL1 (new_PI (KnV B (1 + c)) q l).ok (by omega) (by simp)
  have pk0 := (hL1.pg id).1.ok
  go_upto_region 6 with (go_at_call 12; refine HA.mono ?_; rintro e w2 ⟨rfl, hT2⟩)
  have HST : Hid (∃ P', I 0 0 P' ∧ PlTo w1 w2 y (colY w zCol y 1) 1 P') := ⟨_, HI0.out q pk0 hT2.pk, hT2⟩
  have HE1 := hide hE1
  have hM1 := hB.f1
  have hM2 := hB.f2
  have hT1 := hB.f9
  have hT4 := hB.f10
  generalize setK l = st at *
  clear hL1 hT2 pk0 HA HB PK1 PK1' PK2 PK2' PK3 PK3' hE1 hv hB hBe HI0
  go_wp2_with fail
  go_loopw [13] (fun i wr => ∃ m : Nat, m ≤ 70 ∧ i = .int .i64 m ∧ Hid (∃ P', I (70 - m) 0 P' ∧ PlTo w1 wr y (colY w zCol y 1) 1 P')) (fun i _ => (intOf i).toNat)
  case atStart => exact ⟨70, by omega, rfl, HST.out⟩
  case round =>
    obtain ⟨m, hm, rfl, HP⟩ := hrel
    obtain ⟨Q0, hQ0, colQ, V, vq, hL, hS⟩ := HP.out
    have hQI := HIv.out.at' _ _ _ Q0.q vq hQ0
    obtain ⟨Q, hQ⟩ : ∃ Q, Q = Q0.lay vq := ⟨_, rfl⟩
    rw [← lay_at, ← hQ] at hQI
    rw [← hQ] at hL
    clear hQ0 hQ HST
    obtain ⟨hC, hn1, hst⟩ := HIv.out.cl _ _ _ hQI
    have c29 : wr.cell? ⟨y, 29, none⟩ = some (.bool false) := by rw [← hC.pi.ok.bad]; exact hL.cEnd 5
    by_cases hm0 : 0 < m
    · obtain ⟨m', rfl⟩ : ∃ m', m = m' + 1 := ⟨m - 1, by omega⟩
      have hj : 70 - m' = 70 - (m' + 1) + 1 := by omega
      clear hL hS hQI hC
      go_wp2_with fail
      go_loopw [14] (fun i wx => ∃ k : Nat, k ≤ nn ∧ i = .int .i64 k ∧ Hid (∃ P', I (70 - (m' + 1)) k P' ∧ PlTo w1 wx y (colY w zCol y 1) 1 P')) (fun i _ => nn - (intOf i).toNat)
      case atStart => exact ⟨0, by omega, rfl, HP.out⟩
      case round =>
        clear c29 HP
        obtain ⟨k, hk, rfl, HP2⟩ := hrel
        obtain ⟨R0, hR0, colR, VR, vr, hLR, hSR⟩ := HP2.out
        have hRI := HIv.out.at' _ _ _ R0.q vr hR0
        obtain ⟨R, hR⟩ : ∃ R, R = R0.lay vr := ⟨_, rfl⟩
        rw [← lay_at, ← hR] at hRI
        rw [← hR] at hLR
        clear hR0 hR HP2
        obtain ⟨hC, hn1, hst⟩ := HIv.out.cl _ _ _ hRI
        by_cases hkn : k < nn
        · have hkn' : (k : Int) < nn := by omega
          have hFC := fst_calls y colR 1 B (1 + c) _ R VR _ k ⟨by omega, by omega⟩ hLR hC
          obtain ⟨hmk, -, hmm, -, -⟩ := mirK_bd hC.pi k
          rw [← hC.pi.j.st.1] at hmm
          rw [hst] at hmk hmm hFC
          have HPk := hide (fun w' => pickK_any k st.m w' ⟨by omega, by omega⟩ (by omega) (by omega))
          rw [hmk] at HPk
          have HF : Hid (∀ w3, POk (nextPl R (mirK R k)).1.g.s → PlTo _ w3 y colR 1 (fstPl R (mirK R k)) → ∃ P', I (70 - (m' + 1)) (k + 1) P' ∧ PlTo w1 w3 y (colY w zCol y 1) 1 P') := fun w3 a hT =>
            ⟨_, HIv.out.fl _ _ _ _ hRI hkn hmm a hT.pk, PlTo.trans hSR hT⟩
          generalize mirK R k = mm at *
          clear hLR hSR hRI hC
          rcases hFC with H1 | H1
          · unfold FsIdle at H1
            go_upto_region 13 with (go_at_call 13; refine H1.mono ?_; rintro e w2 ⟨rfl, hpk, hT⟩)
            have HG : Hid (∃ P', I (70 - (m' + 1)) (k + 1) P' ∧ PlTo w1 w2 y (colY w zCol y 1) 1 P') := HF.out w2 hpk hT
            clear H1 HF hT hpk
            go_wp2_with fail
            exact ⟨by (repeat apply Exists.intro); exact ⟨⟨k + 1, by omega, by go_num, HG⟩, rfl⟩, by simp [intOf]; omega⟩
          · unfold FsSent at H1
            go_upto_region 13 with (go_at_call 13; refine H1.mono ?_; rintro e w2 ⟨rfl, ⟨c1, hyl2⟩, H2⟩)
            have HPk2 := HPk.out w2
            clear H1
            go_wp2_with (go_at_call 10; refine HPk2.mono ?_; rintro e wz ⟨rfl, hwz⟩; have hwz := hwz.symm; subst hwz)
            refine H2.mono ?_
            rintro e w3 ⟨rfl, hpk, hT⟩
            have HG : Hid (∃ P', I (70 - (m' + 1)) (k + 1) P' ∧ PlTo w1 w3 y (colY w zCol y 1) 1 P') := HF.out w3 hpk hT
            clear H2 HF hT hpk c1
            go_wp2_with fail
            exact ⟨by (repeat apply Exists.intro); exact ⟨⟨k + 1, by omega, by go_num, HG⟩, rfl⟩, by simp [intOf]; omega⟩
        · obtain rfl : k = nn := by omega
          have hRC := round_calls y colR 1 B (1 + c) _ R VR _ hLR hC (by omega) (by omega) hn1 (by omega) (by omega)
          have HF : Hid (∀ w3, POk (nextPl R 0).1.g.s → PlTo _ w3 y colR 1 (roundPl R (1 + c)) → ∃ P', I (70 - m') 0 P' ∧ PlTo w1 w3 y (colY w zCol y 1) 1 P') := fun w3 a hT => by
            rw [hj]; exact ⟨_, HIv.out.rd _ _ hRI a hT.pk, PlTo.trans hSR hT⟩
          clear hLR hSR hRI hC
          rcases hRC with H1 | ⟨f, r, H1⟩
          · unfold RdIdle at H1
            go_upto_region 16 with (go_at_call 13; refine H1.mono ?_; rintro e w2 ⟨rfl, H2⟩)
            clear H1
            go_wp2_with fail
            refine H2.mono ?_
            rintro e w3 ⟨rfl, hpk, hT3⟩
            have HG : Hid (∃ P', I (70 - m') 0 P' ∧ PlTo w1 w3 y (colY w zCol y 1) 1 P') := HF.out w3 hpk hT3
            clear HF hT3 H2
            go_wp2_with fail
            exact ⟨⟨m', by omega, by go_num, HG⟩, by simp [intOf]⟩
          · unfold RdSent at H1
            go_upto_region 16 with (go_at_call 13; refine H1.mono ?_; rintro e w2 ⟨rfl, hJ, H2⟩)
            obtain ⟨j0, j1, j2, j3, j4, hyl2⟩ := hJ
            obtain ⟨fp, ft, fo, ff, fl⟩ := f
            obtain ⟨rt, ro, rf, rb⟩ := r
            unfold feAgg fetAgg rpAgg repAgg at H2
            simp only at H2 j0 j1 j2 j3 j4
            clear H1
            go_upto_region 18 with (first | (go_at_call 15; refine H2.mono ?_; rintro e w3 ⟨rfl, H3⟩) | (go_at_call 14; refine H3.mono ?_; rintro e w4 ⟨rfl, H4⟩))
            clear H2 H3 j0 j1 j2 j3 j4
            go_wp2_with fail
            refine H4.mono ?_
            rintro e w5 ⟨rfl, hpk, hT5⟩
            have HG : Hid (∃ P', I (70 - m') 0 P' ∧ PlTo w1 w5 y (colY w zCol y 1) 1 P') := HF.out w5 hpk hT5
            clear H4 hT5 HF
            go_wp2_with fail
            exact ⟨⟨m', by omega, by go_num, HG⟩, by simp [intOf]⟩
    · obtain rfl : m = 0 := by omega
      obtain ⟨t, T, hE⟩ := HIv.out.en Q hQI
      have ht : Q.g.s.trs[0]? = some t := by rw [hE.tr]; rfl
      have hno := hE.no
      have HH := yhead_yes y colQ 1 Q V 0 t wr hL hC.pi.ok ht hno (by omega)
      have hts : (headPl Q 0).g.s.trs[0]? = some (pshowT t) := by
        show (headS Q.g.s (0 : Nat)).trs[0]? = _
        rw [(headS_yes ht (open_st hno)).2]
        show (Q.g.s.trs.set 0 (pshowT t))[0]? = _
        simp [(List.getElem?_eq_some_iff.1 ht).1]
      have hTk : (headPl Q 0).taken = [T] := hE.tk
      have hst3 : (headPl Q 0).st = st := hst
      obtain ⟨sv, hsv⟩ : ∃ sv, sv = stT (pshowT t) := ⟨_, rfl⟩
      have hsv' : sv = stT t := hsv
      have hls := hE.ls
      have hdn := hE.dn
      rw [← hsv'] at hls hdn
      obtain ⟨aK0, capK0, hvK0, -⟩ := own_form (hL.kk id).1
      have hlK0 : Q.taken.length = 1 := by rw [hE.tk]; rfl
      have c26 : wr.cell? ⟨y, 26, none⟩ = some (.slice aK0 1 capK0) := by rw [← hlK0, ← hvK0]; exact hL.cEnd 2
      have htt := totK_bd p (1 + c)
      obtain ⟨tn, htn⟩ := Int.eq_ofNat_of_zero_le htt.1
      have HTt := hide (fun w' => totK_any p (1 + c) w' (by omega) (by omega) (by omega) (by omega))
      have HOb := hide (fun w' => object_any p (1 + c) 0 tn w' (by omega) (by omega) (by omega) (by omega) (by omega) (by omega))
      rw [htn] at hdn HTt htt
      simp only [Int.toNat_natCast] at hdn
      unfold hdAgg at HH
      generalize t.hd = hd at *
      obtain ⟨E1, E2, E3, E4, E5⟩ := hd
      simp only at HH
      generalize headPl Q 0 = Q3 at *
      clear hE hQI hC hL ht hno hlK0 hvK0 hsv' htn HP HIv
      by_cases hq : st.t ≤ nn
      · obtain ⟨rfl, hhd, rfl⟩ := hls hq
        simp only [Hd.mk.injEq] at hhd
        obtain ⟨rfl, rfl, rfl, rfl, rfl⟩ := hhd
        clear hls hdn
        go_upto_region 22 with (go_at_call 17; refine HH.mono ?_; rintro e w3 ⟨rfl, hT3⟩)
        obtain ⟨col3, V3, v3, hL3, hS3⟩ := hT3
        have HW := hide (play_ext HE1.out (hS.trans hS3))
        obtain ⟨Q4, hQ4⟩ : ∃ Q4, Q4 = Q3.lay v3 := ⟨_, rfl⟩
        have hts4 : Q4.g.s.trs[0]? = some (pshowT t) := by rw [hQ4]; exact hts
        have hTk4 : Q4.taken = [ByteArray.empty] := by rw [hQ4]; exact hTk
        have hst4 : Q4.st = st := by rw [hQ4]; exact hst3
        rw [← hQ4] at hL3
        have hEb := Ext.new w3 (.cells #[.int .i64 502, .int .i64 0, .int .i64 0, .int .i64 0, .int .i64 0] 46)
        have hbx := Blk.new w3 46 #[.int .i64 502, .int .i64 0, .int .i64 0, .int .i64 0, .int .i64 0]
        have hL4 := hL3.ext hEb 0
        have HW4 := hide (Ext.trans' HW.out hEb)
        obtain ⟨aK, capK, hvK, hgK⟩ := own_form (hL4.kk id).1
        have hlK : Q4.taken.length = 1 := by rw [hTk4]; rfl
        obtain ⟨gK, rfl⟩ := hgK (by omega)
        have HC : Hid (∀ w', Ext (w3.alloc (.cells #[.int .i64 502, .int .i64 0, .int .i64 0, .int .i64 0, .int .i64 0] 46)) w' → (w'.cell? ⟨y, 0, none⟩ = some (.pointer (some ⟨Q4.q, 0, none⟩)) ∧ w'.cell? ⟨y, 5, none⟩ = some (.int .i64 st.t) ∧ w'.cell? ⟨y, 26, none⟩ = some (.slice (some ⟨gK, 0, none⟩) 1 capK) ∧ w'.cell? ⟨gK, 0, none⟩ = some (.string ByteArray.empty)) ∧
            (w'.cell? ⟨w3.heap.size, 0, none⟩ = some (.int .i64 502) ∧ w'.cell? ⟨w3.heap.size, 1, none⟩ = some (.int .i64 0) ∧ w'.cell? ⟨w3.heap.size, 2, none⟩ = some (.int .i64 0) ∧ w'.cell? ⟨w3.heap.size, 3, none⟩ = some (.int .i64 0) ∧ w'.cell? ⟨w3.heap.size, 4, none⟩ = some (.int .i64 0)) ∧ y < w'.heap.size ∧ w3.heap.size < w'.heap.size) := by
          intro w' hE
          refine ⟨⟨ext_cell hE (hL4.cSt 0 (by omega)), ext_cell hE (by rw [← hst4]; exact hL4.cSt 5 (by omega)), ext_cell hE (by rw [← hlK, ← hvK]; exact hL4.cEnd 2), ext_cell hE ?_⟩, ⟨ext_cell hE (hbx.cell 0), ext_cell hE (hbx.cell 1), ext_cell hE (hbx.cell 2), ext_cell hE (hbx.cell 3), ext_cell hE (hbx.cell 4)⟩, Nat.lt_of_lt_of_le hL4.lt hE.size, Nat.lt_of_lt_of_le hbx.lt hE.size⟩
          have ho := (hL4.kk id).1
          rw [hvK] at ho
          rw [ho.cellAt 0 (by omega)]; simp [hTk4]
        have HSt := hide (fun w' (hE : Ext (w3.alloc (.cells #[.int .i64 502, .int .i64 0, .int .i64 0, .int .i64 0, .int .i64 0] 46)) w') => StateP_any Q4.q (0 : Nat) Q4.g w' ((hL4.pg id).1.ext hE))
        rw [ansT_yes (hasT_of hts4) hts4, ← hsv] at HSt
        simp only at HSt
        generalize w3.alloc (.cells #[.int .i64 502, .int .i64 0, .int .i64 0, .int .i64 0, .int .i64 0] 46) = w4 at *
        obtain ⟨⟨x0, x5, x26, xK⟩, ⟨y0, y1, y2, y3, y4⟩, hyl, hbl⟩ := HC.out w4 (Below.refl _ _)
        have hSt4 := HSt.out w4 (Below.refl _ _)
        clear hL4 hL3 hS3 hS hvK hgK hTk4 hst4 hts4 hQ4 hts hTk hst3 hst hEb hbx hsv HH c29 c26 HE1 HW
        go_upto_region 23 with (go_at_call 20; refine hSt4.mono ?_; rintro e w5 ⟨rfl, hE5⟩)
        have hE6 := Ext.new w5 (.cells #[.int .i64 502, .int .i64 0, .int .i64 0, .int .i64 0, .int .i64 0] 46)
        have hby := Blk.new w5 46 #[.int .i64 502, .int .i64 0, .int .i64 0, .int .i64 0, .int .i64 0]
        clear x0 x5 x26 xK y0 y1 y2 y3 y4 hSt4 HSt
        go_upto_region 24 with (fail)
        have hE46 := Ext.trans' hE5 hE6
        generalize w5.alloc (.cells #[.int .i64 502, .int .i64 0, .int .i64 0, .int .i64 0, .int .i64 0] 46) = w6 at *
        have r0 : w6.cell? ⟨w5.heap.size, 0, none⟩ = some (.int .i64 502) := hby.cell 0
        have r1 : w6.cell? ⟨w5.heap.size, 1, none⟩ = some (.int .i64 0) := hby.cell 1
        have r2 : w6.cell? ⟨w5.heap.size, 2, none⟩ = some (.int .i64 0) := hby.cell 2
        have r3 : w6.cell? ⟨w5.heap.size, 3, none⟩ = some (.int .i64 0) := hby.cell 3
        have r4 : w6.cell? ⟨w5.heap.size, 4, none⟩ = some (.int .i64 0) := hby.cell 4
        have hbl6 := hby.lt
        have HW6 := hide (Ext.trans' HW4.out hE46)
        have HC6 : Hid (∀ w', Ext w6 w' → _) := fun w' hE => HC.out w' (Ext.trans' hE46 hE)
        obtain ⟨⟨a0, a5, a26, aK'⟩, ⟨b0, b1, b2, b3, b4⟩, hyl6, hbl6'⟩ := HC.out w6 hE46
        go_wp2_with fail
        go_ret
        exact ⟨rfl, HW6.out⟩
      · obtain ⟨rfl, hhd, hTT⟩ := hdn (by omega)
        simp only [Hd.mk.injEq] at hhd
        obtain ⟨rfl, rfl, rfl, rfl, rfl⟩ := hhd
        rw [← hTT] at HOb
        have hTs : T.size ≤ 1000 := by rw [hTT, objK_size]; unfold objN; omega
        clear hTT
        clear hls hdn
        go_upto_region 22 with (go_at_call 17; refine HH.mono ?_; rintro e w3 ⟨rfl, hT3⟩)
        obtain ⟨col3, V3, v3, hL3, hS3⟩ := hT3
        have HW := hide (play_ext HE1.out (hS.trans hS3))
        obtain ⟨Q4, hQ4⟩ : ∃ Q4, Q4 = Q3.lay v3 := ⟨_, rfl⟩
        have hts4 : Q4.g.s.trs[0]? = some (pshowT t) := by rw [hQ4]; exact hts
        have hTk4 : Q4.taken = [T] := by rw [hQ4]; exact hTk
        have hst4 : Q4.st = st := by rw [hQ4]; exact hst3
        rw [← hQ4] at hL3
        have hEb := Ext.new w3 (.cells #[.int .i64 200, .int .i64 (1 + c), .int .i64 tn, .int .i64 0, .int .i64 tn] 46)
        have hbx := Blk.new w3 46 #[.int .i64 200, .int .i64 (1 + c), .int .i64 tn, .int .i64 0, .int .i64 tn]
        have hL4 := hL3.ext hEb 0
        have HW4 := hide (Ext.trans' HW.out hEb)
        obtain ⟨aK, capK, hvK, hgK⟩ := own_form (hL4.kk id).1
        have hlK : Q4.taken.length = 1 := by rw [hTk4]; rfl
        obtain ⟨gK, rfl⟩ := hgK (by omega)
        have HC : Hid (∀ w', Ext (w3.alloc (.cells #[.int .i64 200, .int .i64 (1 + c), .int .i64 tn, .int .i64 0, .int .i64 tn] 46)) w' → (w'.cell? ⟨y, 0, none⟩ = some (.pointer (some ⟨Q4.q, 0, none⟩)) ∧ w'.cell? ⟨y, 5, none⟩ = some (.int .i64 st.t) ∧ w'.cell? ⟨y, 26, none⟩ = some (.slice (some ⟨gK, 0, none⟩) 1 capK) ∧ w'.cell? ⟨gK, 0, none⟩ = some (.string T)) ∧
            (w'.cell? ⟨w3.heap.size, 0, none⟩ = some (.int .i64 200) ∧ w'.cell? ⟨w3.heap.size, 1, none⟩ = some (.int .i64 (1 + c)) ∧ w'.cell? ⟨w3.heap.size, 2, none⟩ = some (.int .i64 tn) ∧ w'.cell? ⟨w3.heap.size, 3, none⟩ = some (.int .i64 0) ∧ w'.cell? ⟨w3.heap.size, 4, none⟩ = some (.int .i64 tn)) ∧ y < w'.heap.size ∧ w3.heap.size < w'.heap.size) := by
          intro w' hE
          refine ⟨⟨ext_cell hE (hL4.cSt 0 (by omega)), ext_cell hE (by rw [← hst4]; exact hL4.cSt 5 (by omega)), ext_cell hE (by rw [← hlK, ← hvK]; exact hL4.cEnd 2), ext_cell hE ?_⟩, ⟨ext_cell hE (hbx.cell 0), ext_cell hE (hbx.cell 1), ext_cell hE (hbx.cell 2), ext_cell hE (hbx.cell 3), ext_cell hE (hbx.cell 4)⟩, Nat.lt_of_lt_of_le hL4.lt hE.size, Nat.lt_of_lt_of_le hbx.lt hE.size⟩
          have ho := (hL4.kk id).1
          rw [hvK] at ho
          rw [ho.cellAt 0 (by omega)]; simp [hTk4]
        have HSt := hide (fun w' (hE : Ext (w3.alloc (.cells #[.int .i64 200, .int .i64 (1 + c), .int .i64 tn, .int .i64 0, .int .i64 tn] 46)) w') => StateP_any Q4.q (0 : Nat) Q4.g w' ((hL4.pg id).1.ext hE))
        rw [ansT_yes (hasT_of hts4) hts4, ← hsv] at HSt
        simp only at HSt
        generalize w3.alloc (.cells #[.int .i64 200, .int .i64 (1 + c), .int .i64 tn, .int .i64 0, .int .i64 tn] 46) = w4 at *
        obtain ⟨⟨x0, x5, x26, xK⟩, ⟨y0, y1, y2, y3, y4⟩, hyl, hbl⟩ := HC.out w4 (Below.refl _ _)
        have hSt4 := HSt.out w4 (Below.refl _ _)
        clear hL4 hL3 hS3 hS hvK hgK hTk4 hst4 hts4 hQ4 hts hTk hst3 hst hEb hbx hsv HH c29 c26 HE1 HW
        go_upto_region 23 with (go_at_call 20; refine hSt4.mono ?_; rintro e w5 ⟨rfl, hE5⟩)
        have hE6 := Ext.new w5 (.cells #[.int .i64 502, .int .i64 0, .int .i64 0, .int .i64 0, .int .i64 0] 46)
        have hby := Blk.new w5 46 #[.int .i64 502, .int .i64 0, .int .i64 0, .int .i64 0, .int .i64 0]
        clear x0 x5 x26 xK y0 y1 y2 y3 y4 hSt4 HSt
        go_upto_region 24 with (fail)
        have hE46 := Ext.trans' hE5 hE6
        generalize w5.alloc (.cells #[.int .i64 502, .int .i64 0, .int .i64 0, .int .i64 0, .int .i64 0] 46) = w6 at *
        have r0 : w6.cell? ⟨w5.heap.size, 0, none⟩ = some (.int .i64 502) := hby.cell 0
        have r1 : w6.cell? ⟨w5.heap.size, 1, none⟩ = some (.int .i64 0) := hby.cell 1
        have r2 : w6.cell? ⟨w5.heap.size, 2, none⟩ = some (.int .i64 0) := hby.cell 2
        have r3 : w6.cell? ⟨w5.heap.size, 3, none⟩ = some (.int .i64 0) := hby.cell 3
        have r4 : w6.cell? ⟨w5.heap.size, 4, none⟩ = some (.int .i64 0) := hby.cell 4
        have hbl6 := hby.lt
        have HW6 := hide (Ext.trans' HW4.out hE46)
        have HC6 : Hid (∀ w', Ext w6 w' → _) := fun w' hE => HC.out w' (Ext.trans' hE46 hE)
        obtain ⟨⟨a0, a5, a26, aK'⟩, ⟨b0, b1, b2, b3, b4⟩, hyl6, hbl6'⟩ := HC.out w6 hE46
        clear r0 r1 r2 r3 r4
        go_upto_region 28 with (fail)
        go_region_held3 (fun w' => w'.cell? ⟨y, 26, none⟩ = some (.slice (some ⟨gK, 0, none⟩) 1 capK) ∧ w'.cell? ⟨gK, 0, none⟩ = some (.string T) ∧ w'.cell? ⟨w3.heap.size, 0, none⟩ = some (.int .i64 200)) (go_keep)
          ((first
            | (go_at_call 19
               refine (HTt.out _).mono ?_
               rintro e wz ⟨rfl, hwz⟩
               have hwz := hwz.symm
               subst hwz)
            | (go_at_call 21
               refine (HOb.out _).mono ?_
               rintro e w8 ⟨rfl, hE8⟩
               obtain ⟨⟨d0, d5, d26, dK⟩, ⟨f0, f1, f2, f3, f4⟩, hyl8, hbl8⟩ := HC6.out w8 hE8.undrewN)))
        all_goals go_wp2_with fail
        all_goals go_ret
        all_goals exact ⟨rfl, Ext.trans' HW6.out hE8.undrewN⟩
end Go.Proofs.Ytjhihliciadipaa
