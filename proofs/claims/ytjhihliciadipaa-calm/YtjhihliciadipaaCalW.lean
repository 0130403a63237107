import Derived.Test.YtjhihliciadipaaKC
import Derived.Test.YtjhihliciadipaaK20s
import Derived.Test.YtjhihliciadipaaKR
set_option linter.unusedVariables false
set_option linter.unusedSimpArgs false
set_option linter.unnecessarySimpa false
namespace Go.Proofs.Ytjhihliciadipaa
open Go.RowKit

/-! Only mirrors that are there are away. -/
def AwOk (P : Pl) : Prop := ∀ m : Nat, P.away.getD m false = true → (m : Int) < P.g.s.mir
theorem aw_on {l : List Bool} {m i : Nat} (h : (l.set m true).getD i false = true) : i = m ∨ l.getD i false = true := by
  rw [List.getD_eq_getElem?_getD, List.getElem?_set] at h
  rw [List.getD_eq_getElem?_getD]
  by_cases hm : m = i
  · exact Or.inl hm.symm
  · rw [if_neg hm] at h; exact Or.inr h
theorem aw_off {l : List Bool} {m i : Nat} (h : (l.set m false).getD i false = true) : i ≠ m ∧ l.getD i false = true := by
  rw [List.getD_eq_getElem?_getD, List.getElem?_set] at h
  rw [List.getD_eq_getElem?_getD]
  by_cases hm : m = i
  · rw [if_pos hm] at h; split at h <;> simp at h
  · rw [if_neg hm] at h; exact ⟨fun e => hm e.symm, h⟩
theorem ask_aw (P : Pl) (p : Nat) (b : ByteArray) : (askPl P p b).away = P.away ∧ (askPl P p b).g.s.mir = P.g.s.mir := by
  unfold askPl
  split
  · refine ⟨rfl, ?_⟩
    show (plookS _).mir = _
    rw [(same_look _).a.1]
  · exact ⟨rfl, rfl⟩
theorem rp_aw (P : Pl) (m : Nat) (r : Rp) : ((rpPl P m r).away = P.away ∨ (rpPl P m r).away = P.away.set m false) ∧ (rpPl P m r).g.s.mir = P.g.s.mir := by
  unfold rpPl
  split
  · refine ⟨Or.inr rfl, ?_⟩
    show (replyP P.g.s m r.tag r.tot r.off r.body).mir = _
    unfold replyP
    split
    · rw [(same_look _).a.1, (same_answ _ _ _ _ _ _).a.1]; rfl
    · rfl
  · exact ⟨Or.inl rfl, rfl⟩
theorem fl_aw (P : Pl) (m : Nat) : ((flPl P m).away = P.away ∨ (flPl P m).away = P.away.set m false) ∧ (flPl P m).g.s.mir = P.g.s.mir := by
  unfold flPl
  split
  · refine ⟨Or.inr rfl, ?_⟩
    show (failP P.g.s m).mir = _
    unfold failP
    split
    · rw [(same_look _).a.1, (same_failed _ _).a.1]; rfl
    · rfl
  · exact ⟨Or.inl rfl, rfl⟩
theorem tk_aw (P : Pl) (ix n : Int) : (takePl P ix n).away = P.away ∧ (takePl P ix n).g.s.mir = P.g.s.mir := by
  unfold takePl
  split
  · exact ⟨rfl, rfl⟩
  · split
    · split
      · exact ⟨rfl, rfl⟩
      · refine ⟨rfl, ?_⟩
        show (ptakeS P.g.s _ _).mir = _
        unfold ptakeS
        split
        · split
          · rfl
          · split
            · rfl
            · split
              · rfl
              · rw [(same_look _).a.1]; rfl
        · rfl
    · exact ⟨rfl, rfl⟩
theorem next_aw (P : Pl) (m : Nat) : ((nextPl P m).1.away = P.away ∨ (nextPl P m).1.away = P.away.set m true) ∧ (nextPl P m).1.g.s.mir = P.g.s.mir := by
  unfold nextPl
  split
  · exact ⟨Or.inl rfl, rfl⟩
  · cases nextE P.g.s
    · exact ⟨Or.inl rfl, rfl⟩
    · exact ⟨Or.inr rfl, rfl⟩
theorem AwOk.of {P Q : Pl} (h : AwOk P) (hm : Q.g.s.mir = P.g.s.mir) {m : Nat} (ha : Q.away = P.away ∨ Q.away = P.away.set m false) : AwOk Q := by
  intro i hi
  rw [hm]
  rcases ha with ha | ha
  · rw [ha] at hi; exact h i hi
  · rw [ha] at hi; exact h i (aw_off hi).2
theorem AwOk.step {K : Kn} {n : Nat} {P : Pl} (h : AwOk P) (hI : PI K n P) (l : List Int) (r : Rp) : AwOk (stepPl P l r) := by
  obtain ⟨-, -, hmm, -, -⟩ := mirK_bd hI (numK l 1)
  unfold stepPl
  split
  · exact h.of (ask_aw _ _ _).2 (m := 0) (Or.inl (ask_aw _ _ _).1)
  · split
    · intro i hi
      have hn := next_aw P (mirK P (numK l 1))
      rw [hn.2]
      rcases hn.1 with ha | ha
      · rw [ha] at hi; exact h i hi
      · rw [ha] at hi
        rcases aw_on hi with rfl | h1
        · exact hmm
        · exact h i h1
    · split
      · exact h.of (rp_aw _ _ _).2 (rp_aw _ _ _).1
      · split
        · split
          · exact h.of (fl_aw _ _).2 (fl_aw _ _).1
          · exact h.of (rp_aw _ _ _).2 (rp_aw _ _ _).1
        · exact h.of (tk_aw _ _ _).2 (m := 0) (Or.inl (tk_aw _ _ _).1)

/-! Every errand is answered. -/
def LsR (t t' : Tr) : Prop := t'.lost = t.lost
theorem LsR.trans (a b c : Tr) (h : LsR a b) (k : LsR b c) : LsR a c := Eq.trans k h
structure Stl (B : Int) (n m : Nat) (P0 P : Pl) : Prop where
  pi : PI (KnV B 0) (n + m) P
  bl : P.g.s.blk = B
  aw : ∀ i : Nat, P.away.getD i false = true → m ≤ i ∧ (i : Int) < P.g.s.mir
  ls : Pw LsR P0.g.s.trs P.g.s.trs
  pa : P.paths = P0.paths
  mi : P.g.s.mir = P0.g.s.mir
  sn : P.sent.length ≤ P0.sent.length + m
theorem Stl.start {B : Int} {n : Nat} {P : Pl} (h : PI (KnV B 0) n P) (hB : P.g.s.blk = B) (ha : AwOk P) : Stl B n 0 P P :=
  ⟨h, hB, fun i hi => ⟨Nat.zero_le _, ha i hi⟩, Pw.refl (R := LsR) (fun _ => rfl) _, rfl, rfl, Nat.le_refl _⟩
theorem Stl.step {B : Int} {n m : Nat} {P0 P : Pl} (h : Stl B n m P0 P) (pk : POk P.g.s) (hm : (m : Int) < P.g.s.mir) : Stl B n (m + 1) P0 (setlPl P 0 m) := by
  have h2 := h.pi.si.fair.m2
  cases ha : P.away.getD m false
  · have e : setlPl P 0 m = P := by unfold setlPl rpPl; rw [ha]; rfl
    rw [e]
    refine ⟨h.pi.up (by omega), h.bl, fun i hi => ?_, h.ls, h.pa, h.mi, by have := h.sn; omega⟩
    have := h.aw i hi
    refine ⟨?_, this.2⟩
    rcases Nat.lt_or_ge m i with h1 | h1
    · exact h1
    · have : i = m := by omega
      subst this
      rw [ha] at hi; simp at hi
  · obtain ⟨-, hS⟩ := setl_rel h.bl h.pi pk (by omega) (by omega) m hm ha (er_get pk m (by omega))
    refine ⟨hS.pi, hS.bl, fun i hi => ?_, Pw.trans h.ls hS.pw (fun a b c x y => LsR.trans a b c x y.1.lost), hS.pa.trans h.pa, hS.wi.2.1.trans h.mi, by rw [hS.sn]; have := h.sn; omega⟩
    rw [hS.aw] at hi
    obtain ⟨h1, h3⟩ := aw_off hi
    have := h.aw i h3
    rw [hS.wi.2.1]
    exact ⟨by omega, this.2⟩
theorem list3 (l : List Bool) (h : l.length = 3) (ha : ∀ i : Nat, l.getD i false = false) : l = allF := by
  rcases l with _ | ⟨a, _ | ⟨b, _ | ⟨c, _ | ⟨d, l⟩⟩⟩⟩ <;> simp at h
  have h0 := ha 0
  have h1 := ha 1
  have h2 := ha 2
  simp at h0 h1 h2
  subst h0 h1 h2; rfl
theorem Stl.done {B : Int} {n m : Nat} {P0 P : Pl} (h : Stl B n m P0 P) (pk : POk P.g.s) (hm : P.g.s.mir ≤ m) : Cl B 0 (n + m) P :=
  ⟨h.pi, pk, h.bl, list3 _ (by rw [h.pi.j.aw]; exact pk.nb) (fun i => by
    cases hi : P.away.getD i false
    · rfl
    · have := h.aw i hi; omega)⟩

/-! Rounds. -/
structure Rc (B : Int) (n j : Nat) (P0 P : Pl) : Prop where
  cl : Cl B 0 (n + 9 * j) P
  ls : Pw LsR P0.g.s.trs P.g.s.trs
  pa : P.paths = P0.paths
  sn : P.sent.length ≤ P0.sent.length + 3 + j
  mu : 1 ≤ j → Sh P.g.s.trs ∧ (muL P.g.s.trs = 0 ∨ muL P.g.s.trs + (j - 1) ≤ 488)
theorem Rc.step {B : Int} {n j : Nat} {P0 P : Pl} (h : Rc B n j P0 P) (pk : POk (roundPl P 0).g.s) : Rc B n (j + 1) P0 (roundPl P 0) := by
  have hR := round_rel h.cl (Int.le_refl 0) (by omega)
  have h8 := h.cl.pi.ok.n8
  have hTI : ∀ t ∈ (roundPl P 0).g.s.trs, muT t ≤ 61 := fun t ht => by
    obtain ⟨i, hi⟩ := List.getElem?_of_mem ht
    obtain ⟨T, h2⟩ : ∃ T, (roundPl P 0).taken[i]? = some T := ⟨_, List.getElem?_eq_getElem (by rw [hR.pi.si.n]; exact (List.getElem?_eq_some_iff.1 hi).1)⟩
    have := hR.pi.si.ts i t T hi h2
    rw [hR.bl] at this
    exact muT_le this
  refine ⟨⟨hR.pi.up (by omega), pk, hR.bl, hR.aw⟩, Pw.trans h.ls hR.ls LsR.trans, hR.pa.trans h.pa, ?_, fun _ => ⟨hR.sh, ?_⟩⟩
  · have hM := mid_rel h.cl (Int.le_refl 0) (by omega)
    have hT : Tkn B 0 (n + 9 * j + 1) P.paths.length (midPl P 0) (roundPl P 0) := takes_rel hM.bl hM.pi P.paths.length (by rw [hM.pa]; exact Nat.le_refl _)
    rw [hT.sn]
    have h1 := h.sn
    rcases hM.sn with h2 | h2
    · omega
    · omega
  rcases Nat.eq_zero_or_pos j with h0 | h0
  · right
    have h1 := muL_le _ hTI
    have h2 : (roundPl P 0).g.s.trs.length ≤ 8 := by rw [hR.pi.ok.n1]; exact hR.pi.ok.n8
    omega
  · obtain ⟨hsh, hmu⟩ := h.mu h0
    obtain ⟨m1, m2⟩ := hR.mu hsh
    by_cases hz : muL P.g.s.trs = 0
    · left; omega
    · have := m2 hz
      right; omega
theorem Rc.done {B : Int} {n : Nat} {P0 P : Pl} (h : Rc B n 1500 P0 P) {i : Nat} {t0 t : Tr} (h0 : P0.g.s.trs[i]? = some t0) (ht : P.g.s.trs[i]? = some t) : stT t = 3 ∨ stT t = 4 ∧ t0.lost = true := by
  have hmu : muL P.g.s.trs = 0 := by have := (h.mu (by omega)).2; omega
  have hm := muL_zero _ hmu t (List.mem_of_getElem? ht)
  have hls : t.lost = t0.lost := h.ls.a i t0 t h0 ht
  obtain ⟨T, hT⟩ : ∃ T, P.taken[i]? = some T := ⟨_, List.getElem?_eq_getElem (by rw [h.cl.pi.si.n]; exact (List.getElem?_eq_some_iff.1 ht).1)⟩
  have hTI := h.cl.pi.si.ts i t T ht hT
  unfold muT at hm
  cases hl : t.lost
  · left
    rw [hl] at hm
    cases hb : t.bound
    · rw [hb] at hm; simp at hm
    · rw [hb] at hm
      simp at hm
      have := hTI.ok.k1
      unfold stT; rw [hl, hb, if_neg (by simp), if_neg (by simp), if_pos (by omega)]
  · right
    refine ⟨by unfold stT; rw [hl, if_pos rfl], by rw [← hls]; exact hl⟩
end Go.Proofs.Ytjhihliciadipaa

namespace Go.Proofs.Ytjhihliciadipaa
open Go.RowKit

theorem setl_q (P : Pl) (v : Int) (m : Nat) : (setlPl P v m).q = P.q := by unfold setlPl; exact rp_q _ _ _
theorem setl_at (P : Pl) (q : Nat) (u : Vs) (v : Int) (m : Nat) : setlPl (P.at q u) v m = (setlPl P v m).at q u := by unfold setlPl; exact rpPl_at _ _ _ _ _
theorem mid_q (P : Pl) (v : Int) : (midPl P v).q = P.q := by
  unfold midPl
  split
  · rw [setl_q, next_q]
  · exact next_q _ _
theorem takes_q (P : Pl) (m : Nat) : (takesPl P m).q = P.q := by
  induction m with
  | zero => rfl
  | succ m ih => rw [takes_succ, take_q, ih]
theorem Stl.at {B : Int} {n m : Nat} {P0 P : Pl} (h : Stl B n m P0 P) (q : Nat) (u : Vs) : Stl B n m P0 (P.at q u) := ⟨h.pi.at q u, h.bl, h.aw, h.ls, h.pa, h.mi, h.sn⟩
theorem Rc.at {B : Int} {n j : Nat} {P0 P : Pl} (h : Rc B n j P0 P) (q : Nat) (u : Vs) : Rc B n j P0 (P.at q u) := ⟨h.cl.at q u, h.ls, h.pa, h.sn, h.mu⟩
theorem next_sent' (P : Pl) (m : Nat) : (nextPl P m).1.sent = P.sent := by
  unfold nextPl
  split
  · rfl
  · cases nextE P.g.s <;> rfl
/-- The first calls of a round. -/
def MdIdle (y : Nat) (w : World) (F : World → Prop) : Prop :=
  Calls Try.prog 13 #[.pointer (some ⟨y, 0, none⟩), .int .i64 0] w fun e w2 => e = .returned (.bool false) ∧ F w2
def MdSent (y : Nat) (w : World) (F : World → Prop) : Prop :=
  Calls Try.prog 13 #[.pointer (some ⟨y, 0, none⟩), .int .i64 0] w fun e w2 => e = .returned (.bool true) ∧
    Calls Try.prog 46 #[.pointer (some ⟨y, 0, none⟩), .int .i64 0] w2 fun e w3 => e = .returned (.tuple #[]) ∧ F w3
theorem mid_calls (y : Nat) (col : Nat → Nat) (k : Nat) (B : Int) (n : Nat) (Q : Pl) (V : Pv) (w : World) (hL : PlAt w y col k Q V) (hC : Cl B 0 n Q) (hs : Q.sent.length ≤ 3000000000000) (hk : 1 ≤ k) :
    MdIdle y w (fun w' => PlTo w w' y col k (midPl Q 0)) ∨ MdSent y w (fun w' => PlTo w w' y col k (midPl Q 0)) := by
  have hK : KnOk (KnV B 0) Q.g.s.blk := by rw [hC.bl]; exact KnV_ok _ _
  have HN := next_any y col k _ _ Q V 0 w hL hC.pi hK i64_zero
  rw [mirK_zero hC.pi] at HN
  have hpi := nextPl_PI hC.pi hC.pk hK 0 (by omega)
  have hm1 := hC.pi.si.fair.m1
  unfold midPl
  have hq := next_q Q 0
  have hmi : (nextPl Q 0).1.g.s.mir = Q.g.s.mir := (next_aw Q 0).2
  cases hb : (nextPl Q 0).2
  · rw [hb] at HN
    left
    refine HN.mono ?_
    rintro e w2 ⟨rfl, hT⟩
    exact ⟨rfl, hT⟩
  · rw [hb] at HN
    right
    refine HN.mono ?_
    rintro e w2 ⟨rfl, col2, V2, v2, hL2, hS2⟩
    refine ⟨rfl, (settle_any y col2 k _ _ _ V2 0 w2 hL2 (hpi.at _ v2) (by show ((0 : Nat) : Int) < (nextPl Q 0).1.g.s.mir; rw [hmi]; omega) (by show (nextPl Q 0).1.sent.length ≤ _; rw [next_sent']; exact hs) hk).mono ?_⟩
    rintro e w3 ⟨rfl, hT3⟩
    rw [lay_at, setl_at] at hT3
    refine ⟨rfl, ?_⟩
    simp only [if_true]
    exact (PlTo.trans hS2 (hT3.unat (setl_q _ _ _)))

set_option maxRecDepth 100000 in
set_option maxHeartbeats 8000000 in
theorem calm_any (y : Nat) (col : Nat → Nat) (k : Nat) (B : Int) (n : Nat) (P : Pl) (V : Pv) (w : World) (h : PlAt w y col k P V) (hI : PI (KnV B 0) n P) (hB : P.g.s.blk = B) (hA : AwOk P) (hn : n ≤ 5000000000000) (hsb : P.sent.length ≤ 2500000000000) (hk1 : 1 ≤ k) :
    Calls Try.prog 27 #[.pointer (some ⟨y, 0, none⟩)] w fun e w' => e = .returned (.tuple #[]) ∧ ∃ P', Rc B (n + 3) 1500 P P' ∧ PlTo w w' y col k P' := by
  have HST : Hid (∃ P', Stl B n 0 P P' ∧ PlTo w w y col k P') := ⟨P, Stl.start hI hB hA, PlTo.refl h⟩
  have hM1 := hI.si.fair.m1
  have hM2 := hI.si.fair.m2
  obtain ⟨M, hM⟩ : ∃ M : Nat, P.g.s.mir = M := ⟨P.g.s.mir.toNat, by omega⟩
  rw [hM] at hM1 hM2
  have h8 := hI.ok.n8
  have HM := hide hM
  clear hI hB hA h hM
  go_enter Try.func27, Try.ntmps27
  go_wp2_with fail
  go_loopw [2] (fun i wr => ∃ m : Nat, m ≤ M ∧ i = .int .i64 m ∧ Hid (∃ P', Stl B n m P P' ∧ PlTo w wr y col k P')) (fun i _ => M - (intOf i).toNat)
  case atStart => exact ⟨0, by omega, rfl, HST.out⟩
  case round =>
    obtain ⟨m, hm, rfl, HP⟩ := hrel
    obtain ⟨Q0, hQ0, colQ, VQ, vq, hL, hS⟩ := HP.out
    have hQ1 := hQ0.at Q0.q vq
    obtain ⟨Q, hQ⟩ : ∃ Q, Q = Q0.lay vq := ⟨_, rfl⟩
    rw [← lay_at, ← hQ] at hQ1
    rw [← hQ] at hL
    clear hQ0 hQ HP HST
    have hmir : Q.g.s.mir = M := by rw [hQ1.mi]; exact HM.out
    have c1 : wr.cell? ⟨y, 1, none⟩ = some (.int .i64 M) := by
      rw [← hmir, ← hQ1.pi.j.st.1]; exact hL.cSt 1 (by omega)
    have hpk := (hL.pg id).1.ok
    by_cases hlt : m < M
    · have hlt' : (m : Int) < M := by omega
      have HS := settle_any y colQ k _ _ Q VQ m wr hL hQ1.pi (by rw [hmir]; exact hlt') (by have := hQ1.sn; omega) hk1
      have HF : Hid (∀ w3, PlTo wr w3 y colQ k (setlPl Q 0 m) → ∃ P', Stl B n (m + 1) P P' ∧ PlTo w w3 y col k P') := fun w3 hT => ⟨_, hQ1.step hpk (by rw [hmir]; exact hlt'), PlTo.trans hS hT⟩
      clear hL hS hQ1 hpk hmir
      go_wp2_with fail
      refine HS.mono ?_
      rintro e w3 ⟨rfl, hT3⟩
      have HG : Hid (∃ P', Stl B n (m + 1) P P' ∧ PlTo w w3 y col k P') := HF.out w3 hT3
      clear HS HF hT3
      go_wp2_with fail
      exact ⟨⟨m + 1, by omega, by go_num, HG⟩, by simp [intOf]; omega⟩
    · obtain rfl : m = M := by omega
      have HC0 : Hid (∃ P', Rc B (n + 3) 0 P P' ∧ PlTo w wr y col k P') := by
        have hd := hQ1.done hpk (by rw [hmir]; omega)
        exact ⟨Q, ⟨⟨hd.pi.up (by omega), hd.pk, hd.bl, hd.aw⟩, hQ1.ls, hQ1.pa, by have := hQ1.sn; omega, fun h => by omega⟩, PlTo.trans hS (PlTo.refl hL)⟩
      clear hL hS hQ1 hpk hmir
      go_wp2_with fail
      obtain ⟨wo, rfl⟩ : ∃ wo : World, wo = wr := ⟨_, rfl⟩
      go_loopw [3] (fun i wx => ∃ m : Nat, m ≤ 1500 ∧ i = .int .i64 m ∧ Hid (∃ P', Rc B (n + 3) (1500 - m) P P' ∧ PlTo w wx y col k P')) (fun i _ => (intOf i).toNat)
      case atStart => exact ⟨1500, by omega, rfl, HC0.out⟩
      case round =>
        clear c1
        obtain ⟨j, hj, rfl, HP⟩ := hrel
        obtain ⟨R0, hR0, colR, VR, vr, hL, hS⟩ := HP.out
        have hR1 := hR0.at R0.q vr
        obtain ⟨R, hR⟩ : ∃ R, R = R0.lay vr := ⟨_, rfl⟩
        rw [← lay_at, ← hR] at hR1
        rw [← hR] at hL
        clear hR0 hR HC0
        have hC := hR1.cl
        have c29 : wr.cell? ⟨y, 29, none⟩ = some (.bool false) := by rw [← hC.pi.ok.bad]; exact hL.cEnd 5
        by_cases hj0 : 0 < j
        · obtain ⟨j', rfl⟩ : ∃ j', j = j' + 1 := ⟨j - 1, by omega⟩
          have hMC := mid_calls y colR k B _ R VR wr hL hC (by have := hR1.sn; omega) hk1
          have hMd := mid_rel hC (Int.le_refl 0) (by omega)
          have hjj : 1500 - j' = 1500 - (j' + 1) + 1 := by omega
          have hpl : R.paths.length ≤ 8 := hC.pi.ok.n8
          have hplM : (midPl R 0).paths.length = R.paths.length := by rw [hMd.pa]
          have HTk : Hid (∀ (i : Nat), i ≤ R.paths.length → Tkn B 0 (n + 3 + 9 * (1500 - (j' + 1)) + 1) i (midPl R 0) (takesPl (midPl R 0) i)) := fun i hi => takes_rel hMd.bl hMd.pi i (by rw [hplM]; exact hi)
          have HFin : Hid (∀ w3, PlTo w w3 y col k (takesPl (midPl R 0) R.paths.length) → ∃ P', Rc B (n + 3) (1500 - j') P P' ∧ PlTo w w3 y col k P') := fun w3 hT => by
            rw [hjj]; exact ⟨roundPl R 0, hR1.step hT.pk, hT⟩
          have HSR := hide hS
          have HX0 : ∀ w3, PlTo wr w3 y colR k (midPl R 0) → Hid (PlTo w w3 y col k (takesPl (midPl R 0) 0)) := fun w3 hT => PlTo.trans HSR.out hT
          have HX := hide HX0
          clear hL hS hR1 hC hMd HX0 HP
          generalize midPl R 0 = Mp at *
          rcases hMC with H1 | H1
          · unfold MdIdle at H1
            go_upto_region 8 with (go_at_call 13; refine H1.mono ?_; rintro e w2 ⟨rfl, hT2⟩)
            have HY := HX.out w2 hT2
            clear H1 hT2 HX
            go_wp2_with fail
            obtain ⟨wq, rfl⟩ : ∃ wq : World, wq = wr := ⟨_, rfl⟩
            go_loopw [5] (fun i wz => ∃ m : Nat, m ≤ R.paths.length ∧ i = .int .i64 m ∧ Hid (PlTo w wz y col k (takesPl Mp m))) (fun i _ => R.paths.length - (intOf i).toNat)
            case atStart => exact ⟨0, by omega, rfl, HY⟩
            case round =>
              clear c29 HY
              obtain ⟨i, hi, rfl, HZ⟩ := hrel
              have hTk := HTk.out i hi
              obtain ⟨colZ, VZ, vz, hLZ, hSZ⟩ := HZ.out
              have hlen : (takesPl Mp i).paths.length = R.paths.length := by rw [hTk.pa, hplM]
              obtain ⟨aP, capP, hvP, -⟩ := own_form (hLZ.pp id).1
              have c24 : wr.cell? ⟨y, 24, none⟩ = some (.slice aP R.paths.length capP) := by
                rw [← hlen]
                have : (takesPl Mp i).paths.length = ((takesPl Mp i).lay vz).paths.length := rfl
                rw [this, ← hvP]; exact hLZ.cEnd 0
              by_cases hil : i < R.paths.length
              · have hil' : (i : Int) < R.paths.length := by omega
                have HT := ytake_PI y colZ k _ _ _ VZ i 99 wr hLZ (hTk.pi.at _ vz) (by omega) ⟨by omega, by omega⟩ i64_99
                rw [lay_at, takePl_at, ← takes_succ] at HT
                have HF : Hid (∀ w4, PlTo wr w4 y colZ k ((takesPl Mp (i + 1)).at (takesPl Mp i).q vz) → PlTo w w4 y col k (takesPl Mp (i + 1))) := fun w4 hT => PlTo.trans hSZ (hT.unat (by rw [takes_q, takes_q]))
                clear hLZ hSZ hTk hvP HZ
                go_wp2_with fail
                refine HT.mono ?_
                rintro e w4 ⟨rfl, hT4⟩
                have HG : Hid (PlTo w w4 y col k (takesPl Mp (i + 1))) := HF.out w4 hT4
                clear HT HF hT4 c24
                go_wp2_with fail
                first | exact ⟨⟨i + 1, by omega, by go_num, HG⟩, by simp [intOf]; omega⟩ | exact ⟨by (repeat apply Exists.intro); exact ⟨⟨i + 1, by omega, by go_num, HG⟩, rfl⟩, by simp [intOf]; omega⟩
              · obtain rfl : i = R.paths.length := by omega
                have HG : Hid (∃ P', Rc B (n + 3) (1500 - j') P P' ∧ PlTo w wr y col k P') := HFin.out wr HZ.out
                clear hLZ hSZ hTk hvP HZ
                go_wp2_with fail
                first | exact ⟨⟨j', by omega, by go_num, HG⟩, by simp [intOf]⟩ | exact ⟨by (repeat apply Exists.intro); exact ⟨⟨j', by omega, by go_num, HG⟩, rfl⟩, by simp [intOf]⟩
          · unfold MdSent at H1
            go_upto_region 8 with (go_at_call 13; refine H1.mono ?_; rintro e w2 ⟨rfl, H2⟩)
            clear H1
            go_wp2_with fail
            refine H2.mono ?_
            rintro e w3 ⟨rfl, hT3⟩
            have HY := HX.out w3 hT3
            clear H2 hT3 HX
            go_wp2_with fail
            obtain ⟨wq, rfl⟩ : ∃ wq : World, wq = wr := ⟨_, rfl⟩
            go_loopw [5] (fun i wz => ∃ m : Nat, m ≤ R.paths.length ∧ i = .int .i64 m ∧ Hid (PlTo w wz y col k (takesPl Mp m))) (fun i _ => R.paths.length - (intOf i).toNat)
            case atStart => exact ⟨0, by omega, rfl, HY⟩
            case round =>
              clear c29 HY
              obtain ⟨i, hi, rfl, HZ⟩ := hrel
              have hTk := HTk.out i hi
              obtain ⟨colZ, VZ, vz, hLZ, hSZ⟩ := HZ.out
              have hlen : (takesPl Mp i).paths.length = R.paths.length := by rw [hTk.pa, hplM]
              obtain ⟨aP, capP, hvP, -⟩ := own_form (hLZ.pp id).1
              have c24 : wr.cell? ⟨y, 24, none⟩ = some (.slice aP R.paths.length capP) := by
                rw [← hlen]
                have : (takesPl Mp i).paths.length = ((takesPl Mp i).lay vz).paths.length := rfl
                rw [this, ← hvP]; exact hLZ.cEnd 0
              by_cases hil : i < R.paths.length
              · have hil' : (i : Int) < R.paths.length := by omega
                have HT := ytake_PI y colZ k _ _ _ VZ i 99 wr hLZ (hTk.pi.at _ vz) (by omega) ⟨by omega, by omega⟩ i64_99
                rw [lay_at, takePl_at, ← takes_succ] at HT
                have HF : Hid (∀ w4, PlTo wr w4 y colZ k ((takesPl Mp (i + 1)).at (takesPl Mp i).q vz) → PlTo w w4 y col k (takesPl Mp (i + 1))) := fun w4 hT => PlTo.trans hSZ (hT.unat (by rw [takes_q, takes_q]))
                clear hLZ hSZ hTk hvP HZ
                go_wp2_with fail
                refine HT.mono ?_
                rintro e w4 ⟨rfl, hT4⟩
                have HG : Hid (PlTo w w4 y col k (takesPl Mp (i + 1))) := HF.out w4 hT4
                clear HT HF hT4 c24
                go_wp2_with fail
                first | exact ⟨⟨i + 1, by omega, by go_num, HG⟩, by simp [intOf]; omega⟩ | exact ⟨by (repeat apply Exists.intro); exact ⟨⟨i + 1, by omega, by go_num, HG⟩, rfl⟩, by simp [intOf]; omega⟩
              · obtain rfl : i = R.paths.length := by omega
                have HG : Hid (∃ P', Rc B (n + 3) (1500 - j') P P' ∧ PlTo w wr y col k P') := HFin.out wr HZ.out
                clear hLZ hSZ hTk hvP HZ
                go_wp2_with fail
                first | exact ⟨⟨j', by omega, by go_num, HG⟩, by simp [intOf]⟩ | exact ⟨by (repeat apply Exists.intro); exact ⟨⟨j', by omega, by go_num, HG⟩, rfl⟩, by simp [intOf]⟩
        · obtain rfl : j = 0 := by omega
          have HG : Hid (∃ P', Rc B (n + 3) 1500 P P' ∧ PlTo w wr y col k P') := ⟨R, hR1, PlTo.trans hS (PlTo.refl hL)⟩
          clear hL hS hR1 hC HP
          go_wp2_with fail
          go_end0
          exact ⟨rfl, HG.out⟩
end Go.Proofs.Ytjhihliciadipaa

namespace Go.Proofs.Ytjhihliciadipaa
open Go.RowKit

theorem infoBool : (Try.prog.info? 4).map (fun i => (i.zero, i.size, i.bytes)) = some (some (.bool false), 1, 1) := by kernel_rfl
theorem boolOne (x : Bool) : ∀ u ∈ [Value.bool x], u.oneCell' = true := by intro u hu; simp at hu; subst hu; rfl

set_option maxRecDepth 100000 in
set_option maxHeartbeats 4000000 in
theorem all_any (y : Nat) (col : Nat → Nat) (k : Nat) (P : Pl) (V : Pv) (w : World) (ls : List Bool) (v : Value) (base : Nat) (h : PlAt w y col k P V) (ok : PlOk P) (ho : w.ownsRow base 4 1 v ls.length (ls.map .bool)) (hlen : ls.length = P.paths.length)
    (hd : ∀ (i : Nat) t b, P.g.s.trs[i]? = some t → ls[i]? = some b → stT t = 3 ∨ stT t = 4 ∧ b = true) :
    Calls Try.prog 28 #[.pointer (some ⟨y, 0, none⟩), v] w fun e w' => e = .returned (.bool true) ∧ Ext w w' := by
  have n8 := ok.n8
  have hn1 := ok.n1
  obtain ⟨aP, capP, hvP, -⟩ := own_form (h.pp id).1
  obtain ⟨aL, capL, rfl, hgL⟩ := own_form ho
  have HC : Hid (∀ w', Ext w w' → w'.cell? ⟨y, 0, none⟩ = some (.pointer (some ⟨P.q, 0, none⟩)) ∧ w'.cell? ⟨y, 24, none⟩ = some (.slice aP P.paths.length capP)) := fun w' hE =>
    ⟨ext_cell hE (h.cSt 0 (by omega)), ext_cell hE (by rw [← hvP]; exact h.cEnd 0)⟩
  have HSt := hide (fun (i : Nat) t (ht : P.g.s.trs[i]? = some t) w' (hE : Ext w w') => StateP_any P.q i P.g w' ((h.pg id).1.ext hE))
  have HLs : Hid (∀ (i : Nat) b g, aL = some ⟨g, 0, none⟩ → ls[i]? = some b → ∀ w', Ext w w' → w'.cell? ⟨g, i, none⟩ = some (.bool b)) := by
    intro i b g hg hb w' hE
    refine ext_cell hE ?_
    rw [hg] at ho
    rw [ho.cellAt i (by have := (List.getElem?_eq_some_iff.1 hb).1; omega)]
    simp [hb]
  have HD := hide hd
  have HTr := hide (fun (i : Nat) (hi : i < P.paths.length) => show ∃ t, P.g.s.trs[i]? = some t from ⟨_, List.getElem?_eq_getElem (by rw [hn1]; exact hi)⟩)
  have HLb := hide (fun (i : Nat) (hi : i < P.paths.length) => show ∃ b, ls[i]? = some b from ⟨_, List.getElem?_eq_getElem (by rw [hlen]; exact hi)⟩)
  have hgL' := hide (fun (hp : 0 < P.paths.length) => hgL (by omega))
  rw [hlen]
  clear h ok ho hd hvP hgL hn1 hlen
  go_enter Try.func28, Try.ntmps28
  go_wp2_with fail
  go_loopw [5] (fun i wr => ∃ j : Nat, j ≤ P.paths.length ∧ i = .int .i64 j ∧ Ext w wr) (fun i _ => P.paths.length - (intOf i).toNat)
  case atStart => exact ⟨0, by omega, rfl, Below.refl _ _⟩
  case round =>
    obtain ⟨j, hj, rfl, hE⟩ := hrel
    obtain ⟨c0, c24⟩ := HC.out wr hE
    by_cases hlt : j < P.paths.length
    · have hlt' : (j : Int) < P.paths.length := by omega
      obtain ⟨t, ht⟩ := HTr.out j hlt
      obtain ⟨b, hb⟩ := HLb.out j hlt
      obtain ⟨g, rfl⟩ := hgL'.out (by omega)
      have HS := HSt.out j t ht wr hE
      rw [ansT_yes (hasT_of ht) ht] at HS
      simp only at HS
      have hdd := HD.out j t b ht hb
      have HB := HLs.out j b g rfl hb
      generalize stT t = sv at *
      clear ht hb
      go_upto_region 5 with (go_at_call 20; refine HS.mono ?_; rintro e w2 ⟨rfl, hE2⟩)
      have hE02 := Ext.trans' hE hE2
      have cb := HB w2 hE02
      rcases hdd with rfl | ⟨rfl, rfl⟩
      · clear HB HS
        go_wp2_with fail
        exact ⟨⟨j + 1, by omega, by go_num, hE02⟩, by simp [intOf]; omega⟩
      · clear HB HS
        go_wp2_with fail
        exact ⟨⟨j + 1, by omega, by go_num, hE02⟩, by simp [intOf]; omega⟩
    · go_wp2_with fail
      go_ret
      exact ⟨rfl, hE⟩

set_option maxRecDepth 100000 in
set_option maxHeartbeats 8000000 in
theorem Calm_walk (l s : List Int) (v u : Value) (w : World) (hv : IntsAt w v l) (hu : IntsAt w u s) (hl : l.length ≤ 17592186044416) (hs : s.length ≤ 17592186044416) (hi : ∀ x ∈ l, I64 x) (hj : ∀ x ∈ s, I64 x) :
    Calls Try.prog 7 #[v, u] w fun e w' => e = .returned (.bool true) ∧ Ext w w' := by
  have HB := begin_any l v zCol 1 w hv (by omega) hi
  have HU := hide hu
  go_enter Try.func7, Try.ntmps7
  go_wp2_with fail
  refine HB.mono ?_
  rintro e w1 ⟨y, q, rfl, hL1, hE1⟩
  have HSt := steps_any y _ 1 _ newPv s u false w1 (fun j P => PI (KnH (setK l).b) j P ∧ P.g.s.blk = (setK l).b ∧ AwOk P ∧ SnOk j P) (fun j P h => by rw [h.2.1]; exact h.1.weakH) (fun j P v h => ⟨h.1.at P.q v, h.2.1, h.2.2.1, h.2.2.2.at P.q v⟩) (fun j P h hj => by have := h.2.2.2.le (by omega); omega)
    (fun j P r h pk _ _ hr => ⟨(stepH h.2.1 h.1 pk _ r (hr rfl)).1, (stepH h.2.1 h.1 pk _ r (hr rfl)).2, h.2.2.1.step h.1 _ r, h.2.2.2.step _ r⟩) hL1 ⟨new_PI _ q l, rfl, fun m hm => by
      exfalso
      have hm2 : ([false, false, false] : List Bool).getD m false = true := hm
      rcases m with _ | _ | _ | m <;> simp at hm2, snNew q _⟩ (by omega) (ints_new HU.out hE1) hs hj
  have HW1 := hide hE1
  clear HB hL1 hv hE1 hu
  go_wp2_with fail
  refine HSt.mono ?_
  rintro e w2 ⟨rfl, N, hN1, hN2, P2, ⟨hP2, hB2, hA2, hSn2⟩, hT2⟩
  obtain ⟨col2, V2, v2, hL2, hS2⟩ := hT2
  obtain ⟨Q, hQ⟩ : ∃ Q, Q = P2.lay v2 := ⟨_, rfl⟩
  have hPI : PI (KnH (setK l).b) N Q := by rw [hQ]; exact hP2.at P2.q v2
  have hBQ : Q.g.s.blk = (setK l).b := by rw [hQ]; exact hB2
  have hAQ : AwOk Q := by rw [hQ]; exact hA2
  have hSQ : Q.sent.length ≤ 2500000000000 := by rw [hQ]; exact hSn2.le (by omega)
  rw [← hQ] at hL2
  have HW2 := hide (play_ext HW1.out hS2)
  generalize (setK l).b = B at *
  have n8 := hPI.ok.n8
  have hn1 := hPI.ok.n1
  obtain ⟨aP, capP, hvP, -⟩ := own_form (hL2.pp id).1
  have HC : Hid (∀ w', Ext w2 w' → w'.cell? ⟨y, 0, none⟩ = some (.pointer (some ⟨Q.q, 0, none⟩)) ∧ w'.cell? ⟨y, 24, none⟩ = some (.slice aP Q.paths.length capP) ∧ w'.cell? ⟨y, 29, none⟩ = some (.bool false) ∧ y < w'.heap.size) := fun w' hE =>
    ⟨ext_cell hE (hL2.cSt 0 (by omega)), ext_cell hE (by rw [← hvP]; exact hL2.cEnd 0), ext_cell hE (by rw [← hPI.ok.bad]; exact hL2.cEnd 5), Nat.lt_of_lt_of_le hL2.lt hE.size⟩
  have HSt' := hide (fun (i : Nat) t (ht : Q.g.s.trs[i]? = some t) w' (hE : Ext w2 w') => StateP_any Q.q i Q.g w' ((hL2.pg id).1.ext hE))
  have HTr := hide (fun (i : Nat) (hi : i < Q.paths.length) => show ∃ t, Q.g.s.trs[i]? = some t from ⟨_, List.getElem?_eq_getElem (by rw [hn1]; exact hi)⟩)
  have HCm := hide (fun w' (hE : Ext w2 w') => calm_any y (recolK w2 col2 0) 1 B N Q V2 w' (hL2.ext hE 0) hPI.toV hBQ hAQ (by omega) hSQ (by omega))
  have HLs : Hid (∃ ls : List Bool, ls = Q.g.s.trs.map Tr.lost ∧ ls.length = Q.paths.length) := ⟨_, rfl, by rw [List.length_map]; exact hn1⟩
  obtain ⟨ls, hls, hll⟩ := HLs.out
  have HLs' : Hid (∀ (i : Nat) t, Q.g.s.trs[i]? = some t → ls.take (i + 1) = ls.take i ++ [t.lost]) := by
    intro i t ht
    have h1 : ls[i]? = some t.lost := by rw [hls]; simp [ht]
    obtain ⟨hlt, he⟩ := List.getElem?_eq_some_iff.1 h1
    rw [List.take_succ_eq_append_getElem hlt, he]
  have HLd : Hid (∀ (i : Nat) t, Q.g.s.trs[i]? = some t → ls[i]? = some t.lost) := by
    intro i t ht; rw [hls]; simp [ht]
  have HLo : Hid (∀ (i : Nat) b, ls[i]? = some b → ∃ t, Q.g.s.trs[i]? = some t ∧ b = t.lost) := by
    intro i b hb
    rw [hls] at hb
    simp only [List.getElem?_map, Option.map_eq_some_iff] at hb
    obtain ⟨t, h1, h2⟩ := hb
    exact ⟨t, h1, h2.symm⟩
  have HS2 := hide hS2
  clear HSt hP2 hB2 hA2 hSn2 hSQ hN1 hi hj hs hl hQ hvP hn1 hL2 hS2 hls HLs hPI hBQ hAQ
  go_wp2_with fail
  go_loopg [6, 7] Q.paths.length (fun g a i wr => ∃ j : Nat, g = Q.paths.length - j ∧ j ≤ Q.paths.length ∧ i = .int .i64 j ∧ Ext w2 wr ∧ wr.ownsRow w2.heap.size 4 1 a j ((ls.take j).map .bool))
  case atStart => exact ⟨0, rfl, by omega, rfl, Below.refl _ _, World.ownsRow_nil _ _ _ _⟩
  case round =>
    obtain ⟨j, rfl, hjl, rfl, hX, hown⟩ := hrel
    obtain ⟨c0, c24, c29, hyl⟩ := HC.out wr hX
    have HO := hide hown
    by_cases hlt : j < Q.paths.length
    · have hlt' : (j : Int) < Q.paths.length := by omega
      obtain ⟨t, ht⟩ := HTr.out j hlt
      have HS := HSt'.out j t ht wr hX
      rw [ansT_yes (hasT_of ht) ht] at HS
      simp only at HS
      have hlost : (stT t == 4) = t.lost := by
        unfold stT
        cases hl : t.lost
        · simp only [Bool.false_eq_true, if_false]
          split
          · rfl
          · split <;> rfl
        · rfl
      have hst := stT_bd t
      have HSn := hide (HLs'.out j t ht)
      generalize stT t = sv at *
      obtain ⟨a1, cap1, rfl, -⟩ := own_form hown
      clear ht
      go_upto_region 8 with (go_at_call 20; refine HS.mono ?_; rintro e w3 ⟨rfl, hE3⟩)
      have hX3 := Ext.trans' hX hE3
      have ho3 := own_ext hown hE3
      have HO3 := hide ho3
      clear HS HO hown
      go_wp2_with (at_builtin; refine app_one Try.underlying63 infoBool rfl (by decide) (by decide) _ rfl _ _ rfl (by rfl) (ho3.alloc _) [.bool t.lost] rfl rfl (by rw [← hlost]; exact news_new _ _ _) (boolOne _) (by omega) (by have := hX3.size; simp; omega) ?_; intro v4 w4 ho4 hg4 hw4; obtain ⟨a4, cap4, rfl, hga⟩ := own_form ho4; clear hga)
      go_roundg (Q.paths.length - (j + 1))
      case measure => omega
      case rel => exact ⟨j + 1, rfl, by omega, by go_num, app_extK hX3 HO3.out (Nat.le_refl _) hg4, by rw [HSn.out, List.map_append]; exact ho4⟩
    · obtain rfl : j = Q.paths.length := by omega
      have hCm := HCm.out wr hX
      have hfull : ls.take Q.paths.length = ls := List.take_of_length_le (by omega)
      rw [hfull] at HO hown
      obtain ⟨aL, capL, rfl, -⟩ := own_form hown
      have HX := hide hX
      clear hown
      go_upto_region 14 with (go_at_call 27; refine hCm.mono ?_; rintro e w4 ⟨rfl, P', hRc, col4, V4, v4, hL4, hS4⟩)
      have hPI4 : PI (KnV B 0) _ (P'.lay v4) := hRc.cl.pi.at P'.q v4
      have d29 : w4.cell? ⟨y, 29, none⟩ = some (.bool false) := by rw [← hPI4.ok.bad]; exact hL4.cEnd 5
      have ho4 := own_chg HO.out hS4.chg (fun k hk => by
        have := (HO.out.lt k hk).1
        rw [recolK_new this]; omega)
      have HA := all_any y col4 1 (P'.lay v4) V4 w4 ls _ _ hL4 hPI4.ok (by rw [hll]; exact ho4) (by rw [hll]; show _ = P'.paths.length; rw [hRc.pa]) (fun i t b ht hb => by
        obtain ⟨t0, h0, rfl⟩ := HLo.out i b hb
        exact hRc.done h0 ht)
      have HE4 := hide (play_ext HW1.out (HS2.out.trans ((StK.ext (k := 1) HX.out 0).trans hS4)))
      clear hCm hL4 hS4 hPI4 ho4 hRc HO c0 c24 c29
      go_wp2_with fail
      refine HA.mono ?_
      rintro e w5 ⟨rfl, hE5⟩
      clear HA
      go_wp2_with fail
      go_ret
      exact ⟨rfl, Ext.trans' HE4.out hE5⟩
end Go.Proofs.Ytjhihliciadipaa
