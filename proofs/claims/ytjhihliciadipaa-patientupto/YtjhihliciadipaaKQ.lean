import Derived.Test.YtjhihliciadipaaKR
import Derived.Test.YtjhihliciadipaaKP
set_option linter.unusedVariables false
set_option linter.unusedSimpArgs false
set_option linter.unnecessarySimpa false
namespace Go.Proofs.Ytjhihliciadipaa
open Go.RowKit

theorem NW.at {P : Pl} (h : NW P.g.s) (q : Nat) (u : Vs) : NW (P.at q u).g.s := h
theorem start_tr {q : Nat} {l : List Int} (p : Nat) (hp : p < 4) (b : ByteArray) :
    NW (askPl (newPl q (setK l)) p b).g.s ∧ ∃ t, (askPl (newPl q (setK l)) p b).g.s.trs = [t] ∧ t.fails = 0 ∧ openT t = true := by
  have hform : (askPl (newPl q (setK l)) p b).g.s = askSt (newPl q (setK l)).g.s p b := by unfold askPl; rw [if_pos (by show ([] : List Int).length < 8; simp)]
  have hlat : (newPl q (setK l)).g.s.lat.getD p (0, 0) = (0, 0) := by
    show ([(0, 0), (0, 0), (0, 0), (0, 0)] : List (Int × Int)).getD p (0, 0) = (0, 0)
    rcases p with _ | _ | _ | _ | p <;> first | rfl | omega
  have hlk := look_hm { (newPl q (setK l)).g.s with trs := (newPl q (setK l)).g.s.trs ++ [askT p (readP b) ((newPl q (setK l)).g.s.lat.getD p (0, 0))] }
  rw [hform]
  have e0 : askT p (readP b) (0, 0) = rawT p (readP b) := by rw [askT_eq, if_pos rfl]
  unfold askSt
  refine ⟨?_, ?_⟩
  · intro t ht e he hin
    rw [look_in] at hin
    obtain ⟨x, hx, -⟩ := hin
    have hx2 : x ∈ ([] : List (Er × ByteArray)) := hx
    simp at hx2
  · rw [hlat, e0] at hlk ⊢
    generalize plookS { (newPl q (setK l)).g.s with trs := (newPl q (setK l)).g.s.trs ++ [rawT p (readP b)] } = s' at *
    have hl1 : s'.trs.length = 1 := hlk.n
    obtain ⟨t', h1, h2⟩ := hlk.get (i := 0) (t := rawT p (readP b)) rfl
    obtain ⟨x, y, e⟩ := h2.1.e
    refine ⟨t', ?_, by rw [h2.2]; rfl, by rw [e]; rfl⟩
    cases hx : s'.trs with
    | nil => rw [hx] at hl1; simp at hl1
    | cons a l =>
      rw [hx] at hl1 h1
      simp at hl1 h1
      subst hl1 h1; rfl
structure PatE (v : Int) (p : Nat) (st : St) (nn : Nat) (P : Pl) (t : Tr) (T : ByteArray) : Prop where
  tr : P.g.s.trs = [t]
  tk : P.taken = [T]
  no : ¬ stT t = 1
  ls : st.t ≤ nn → stT t = 4 ∧ t.hd = ⟨502, 0, 0, 0, 0⟩ ∧ T = ByteArray.empty
  dn : (nn : Int) < st.t → stT t = 3 ∧ t.hd = ⟨200, v, totK p v, 0, totK p v⟩ ∧ T = objK p v 0 (totK p v).toNat
structure PatI (B v : Int) (p : Nat) (st : St) (nn : Nat) (I : Nat → Nat → Pl → Prop) : Prop where
  at' : ∀ j k P q u, I j k P → I j k (P.at q u)
  cl : ∀ j k P, I j k P → Cl B v (6 * j + k) P ∧ P.paths.length = 1 ∧ P.st = st
  fl : ∀ j k P (m : Nat), I j k P → k < nn → (m : Int) < st.m → POk (nextPl P m).1.g.s → POk (fstPl P m).g.s → I j (k + 1) (fstPl P m)
  rd : ∀ j P, I j nn P → POk (nextPl P 0).1.g.s → POk (roundPl P v).g.s → I (j + 1) 0 (roundPl P v)
  en : ∀ P, I 70 0 P → ∃ t T, PatE v p st nn P t T
theorem one_path {K : Kn} {n : Nat} {P : Pl} (h : PI K n P) {t : Tr} (ht : P.g.s.trs = [t]) : P.paths.length = 1 := by rw [← h.ok.n1, ht]; rfl
theorem taken_one {K : Kn} {n : Nat} {P : Pl} (h : PI K n P) {t : Tr} (ht : P.g.s.trs = [t]) : ∃ T, P.taken = [T] := by
  have hn : P.taken.length = 1 := by rw [h.si.n, ht]; rfl
  cases hx : P.taken with
  | nil => rw [hx] at hn; simp at hn
  | cons a l => rw [hx] at hn; simp at hn; subst hn; exact ⟨a, rfl⟩
theorem pat_inv (B v : Int) (p : Nat) (nn : Nat) (l : List Int) (hB : (setK l).b = B) (hp : p < 4) (hv : 1 ≤ v) (hv2 : v ≤ 99) (hnn : nn ≤ 4) :
    ∃ I, PatI B v p (setK l) nn I ∧ ∀ q, POk (newPl q (setK l)).g.s → POk (askPl (newPl q (setK l)) p ByteArray.empty).g.s → I 0 0 (askPl (newPl q (setK l)) p ByteArray.empty) := by
  have hr0 : readP ByteArray.empty = (0, 0, 0) := read4
  by_cases hlt : (nn : Int) < (setK l).t
  · refine ⟨P1 B v p (setK l), ⟨fun j k P q u h => ⟨h.ri.at q u, h.nw.at q u, h.es, h.fl⟩, fun j k P h => ?_, fun j k P m h hk hm a b => h.fail (by omega) m hm a b, fun j P h a b => h.round hnn (by omega) hv2 a b, fun P h => ?_⟩, fun q a b => ?_⟩
    · obtain ⟨t, ht, -⟩ := h.fl
      have hC := h.ri.cl
      exact ⟨⟨hC.pi.up (by omega), hC.pk, hC.bl, hC.aw⟩, one_path hC.pi ht, h.es⟩
    · obtain ⟨t, T, hE⟩ := h.ri.done hv
      refine ⟨t, T, hE.tr, hE.tk, by rw [hE.st]; omega, fun h => by omega, fun _ => ⟨hE.st, hE.hd, ?_⟩⟩
      have := hE.T
      rw [hE.hd] at this
      exact this
    · obtain ⟨hnw, t, ht, hf, -⟩ := start_tr (q := q) (l := l) p hp ByteArray.empty
      have hri := ri_start (v := v) hB p hp ByteArray.empty a b
      rw [hr0] at hri
      refine ⟨hri, hnw, ?_, t, ht, by omega, fun _ => hf⟩
      unfold askPl; split <;> rfl
  · refine ⟨P2 B v (setK l), ⟨fun j k P q u h => ⟨h.cl.at q u, h.nw.at q u, h.es, h.fl⟩, fun j k P h => ?_, fun j k P m h hk hm a b => h.fail m hm a b, fun j P h a b => h.round hnn (by omega) b, fun P h => ?_⟩, fun q a b => ?_⟩
    · obtain ⟨t, ht, -⟩ := h.fl
      exact ⟨h.cl, one_path h.cl.pi ht, h.es⟩
    · obtain ⟨t, ht, hfl⟩ := h.fl
      obtain ⟨T, hT⟩ := taken_one h.cl.pi ht
      have hTI := h.cl.pi.si.ts 0 t T (by rw [ht]; rfl) (by rw [hT]; rfl)
      have hj : t.lost = true ∧ t.hd = ⟨502, 0, 0, 0, 0⟩ := hfl.resolve_left (fun x => by have := x.1; omega)
      have hst : stT t = 4 := by unfold stT; rw [hj.1, if_pos rfl]
      refine ⟨t, T, ht, hT, by omega, fun _ => ⟨hst, hj.2, ?_⟩, fun h => absurd h hlt⟩
      have h1 := hTI.tz
      have h2 := hTI.ok.k1
      have h3 := hTI.ok.k0
      rw [hj.2] at h2
      simp only at h2
      refine ba_nil _ ?_
      cases he : T.toList.isEmpty
      · have := ba_pos _ he; omega
      · rfl
    · obtain ⟨hnw, t, ht, hf, ho⟩ := start_tr (q := q) (l := l) p hp ByteArray.empty
      have hri := ri_start (v := v) hB p hp ByteArray.empty a b
      have ht1 := (setK_ok l).f9
      refine ⟨hri.cl, hnw, ?_, t, ht, Or.inl ⟨rfl, ho, by rw [hf]; rfl, by simp only [Int.natCast_zero]; omega⟩⟩
      unfold askPl; split <;> rfl
/-- What the calls of a failure come to. -/
def FsIdle (y : Nat) (w : World) (ix : Int) (F : World → Prop) : Prop :=
  Calls Try.prog 13 #[.pointer (some ⟨y, 0, none⟩), .int .i64 ix] w fun e w2 => e = .returned (.bool false) ∧ F w2
def FsSent (y : Nat) (w : World) (ix M : Int) (m : Nat) (F : World → Prop) : Prop :=
  Calls Try.prog 13 #[.pointer (some ⟨y, 0, none⟩), .int .i64 ix] w fun e w2 => e = .returned (.bool true) ∧ (w2.cell? ⟨y, 1, none⟩ = some (.int .i64 M) ∧ y < w2.heap.size) ∧
    Calls Try.prog 22 #[.pointer (some ⟨y, 0, none⟩), .int .i64 m] w2 fun e w3 => e = .returned (.tuple #[]) ∧ F w3
theorem fl_q (P : Pl) (m : Nat) : (flPl P m).q = P.q := by unfold flPl; split <;> rfl
theorem fst_calls (y : Nat) (col : Nat → Nat) (k : Nat) (B v : Int) (n : Nat) (Q : Pl) (V : Pv) (w : World) (ix : Int) (hix : I64 ix) (hL : PlAt w y col k Q V) (hC : Cl B v n Q) :
    FsIdle y w ix (fun w' => POk (nextPl Q (mirK Q ix)).1.g.s ∧ PlTo w w' y col k (fstPl Q (mirK Q ix))) ∨ FsSent y w ix Q.st.m (mirK Q ix) (fun w' => POk (nextPl Q (mirK Q ix)).1.g.s ∧ PlTo w w' y col k (fstPl Q (mirK Q ix))) := by
  have hK : KnOk (KnV B v) Q.g.s.blk := by rw [hC.bl]; exact KnV_ok _ _
  have HN := next_any y col k _ _ Q V ix w hL hC.pi hK hix
  obtain ⟨-, hm3, hmm, -, -⟩ := mirK_bd hC.pi ix
  have hpi := nextPl_PI hC.pi hC.pk hK (mirK Q ix) hm3
  generalize mirK Q ix = m at *
  unfold fstPl
  have hq := next_q Q m
  have hs := next_st Q m
  have hmi : (nextPl Q m).1.g.s.mir = Q.g.s.mir := by
    rw [← hpi.j.st.1, ← hC.pi.j.st.1, hs]
  cases hb : (nextPl Q m).2
  · rw [hb] at HN
    left
    refine HN.mono ?_
    rintro e w2 ⟨rfl, hT⟩
    exact ⟨rfl, hT.pk, hT⟩
  · rw [hb] at HN
    right
    refine HN.mono ?_
    rintro e w2 ⟨rfl, col2, V2, v2, hL2, hS2⟩
    have hpk2 : POk (nextPl Q m).1.g.s := (hL2.pg id).1.ok
    refine ⟨rfl, ⟨?_, hL2.lt⟩, ?_⟩
    · rw [← hs]; exact hL2.cSt 1 (by omega)
    · refine (yfail_any y col2 k _ _ _ V2 m w2 hL2 (hpi.at _ v2) (by show (m : Int) < (nextPl Q m).1.g.s.mir; rw [hmi]; exact hmm)).mono ?_
      rintro e w3 ⟨rfl, hT3⟩
      rw [lay_at, flPl_at] at hT3
      refine ⟨rfl, hpk2, ?_⟩
      simp only [if_true]
      exact PlTo.trans hS2 (hT3.unat (fl_q _ _))
end Go.Proofs.Ytjhihliciadipaa
