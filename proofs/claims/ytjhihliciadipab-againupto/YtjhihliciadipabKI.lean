import Derived.Test.YtjhihliciadipabKR
import Derived.Test.YtjhihliciadipabKG
set_option linter.unusedVariables false
set_option linter.unusedSimpArgs false
set_option linter.unnecessarySimpa false
namespace Go.Proofs.Ytjhihliciadipab
open Go.RowKit

/-- The first transfer, by rounds. -/
structure B1 (B v : Int) (p : Nat) (j : Nat) (P : Pl) : Prop where
  ri : RI B v p (0, 0, 0) 0 j P
  a : A1 B v p (2 * j) P
theorem B1.at {B v : Int} {p j : Nat} {P : Pl} (h : B1 B v p j P) (q : Nat) (u : Vs) : B1 B v p j (P.at q u) := ⟨h.ri.at q u, ⟨h.a.pi.at q u, h.a.cn, h.a.cap, h.a.lt⟩⟩
theorem B1.step {B v : Int} {p j : Nat} {P : Pl} (h : B1 B v p j P) (hv : 1 ≤ v) (hv2 : v ≤ 99) (hp : p < 4) (pk1 : POk (nextPl P 0).1.g.s) (pk : POk (roundPl P v).g.s) : B1 B v p (j + 1) (roundPl P v) := by
  obtain ⟨t, ht, hpt, -⟩ := h.ri.tr
  exact ⟨h.ri.step (by omega) hv2 pk, (h.a.round h.ri.cl hv hv2 hp ht hpt pk1).up (by omega)⟩
theorem b1_start {B v : Int} {q : Nat} {l : List Int} (hB : (setK l).b = B) (hc : (setK l).c = 256) (p : Nat) (hp : p < 4) (pk : POk (newPl q (setK l)).g.s) (pk2 : POk (askPl (newPl q (setK l)) p ByteArray.empty).g.s) : B1 B v p 0 (askPl (newPl q (setK l)) p ByteArray.empty) := by
  have hr0 : readP ByteArray.empty = (0, 0, 0) := read4
  have hri := ri_start (v := v) hB p hp ByteArray.empty pk pk2
  rw [hr0] at hri
  refine ⟨hri, ?_⟩
  have hform : (askPl (newPl q (setK l)) p ByteArray.empty).g.s = askSt (newPl q (setK l)).g.s p ByteArray.empty := by unfold askPl; rw [if_pos (by show ([] : List Int).length < 8; simp)]
  have hlat : (newPl q (setK l)).g.s.lat.getD p (0, 0) = (0, 0) := by
    show ([(0, 0), (0, 0), (0, 0), (0, 0)] : List (Int × Int)).getD p (0, 0) = (0, 0)
    rcases p with _ | _ | _ | _ | p <;> first | rfl | omega
  have hK : ∀ S, KnOk (KnC B v p S) (newPl q (setK l)).g.s.blk := fun S => by show KnOk _ (setK l).b; rw [hB]; exact KnC_ok B v p S
  refine ⟨askPl_PI (new_PI _ q l) pk (hK _) p hp ByteArray.empty, ?_, ?_, Or.inl ?_⟩
  · rw [hform]
    unfold askSt
    exact CN_look (s := { (newPl q (setK l)).g.s with trs := _ }) ⟨by simp [newPl, newG, newS], by simp [newPl, newG, newS]⟩
  · rw [hform]
    unfold askSt
    rw [look_cap]; exact hc
  · obtain ⟨t, ht, -, -, -, -, -, hop⟩ := hri.tr
    have hs0 : (askPl (newPl q (setK l)) p ByteArray.empty).sent.length = 0 := by unfold askPl; split <;> rfl
    intro u hu
    rw [ht] at hu
    simp at hu; subst hu
    have hlk := look_hm { (newPl q (setK l)).g.s with trs := (newPl q (setK l)).g.s.trs ++ [askT p (readP ByteArray.empty) ((newPl q (setK l)).g.s.lat.getD p (0, 0))] }
    have e0 : askT p (readP ByteArray.empty) (0, 0) = rawT p (readP ByteArray.empty) := by rw [askT_eq, if_pos rfl]
    have h1 : (askPl (newPl q (setK l)) p ByteArray.empty).g.s.trs[0]? = some u := by rw [ht]; rfl
    rw [hform] at h1
    unfold askSt at h1
    rw [hlat, e0] at hlk h1
    obtain ⟨a, ha, r⟩ := hlk.old h1
    have ha2 : ([rawT p (readP ByteArray.empty)] : List Tr)[0]? = some a := ha
    simp at ha2
    subst ha2
    obtain ⟨x, y, e⟩ := r.1.e
    rw [e]; rfl
theorem B1.done {B v : Int} {p : Nat} {P : Pl} (h : B1 B v p 70 P) (hv : 1 ≤ v) : ∃ t T, P.g.s.trs = [t] ∧ stT t = 3 ∧ P.taken = [T] ∧ T = objK p v 0 (totK p v).toNat ∧ Full B v p P.g.s.cac ∧ P.g.s.lat.getD p (0, 0) = (v, totK p v) := by
  obtain ⟨t, T, hE⟩ := h.ri.done hv
  obtain ⟨t', ht', hpt, -⟩ := h.ri.tr
  have e : t' = t := by rw [hE.tr] at ht'; simp at ht'; exact ht'.symm
  subst e
  have hf := h.a.full rfl h.ri.cl.bl hE hpt
  refine ⟨t', T, hE.tr, hE.st, hE.tk, ?_, hf.1, hf.2⟩
  have := hE.T
  rw [hE.hd] at this
  exact this
theorem A2.at {B v : Int} {p : Nat} {r : Int × Int × Int} {n j : Nat} {T0 : ByteArray} {P : Pl} (h : A2 B v p r n j T0 P) (q : Nat) (u : Vs) : A2 B v p r n j T0 (P.at q u) := ⟨h.cl.at q u, h.nw, h.fu, h.tr, h.tk⟩
/-- The calls of a round of the second transfer. -/
def AgC (y : Nat) (w : World) (ix : Int) (F : World → Prop) : Prop :=
  Calls Try.prog 11 #[.pointer (some ⟨y, 0, none⟩), .int .i64 ix] w fun e w2 => e = .returned (.bool false) ∧
    Calls Try.prog 14 #[.pointer (some ⟨y, 0, none⟩), .int .i64 1, .int .i64 99] w2 fun e w3 => e = .returned (.tuple #[]) ∧ F w3
theorem again_calls (y : Nat) (col : Nat → Nat) (k : Nat) (B v : Int) (n : Nat) (Q : Pl) (V : Pv) (w : World) (ix : Int) (hix : I64 ix) (hL : PlAt w y col k Q V) (hC : Cl B v n Q) (hE : nextE Q.g.s = none) (hn : n ≤ 900000) (hk : 1 ≤ k) :
    AgC y w ix (fun w' => PlTo w w' y col k (takePl Q 1 99)) := by
  have hK : KnOk (KnV B v) Q.g.s.blk := by rw [hC.bl]; exact KnV_ok _ _
  have HN := next_any y col k _ _ Q V ix w hL hC.pi hK hix
  rw [next_none _ hC.aw hE] at HN
  simp only at HN
  refine HN.mono ?_
  rintro e w2 ⟨rfl, col2, V2, v2, hL2, hS2⟩
  refine ⟨rfl, (ytake_PI y col2 k _ _ _ V2 1 99 w2 hL2 (hC.pi.at Q.q v2) (by omega) ⟨by omega, by omega⟩ i64_99).mono ?_⟩
  rintro e w3 ⟨rfl, hT3⟩
  rw [lay_at, takePl_at] at hT3
  exact ⟨rfl, PlTo.trans hS2 (hT3.unat (take_q _ _ _))⟩
end Go.Proofs.Ytjhihliciadipab
