import Derived.Test.YtjhihliciadipaaKU
set_option linter.unusedVariables false
set_option linter.unusedSimpArgs false
set_option linter.unnecessarySimpa false
namespace Go.Proofs.Ytjhihliciadipaa
open Go.RowKit

theorem new_fair (l : List Int) : Fair (newS (setK l).m (setK l).b (setK l).wi (setK l).c (setK l).t) := by
  have ok := setK_ok l
  exact ⟨ok.f1, ok.f2, ok.f3, ok.f4, ok.f5, ok.f6, ok.f7, ok.f8, ok.f9, ok.f10⟩
theorem new_PI (K : Kn) (q : Nat) (l : List Int) : PI K 0 (newPl q (setK l)) := by
  have hb : ∀ i : Nat, ([false, false, false] : List Bool)[i]? = some true → False := by
    intro i h
    rcases i with _ | _ | _ | i <;> simp at h
  exact ⟨⟨rfl, rfl, rfl, rfl, by simp [newPl]⟩, ⟨⟨rfl, rfl, rfl, rfl, rfl⟩, rfl, fun i e h _ => (hb i h).elim, rfl⟩, SI_new K (new_fair l),
    fun f hf => by simp [newPl] at hf; subst hf; exact ⟨by simp [noFe], by simp [noFe], by simp [noFe], by simp [noFe], by simp [noFe], by simp [noFe], by simp [noFe], by simp [noFe]⟩,
    rfl, by simp [newPl], by simp [newPl], rfl, by simp [newPl], fun i e h _ => (hb i h).elim⟩
def zCol : Nat → Nat := fun _ => 0
theorem ints_new {w w1 : World} {v : Value} {l : List Int} {y : Nat} (h : IntsAt w v l) (hE : Ext w w1) : IntsO w1 v l (colY w zCol y 1) 1 := by
  refine ⟨h.ext hE, fun hn a n c e => ?_⟩
  obtain ⟨a2, cap, e2, -, hc⟩ := h
  obtain ⟨ad, rfl, hcell⟩ := hc hn
  rw [e2] at e
  simp at e
  obtain ⟨rfl, -⟩ := e
  obtain ⟨x, hx⟩ : ∃ x, l[0]? = some x := ⟨_, List.getElem?_eq_getElem (List.length_pos_iff.2 hn)⟩
  have hlt := World.block_lt_of_cell? w _ (hcell 0 x hx)
  rw [add_block] at hlt
  unfold colY zCol
  rw [if_pos hlt]; omega
theorem play_ext {w w1 w2 : World} {y : Nat} {col : Nat → Nat} (hE : Ext w w1) (hS : StK w1 w2 (colY w zCol y 1) col 1) : Ext w w2 :=
  ⟨hS.chg.os.trans hE.os, hS.chg.tape.trans hE.tape, hS.chg.output.trans hE.output, Nat.le_trans hE.size hS.chg.size, fun b hb =>
    (hS.chg.block b (Nat.lt_of_lt_of_le hb hE.size) (by unfold colY zCol; rw [if_pos hb]; omega)).trans (hE.block b hb)⟩
end Go.Proofs.Ytjhihliciadipaa
