import Derived.Test.YtjhihliciadipaaK11
set_option linter.unusedVariables false
set_option linter.unusedSimpArgs false
set_option linter.unnecessarySimpa false
namespace Go.Proofs.Ytjhihliciadipaa
open Go.RowKit

theorem takeT_size {t : Tr} {s : Px} (ok : TrOk t) (hf : Fair s) (n : Int) (hn : 0 ≤ n) : ((takeT s.blk s.win n t).1.size : Int) ≤ n := by
  have hlow := win_low ok hf
  by_cases h : ((runT t (winT s.blk s.win t).1 ((winT s.blk s.win t).2 - (winT s.blk s.win t).1).toNat).size : Int) ≤ t.hd.frm + t.taken - (winT s.blk s.win t).1 * s.blk
  · rw [takeT_none rfl rfl h]; simpa using hn
  · rw [takeT_some rfl rfl h]
    have hb := takeN_bd ok ((runT t (winT s.blk s.win t).1 ((winT s.blk s.win t).2 - (winT s.blk s.win t).1).toNat).size : Int) (t.hd.frm + t.taken - (winT s.blk s.win t).1 * s.blk) n (by omega) hn
    simp only [ByteArray.size_extract]
    omega
theorem takeA_yes {s : Px} {i : Nat} {t : Tr} {n : Int} (ht : s.trs[i]? = some t) (hn : 0 ≤ n) (ho : openT t = false) : takeA s i n = ((takeT s.blk s.win n (pshowT t)).1, 0) := by
  unfold takeA
  rw [Int.toNat_natCast, ht]
  simp only [hasT_of ht, Bool.true_eq_false, if_false, ho, Bool.false_eq_true]
  rw [if_neg (by omega)]

theorem plV_ans {P : Pl} (V : Pv) (nj : P.jobs.length = 3) (na : P.away.length = 3) (b : ByteArray) : (plV P V).set 30 (.string b) = plV { P with ans := b } V := by
  rw [show 30 = 24 + 6 from rfl, plV_end V nj na 6]; rfl
theorem PlX.setAns {w : World} {y : Nat} {col : Nat → Nat} {k : Nat} {P : Pl} {V : Pv} (h : PlAt w y col k P V) (b : ByteArray) :
    PlAt (w.setCell ⟨y, 30, none⟩ (.string b)) y (recolK w col 0) k { P with ans := b } V ∧ StK w (w.setCell ⟨y, 30, none⟩ (.string b)) col (recolK w col 0) k :=
  h.own 30 _ _ (plV_ans V h.nj h.na b) rfl rfl rfl rfl rfl rfl rfl h.nj h.na
theorem PlX.setTaken {w : World} {y : Nat} {col : Nat → Nat} {k : Nat} {P : Pl} {V : Pv} (h : PlAt w y col k P V) {g cap : Nat} (hv : V.k = .slice (some ⟨g, 0, none⟩) P.taken.length cap) (i : Nat) (hi : i < P.taken.length) (b : ByteArray) :
    PlAt (w.setCell ⟨g, i, none⟩ (.string b)) y (recolK w col 0) k { P with taken := P.taken.set i b } V ∧ StK w (w.setCell ⟨g, i, none⟩ (.string b)) col (recolK w col 0) k := by
  have hx := h.kk id
  have hgc : col g = k + 3 := hx.2 g (by rw [hv]; rfl)
  have hC : Chg (fun b => b = g) w (w.setCell ⟨g, i, none⟩ (.string b)) := Chg.setCell (S := fun b => b = g) (Chg.refl _ _) (p := ⟨g, i, none⟩) (Or.inl rfl) _
  have h2 := (h.weaken (Y := fun c => c = k + 3) (fun _ e => e.elim)).stay hC (fun b _ hb => by rw [hb]; exact hgc) 0
  refine ⟨⟨h2.lt, h2.c0, fun _ => h2.blk (by omega), fun _ => h2.pp (by omega), fun _ => h2.tt (by omega), fun _ => ⟨?_, fun b hb => ?_⟩, fun _ => h2.ss (by omega), fun _ => h2.oo (by omega), fun _ => h2.pg (by omega), h2.nj, h2.na⟩,
    StK.of hC (fun b _ hb => by rw [hb, hgc]; omega) _⟩
  · have ho := hx.1
    rw [hv] at ho ⊢
    have := (ho.stored i (.string b)).1
    rw [List.length_set, List.map_set]; exact this
  · rw [recolK_old (hx.1.lt b hb).2]; exact hx.2 b hb
end Go.Proofs.Ytjhihliciadipaa
