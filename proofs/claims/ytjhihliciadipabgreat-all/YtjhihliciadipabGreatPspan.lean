import Derived.Test.YtjhihliciadipabGreatPdef
set_option linter.unusedVariables false
set_option linter.unusedSimpArgs false
set_option linter.unnecessarySimpa false
namespace Go.Proofs.YtjhihliciadipabGreat
open Go.RowKit

theorem spanAtMost_any (n k : Int) (w : World) : Calls Tryz.prog 101 #[.int .i64 n, .int .i64 k] w fun e w' => e = .returned (.int .i64 (atM n k)) ∧ w' = w := by
  unfold atM
  by_cases h : k < n
  · rw [if_pos h]
    go_enter Tryz.func101, Tryz.ntmps101
    go_wp2_with fail
    go_ret
    exact ⟨rfl, rfl⟩
  · rw [if_neg h]
    go_enter Tryz.func101, Tryz.ntmps101
    go_wp2_with fail
    go_ret
    exact ⟨rfl, rfl⟩

def hdAgg (h : Hd) : Value := .agg #[.int .i64 h.st, .int .i64 h.tag, .int .i64 h.tot, .int .i64 h.frm, .int .i64 h.len]
theorem hdAgg_eq (h : Hd) : hdAgg h = .agg #[.int .i64 h.st, .int .i64 h.tag, .int .i64 h.tot, .int .i64 h.frm, .int .i64 h.len] := rfl

theorem part_any (tag tot frm en : Int) (w : World) (h0 : 0 ≤ tot) (h1 : tot ≤ 1000) (h2 : 0 ≤ frm) (h3 : frm ≤ 1000000) (h4 : 0 ≤ en) (h5 : en ≤ 1000000) :
    Calls Tryz.prog 100 #[.int .i64 tag, .int .i64 tot, .int .i64 frm, .int .i64 en] w fun e w' => e = .returned (hdAgg (partH tag tot frm en)) ∧ Ext w w' := by
  unfold partH
  have ha : 0 ≤ atM en tot ∧ atM en tot ≤ 1000 := by unfold atM; split <;> omega
  have HA := spanAtMost_any en tot
  generalize atM en tot = a at *
  by_cases hle : a ≤ frm
  · rw [if_pos hle]
    go_enter Tryz.func100, Tryz.ntmps100
    go_wp2_with fail
    refine (HA _).mono ?_
    rintro e w1 ⟨rfl, rfl⟩
    go_wp2_with fail
    refine bodyPost_ret (v := hdAgg ⟨416, tag, tot, 0, 0⟩) (by simp [results, Tryz.results100, go_sem, hdAgg]) rfl ⟨rfl, ?_⟩
    (with_reducible repeat (first | refine Below.drew ?_ | refine Below.alloc ?_ ?_ _ | refine Below.setCell ?_ ?_ _ | exact Below.refl _ _)) <;> simp
  · rw [if_neg hle]
    go_enter Tryz.func100, Tryz.ntmps100
    go_wp2_with fail
    refine (HA _).mono ?_
    rintro e w1 ⟨rfl, rfl⟩
    go_wp2_with fail
    refine bodyPost_ret (v := hdAgg ⟨206, tag, tot, frm, a - frm⟩) (by simp [results, Tryz.results100, go_sem, hdAgg]) rfl ⟨rfl, ?_⟩
    (with_reducible repeat (first | refine Below.drew ?_ | refine Below.alloc ?_ ?_ _ | refine Below.setCell ?_ ?_ _ | exact Below.refl _ _)) <;> simp

set_option maxRecDepth 100000 in
set_option maxHeartbeats 1000000 in
theorem headR_any (kind fst lst tag tot : Int) (w : World) (h0 : 0 ≤ tot) (h1 : tot ≤ 1000) (h2 : 0 ≤ fst) (h3 : fst ≤ 999999) (h4 : 0 ≤ lst) (h5 : lst ≤ 999999) :
    Calls Tryz.prog 74 #[.agg #[.int .i64 kind, .int .i64 fst, .int .i64 lst], .int .i64 tag, .int .i64 tot] w fun e w' => e = .returned (hdAgg (headR kind fst lst tag tot)) ∧ Ext w w' := by
  have hE := Ext.new2' w (.cells #[.int .i64 kind, .int .i64 fst, .int .i64 lst] 105) (.cells #[.int .i64 0, .int .i64 0, .int .i64 0, .int .i64 0, .int .i64 0] 71)
  have hB := Blk.new2' w (.cells #[.int .i64 kind, .int .i64 fst, .int .i64 lst] 105) 71 #[.int .i64 0, .int .i64 0, .int .i64 0, .int .i64 0, .int .i64 0]
  have hP := fun frm en hf0 hf1 he0 he1 => part_any tag tot frm en ((w.alloc (.cells #[.int .i64 kind, .int .i64 fst, .int .i64 lst] 105)).alloc (.cells #[.int .i64 0, .int .i64 0, .int .i64 0, .int .i64 0, .int .i64 0] 71)) h0 h1 hf0 hf1 he0 he1
  unfold headR
  by_cases k1 : kind = 1
  · rw [if_pos k1]
    subst k1
    go_enter Tryz.func74, Tryz.ntmps74
    go_wp2_with fail
    refine (hP fst (lst + 1) h2 (by omega) (by omega) (by omega)).mono ?_
    rintro e w1 ⟨rfl, hE1⟩
    rw [hdAgg_eq]
    have hB1 := hB.ext hE1
    have z0 : w1.cell? ⟨w.heap.size + 1, 0, none⟩ = some (.int .i64 0) := hB1.cell 0
    have z1 : w1.cell? ⟨w.heap.size + 1, 1, none⟩ = some (.int .i64 0) := hB1.cell 1
    have z2 : w1.cell? ⟨w.heap.size + 1, 2, none⟩ = some (.int .i64 0) := hB1.cell 2
    have z3 : w1.cell? ⟨w.heap.size + 1, 3, none⟩ = some (.int .i64 0) := hB1.cell 3
    have z4 : w1.cell? ⟨w.heap.size + 1, 4, none⟩ = some (.int .i64 0) := hB1.cell 4
    have zf := hB1.frozen
    have hX := Ext.trans' hE hE1
    clear hP hE hB hE1 hB1
    go_wp2_with fail
    refine bodyPost_ret (v := hdAgg (partH tag tot fst (lst + 1))) (by simp [results, Tryz.results74, go_sem, hdAgg, z0, z1, z2, z3, z4]) rfl ⟨rfl, ?_⟩
    (with_reducible repeat (first | refine Below.drew ?_ | refine Below.alloc ?_ ?_ _ | refine Below.setCell ?_ ?_ _ | exact hX)) <;> simp
  · rw [if_neg k1]
    by_cases k2 : kind = 2
    · rw [if_pos k2]
      subst k2
      clear k1
      go_enter Tryz.func74, Tryz.ntmps74
      go_wp2_with fail
      refine (hP fst tot h2 (by omega) (by omega) (by omega)).mono ?_
      rintro e w1 ⟨rfl, hE1⟩
      rw [hdAgg_eq]
      have hB1 := hB.ext hE1
      have z0 : w1.cell? ⟨w.heap.size + 1, 0, none⟩ = some (.int .i64 0) := hB1.cell 0
      have z1 : w1.cell? ⟨w.heap.size + 1, 1, none⟩ = some (.int .i64 0) := hB1.cell 1
      have z2 : w1.cell? ⟨w.heap.size + 1, 2, none⟩ = some (.int .i64 0) := hB1.cell 2
      have z3 : w1.cell? ⟨w.heap.size + 1, 3, none⟩ = some (.int .i64 0) := hB1.cell 3
      have z4 : w1.cell? ⟨w.heap.size + 1, 4, none⟩ = some (.int .i64 0) := hB1.cell 4
      have zf := hB1.frozen
      have hX := Ext.trans' hE hE1
      clear hP hE hB hE1 hB1
      go_wp2_with fail
      refine bodyPost_ret (v := hdAgg (partH tag tot fst tot)) (by simp [results, Tryz.results74, go_sem, hdAgg, z0, z1, z2, z3, z4]) rfl ⟨rfl, ?_⟩
      (with_reducible repeat (first | refine Below.drew ?_ | refine Below.alloc ?_ ?_ _ | refine Below.setCell ?_ ?_ _ | exact hX)) <;> simp
    · rw [if_neg k2]
      by_cases k3 : kind = 3
      · rw [if_pos k3]
        subst k3
        clear k1 k2
        go_enter Tryz.func74, Tryz.ntmps74
        go_wp2_with fail
        refine (spanAtMost_any lst tot _).mono ?_
        rintro e w0 ⟨rfl, rfl⟩
        have ha : 0 ≤ atM lst tot ∧ atM lst tot ≤ tot := by unfold atM; split <;> omega
        go_wp2_with fail
        refine (hP (tot - atM lst tot) tot (by omega) (by omega) (by omega) (by omega)).mono ?_
        rintro e w1 ⟨rfl, hE1⟩
        rw [hdAgg_eq]
        have hB1 := hB.ext hE1
        have z0 : w1.cell? ⟨w.heap.size + 1, 0, none⟩ = some (.int .i64 0) := hB1.cell 0
        have z1 : w1.cell? ⟨w.heap.size + 1, 1, none⟩ = some (.int .i64 0) := hB1.cell 1
        have z2 : w1.cell? ⟨w.heap.size + 1, 2, none⟩ = some (.int .i64 0) := hB1.cell 2
        have z3 : w1.cell? ⟨w.heap.size + 1, 3, none⟩ = some (.int .i64 0) := hB1.cell 3
        have z4 : w1.cell? ⟨w.heap.size + 1, 4, none⟩ = some (.int .i64 0) := hB1.cell 4
        have zf := hB1.frozen
        have hX := Ext.trans' hE hE1
        clear hP hE hB hE1 hB1
        go_wp2_with fail
        refine bodyPost_ret (v := hdAgg (partH tag tot (tot - atM lst tot) tot)) (by simp [results, Tryz.results74, go_sem, hdAgg, z0, z1, z2, z3, z4]) rfl ⟨rfl, ?_⟩
        (with_reducible repeat (first | refine Below.drew ?_ | refine Below.alloc ?_ ?_ _ | refine Below.setCell ?_ ?_ _ | exact hX)) <;> simp
      · rw [if_neg k3]
        go_enter Tryz.func74, Tryz.ntmps74
        go_wp2_with fail
        refine bodyPost_ret (v := hdAgg ⟨200, tag, tot, 0, tot⟩) (by simp [results, Tryz.results74, go_sem, hdAgg]) rfl ⟨rfl, ?_⟩
        (with_reducible repeat (first | refine Below.drew ?_ | refine Below.alloc ?_ ?_ _ | refine Below.setCell ?_ ?_ _ | exact Below.refl _ _)) <;> simp
end Go.Proofs.YtjhihliciadipabGreat
