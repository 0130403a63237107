import Derived.Test.YtjhihliciadipaaK3
import Derived.Test.YtjhihliciadipaaPnew
set_option linter.unusedVariables false
set_option linter.unusedSimpArgs false
set_option linter.unnecessarySimpa false
namespace Go.Proofs.Ytjhihliciadipaa
open Go.RowKit

structure St where
  m : Int
  b : Int
  wi : Int
  c : Int
  t : Int
def setK (l : List Int) : St := ⟨1 + pickK (numK l 0) 3, 1 + pickK (numK l 1) 16, 1 + pickK (numK l 2) 4, pickK (numK l 3) 257, 1 + pickK (numK l 4) 4⟩
def stAgg (s : St) : Value := .agg #[.int .i64 s.m, .int .i64 s.b, .int .i64 s.wi, .int .i64 s.c, .int .i64 s.t]
structure StOk (s : St) : Prop where
  f1 : 1 ≤ s.m
  f2 : s.m ≤ 3
  f3 : 1 ≤ s.b
  f4 : s.b ≤ 16
  f5 : 1 ≤ s.wi
  f6 : s.wi ≤ 4
  f7 : 0 ≤ s.c
  f8 : s.c ≤ 256
  f9 : 1 ≤ s.t
  f10 : s.t ≤ 4
theorem setK_ok (l : List Int) : StOk (setK l) := by
  have h0 := pickK_bd (numK l 0) 3 (by omega)
  have h1 := pickK_bd (numK l 1) 16 (by omega)
  have h2 := pickK_bd (numK l 2) 4 (by omega)
  have h3 := pickK_bd (numK l 3) 257 (by omega)
  have h4 := pickK_bd (numK l 4) 4 (by omega)
  exact ⟨by simp only [setK]; omega, by simp only [setK]; omega, by simp only [setK]; omega, by simp only [setK]; omega, by simp only [setK]; omega, by simp only [setK]; omega, by simp only [setK]; omega, by simp only [setK]; omega, by simp only [setK]; omega, by simp only [setK]; omega⟩
theorem numK_i64 {l : List Int} (h : ∀ x ∈ l, I64 x) (i : Nat) : I64 (numK l i) := by
  unfold numK
  rw [List.getD_eq_getElem?_getD]
  by_cases hi : i < l.length
  · rw [List.getElem?_eq_getElem hi]; exact h _ (List.getElem_mem _)
  · rw [List.getElem?_eq_none (by omega)]; exact ⟨by simp, by simp⟩
theorem IntsAt.ext {w w' : World} {v : Value} {l : List Int} (h : IntsAt w v l) (hE : Ext w w') : IntsAt w' v l := by
  obtain ⟨a, cap, rfl, hc0, hc⟩ := h
  exact ⟨a, cap, rfl, hc0, fun hl => by obtain ⟨ad, e, hh⟩ := hc hl; exact ⟨ad, e, fun j x hj => ext_cell hE (hh j x hj)⟩⟩

set_option maxRecDepth 100000 in
set_option maxHeartbeats 2000000 in
theorem settings_any (l : List Int) (v : Value) (w : World) (hv : IntsAt w v l) (hl : l.length ≤ 17592186044416) (hi : ∀ x ∈ l, I64 x) :
    Calls Try.prog 31 #[v] w fun e w' => e = .returned (stAgg (setK l)) ∧ Ext w w' := by
  have hE := Ext.new w (.cells #[.int .i64 0, .int .i64 0, .int .i64 0, .int .i64 0, .int .i64 0] 30)
  have hv0 := hv.ext hE
  have b0 := pickK_bd (numK l 0) 3 (by omega)
  have b1 := pickK_bd (numK l 1) 16 (by omega)
  have b2 := pickK_bd (numK l 2) 4 (by omega)
  have b3 := pickK_bd (numK l 3) 257 (by omega)
  have b4 := pickK_bd (numK l 4) 4 (by omega)
  unfold stAgg setK
  simp only
  go_enter Try.func31, Try.ntmps31
  go_wp2_with fail
  refine (numK_any l v 0 _ hv0 hl (by omega)).mono ?_
  rintro e w1 ⟨rfl, rfl⟩
  go_wp2_with fail
  refine (pickK_any (numK l 0) 3 _ (numK_i64 hi 0) (by omega) (by omega)).mono ?_
  rintro e w1 ⟨rfl, rfl⟩
  go_wp2_with fail
  refine (numK_any l v 1 _ hv0 hl (by omega)).mono ?_
  rintro e w1 ⟨rfl, rfl⟩
  go_wp2_with fail
  refine (pickK_any (numK l 1) 16 _ (numK_i64 hi 1) (by omega) (by omega)).mono ?_
  rintro e w1 ⟨rfl, rfl⟩
  go_wp2_with fail
  refine (numK_any l v 2 _ hv0 hl (by omega)).mono ?_
  rintro e w1 ⟨rfl, rfl⟩
  go_wp2_with fail
  refine (pickK_any (numK l 2) 4 _ (numK_i64 hi 2) (by omega) (by omega)).mono ?_
  rintro e w1 ⟨rfl, rfl⟩
  go_wp2_with fail
  refine (numK_any l v 3 _ hv0 hl (by omega)).mono ?_
  rintro e w1 ⟨rfl, rfl⟩
  go_wp2_with fail
  refine (pickK_any (numK l 3) 257 _ (numK_i64 hi 3) (by omega) (by omega)).mono ?_
  rintro e w1 ⟨rfl, rfl⟩
  go_wp2_with fail
  refine (numK_any l v 4 _ hv0 hl (by omega)).mono ?_
  rintro e w1 ⟨rfl, rfl⟩
  go_wp2_with fail
  refine (pickK_any (numK l 4) 4 _ (numK_i64 hi 4) (by omega) (by omega)).mono ?_
  rintro e w1 ⟨rfl, rfl⟩
  go_wp2_with fail
  refine bodyPost_ret (v := .agg #[.int .i64 (1 + pickK (numK l 0) 3), .int .i64 (1 + pickK (numK l 1) 16), .int .i64 (1 + pickK (numK l 2) 4), .int .i64 (pickK (numK l 3) 257), .int .i64 (1 + pickK (numK l 4) 4)]) (by simp [results, Try.results31, go_sem]) rfl ⟨rfl, ?_⟩
  (with_reducible repeat (first | refine Below.drew ?_ | refine Below.alloc ?_ ?_ _ | refine Below.setCell ?_ ?_ _ | exact Below.refl _ _)) <;> simp
end Go.Proofs.Ytjhihliciadipaa
