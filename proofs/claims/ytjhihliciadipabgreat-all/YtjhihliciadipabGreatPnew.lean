import Derived.Test.YtjhihliciadipabGreatPdef
set_option linter.unusedVariables false
set_option linter.unusedSimpArgs false
set_option linter.unnecessarySimpa false
namespace Go.Proofs.YtjhihliciadipabGreat
open Go.RowKit

def fairP (m b wi c t : Int) : Bool := decide (1 ≤ m) && decide (m ≤ 3) && decide (1 ≤ b) && decide (b ≤ 16) && decide (1 ≤ wi) && decide (wi ≤ 4) && decide (0 ≤ c) && decide (c ≤ 256) && decide (1 ≤ t) && decide (t ≤ 4)
set_option maxRecDepth 100000 in
set_option maxHeartbeats 2000000 in
theorem fairP_no (m b wi c t : Int) (w : World) (hor : m < 1 ∨ 3 < m ∨ b < 1 ∨ 16 < b ∨ wi < 1 ∨ 4 < wi ∨ c < 0 ∨ 256 < c ∨ t < 1 ∨ 4 < t) :
    Calls Tryz.prog 40 #[.agg #[.int .i64 m, .int .i64 b, .int .i64 wi, .int .i64 c, .int .i64 t]] w fun e w' => e = .returned (.bool false) ∧ Ext w w' := by
  have HO := hide hor
  clear hor
  go_enter Tryz.func40, Tryz.ntmps40
  go_wp2_with fail
  all_goals first
    | (go_ret; exact ⟨rfl, Ext.new w _⟩)
    | (exfalso; have := HO.out; omega)

set_option maxRecDepth 100000 in
set_option maxHeartbeats 2000000 in
theorem fairP_yes (m b wi c t : Int) (w : World) (f1 : 1 ≤ m) (f2 : m ≤ 3) (f3 : 1 ≤ b) (f4 : b ≤ 16) (f5 : 1 ≤ wi) (f6 : wi ≤ 4) (f7 : 0 ≤ c) (f8 : c ≤ 256) (f9 : 1 ≤ t) (f10 : t ≤ 4) :
    Calls Tryz.prog 40 #[.agg #[.int .i64 m, .int .i64 b, .int .i64 wi, .int .i64 c, .int .i64 t]] w fun e w' => e = .returned (.bool true) ∧ Ext w w' := by
  go_enter Tryz.func40, Tryz.ntmps40
  go_wp2_with fail
  go_ret
  exact ⟨rfl, Ext.new w _⟩

set_option maxHeartbeats 1000000 in
theorem NewP_no (m b wi c t : Int) (w : World) (hor : m < 1 ∨ 3 < m ∨ b < 1 ∨ 16 < b ∨ wi < 1 ∨ 4 < wi ∨ c < 0 ∨ 256 < c ∨ t < 1 ∨ 4 < t) :
    Calls Tryz.prog 15 #[.agg #[.int .i64 m, .int .i64 b, .int .i64 wi, .int .i64 c, .int .i64 t]] w fun e w' => e = .returned (.tuple #[.pointer none, .int .i64 1]) ∧ Ext w w' := by
  have HF := fairP_no m b wi c t
  have HO := hide hor
  clear hor
  go_enter Tryz.func15, Tryz.ntmps15
  go_wp2_with fail
  refine (HF _ HO.out).mono ?_
  rintro e w1 ⟨rfl, hE1⟩
  go_wp2_with fail
  go_ret2
  exact ⟨rfl, Ext.trans' (Ext.new w _) hE1⟩

def newG (m b wi c t : Int) : Pg := ⟨newS m b wi c t, ⟨.slice none 0 0, .slice none 0 0⟩⟩
theorem newS_ok {m b wi c t : Int} (f1 : 1 ≤ m) (f2 : m ≤ 3) (f3 : 1 ≤ b) (f4 : b ≤ 16) (f5 : 1 ≤ wi) (f6 : wi ≤ 4) (f7 : 0 ≤ c) (f8 : c ≤ 256) (f9 : 1 ≤ t) (f10 : t ≤ 4) : POk (newS m b wi c t) :=
  ⟨⟨f1, f2, f3, f4, f5, f6, f7, f8, f9, f10⟩, rfl, fun v hv => by simp [newS] at hv; subst hv; simp, by simp [newS], fun x hx => by simp [newS] at hx, rfl, rfl, fun e he => by simp [newS, noEr] at he; subst he; simp, by simp [newS], fun x hx => by simp [newS] at hx⟩

set_option maxHeartbeats 2000000 in
theorem NewP_yes (m b wi c t : Int) (w : World) (f1 : 1 ≤ m) (f2 : m ≤ 3) (f3 : 1 ≤ b) (f4 : b ≤ 16) (f5 : 1 ≤ wi) (f6 : wi ≤ 4) (f7 : 0 ≤ c) (f8 : c ≤ 256) (f9 : 1 ≤ t) (f10 : t ≤ 4) :
    Calls Tryz.prog 15 #[.agg #[.int .i64 m, .int .i64 b, .int .i64 wi, .int .i64 c, .int .i64 t]] w fun e w' => ∃ q, e = .returned (.tuple #[.pointer (some ⟨q, 0, none⟩), .int .i64 0]) ∧ Ext w w' ∧ w.heap.size ≤ q ∧
      PgAt w' q (newG m b wi c t) := by
  have HPg : Hid (∀ w' q, Blk w' q 97 (pgV (newG m b wi c t)).toArray → PgAt w' q (newG m b wi c t)) := fun w' q hB => ⟨⟨hB, World.ownsRow_nil _ _ _ _, World.ownsRow_nil _ _ _ _, by simp [newG, Value.ownBlock], by simp [newG, Value.ownBlock], fun b hb => by simp [newG, Value.ownBlock], newS_ok f1 f2 f3 f4 f5 f6 f7 f8 f9 f10⟩, ⟨fun x hx => by simp [newG, newS] at hx, by show (0 : Int) ≤ c; exact f7⟩⟩
  go_enter Tryz.func15, Tryz.ntmps15
  go_wp2_with fail
  have hE0 := Ext.new w (.cells #[.int .i64 m, .int .i64 b, .int .i64 wi, .int .i64 c, .int .i64 t] 45)
  have hB0 := Blk.new w 45 #[.int .i64 m, .int .i64 b, .int .i64 wi, .int .i64 c, .int .i64 t]
  refine (fairP_yes m b wi c t _ f1 f2 f3 f4 f5 f6 f7 f8 f9 f10).mono ?_
  rintro e w1 ⟨rfl, hE1⟩
  have hB1 := hB0.ext hE1
  have hE2 := Ext.trans' hE0 hE1
  have k0 : w1.cell? ⟨w.heap.size, 0, none⟩ = some (.int .i64 m) := hB1.cell 0
  have k1 : w1.cell? ⟨w.heap.size, 1, none⟩ = some (.int .i64 b) := hB1.cell 1
  have k2 : w1.cell? ⟨w.heap.size, 2, none⟩ = some (.int .i64 wi) := hB1.cell 2
  have k3 : w1.cell? ⟨w.heap.size, 3, none⟩ = some (.int .i64 c) := hB1.cell 3
  have k4 : w1.cell? ⟨w.heap.size, 4, none⟩ = some (.int .i64 t) := hB1.cell 4
  go_wp2_with fail
  go_ret2
  exact ⟨w1.heap.size, rfl, Ext.trans' hE2 (Ext.new _ _), hE2.size, HPg.out _ _ (Blk.new w1 _ _)⟩
end Go.Proofs.YtjhihliciadipabGreat
