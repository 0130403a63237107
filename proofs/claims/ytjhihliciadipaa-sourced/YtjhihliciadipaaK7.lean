import Derived.Test.YtjhihliciadipaaK6
set_option linter.unusedVariables false
set_option linter.unusedSimpArgs false
set_option linter.unnecessarySimpa false
namespace Go.Proofs.Ytjhihliciadipaa
open Go.RowKit

def noFe : Fe := ⟨0, 0, 0, 0, 0⟩
def newPl (q : Nat) (s : St) : Pl := ⟨q, newG s.m s.b s.wi s.c s.t, s, [noFe, noFe, noFe], [false, false, false], [], [], [], [], [], false, ByteArray.empty⟩
def nilV : Value := .slice none 0 0
def newPv : Pv := ⟨nilV, nilV, nilV, nilV, nilV⟩
/-- Old blocks keep their colours; of the new ones y has k, the others k + 6. -/
def colY (w : World) (col : Nat → Nat) (y k : Nat) (b : Nat) : Nat := if b < w.heap.size then col b else if b = y then k else k + 6

set_option maxRecDepth 100000 in
set_option maxHeartbeats 2000000 in
theorem begin_any (l : List Int) (v : Value) (col : Nat → Nat) (k : Nat) (w : World) (hv : IntsAt w v l) (hl : l.length ≤ 17592186044416) (hi : ∀ x ∈ l, I64 x) :
    Calls Try.prog 9 #[v] w fun e w' => ∃ y q, e = .returned (.pointer (some ⟨y, 0, none⟩)) ∧ PlAt w' y (colY w col y k) k (newPl q (setK l)) newPv ∧ Ext w w' := by
  have ok := setK_ok l
  have HS := settings_any l v w hv hl hi
  generalize setK l = s at *
  unfold stAgg at HS
  go_enter Try.func9, Try.ntmps9
  go_wp2_with fail
  refine HS.mono ?_
  rintro e w1 ⟨rfl, hE1⟩
  have hE2 := Ext.new w1 (.cells #[.int .i64 s.m, .int .i64 s.b, .int .i64 s.wi, .int .i64 s.c, .int .i64 s.t] 30)
  have hB2 := Blk.new w1 30 #[.int .i64 s.m, .int .i64 s.b, .int .i64 s.wi, .int .i64 s.c, .int .i64 s.t]
  go_wp2_with fail
  refine (NewP_yes s.m s.b s.wi s.c s.t _ ok.f1 ok.f2 ok.f3 ok.f4 ok.f5 ok.f6 ok.f7 ok.f8 ok.f9 ok.f10).mono ?_
  rintro e w3 ⟨q, rfl, hE3, hq, hP⟩
  have hB3 := hB2.ext hE3
  have k0 : w3.cell? ⟨w1.heap.size, 0, none⟩ = some (.int .i64 s.m) := hB3.cell 0
  have k1 : w3.cell? ⟨w1.heap.size, 1, none⟩ = some (.int .i64 s.b) := hB3.cell 1
  have k2 : w3.cell? ⟨w1.heap.size, 2, none⟩ = some (.int .i64 s.wi) := hB3.cell 2
  have k3 : w3.cell? ⟨w1.heap.size, 3, none⟩ = some (.int .i64 s.c) := hB3.cell 3
  have k4 : w3.cell? ⟨w1.heap.size, 4, none⟩ = some (.int .i64 s.t) := hB3.cell 4
  have hX := Ext.trans' (Ext.trans' hE1 hE2) hE3
  have hqs : w.heap.size ≤ q := by have := (Ext.trans' hE1 hE2).size; omega
  have HPl : Hid (∀ arr : Array Value, arr = (plV (newPl q s) newPv).toArray → PlAt (w3.alloc (.cells arr 38)) w3.heap.size (colY w col w3.heap.size k) k (newPl q s) newPv) := by
    rintro arr rfl
    have hsz := hX.size
    have hP' := hP.ext (Ext.new w3 (.cells (plV (newPl q s) newPv).toArray 38))
    have hqlt := hP.blk.lt
    have nl : ∀ b, nilV.ownBlock = some b → ∀ c, colY w col w3.heap.size k b = c := fun b hb => by simp [nilV, Value.ownBlock] at hb
    refine ⟨by simp, ?_, fun _ => Blk.new _ _ _, fun _ => ⟨World.ownsRow_nil _ _ _ _, fun b hb => nl b hb _⟩, fun _ => ⟨World.ownsRow_nil _ _ _ _, fun b hb => nl b hb _⟩, fun _ => ⟨World.ownsRow_nil _ _ _ _, fun b hb => nl b hb _⟩,
      fun _ => ⟨World.ownsRow_nil _ _ _ _, fun b hb => nl b hb _⟩, fun _ => ⟨World.ownsRow_nil _ _ _ _, fun b hb => nl b hb _⟩, fun _ => ⟨hP', ?_⟩, rfl, rfl⟩
    · unfold colY; rw [if_neg (by omega), if_pos rfl]
    · rintro b (rfl | hb | hb)
      · unfold colY; rw [if_neg (by omega), if_neg (by omega)]
      · simp [newPl, newG, Value.ownBlock] at hb
      · simp [newPl, newG, Value.ownBlock] at hb
  clear hP hB3 hB2 hE3 hE2 hE1 HS
  go_wp2_with fail
  go_ret
  exact ⟨w3.heap.size, q, rfl, HPl.out _ rfl, Ext.trans' hX (Ext.new _ _)⟩
end Go.Proofs.Ytjhihliciadipaa
