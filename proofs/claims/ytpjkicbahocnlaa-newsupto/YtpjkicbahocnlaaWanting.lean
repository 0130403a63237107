import Derived.Test.YtpjkicbahocnlaaWant
import Derived.Test.YtpjkicbahocnlaaBase
set_option linter.unusedVariables false
set_option linter.unusedSimpArgs false
set_option linter.unnecessarySimpa false
namespace Go.Proofs.Ytpjkicbahocnlaa
open Go.RowKit

structure Jb where
  on : Bool
  path : Int
  tag : Int
  tot : Int
  k : Int
def jobV (j : Jb) : List Value := [.bool j.on, .int .i64 j.path, .int .i64 j.tag, .int .i64 j.tot, .int .i64 j.k]

def wantingL (B W : Int) (m : Mv) (j : Jb) : Bool := decide (m.path = j.path) && decide (m.tag = j.tag) && decide (m.tot = j.tot) && decide (j.k ∈ wantsL B W m)

theorem wants_len (B W : Int) (m : Mv) (hW2 : W ≤ 4) : (wantsL B W m).length ≤ 4 := by
  unfold wantsL
  split
  · simp
  · exact Nat.le_trans (List.length_filter_le _ _) (win_len B W m hW2)

set_option maxHeartbeats 1000000 in
theorem wanting_any (p b o : Nat) (B W : Int) (m : Mv) (hv : Value) (j : Jb) (w : World) (hm : MvAt w b o m) (ok : MvOk m) (hs : SetAt w p B W) (hh : HasAt w b o hv m.has) :
    Calls Try.prog 135 #[.pointer (some ⟨p, 0, none⟩), .pointer (some ⟨b, o, none⟩), .agg #[.bool j.on, .int .i64 j.path, .int .i64 j.tag, .int .i64 j.tot, .int .i64 j.k]] w fun e w' =>
      e = .returned (.bool (wantingL B W m j)) ∧ Ext w w' := by
  have hp : p < w.heap.size := World.block_lt_of_cell? w _ hs.cB
  have hb : b < w.heap.size := World.block_lt_of_cell? w _ hm.path
  have h0 := hm.path
  have h4 := hm.tag
  have h5 : w.cell? ⟨b, o + 4 + 1, none⟩ = some (.int .i64 m.tot) := hm.tot
  have HL := hide (wants_len B W m hs.W2)
  have HD : Hid (wantingL B W m j = (decide (m.path = j.path) && decide (m.tag = j.tag) && decide (m.tot = j.tot) && decide (j.k ∈ wantsL B W m))) := rfl
  by_cases hpa : (m.path != j.path) = true
  · go_enter Try.func135, Try.ntmps135
    go_wp2_with fail
    go_quiet (fail)
    go_wp2
    go_ret
    refine ⟨ret_bool ?_, Ext.drewN (Ext.new w _) _⟩
    rw [HD.out]; simp at hpa; simp [hpa]
  · have hpa' : (m.path != j.path) = false := by simpa using hpa
    have hpe : m.path = j.path := by simpa using hpa
    have HPE := hide hpe
    clear hpa hpe
    by_cases ht1 : m.tag = j.tag
    · by_cases ht2 : m.tot = j.tot
      · have HD2 : Hid (wantingL B W m j = decide (j.k ∈ wantsL B W m)) := by
          show _ = _
          rw [HD.out, HPE.out, ht1, ht2]; simp
        clear HD
        go_enter Try.func135, Try.ntmps135
        go_wp2_with fail
        go_quiet (fail)
        go_wp2_with fail
        have hE0 : Ext w ((w.alloc (.cells #[.bool j.on, .int .i64 j.path, .int .i64 j.tag, .int .i64 j.tot, .int .i64 j.k] 173)).drewN nq) := Ext.drewN (Ext.new w _) _
        refine (wants_any p b o B W m hv _ (hm.ext hE0) ok (hs.ext hE0) (hh.ext hE0)).mono ?_
        rintro e w1 ⟨v1, rfl, hE1, hown1⟩
        have hjk : w1.cell? ⟨w.heap.size, 4, none⟩ = some (.int .i64 j.k) := ext_cell hE1 (by simp)
        have HL2 := HL.out
        have hE2 := Ext.trans' hE0 hE1
        clear h0 h4 h5 hE0 hE1
        go_wp2_with fail
        refine (in_any (wantsL B W m) v1 j.k _ (by unfold maxLen; omega) _ hown1).mono ?_
        rintro e w' ⟨rfl, rfl⟩
        go_wp2
        go_ret
        exact ⟨ret_bool HD2.out.symm, hE2⟩
      · go_enter Try.func135, Try.ntmps135
        go_wp2_with fail
        go_quiet (fail)
        go_wp2
        go_ret
        refine ⟨ret_bool ?_, Ext.drewN (Ext.new w _) _⟩
        rw [HD.out]; simp [ht2]
    · go_enter Try.func135, Try.ntmps135
      go_wp2_with fail
      go_quiet (fail)
      go_wp2
      go_ret
      refine ⟨ret_bool ?_, Ext.drewN (Ext.new w _) _⟩
      rw [HD.out]; simp [ht1]
end Go.Proofs.Ytpjkicbahocnlaa
