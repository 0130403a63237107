import Derived.Test.YtpiopalfnjohfaaHead
set_option linter.unusedVariables false
set_option linter.unusedSimpArgs false
set_option linter.unnecessarySimpa false
namespace Go.Proofs.Ytpiopalfnjohfaa
open Go.RowKit

/-- A number and whether it counts. -/
def NumRet (e : Ending) : Prop := ∃ (n : Int) (b : Bool), e = .returned (.tuple #[.int .i64 n, .bool b])
theorem numRet_mk (n : Int) (b : Bool) : NumRet (.returned (.tuple #[.int .i64 n, .bool b])) := ⟨n, b, rfl⟩

set_option maxHeartbeats 1000000 in
theorem number_some (s : ByteArray) (w : World) (hs : s.size ≤ 1000000000) :
    Calls Try.prog 103 #[.string s] w fun e w' => NumRet e ∧ w' = w := by
  by_cases h1 : s.size < 1
  · go_enter Try.func103, Try.ntmps103
    go_wp2_with fail
    go_ret2
    exact ⟨numRet_mk _ _, rfl⟩
  by_cases h6 : 6 < s.size
  · go_enter Try.func103, Try.ntmps103
    go_wp2_with fail
    go_ret2
    exact ⟨numRet_mk _ _, rfl⟩
  have hor : (decide ((s.size : Int) < 1) || decide (6 < (s.size : Int))) = false := by simp; omega
  go_enter Try.func103, Try.ntmps103
  go_wp2_with fail
  go_loop [4, 5] (fun n i => ∃ (k : Nat) (v : Int), k ≤ s.size ∧ i = .int .i64 k ∧ n = .int .i64 v) (fun _ i => s.size - (intOf i).toNat)
  case atStart => exact ⟨0, 0, Nat.zero_le _, rfl, rfl⟩
  case round =>
    obtain ⟨k, v, hk, rfl, rfl⟩ := hrel
    by_cases hlt : k < s.size
    · go_wp2_with fail
      all_goals first
        | (go_ret2; exact ⟨numRet_mk _ _, rfl⟩)
        | exact ⟨⟨k + 1, _, by omega, by go_num, rfl⟩, by simp [intOf]; omega⟩
    · go_wp2_with fail
      go_ret2
      exact ⟨numRet_mk _ _, rfl⟩

set_option maxHeartbeats 1000000 in
theorem findDash_some (s : ByteArray) (w : World) (hs : s.size ≤ 1000000000) :
    Calls Try.prog 90 #[.string s] w fun e w' => ∃ n : Int, e = .returned (.int .i64 n) ∧ w' = w ∧ -1 ≤ n ∧ n < s.size := by
  go_enter Try.func90, Try.ntmps90
  go_wp2_with fail
  go_loop [3] (fun i => ∃ k : Nat, k ≤ s.size ∧ i = .int .i64 k) (fun i => s.size - (intOf i).toNat)
  case atStart => exact ⟨0, Nat.zero_le _, rfl⟩
  case round =>
    obtain ⟨k, hk, rfl⟩ := hrel
    by_cases hlt : k < s.size
    · by_cases h6 : k ≤ 6
      · go_wp2_with fail
        all_goals first
          | (go_ret; exact ⟨_, rfl, rfl, by omega, by omega⟩)
          | exact ⟨⟨k + 1, by omega, by go_num⟩, by simp [intOf]; omega⟩
      · go_wp2_with fail
        go_ret
        exact ⟨_, rfl, rfl, by omega, by omega⟩
    · have hd : decide ((k : Int) < (s.size : Int)) = false := by simp; omega
      go_wp2_with fail
      go_ret
      exact ⟨_, rfl, rfl, by omega, by omega⟩

def SpanRet (e : Ending) : Prop := ∃ a b c : Int, e = .returned (.agg #[.int .i64 a, .int .i64 b, .int .i64 c])
theorem spanRet_mk (a b c : Int) : SpanRet (.returned (.agg #[.int .i64 a, .int .i64 b, .int .i64 c])) := ⟨a, b, c, rfl⟩

set_option maxRecDepth 100000 in
set_option maxHeartbeats 2000000 in
theorem between_some (f u : ByteArray) (w : World) (hf : f.size ≤ 1000000000) (hu : u.size ≤ 1000000000) :
    Calls Try.prog 91 #[.string f, .string u] w fun e w' => SpanRet e ∧ Ext w w' := by
  go_enter Try.func91, Try.ntmps91
  go_wp2_with fail
  refine (number_some f _ hf).mono ?_
  rintro e w1 ⟨⟨n1, c1, rfl⟩, rfl⟩
  go_wp2_with fail
  refine (number_some u _ hu).mono ?_
  rintro e w1 ⟨⟨n2, c2, rfl⟩, rfl⟩
  cases c1
  all_goals cases c2
  all_goals cases hfe : f.toList.isEmpty
  all_goals cases hue : u.toList.isEmpty
  all_goals by_cases hle : n1 ≤ n2
  all_goals go_wp2_with fail
  all_goals first
    | (refine bodyPost_ret (v := .agg #[.int .i64 1, .int .i64 n1, .int .i64 n2]) ?_ rfl ⟨spanRet_mk _ _ _, ?_⟩
       · (simp [results, Try.results91, go_sem]; done)
       · ((with_reducible repeat (first | refine Below.drew ?_ | refine Below.alloc ?_ ?_ _ | refine Below.setCell ?_ ?_ _ | exact Below.refl _ _)) <;> simp))
    | (refine bodyPost_ret (v := .agg #[.int .i64 2, .int .i64 n1, .int .i64 0]) ?_ rfl ⟨spanRet_mk _ _ _, ?_⟩
       · (simp [results, Try.results91, go_sem]; done)
       · ((with_reducible repeat (first | refine Below.drew ?_ | refine Below.alloc ?_ ?_ _ | refine Below.setCell ?_ ?_ _ | exact Below.refl _ _)) <;> simp))
    | (refine bodyPost_ret (v := .agg #[.int .i64 3, .int .i64 0, .int .i64 n2]) ?_ rfl ⟨spanRet_mk _ _ _, ?_⟩
       · (simp [results, Try.results91, go_sem]; done)
       · ((with_reducible repeat (first | refine Below.drew ?_ | refine Below.alloc ?_ ?_ _ | refine Below.setCell ?_ ?_ _ | exact Below.refl _ _)) <;> simp))
    | (refine bodyPost_ret (v := .agg #[.int .i64 0, .int .i64 0, .int .i64 0]) ?_ rfl ⟨spanRet_mk _ _ _, ?_⟩
       · (simp [results, Try.results91, go_sem]; done)
       · ((with_reducible repeat (first | refine Below.drew ?_ | refine Below.alloc ?_ ?_ _ | refine Below.setCell ?_ ?_ _ | exact Below.refl _ _)) <;> simp))

end Go.Proofs.Ytpiopalfnjohfaa

namespace Go.Proofs.Ytpiopalfnjohfaa
open Go.RowKit

set_option maxRecDepth 100000 in
set_option maxHeartbeats 2000000 in
theorem Read_some0 (s : ByteArray) (w : World) (hs : s.size ≤ 1000000000) (h6 : ¬ s.size < 6) (hpb : ((s.extract 0 6).toList == [98, 121, 116, 101, 115, 61]) = true) :
    Calls Try.prog 74 #[.string s] w fun e w' => SpanRet e ∧ Ext w w' := by
  have hts : (s.extract 6 s.size).size ≤ 1000000000 := by simp; omega
  go_enter Try.func74, Try.ntmps74
  go_wp2_with fail
  generalize s.extract 6 s.size = t at *
  refine (findDash_some t _ hts).mono ?_
  rintro e w' ⟨n, rfl, rfl, hn1, hn2⟩
  by_cases hneg : n < 0
  · go_wp2_with fail
    refine bodyPost_ret (v := .agg #[.int .i64 0, .int .i64 0, .int .i64 0]) ?_ rfl ⟨spanRet_mk _ _ _, ?_⟩
    · simp [results, Try.results74, go_sem]
    · (with_reducible repeat (first | refine Below.drew ?_ | refine Below.alloc ?_ ?_ _ | refine Below.setCell ?_ ?_ _ | exact Below.refl _ _)) <;> simp
  · obtain ⟨K, rfl⟩ := Int.eq_ofNat_of_zero_le (show 0 ≤ n by omega)
    have hfs : (t.extract 0 K).size ≤ 1000000000 := by simp; omega
    have hus : (t.extract (K + 1) t.size).size ≤ 1000000000 := by simp; omega
    go_wp2_with fail
    have q1 : K ≤ t.size := by omega
    have q2 : (K : Int) + 1 ≤ t.size := by omega
    have q3 : 0 ≤ (K : Int) + 1 := by omega
    have q4 : 0 ≤ (K : Int) + 1 ∧ (K : Int) + 1 ≤ t.size := ⟨q3, q2⟩
    have q5 : IntKind.i64.wrap ((K : Int) + 1) = (K : Int) + 1 := (Go.IntWalk.i64_left _).trans (Go.IntWalk.wrap64_in _ (by omega))
    go_region_with (go_at_call 91; refine (between_some (t.extract 0 K) (t.extract (K + 1) t.size) _ hfs hus).mono ?_; rintro e w2 ⟨⟨a, b, c, rfl⟩, hE⟩; have hB2 := (Blk.new w 75 #[.int .i64 0, .int .i64 0, .int .i64 0]).ext hE.undrew; have k0 : w2.cell? ⟨w.heap.size, 0, none⟩ = some (.int .i64 0) := hB2.cell 0; have k1 : w2.cell? ⟨w.heap.size, 1, none⟩ = some (.int .i64 0) := hB2.cell 1; have k2 : w2.cell? ⟨w.heap.size, 2, none⟩ = some (.int .i64 0) := hB2.cell 2; have kf := hB2.frozen)
    all_goals go_wp2_with fail
    all_goals refine bodyPost_ret (v := .agg #[.int .i64 a, .int .i64 b, .int .i64 c]) ?_ rfl ⟨spanRet_mk _ _ _, ?_⟩
    all_goals first
      | (simp [results, Try.results74, go_sem, k0, k1, k2, kf]; done)
      | skip
    all_goals
      (have hX : Ext w w2 := Ext.trans' (Ext.new w _) hE.undrew
       (with_reducible repeat (first | refine Below.drew ?_ | refine Below.setCell ?_ ?_ _ | exact hX)) <;> simp)

set_option maxHeartbeats 2000000 in
theorem Read_some (s : ByteArray) (w : World) (hs : s.size ≤ 1000000000) :
    Calls Try.prog 74 #[.string s] w fun e w' => SpanRet e ∧ Ext w w' := by
  by_cases h6 : s.size < 6
  · go_enter Try.func74, Try.ntmps74
    go_wp2
    refine bodyPost_ret (v := .agg #[.int .i64 0, .int .i64 0, .int .i64 0]) ?_ rfl ⟨spanRet_mk _ _ _, ?_⟩
    · simp [results, Try.results74, go_sem]
    · (with_reducible repeat (first | refine Below.drew ?_ | refine Below.alloc ?_ ?_ _ | refine Below.setCell ?_ ?_ _ | exact Below.refl _ _)) <;> simp
  · cases hpb : ((s.extract 0 6).toList == [98, 121, 116, 101, 115, 61])
    · go_enter Try.func74, Try.ntmps74
      go_wp2
      refine bodyPost_ret (v := .agg #[.int .i64 0, .int .i64 0, .int .i64 0]) ?_ rfl ⟨spanRet_mk _ _ _, ?_⟩
      · simp [results, Try.results74, go_sem]
      · (with_reducible repeat (first | refine Below.drew ?_ | refine Below.alloc ?_ ?_ _ | refine Below.setCell ?_ ?_ _ | exact Below.refl _ _)) <;> simp
    · exact Read_some0 s w hs h6 hpb
end Go.Proofs.Ytpiopalfnjohfaa
