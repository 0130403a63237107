import Derived.Test.YtjhihliciadipabGreatKit
set_option linter.unusedVariables false
set_option linter.unusedSimpArgs false
set_option linter.unnecessarySimpa false
namespace Go.Proofs.YtjhihliciadipabGreat
open Go.RowKit

def isDig (c : UInt8) : Bool := decide (48 ≤ (c.toNat : Int)) && decide ((c.toNat : Int) ≤ 57)
def digitsL (s : ByteArray) : Bool := s.data.toList.all isDig && decide ((s.size : Int) ≤ 6)
def valStep (v : Int) (c : UInt8) : Int := wrap64 (wrap64 (wrap64 (10 * v) + c.toNat) - 48)
def valueL (s : ByteArray) : Int := s.data.toList.foldl valStep 0
def signTo (s : ByteArray) (k : Nat) : Prop := ∀ j : Nat, j < k → ∀ h : j < s.size, s[j].toNat ≠ 45

set_option maxHeartbeats 400000 in
theorem value_any (s : ByteArray) (w : World) (hs : s.size ≤ maxLen) :
    Calls Tryz.prog 81 #[.string s] w fun e w' => e = .returned (.int .i64 (valueL s)) ∧ w' = w := by
  unfold maxLen at hs
  go_enter Tryz.func81, Tryz.ntmps81
  go_wp2
  go_loop [3, 4] (fun n i => ∃ k : Nat, k ≤ s.size ∧ i = .int .i64 k ∧ n = .int .i64 ((s.data.toList.take k).foldl valStep 0)) (fun _ i => s.size - (intOf i).toNat)
  case atStart => exact ⟨0, Nat.zero_le _, rfl, rfl⟩
  case round =>
    obtain ⟨k, hk, rfl, rfl⟩ := hrel
    by_cases hlt : k < s.size
    · have HS : Hid ((s.data.toList.take (k + 1)).foldl valStep 0 = valStep ((s.data.toList.take k).foldl valStep 0) s[k]) := by
        show _ = _
        rw [take_snoc s k hlt, List.foldl_append]; rfl
      generalize (s.data.toList.take k).foldl valStep 0 = V at *
      go_wp2
      exact ⟨⟨k + 1, by omega, by go_num, by rw [HS.out, wrap_byte]; rfl⟩, by simp [intOf]; omega⟩
    · go_wp2
      go_ret
      exact ⟨ret_int (by rw [valueL, take_all s k (by omega)]), rfl⟩

set_option maxHeartbeats 400000 in
theorem digits_any (s : ByteArray) (w : World) (hs : s.size ≤ maxLen) :
    Calls Tryz.prog 80 #[.string s] w fun e w' => e = .returned (.bool (digitsL s)) ∧ w' = w := by
  unfold maxLen at hs
  go_enter Tryz.func80, Tryz.ntmps80
  go_wp2
  go_loop [3] (fun i => ∃ k : Nat, k ≤ s.size ∧ i = .int .i64 k ∧ Hid ((s.data.toList.take k).all isDig = true)) (fun i => s.size - (intOf i).toNat)
  case atStart => exact ⟨0, Nat.zero_le _, rfl, by show _ = _; simp⟩
  case round =>
    obtain ⟨k, hk, rfl, HA⟩ := hrel
    by_cases hlt : k < s.size
    · have HS : Hid ((s.data.toList.take (k + 1)).all isDig = ((s.data.toList.take k).all isDig && isDig s[k])) := all_snoc s k hlt _
      have HF : Hid (isDig s[k] = false → false = digitsL s) := by
        intro hf
        unfold digitsL
        cases hall : s.data.toList.all isDig
        · rfl
        · have := all_of_take s (k + 1) isDig hall
          rw [HS.out, hf] at this; simp at this
      go_wp2
      · go_ret
        exact ⟨ret_bool (HF.out (by unfold isDig; simp; omega)), rfl⟩
      · exact ⟨⟨k + 1, by omega, by go_num, by show _ = _; rw [HS.out, HA.out]; unfold isDig; simp; omega⟩, by simp [intOf]; omega⟩
      · go_ret
        exact ⟨ret_bool (HF.out (by unfold isDig; simp; omega)), rfl⟩
    · go_wp2
      go_ret
      exact ⟨ret_bool (by have := HA.out; rw [take_all s k (by omega)] at this; simp [digitsL, this]), rfl⟩

/-- The place of the first sign, or -1. -/
def signL (s : ByteArray) : Int := match s.data.toList.findIdx? (fun c => c.toNat == 45) with | some i => i | none => -1

set_option maxHeartbeats 400000 in
theorem sign_any (s : ByteArray) (w : World) (hs : s.size ≤ maxLen) :
    Calls Tryz.prog 79 #[.string s] w fun e w' => e = .returned (.int .i64 (signL s)) ∧ w' = w := by
  unfold maxLen at hs
  go_enter Tryz.func79, Tryz.ntmps79
  go_wp2
  go_loop [3] (fun i => ∃ k : Nat, k ≤ s.size ∧ i = .int .i64 k ∧ Hid (∀ j (h : j < s.data.toList.length), j < k → (s.data.toList[j].toNat == 45) = false)) (fun i => s.size - (intOf i).toNat)
  case atStart => exact ⟨0, Nat.zero_le _, rfl, fun j h hj => absurd hj (by omega)⟩
  case round =>
    obtain ⟨k, hk, rfl, HA⟩ := hrel
    by_cases hlt : k < s.size
    · go_wp2
      · have h45 : ((s[k].toNat : Int) == 45) = true := by assumption
        go_ret
        refine ⟨ret_int ?_, rfl⟩
        have h2 : (s.data.toList.findIdx? (fun c => c.toNat == 45)) = some k := by
          rw [List.findIdx?_eq_some_iff_getElem]
          refine ⟨by simpa using hlt, ?_, fun j hj => ?_⟩
          · have : s.data.toList[k]'(by simpa using hlt) = s[k] := rfl
            rw [this]; have h5 := beq_iff_eq.1 h45; exact beq_iff_eq.2 (by omega)
          · rw [HA.out j _ hj]; simp
        simp [signL, h2]
      · rename_i h45
        refine ⟨⟨k + 1, by omega, by go_num, fun j h hj => ?_⟩, by simp [intOf]; omega⟩
        by_cases hjk : j < k
        · exact HA.out j h hjk
        · have : j = k := by omega
          subst this
          have : s.data.toList[j] = s[j] := rfl
          rw [this]; have h5 := beq_eq_false_iff_ne.1 h45; exact beq_eq_false_iff_ne.2 (by omega)
    · go_wp2
      go_ret
      refine ⟨ret_int ?_, rfl⟩
      have h2 : (s.data.toList.findIdx? (fun c => c.toNat == 45)) = none := by
        rw [List.findIdx?_eq_none_iff]
        intro x hx
        obtain ⟨j, hj, rfl⟩ := List.getElem_of_mem hx
        exact HA.out j hj (by simp at hj; omega)
      simp [signL, h2]

set_option maxHeartbeats 400000 in
theorem in_any (l : List Int) (v : Value) (x : Int) (w : World) (hl : l.length ≤ maxLen) (base : Nat)
    (ho : w.ownsRow base 3 1 v l.length (l.map (.int .i64))) :
    Calls Tryz.prog 98 #[v, .int .i64 x] w fun e w' => e = .returned (.bool (decide (x ∈ l))) ∧ w' = w := by
  unfold maxLen at hl
  obtain ⟨a, cap, rfl, hg⟩ := own_form ho
  go_enter Tryz.func98, Tryz.ntmps98
  go_wp2
  go_loop [5] (fun i => ∃ k : Nat, k ≤ l.length ∧ i = .int .i64 k ∧ Hid (x ∉ l.take k)) (fun i => l.length - (intOf i).toNat)
  case atStart => exact ⟨0, Nat.zero_le _, rfl, by show _ ∉ _; simp⟩
  case round =>
    obtain ⟨k, hk, rfl, HA⟩ := hrel
    by_cases hlt : k < l.length
    · obtain ⟨g, rfl⟩ := hg (by omega)
      have hck : w.cell? ⟨g, k, none⟩ = some (.int .i64 l[k]) := by
        rw [ho.cellAt k (by omega)]; simp [hlt]
      clear hg
      go_wp2
      · have h : (l[k] == x) = true := by assumption
        go_ret
        exact ⟨ret_bool (by symm; rw [decide_eq_true_iff, ← beq_iff_eq.1 h]; exact List.getElem_mem _), rfl⟩
      · rename_i h
        refine ⟨⟨k + 1, by omega, by go_num, ?_⟩, by simp [intOf]; omega⟩
        show _ ∉ _
        rw [List.take_succ_eq_append_getElem hlt, List.mem_append]
        rintro (h1 | h1)
        · exact HA.out h1
        · have h5 := beq_eq_false_iff_ne.1 h; exact h5 (List.mem_singleton.1 h1).symm
    · go_wp2
      go_ret
      exact ⟨ret_bool (by symm; rw [decide_eq_false_iff_not]; have := HA.out; rwa [List.take_of_length_le (by omega)] at this), rfl⟩
end Go.Proofs.YtjhihliciadipabGreat

namespace Go.Proofs.YtjhihliciadipabGreat
open Go.RowKit

set_option maxHeartbeats 1000000 in
@[go_sem] theorem eqVer (d : Nat) (a0 a1 b0 b1 : Int) (w : World) : (Op.equalIn (d + 2) 115 (.agg #[.int .i64 a0, .int .i64 a1]) (.agg #[.int .i64 b0, .int .i64 b1])).run Tryz.prog w = .ok (a0 == b0 && a1 == b1) w := by
  have u3 := Tryz.underlying3
  have ag3 := Tryz.isAgg3
  have z3 := Tryz.sizeOf3
  have hS : Tryz.prog.underlying 115 = some (.struct (Tryz.prog.fieldsOf 115)) := by kernel_rfl
  have hp : Tryz.prog.stoodInHeld 115 = false := by kernel_rfl
  rw [show d + 2 = (d + 1) + 1 from rfl, run_equalIn_agg w (d + 1) 115 _ _ hS hp]
  simp only [Program.fieldsOf, Tryz.underlying115]
  go_simp
  by_cases h0 : a0 = b0 <;> by_cases h1 : a1 = b1 <;> simp [h0, h1]
@[go_sem] theorem eqVer' (a0 a1 b0 b1 : Int) (w : World) : (Op.equalIn 10000 115 (.agg #[.int .i64 a0, .int .i64 a1]) (.agg #[.int .i64 b0, .int .i64 b1])).run Tryz.prog w = .ok (a0 == b0 && a1 == b1) w := eqVer 9998 _ _ _ _ w

set_option maxHeartbeats 1000000 in
@[go_sem] theorem eqEntry (d : Nat) (a0 a1 a2 a3 b0 b1 b2 b3 : Int) (w : World) : (Op.equalIn (d + 2) 42 (.agg #[.int .i64 a0, .int .i64 a1, .int .i64 a2, .int .i64 a3]) (.agg #[.int .i64 b0, .int .i64 b1, .int .i64 b2, .int .i64 b3])).run Tryz.prog w = .ok (a0 == b0 && a1 == b1 && a2 == b2 && a3 == b3) w := by
  have u3 := Tryz.underlying3
  have ag3 := Tryz.isAgg3
  have z3 := Tryz.sizeOf3
  have hS : Tryz.prog.underlying 42 = some (.struct (Tryz.prog.fieldsOf 42)) := by kernel_rfl
  have hp : Tryz.prog.stoodInHeld 42 = false := by kernel_rfl
  rw [show d + 2 = (d + 1) + 1 from rfl, run_equalIn_agg w (d + 1) 42 _ _ hS hp]
  simp only [Program.fieldsOf, Tryz.underlying42]
  go_simp
  by_cases h0 : a0 = b0 <;> by_cases h1 : a1 = b1 <;> by_cases h2 : a2 = b2 <;> by_cases h3 : a3 = b3 <;> simp [h0, h1, h2, h3]
@[go_sem] theorem eqEntry' (a0 a1 a2 a3 b0 b1 b2 b3 : Int) (w : World) : (Op.equalIn 10000 42 (.agg #[.int .i64 a0, .int .i64 a1, .int .i64 a2, .int .i64 a3]) (.agg #[.int .i64 b0, .int .i64 b1, .int .i64 b2, .int .i64 b3])).run Tryz.prog w = .ok (a0 == b0 && a1 == b1 && a2 == b2 && a3 == b3) w := eqEntry 9998 _ _ _ _ _ _ _ _ w

set_option maxHeartbeats 1000000 in
@[go_sem] theorem eqJob (a b : Bool) (a1 a2 a3 a4 b1 b2 b3 b4 : Int) (w : World) : (Op.equalIn 10000 124 (.agg #[.bool a, .int .i64 a1, .int .i64 a2, .int .i64 a3, .int .i64 a4]) (.agg #[.bool b, .int .i64 b1, .int .i64 b2, .int .i64 b3, .int .i64 b4])).run Tryz.prog w
    = .ok (a == b && a1 == b1 && (a2 == b2 && a3 == b3) && a4 == b4) w := by
  have u3 := Tryz.underlying3
  have a3' := Tryz.isAgg3
  have z3 := Tryz.sizeOf3
  have u4 := Tryz.underlying4
  have a4' := Tryz.isAgg4
  have z4 := Tryz.sizeOf4
  have a5' := Tryz.isAgg115
  have z5 := Tryz.sizeOf115
  have hS : Tryz.prog.underlying 124 = some (.struct (Tryz.prog.fieldsOf 124)) := by kernel_rfl
  have hp : Tryz.prog.stoodInHeld 124 = false := by kernel_rfl
  rw [show (10000 : Nat) = 9999 + 1 from rfl, run_equalIn_agg w 9999 124 _ _ hS hp]
  simp only [Program.fieldsOf, Tryz.underlying124]
  rw [show (9999 : Nat) = 9997 + 2 from rfl]
  go_simp
  cases a <;> cases b <;> by_cases h1 : a1 = b1 <;> by_cases h2 : a2 = b2 <;> by_cases h3 : a3 = b3 <;> by_cases h4 : a4 = b4 <;> simp [h1, h2, h3, h4]
end Go.Proofs.YtjhihliciadipabGreat
