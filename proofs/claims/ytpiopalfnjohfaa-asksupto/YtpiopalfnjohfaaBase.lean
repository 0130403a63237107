import Derived.Test.YtpiopalfnjohfaaRows
import Derived.WalkKit
import Derived.WalkSpells
import Derived.WalkLawsBesides
import Derived.Laws.StructEq
import Derived.Laws.Tables
import Derived.KernelRfl
set_option linter.unusedVariables false
set_option linter.unusedSimpArgs false
set_option linter.unnecessarySimpa false
namespace Go.Proofs.Ytpiopalfnjohfaa
open Go.RowKit

theorem ret_int {k : IntKind} {a b : Int} (h : a = b) : Ending.returned (.int k a) = .returned (.int k b) := by rw [h]
theorem ret_bool {a b : Bool} (h : a = b) : Ending.returned (.bool a) = .returned (.bool b) := by rw [h]
theorem hide {p : Prop} (h : p) : Hid p := h
theorem wrap_byte (c : UInt8) : wrap64 (c.toNat : Int) = c.toNat := Go.IntWalk.wrap64_in _ (by have := c.toNat_lt; omega)

theorem take_snoc (s : ByteArray) (k : Nat) (h : k < s.size) : s.data.toList.take (k + 1) = s.data.toList.take k ++ [s[k]] := by
  rw [List.take_succ_eq_append_getElem (by simpa using h)]; rfl
theorem all_snoc (s : ByteArray) (k : Nat) (h : k < s.size) (p : UInt8 → Bool) : (s.data.toList.take (k + 1)).all p = ((s.data.toList.take k).all p && p s[k]) := by
  rw [take_snoc s k h]; simp
theorem all_of_take (s : ByteArray) (k : Nat) (p : UInt8 → Bool) (h : s.data.toList.all p = true) : (s.data.toList.take k).all p = true := by
  rw [List.all_eq_true] at h ⊢
  intro x hx; exact h x (List.mem_of_mem_take hx)
theorem take_all (s : ByteArray) (k : Nat) (h : s.size ≤ k) : s.data.toList.take k = s.data.toList := List.take_of_length_le (by simpa using h)

/-- An owned slice, nil or not: its value's form. -/
theorem own_form {w : World} {base : Nat} {e : TypeId} {sz : Nat} {v : Value} {n : Nat} {xs : List Value} (h : w.ownsRow base e sz v n xs) :
    ∃ a cap, v = .slice a n cap ∧ (0 < n → ∃ g, a = some ⟨g, 0, none⟩) := by
  rcases h.2 with ⟨rfl, rfl⟩ | ⟨g, cap, cur, rfl, -, -, -⟩
  · exact ⟨none, 0, rfl, fun h => absurd h (by omega)⟩
  · exact ⟨_, cap, rfl, fun _ => ⟨g, rfl⟩⟩

theorem own_base {w : World} {base base' : Nat} {e : TypeId} {sz : Nat} {v : Value} {n : Nat} {xs : List Value} (h : w.ownsRow base e sz v n xs) (hb : base' ≤ base) :
    w.ownsRow base' e sz v n xs := by
  refine ⟨h.1, ?_⟩
  rcases h.2 with hn | ⟨g, cap, cur, hv, hg, rest⟩
  · exact .inl hn
  · exact .inr ⟨g, cap, cur, hv, by omega, rest⟩

/-- Of what was there, all that lies outside S is as it was; more may have come. -/
structure Chg (S : Nat → Prop) (w w' : World) : Prop where
  os : w'.os = w.os
  tape : w'.tape = w.tape
  output : w'.output = w.output
  size : w.heap.size ≤ w'.heap.size
  block : ∀ k, k < w.heap.size → ¬ S k → w'.heap[k]? = w.heap[k]?

/-- Nothing that was there has turned. -/
abbrev Ext (w w' : World) : Prop := Below w.heap.size w w'

theorem Chg.refl (S : Nat → Prop) (w : World) : Chg S w w := ⟨rfl, rfl, rfl, Nat.le_refl _, fun _ _ _ => rfl⟩
theorem Chg.trans {S : Nat → Prop} {a b c : World} (h : Chg S a b) (k : Chg S b c) : Chg S a c :=
  ⟨k.os.trans h.os, k.tape.trans h.tape, k.output.trans h.output, Nat.le_trans h.size k.size,
    fun i hi hs => (k.block i (Nat.lt_of_lt_of_le hi h.size) hs).trans (h.block i hi hs)⟩
theorem Chg.mono {S T : Nat → Prop} {a b : World} (h : Chg S a b) (hst : ∀ k, k < a.heap.size → S k → T k) : Chg T a b :=
  ⟨h.os, h.tape, h.output, h.size, fun i hi hs => h.block i hi (fun x => hs (hst i hi x))⟩
theorem Chg.of_ext {S : Nat → Prop} {a b : World} (h : Ext a b) : Chg S a b := ⟨h.os, h.tape, h.output, h.size, fun k hk _ => h.block k hk⟩
theorem Chg.of_grown {S : Nat → Prop} {a b : World} {row : Option Nat} (h : a.grownBy b row) (hr : ∀ k, row = some k → S k) : Chg S a b :=
  ⟨h.os, h.tape, h.output, h.size, fun k hk hs => h.block k hk (fun e => hs (hr k e.symm))⟩
theorem Chg.trans' {S : Nat → Prop} {a b c : World} (h : Chg S a b) (k : Chg (fun k => S k ∨ a.heap.size ≤ k) b c) : Chg S a c :=
  ⟨k.os.trans h.os, k.tape.trans h.tape, k.output.trans h.output, Nat.le_trans h.size k.size,
    fun i hi hs => (k.block i (Nat.lt_of_lt_of_le hi h.size) (fun x => by rcases x with x | x; exact hs x; omega)).trans (h.block i hi hs)⟩
theorem Chg.setCell {S : Nat → Prop} {a b : World} (h : Chg S a b) {p : Addr} (hp : S p.block ∨ a.heap.size ≤ p.block) (u : Value) : Chg S a (b.setCell p u) :=
  h.trans' ⟨rfl, rfl, rfl, by simp [World.setCell], fun k hk hs => Below.heap_setCell _ _ _ _ (by rintro rfl; exact hs hp)⟩
theorem Chg.alloc {S : Nat → Prop} {a b : World} (h : Chg S a b) (o : Obj) : Chg S a (b.alloc o) :=
  h.trans ⟨rfl, rfl, rfl, by simp, fun k hk _ => Below.heap_alloc _ _ _ hk⟩
theorem Ext.undrew {w w' : World} (h : Ext w.drew w') : Ext w w' := ⟨h.os, h.tape, h.output, h.size, h.block⟩
theorem Ext.drewN {w w' : World} (h : Ext w w') (n : Nat) : Ext w (w'.drewN n) := ⟨h.os, h.tape, h.output, h.size, h.block⟩
theorem Ext.undrewN {w w' : World} {n : Nat} (h : Ext (w.drewN n) w') : Ext w w' := ⟨h.os, h.tape, h.output, h.size, h.block⟩
theorem Ext.trans' {a b c : World} (h : Ext a b) (k : Ext b c) : Ext a c := h.trans (k.mono h.size)
theorem Chg.ext {S : Nat → Prop} {a b c : World} (h : Chg S a b) (k : Ext b c) : Chg S a c := h.trans (Chg.of_ext k)

/-- An owned slice outside what changed stays owned. -/
theorem own_chg {S : Nat → Prop} {w w' : World} {base : Nat} {e : TypeId} {sz : Nat} {v : Value} {n : Nat} {xs : List Value} (h : w.ownsRow base e sz v n xs)
    (hc : Chg S w w') (hs : ∀ k, v.ownBlock = some k → ¬ S k) : w'.ownsRow base e sz v n xs := by
  refine ⟨h.1, ?_⟩
  rcases h.2 with hn | ⟨g, cap, cur, rfl, hb, hgg, rest⟩
  · exact .inl hn
  · exact .inr ⟨g, cap, cur, rfl, hb, by rw [hc.block g (Array.getElem?_eq_some_iff.1 hgg).1 (hs g rfl)]; exact hgg, rest⟩
theorem own_ext {w w' : World} {base : Nat} {e : TypeId} {sz : Nat} {v : Value} {n : Nat} {xs : List Value} (h : w.ownsRow base e sz v n xs)
    (hc : Ext w w') : w'.ownsRow base e sz v n xs := own_chg (S := fun _ => False) h (Chg.of_ext hc) (fun _ _ => id)
theorem chg_cell {S : Nat → Prop} {w w' : World} (hc : Chg S w w') {p : Addr} {u : Value} (h : w.cell? p = some u) (hs : ¬ S p.block) : w'.cell? p = some u :=
  (World.cell?_of_block (hc.block p.block (World.block_lt_of_cell? w p h) hs)).trans h
theorem ext_cell {w w' : World} (hc : Ext w w') {p : Addr} {u : Value} (h : w.cell? p = some u) : w'.cell? p = some u :=
  chg_cell (S := fun _ => False) (Chg.of_ext hc) h id
/-- A block of cells, none of them frozen. -/
def Blk (w : World) (b : Nat) (T : TypeId) (arr : Array Value) : Prop := w.heap[b]? = some (.cells arr T (0, 0))
theorem Blk.cell {w : World} {b : Nat} {T : TypeId} {arr : Array Value} (h : Blk w b T arr) (i : Nat) : w.cell? ⟨b, i, none⟩ = arr[i]? := by
  unfold Blk at h; simp [World.cell?, h]
theorem Blk.frozen {w : World} {b : Nat} {T : TypeId} {arr : Array Value} (h : Blk w b T arr) (i : Nat) : w.frozen? ⟨b, i, none⟩ = false := by
  unfold Blk at h; simp [World.frozen?, h]
theorem Blk.lt {w : World} {b : Nat} {T : TypeId} {arr : Array Value} (h : Blk w b T arr) : b < w.heap.size := (Array.getElem?_eq_some_iff.1 h).1
theorem Blk.chg {S : Nat → Prop} {w w' : World} {b : Nat} {T : TypeId} {arr : Array Value} (h : Blk w b T arr) (hc : Chg S w w') (hs : ¬ S b) : Blk w' b T arr := by
  unfold Blk at *; rw [hc.block b (Array.getElem?_eq_some_iff.1 h).1 hs]; exact h
theorem Blk.ext {w w' : World} {b : Nat} {T : TypeId} {arr : Array Value} (h : Blk w b T arr) (hc : Ext w w') : Blk w' b T arr :=
  h.chg (S := fun _ => False) (Chg.of_ext hc) id
theorem Blk.new (w : World) (T : TypeId) (arr : Array Value) : Blk (w.alloc (.cells arr T)) w.heap.size T arr := by
  unfold Blk; exact heap_alloc_new w _
theorem Blk.set {w : World} {b : Nat} {T : TypeId} {arr : Array Value} (h : Blk w b T arr) (i : Nat) (u : Value) : Blk (w.setCell ⟨b, i, none⟩ u) b T (arr.setIfInBounds i u) := by
  unfold Blk at *; simp [World.setCell, Array.getElem?_modify, h]
theorem Blk.grown {w w' : World} {b : Nat} {T : TypeId} {arr : Array Value} {row : Option Nat} (h : Blk w b T arr) (hg : w.grownBy w' row) (hr : row ≠ some b) : Blk w' b T arr := by
  unfold Blk at *; rw [hg.block b (Array.getElem?_eq_some_iff.1 h).1 (fun e => hr e.symm)]; exact h
theorem Ext.new (w : World) (o : Obj) : Ext w (w.alloc o) := (Below.refl _ _).alloc (Nat.le_refl _) _
end Go.Proofs.Ytpiopalfnjohfaa

namespace Go.Proofs.Ytpiopalfnjohfaa
open Go.RowKit

def isDig (c : UInt8) : Bool := decide (48 ≤ (c.toNat : Int)) && decide ((c.toNat : Int) ≤ 57)
def digitsL (s : ByteArray) : Bool := s.data.toList.all isDig && decide ((s.size : Int) ≤ 6)
def valStep (v : Int) (c : UInt8) : Int := wrap64 (wrap64 (wrap64 (10 * v) + c.toNat) - 48)
def valueL (s : ByteArray) : Int := s.data.toList.foldl valStep 0
def signTo (s : ByteArray) (k : Nat) : Prop := ∀ j : Nat, j < k → ∀ h : j < s.size, s[j].toNat ≠ 45

set_option maxHeartbeats 400000 in
theorem value_any (s : ByteArray) (w : World) (hs : s.size ≤ maxLen) :
    Calls Try.prog 95 #[.string s] w fun e w' => e = .returned (.int .i64 (valueL s)) ∧ w' = w := by
  unfold maxLen at hs
  go_enter Try.func95, Try.ntmps95
  go_wp2
  go_loop [3, 4] (fun n i => ∃ k : Nat, k ≤ s.size ∧ i = .int .i64 k ∧ n = .int .i64 ((s.data.toList.take k).foldl valStep 0)) (fun _ i => s.size - (intOf i).toNat)
  case atStart => exact ⟨0, Nat.zero_le _, rfl, rfl⟩
  case round =>
    obtain ⟨k, hk, rfl, rfl⟩ := hrel
    by_cases hlt : k < s.size
    · have HS : Hid ((s.data.toList.take (k + 1)).foldl valStep 0 = valStep ((s.data.toList.take k).foldl valStep 0) s[k]) := by
        show _ = _
        rw [take_snoc s k hlt, List.foldl_append]; rfl
      generalize (s.data.toList.take k).foldl valStep 0 = V at *
      go_wp2
      exact ⟨⟨k + 1, by omega, by go_num, by rw [HS.out, wrap_byte]; rfl⟩, by simp [intOf]; omega⟩
    · go_wp2
      go_ret
      exact ⟨ret_int (by rw [valueL, take_all s k (by omega)]), rfl⟩

set_option maxHeartbeats 400000 in
theorem digits_any (s : ByteArray) (w : World) (hs : s.size ≤ maxLen) :
    Calls Try.prog 94 #[.string s] w fun e w' => e = .returned (.bool (digitsL s)) ∧ w' = w := by
  unfold maxLen at hs
  go_enter Try.func94, Try.ntmps94
  go_wp2
  go_loop [3] (fun i => ∃ k : Nat, k ≤ s.size ∧ i = .int .i64 k ∧ Hid ((s.data.toList.take k).all isDig = true)) (fun i => s.size - (intOf i).toNat)
  case atStart => exact ⟨0, Nat.zero_le _, rfl, by show _ = _; simp⟩
  case round =>
    obtain ⟨k, hk, rfl, HA⟩ := hrel
    by_cases hlt : k < s.size
    · have HS : Hid ((s.data.toList.take (k + 1)).all isDig = ((s.data.toList.take k).all isDig && isDig s[k])) := all_snoc s k hlt _
      have HF : Hid (isDig s[k] = false → false = digitsL s) := by
        intro hf
        unfold digitsL
        cases hall : s.data.toList.all isDig
        · rfl
        · have := all_of_take s (k + 1) isDig hall
          rw [HS.out, hf] at this; simp at this
      go_wp2
      · go_ret
        exact ⟨ret_bool (HF.out (by unfold isDig; simp; omega)), rfl⟩
      · exact ⟨⟨k + 1, by omega, by go_num, by show _ = _; rw [HS.out, HA.out]; unfold isDig; simp; omega⟩, by simp [intOf]; omega⟩
      · go_ret
        exact ⟨ret_bool (HF.out (by unfold isDig; simp; omega)), rfl⟩
    · go_wp2
      go_ret
      exact ⟨ret_bool (by have := HA.out; rw [take_all s k (by omega)] at this; simp [digitsL, this]), rfl⟩

/-- The place of the first sign, or -1. -/
def signL (s : ByteArray) : Int := match s.data.toList.findIdx? (fun c => c.toNat == 45) with | some i => i | none => -1

set_option maxHeartbeats 400000 in
theorem sign_any (s : ByteArray) (w : World) (hs : s.size ≤ maxLen) :
    Calls Try.prog 93 #[.string s] w fun e w' => e = .returned (.int .i64 (signL s)) ∧ w' = w := by
  unfold maxLen at hs
  go_enter Try.func93, Try.ntmps93
  go_wp2
  go_loop [3] (fun i => ∃ k : Nat, k ≤ s.size ∧ i = .int .i64 k ∧ Hid (∀ j (h : j < s.data.toList.length), j < k → (s.data.toList[j].toNat == 45) = false)) (fun i => s.size - (intOf i).toNat)
  case atStart => exact ⟨0, Nat.zero_le _, rfl, fun j h hj => absurd hj (by omega)⟩
  case round =>
    obtain ⟨k, hk, rfl, HA⟩ := hrel
    by_cases hlt : k < s.size
    · go_wp2
      · have h45 : ((s[k].toNat : Int) == 45) = true := by assumption
        go_ret
        refine ⟨ret_int ?_, rfl⟩
        have h2 : (s.data.toList.findIdx? (fun c => c.toNat == 45)) = some k := by
          rw [List.findIdx?_eq_some_iff_getElem]
          refine ⟨by simpa using hlt, ?_, fun j hj => ?_⟩
          · have : s.data.toList[k]'(by simpa using hlt) = s[k] := rfl
            rw [this]; have h5 := beq_iff_eq.1 h45; exact beq_iff_eq.2 (by omega)
          · rw [HA.out j _ hj]; simp
        simp [signL, h2]
      · rename_i h45
        refine ⟨⟨k + 1, by omega, by go_num, fun j h hj => ?_⟩, by simp [intOf]; omega⟩
        by_cases hjk : j < k
        · exact HA.out j h hjk
        · have : j = k := by omega
          subst this
          have : s.data.toList[j] = s[j] := rfl
          rw [this]; have h5 := beq_eq_false_iff_ne.1 h45; exact beq_eq_false_iff_ne.2 (by omega)
    · go_wp2
      go_ret
      refine ⟨ret_int ?_, rfl⟩
      have h2 : (s.data.toList.findIdx? (fun c => c.toNat == 45)) = none := by
        rw [List.findIdx?_eq_none_iff]
        intro x hx
        obtain ⟨j, hj, rfl⟩ := List.getElem_of_mem hx
        exact HA.out j hj (by simp at hj; omega)
      simp [signL, h2]

set_option maxHeartbeats 400000 in
theorem in_any (l : List Int) (v : Value) (x : Int) (w : World) (hl : l.length ≤ maxLen) (base : Nat)
    (ho : w.ownsRow base 3 1 v l.length (l.map (.int .i64))) :
    Calls Try.prog 102 #[v, .int .i64 x] w fun e w' => e = .returned (.bool (decide (x ∈ l))) ∧ w' = w := by
  unfold maxLen at hl
  obtain ⟨a, cap, rfl, hg⟩ := own_form ho
  go_enter Try.func102, Try.ntmps102
  go_wp2
  go_loop [5] (fun i => ∃ k : Nat, k ≤ l.length ∧ i = .int .i64 k ∧ Hid (x ∉ l.take k)) (fun i => l.length - (intOf i).toNat)
  case atStart => exact ⟨0, Nat.zero_le _, rfl, by show _ ∉ _; simp⟩
  case round =>
    obtain ⟨k, hk, rfl, HA⟩ := hrel
    by_cases hlt : k < l.length
    · obtain ⟨g, rfl⟩ := hg (by omega)
      have hck : w.cell? ⟨g, k, none⟩ = some (.int .i64 l[k]) := by
        rw [ho.cellAt k (by omega)]; simp [hlt]
      clear hg
      go_wp2
      · have h : (l[k] == x) = true := by assumption
        go_ret
        exact ⟨ret_bool (by symm; rw [decide_eq_true_iff, ← beq_iff_eq.1 h]; exact List.getElem_mem _), rfl⟩
      · rename_i h
        refine ⟨⟨k + 1, by omega, by go_num, ?_⟩, by simp [intOf]; omega⟩
        show _ ∉ _
        rw [List.take_succ_eq_append_getElem hlt, List.mem_append]
        rintro (h1 | h1)
        · exact HA.out h1
        · have h5 := beq_eq_false_iff_ne.1 h; exact h5 (List.mem_singleton.1 h1).symm
    · go_wp2
      go_ret
      exact ⟨ret_bool (by symm; rw [decide_eq_false_iff_not]; have := HA.out; rwa [List.take_of_length_le (by omega)] at this), rfl⟩
end Go.Proofs.Ytpiopalfnjohfaa

namespace Go.Proofs.Ytpiopalfnjohfaa
open Go.RowKit

set_option maxHeartbeats 1000000 in
@[go_sem] theorem eqVer (d : Nat) (a0 a1 b0 b1 : Int) (w : World) : (Op.equalIn (d + 2) 141 (.agg #[.int .i64 a0, .int .i64 a1]) (.agg #[.int .i64 b0, .int .i64 b1])).run Try.prog w = .ok (a0 == b0 && a1 == b1) w := by
  have u3 := Try.underlying3
  have ag3 := Try.isAgg3
  have z3 := Try.sizeOf3
  have hS : Try.prog.underlying 141 = some (.struct (Try.prog.fieldsOf 141)) := by kernel_rfl
  have hp : Try.prog.stoodInHeld 141 = false := by kernel_rfl
  rw [show d + 2 = (d + 1) + 1 from rfl, run_equalIn_agg w (d + 1) 141 _ _ hS hp]
  simp only [Program.fieldsOf, Try.underlying141]
  go_simp
  by_cases h0 : a0 = b0 <;> by_cases h1 : a1 = b1 <;> simp [h0, h1]
@[go_sem] theorem eqVer' (a0 a1 b0 b1 : Int) (w : World) : (Op.equalIn 10000 141 (.agg #[.int .i64 a0, .int .i64 a1]) (.agg #[.int .i64 b0, .int .i64 b1])).run Try.prog w = .ok (a0 == b0 && a1 == b1) w := eqVer 9998 _ _ _ _ w

set_option maxHeartbeats 1000000 in
@[go_sem] theorem eqEntry (d : Nat) (a0 a1 a2 a3 b0 b1 b2 b3 : Int) (w : World) : (Op.equalIn (d + 2) 92 (.agg #[.int .i64 a0, .int .i64 a1, .int .i64 a2, .int .i64 a3]) (.agg #[.int .i64 b0, .int .i64 b1, .int .i64 b2, .int .i64 b3])).run Try.prog w = .ok (a0 == b0 && a1 == b1 && a2 == b2 && a3 == b3) w := by
  have u3 := Try.underlying3
  have ag3 := Try.isAgg3
  have z3 := Try.sizeOf3
  have hS : Try.prog.underlying 92 = some (.struct (Try.prog.fieldsOf 92)) := by kernel_rfl
  have hp : Try.prog.stoodInHeld 92 = false := by kernel_rfl
  rw [show d + 2 = (d + 1) + 1 from rfl, run_equalIn_agg w (d + 1) 92 _ _ hS hp]
  simp only [Program.fieldsOf, Try.underlying92]
  go_simp
  by_cases h0 : a0 = b0 <;> by_cases h1 : a1 = b1 <;> by_cases h2 : a2 = b2 <;> by_cases h3 : a3 = b3 <;> simp [h0, h1, h2, h3]
@[go_sem] theorem eqEntry' (a0 a1 a2 a3 b0 b1 b2 b3 : Int) (w : World) : (Op.equalIn 10000 92 (.agg #[.int .i64 a0, .int .i64 a1, .int .i64 a2, .int .i64 a3]) (.agg #[.int .i64 b0, .int .i64 b1, .int .i64 b2, .int .i64 b3])).run Try.prog w = .ok (a0 == b0 && a1 == b1 && a2 == b2 && a3 == b3) w := eqEntry 9998 _ _ _ _ _ _ _ _ w

set_option maxHeartbeats 1000000 in
@[go_sem] theorem eqHead (d : Nat) (a0 a1 a2 a3 a4 b0 b1 b2 b3 b4 : Int) (w : World) : (Op.equalIn (d + 2) 41 (.agg #[.int .i64 a0, .int .i64 a1, .int .i64 a2, .int .i64 a3, .int .i64 a4]) (.agg #[.int .i64 b0, .int .i64 b1, .int .i64 b2, .int .i64 b3, .int .i64 b4])).run Try.prog w = .ok (a0 == b0 && a1 == b1 && a2 == b2 && a3 == b3 && a4 == b4) w := by
  have u3 := Try.underlying3
  have ag3 := Try.isAgg3
  have z3 := Try.sizeOf3
  have hS : Try.prog.underlying 41 = some (.struct (Try.prog.fieldsOf 41)) := by kernel_rfl
  have hp : Try.prog.stoodInHeld 41 = false := by kernel_rfl
  rw [show d + 2 = (d + 1) + 1 from rfl, run_equalIn_agg w (d + 1) 41 _ _ hS hp]
  simp only [Program.fieldsOf, Try.underlying41]
  go_simp
  by_cases h0 : a0 = b0 <;> by_cases h1 : a1 = b1 <;> by_cases h2 : a2 = b2 <;> by_cases h3 : a3 = b3 <;> by_cases h4 : a4 = b4 <;> simp [h0, h1, h2, h3, h4]
@[go_sem] theorem eqHead' (a0 a1 a2 a3 a4 b0 b1 b2 b3 b4 : Int) (w : World) : (Op.equalIn 10000 41 (.agg #[.int .i64 a0, .int .i64 a1, .int .i64 a2, .int .i64 a3, .int .i64 a4]) (.agg #[.int .i64 b0, .int .i64 b1, .int .i64 b2, .int .i64 b3, .int .i64 b4])).run Try.prog w = .ok (a0 == b0 && a1 == b1 && a2 == b2 && a3 == b3 && a4 == b4) w := eqHead 9998 _ _ _ _ _ _ _ _ _ _ w

set_option maxHeartbeats 1000000 in
@[go_sem] theorem eqFetch (d : Nat) (a0 a1 a2 a3 a4 b0 b1 b2 b3 b4 : Int) (w : World) : (Op.equalIn (d + 2) 33 (.agg #[.int .i64 a0, .int .i64 a1, .int .i64 a2, .int .i64 a3, .int .i64 a4]) (.agg #[.int .i64 b0, .int .i64 b1, .int .i64 b2, .int .i64 b3, .int .i64 b4])).run Try.prog w = .ok (a0 == b0 && a1 == b1 && a2 == b2 && a3 == b3 && a4 == b4) w := by
  have u3 := Try.underlying3
  have ag3 := Try.isAgg3
  have z3 := Try.sizeOf3
  have hS : Try.prog.underlying 33 = some (.struct (Try.prog.fieldsOf 33)) := by kernel_rfl
  have hp : Try.prog.stoodInHeld 33 = false := by kernel_rfl
  rw [show d + 2 = (d + 1) + 1 from rfl, run_equalIn_agg w (d + 1) 33 _ _ hS hp]
  simp only [Program.fieldsOf, Try.underlying33]
  go_simp
  by_cases h0 : a0 = b0 <;> by_cases h1 : a1 = b1 <;> by_cases h2 : a2 = b2 <;> by_cases h3 : a3 = b3 <;> by_cases h4 : a4 = b4 <;> simp [h0, h1, h2, h3, h4]
@[go_sem] theorem eqFetch' (a0 a1 a2 a3 a4 b0 b1 b2 b3 b4 : Int) (w : World) : (Op.equalIn 10000 33 (.agg #[.int .i64 a0, .int .i64 a1, .int .i64 a2, .int .i64 a3, .int .i64 a4]) (.agg #[.int .i64 b0, .int .i64 b1, .int .i64 b2, .int .i64 b3, .int .i64 b4])).run Try.prog w = .ok (a0 == b0 && a1 == b1 && a2 == b2 && a3 == b3 && a4 == b4) w := eqFetch 9998 _ _ _ _ _ _ _ _ _ _ w

set_option maxHeartbeats 1000000 in
@[go_sem] theorem eqJob (a b : Bool) (a1 a2 a3 a4 b1 b2 b3 b4 : Int) (w : World) : (Op.equalIn 10000 145 (.agg #[.bool a, .int .i64 a1, .int .i64 a2, .int .i64 a3, .int .i64 a4]) (.agg #[.bool b, .int .i64 b1, .int .i64 b2, .int .i64 b3, .int .i64 b4])).run Try.prog w
    = .ok (a == b && a1 == b1 && (a2 == b2 && a3 == b3) && a4 == b4) w := by
  have u3 := Try.underlying3
  have a3' := Try.isAgg3
  have z3 := Try.sizeOf3
  have u4 := Try.underlying4
  have a4' := Try.isAgg4
  have z4 := Try.sizeOf4
  have a5' := Try.isAgg141
  have z5 := Try.sizeOf141
  have hS : Try.prog.underlying 145 = some (.struct (Try.prog.fieldsOf 145)) := by kernel_rfl
  have hp : Try.prog.stoodInHeld 145 = false := by kernel_rfl
  rw [show (10000 : Nat) = 9999 + 1 from rfl, run_equalIn_agg w 9999 145 _ _ hS hp]
  simp only [Program.fieldsOf, Try.underlying145]
  rw [show (9999 : Nat) = 9997 + 2 from rfl]
  go_simp
  cases a <;> cases b <;> by_cases h1 : a1 = b1 <;> by_cases h2 : a2 = b2 <;> by_cases h3 : a3 = b3 <;> by_cases h4 : a4 = b4 <;> simp [h1, h2, h3, h4]
end Go.Proofs.Ytpiopalfnjohfaa
