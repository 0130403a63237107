import Derived.Test.YtjhihliciadipaaKit
set_option linter.unusedVariables false
set_option linter.unusedSimpArgs false
set_option linter.unnecessarySimpa false
namespace Go.Proofs.Ytjhihliciadipaa
open Go.RowKit

/-! The plays' numbers, as plain functions. -/
def pickK (c n : Int) : Int := (if c < 0 then -(c + 1) else c) % n
theorem pickK_bd (c n : Int) (hn : 1 ≤ n) : 0 ≤ pickK c n ∧ pickK c n < n := ⟨Int.emod_nonneg _ (by omega), Int.emod_lt_of_pos _ (by omega)⟩
structure I64 (c : Int) : Prop where
  lo : -9223372036854775808 ≤ c
  hi : c ≤ 9223372036854775807

theorem pickK_any (c n : Int) (w : World) (hc : I64 c) (hn : 1 ≤ n) (hn2 : n ≤ 1000) :
    Calls Try.prog 10 #[.int .i64 c, .int .i64 n] w fun e w' => e = .returned (.int .i64 (pickK c n)) ∧ w' = w := by
  have h1 := hc.lo
  have h2 := hc.hi
  have hz : (n == 0) = false := by simp; omega
  unfold pickK
  by_cases h0 : c < 0
  · rw [if_pos h0]
    have HT : Hid (-(c + 1).tmod n = -(c + 1) % n) := by show _ = _; rw [← Int.neg_tmod]; exact Int.tmod_eq_emod_of_nonneg (by omega)
    go_enter Try.func10, Try.ntmps10
    go_wp2_with fail
    go_ret
    exact ⟨ret_int HT.out, rfl⟩
  · rw [if_neg h0]
    go_enter Try.func10, Try.ntmps10
    go_wp2_with fail
    go_ret
    exact ⟨rfl, rfl⟩

/-- A slice of numbers, to be read. -/
def IntsAt (w : World) (v : Value) (l : List Int) : Prop := ∃ a cap, v = .slice a l.length cap ∧ l.length ≤ cap ∧ (l ≠ [] → ∃ ad, a = some ad ∧ ∀ (j : Nat) x, l[j]? = some x → w.cell? (ad.add j) = some (.int .i64 x))
def numK (l : List Int) (i : Nat) : Int := l.getD i 0

theorem numK_any (l : List Int) (v : Value) (i : Nat) (w : World) (hv : IntsAt w v l) (hl : l.length ≤ 17592186044416) (hi : i ≤ 1000) :
    Calls Try.prog 47 #[v, .int .i64 i] w fun e w' => e = .returned (.int .i64 (numK l i)) ∧ w' = w := by
  obtain ⟨a, cap, rfl, -, hc⟩ := hv
  by_cases h : i < l.length
  · obtain ⟨ad, rfl, hcell⟩ := hc (by intro e; rw [e] at h; simp at h)
    have c0 := hcell i l[i] (by simp [h])
    have HN : Hid (numK l i = l[i]) := by show _ = _; simp [numK, h]
    generalize l[i] = x at *
    clear hcell hc
    have h' : (i : Int) < l.length := by omega
    go_enter Try.func47, Try.ntmps47
    go_wp2_with fail
    go_ret
    exact ⟨ret_int HN.out.symm, rfl⟩
  · have HN : Hid (numK l i = 0) := by show _ = _; simp [numK]; rw [List.getElem?_eq_none (by omega)]; rfl
    clear hc
    have h' : (l.length : Int) ≤ i := by omega
    go_enter Try.func47, Try.ntmps47
    go_wp2_with fail
    go_ret
    exact ⟨ret_int HN.out.symm, rfl⟩

def totK (path tag : Int) : Int := (7 * path + 13 * tag) % 60
theorem totK_bd (path tag : Int) : 0 ≤ totK path tag ∧ totK path tag < 60 := ⟨Int.emod_nonneg _ (by omega), Int.emod_lt_of_pos _ (by omega)⟩
theorem totK_any (path tag : Int) (w : World) (h0 : 0 ≤ path) (h1 : path ≤ 1000) (h2 : 0 ≤ tag) (h3 : tag ≤ 1000) :
    Calls Try.prog 19 #[.int .i64 path, .int .i64 tag] w fun e w' => e = .returned (.int .i64 (totK path tag)) ∧ w' = w := by
  unfold totK
  go_enter Try.func19, Try.ntmps19
  go_wp2_with fail
  go_ret
  exact ⟨rfl, rfl⟩

/-- The byte of an honest object at a place. -/
def letK (path tag : Int) (i : Nat) : UInt8 := UInt8.ofNat (97 + ((3 * path + 5 * tag + 7 * i + i / 26) % 26).toNat)
def abc : ByteArray := { data := #[97, 98, 99, 100, 101, 102, 103, 104, 105, 106, 107, 108, 109, 110, 111, 112, 113, 114, 115, 116, 117, 118, 119, 120, 121, 122] }
theorem abc_get (k : Nat) (h : k < abc.size) : abc[k] = UInt8.ofNat (97 + k) := by
  have h26 : k < 26 := h
  have : k = 0 ∨ k = 1 ∨ k = 2 ∨ k = 3 ∨ k = 4 ∨ k = 5 ∨ k = 6 ∨ k = 7 ∨ k = 8 ∨ k = 9 ∨ k = 10 ∨ k = 11 ∨ k = 12 ∨ k = 13 ∨ k = 14 ∨ k = 15 ∨ k = 16 ∨ k = 17 ∨ k = 18 ∨ k = 19 ∨ k = 20 ∨ k = 21 ∨ k = 22 ∨ k = 23 ∨ k = 24 ∨ k = 25 := by omega
  rcases this with rfl | rfl | rfl | rfl | rfl | rfl | rfl | rfl | rfl | rfl | rfl | rfl | rfl | rfl | rfl | rfl | rfl | rfl | rfl | rfl | rfl | rfl | rfl | rfl | rfl | rfl <;> rfl

set_option maxHeartbeats 1000000 in
theorem letK_any (path tag : Int) (i : Nat) (w : World) (h0 : 0 ≤ path) (h1 : path ≤ 1000) (h2 : 0 ≤ tag) (h3 : tag ≤ 1000) (h4 : i ≤ 1000) :
    Calls Try.prog 43 #[.int .i64 path, .int .i64 tag, .int .i64 i] w fun e w' => e = .returned (.int .u8 (letK path tag i).toNat) ∧ w' = w := by
  have hk : ((3 * path + 5 * tag + 7 * i + i / 26) % 26).toNat < abc.size := by show _ < 26; omega
  have HL : Hid (abc[((3 * path + 5 * tag + 7 * i + i / 26) % 26).toNat]'hk = letK path tag i) := abc_get _ hk
  go_enter Try.func43, Try.ntmps43
  go_wp2_with fail
  go_ret
  exact ⟨by rw [← HL.out]; rfl, rfl⟩

/-! A number as a text. -/
def digK (v : Nat) : UInt8 := UInt8.ofNat (48 + v % 10)
def decK : Nat → Nat → List UInt8 → List UInt8
  | 0, _, l => l
  | f + 1, v, l => if v = 0 then l else decK f (v / 10) (digK v :: l)
def decL (v : Nat) : List UInt8 := decK 3 (v / 10) [digK v]
end Go.Proofs.Ytjhihliciadipaa
