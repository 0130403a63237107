import Derived.Test.YtjhihliciadipaaK2
set_option linter.unusedVariables false
set_option linter.unusedSimpArgs false
set_option linter.unnecessarySimpa false
namespace Go.Proofs.Ytjhihliciadipaa
open Go.RowKit

def txt (l : List UInt8) : ByteArray := ⟨l.toArray⟩
theorem txt_app (a b : List UInt8) : txt a ++ txt b = txt (a ++ b) := by
  apply ByteArray.ext
  simp [txt, ByteArray.data_append]
theorem txt_size (l : List UInt8) : (txt l).size = l.length := by simp [txt, ByteArray.size]
theorem digits_ext (k : Nat) (h : k < 10) : ({ data := #[48, 49, 50, 51, 52, 53, 54, 55, 56, 57] } : ByteArray).extract k (k + 1) = txt [UInt8.ofNat (48 + k)] := by
  have : k = 0 ∨ k = 1 ∨ k = 2 ∨ k = 3 ∨ k = 4 ∨ k = 5 ∨ k = 6 ∨ k = 7 ∨ k = 8 ∨ k = 9 := by omega
  rcases this with rfl | rfl | rfl | rfl | rfl | rfl | rfl | rfl | rfl | rfl <;> decide
theorem decK_zero (f : Nat) (l : List UInt8) : decK f 0 l = l := by cases f <;> simp [decK]
theorem decK_len (f v : Nat) (l : List UInt8) : (decK f v l).length ≤ f + l.length := by
  induction f generalizing v l with
  | zero => simp [decK]
  | succ f ih =>
    rw [decK]; split
    · omega
    · have := ih (v / 10) (digK v :: l); simp at this; omega

set_option maxHeartbeats 2000000 in
theorem decimal_any (v : Nat) (w : World) (hv : v ≤ 999) :
    Calls Try.prog 33 #[.int .i64 v] w fun e w' => e = .returned (.string (txt (decL v))) ∧ w' = w := by
  have k0 : v % 10 < 10 := by omega
  have HD := hide (digits_ext (v % 10) k0)
  have HI : Hid (decL v = decK 3 (v / 10) [digK v]) := rfl
  have g1 : ((v % 10 : Nat) : Int) + 1 ≤ 10 := by omega
  have g2 : v % 10 + 1 ≤ 10 := by omega
  have g3 : v % 10 ≤ 10 := by omega
  go_enter Try.func33, Try.ntmps33
  go_wp2_with fail
  rw [HD.out]
  go_loop [0, 4] (fun a o => ∃ (f x : Nat) (l : List UInt8), a = .int .i64 x ∧ o = .string (txt l) ∧ x < 10 ^ f ∧ x ≤ 999 ∧ l.length ≤ 10 - f ∧ f ≤ 3 ∧ Hid (decK f x l = decL v)) (fun a _ => (intOf a).toNat)
  case atStart => exact ⟨3, v / 10, [digK v], by simp, rfl, by simp; omega, by omega, by simp, by omega, HI.out.symm⟩
  case round =>
    obtain ⟨f, x, l, rfl, rfl, hx, hx9, hl, hf3, HR⟩ := hrel
    by_cases h0 : x = 0
    · subst h0
      have HR1 : Hid (l = decL v) := by show _ = _; rw [← HR.out, decK_zero]
      go_wp2_with fail
      go_ret
      exact ⟨by rw [← HR1.out]; rfl, rfl⟩
    · obtain ⟨f', rfl⟩ : ∃ f', f = f' + 1 := ⟨f - 1, by
        rcases Nat.eq_zero_or_pos f with rfl | h
        · simp at hx; omega
        · omega⟩
      have HR1 : Hid (decK f' (x / 10) (digK x :: l) = decL v) := by show _ = _; rw [← HR.out, decK, if_neg h0]
      have HD1 := hide (digits_ext (x % 10) (by omega))
      have HA : Hid (txt [UInt8.ofNat (48 + x % 10)] ++ txt l = txt (digK x :: l)) := txt_app _ _
      have hx10 : x / 10 < 10 ^ f' := by rw [Nat.pow_succ] at hx; omega
      have j1 : ((x % 10 : Nat) : Int) + 1 ≤ 10 := by omega
      have j2 : x % 10 + 1 ≤ 10 := by omega
      have j3 : x % 10 ≤ 10 := by omega
      have h0' : 0 < (x : Int) := by omega
      have hsz : (txt l).size ≤ 10 := by rw [txt_size]; omega
      clear HR HD g1 g2 g3
      go_wp2_with fail
      exact ⟨⟨f', x / 10, digK x :: l, by simp, by rw [HD1.out, HA.out], hx10, by omega, by simp; omega, by omega, HR1⟩, by simp [intOf]; omega⟩

/-! The text of a range. -/
def bytesL : List UInt8 := [98, 121, 116, 101, 115, 61]
def rangeL (kind a b : Int) : List UInt8 :=
  let x := (pickK a 70).toNat
  let y := (pickK b 70).toNat
  if pickK kind 6 = 0 then bytesL ++ decL x ++ [45] ++ decL (x + y) else if pickK kind 6 = 1 then bytesL ++ decL x ++ [45] else
    if pickK kind 6 = 2 then bytesL ++ [45] ++ decL y else if pickK kind 6 = 3 then bytesL ++ decL (x + y + 1) ++ [45] ++ decL x else []
theorem decL_len (v : Nat) : (decL v).length ≤ 4 := decK_len 3 _ _

set_option maxRecDepth 100000 in
set_option maxHeartbeats 2000000 in
theorem ranges_any (kind a b : Int) (w : World) (hk : I64 kind) (ha : I64 a) (hb : I64 b) :
    Calls Try.prog 11 #[.int .i64 kind, .int .i64 a, .int .i64 b] w fun e w' => e = .returned (.string (txt (rangeL kind a b))) ∧ w' = w := by
  have hx := pickK_bd a 70 (by omega)
  have hy := pickK_bd b 70 (by omega)
  have hz := pickK_bd kind 6 (by omega)
  have P1 := pickK_any a 70 w ha (by omega) (by omega)
  have P2 := pickK_any b 70 w hb (by omega) (by omega)
  have P3 := pickK_any kind 6 w hk (by omega) (by omega)
  have HR : Hid (rangeL kind a b = if pickK kind 6 = 0 then bytesL ++ decL (pickK a 70).toNat ++ [45] ++ decL ((pickK a 70).toNat + (pickK b 70).toNat) else if pickK kind 6 = 1 then bytesL ++ decL (pickK a 70).toNat ++ [45] else
    if pickK kind 6 = 2 then bytesL ++ [45] ++ decL (pickK b 70).toNat else if pickK kind 6 = 3 then bytesL ++ decL ((pickK a 70).toNat + (pickK b 70).toNat + 1) ++ [45] ++ decL (pickK a 70).toNat else []) := rfl
  obtain ⟨x, hx'⟩ := Int.eq_ofNat_of_zero_le hx.1
  obtain ⟨y, hy'⟩ := Int.eq_ofNat_of_zero_le hy.1
  generalize rangeL kind a b = res at *
  rw [hx'] at hx P1 HR
  rw [hy'] at hy P2 HR
  generalize pickK kind 6 = z at *
  clear hx' hy'
  rw [Int.toNat_natCast, Int.toNat_natCast] at HR
  have D1 := decimal_any x w (by omega)
  have D2 := decimal_any (x + y) w (by omega)
  have D3 := decimal_any y w (by omega)
  have D4 := decimal_any (x + y + 1) w (by omega)
  have l1 : (txt (decL x)).size ≤ 4 := by rw [txt_size]; exact decL_len _
  have l2 : (txt (decL (x + y))).size ≤ 4 := by rw [txt_size]; exact decL_len _
  have l3 : (txt (decL y)).size ≤ 4 := by rw [txt_size]; exact decL_len _
  have l4 : (txt (decL (x + y + 1))).size ≤ 4 := by rw [txt_size]; exact decL_len _
  push_cast at D2 D4
  have hzz : z = 0 ∨ z = 1 ∨ z = 2 ∨ z = 3 ∨ (z ≠ 0 ∧ z ≠ 1 ∧ z ≠ 2 ∧ z ≠ 3) := by omega
  rcases hzz with rfl | rfl | rfl | rfl | hzz
  all_goals
    go_enter Try.func11, Try.ntmps11
    go_wp2_with fail
    refine P1.mono ?_
    rintro e w1 ⟨rfl, rfl⟩
    go_wp2_with fail
    refine P2.mono ?_
    rintro e w1 ⟨rfl, rfl⟩
    go_wp2_with fail
    refine P3.mono ?_
    rintro e w1 ⟨rfl, rfl⟩
  · go_wp2_with fail
    refine D1.mono ?_
    rintro e w1 ⟨rfl, rfl⟩
    go_wp2_with fail
    refine D2.mono ?_
    rintro e w1 ⟨rfl, rfl⟩
    go_wp2_with fail
    go_ret
    refine ⟨?_, rfl⟩
    rw [HR.out]; simp only [if_true]; rw [← txt_app, ← txt_app, ← txt_app]; rfl
  · go_wp2_with fail
    refine D1.mono ?_
    rintro e w1 ⟨rfl, rfl⟩
    go_wp2_with fail
    go_ret
    refine ⟨?_, rfl⟩
    rw [HR.out]; simp only [reduceIte, Int.reduceEq]; rw [← txt_app, ← txt_app]; rfl
  · go_wp2_with fail
    refine D3.mono ?_
    rintro e w1 ⟨rfl, rfl⟩
    go_wp2_with fail
    go_ret
    refine ⟨?_, rfl⟩
    rw [HR.out]; simp only [reduceIte, Int.reduceEq]; rw [← txt_app]; rfl
  · go_wp2_with fail
    refine D4.mono ?_
    rintro e w1 ⟨rfl, rfl⟩
    go_wp2_with fail
    refine D1.mono ?_
    rintro e w1 ⟨rfl, rfl⟩
    go_wp2_with fail
    go_ret
    refine ⟨?_, rfl⟩
    rw [HR.out]; simp only [reduceIte, Int.reduceEq]; rw [← txt_app, ← txt_app, ← txt_app]; rfl
  · obtain ⟨z0, z1, z2, z3⟩ := hzz
    go_wp2_with fail
    go_ret
    refine ⟨?_, rfl⟩
    rw [HR.out, if_neg z0, if_neg z1, if_neg z2, if_neg z3]; rfl
end Go.Proofs.Ytjhihliciadipaa
