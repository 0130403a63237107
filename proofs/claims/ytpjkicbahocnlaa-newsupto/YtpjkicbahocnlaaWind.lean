import Derived.Test.YtpjkicbahocnlaaHead
set_option linter.unusedVariables false
set_option linter.unusedSimpArgs false
set_option linter.unnecessarySimpa false
namespace Go.Proofs.Ytpjkicbahocnlaa
open Go.RowKit


/-- How many bytes a block has. -/
def sizeL (B tot k : Int) : Int := if tot ≤ k * B then 0 else if k * B + B ≤ tot then B else tot - k * B
def sizeTo (B tot k i : Int) : Int := if i ≤ tot then i - k * B else if tot ≤ k * B then 0 else tot - k * B

set_option maxHeartbeats 400000 in
theorem size_any (p : Nat) (B tag tot k : Int) (w : World) (hB : 1 ≤ B) (hB2 : B ≤ 16) (hk : 0 ≤ k) (hk2 : k ≤ 100000000)
   (ht : 0 ≤ tot) (ht2 : tot ≤ 1000) (hc : w.cell? ⟨p, 1, none⟩ = some (.int .i64 B)) :
    Calls Try.prog 110 #[.pointer (some ⟨p, 0, none⟩), .agg #[.int .i64 tag, .int .i64 tot], .int .i64 k] w fun e w' => e = .returned (.int .i64 (sizeL B tot k)) ∧ Ext w w' := by
  have hp : p < w.heap.size := World.block_lt_of_cell? w _ hc
  have h0 : 0 ≤ k * B := Int.mul_nonneg hk (by omega)
  have h1 : k * B ≤ 1600000000 := by have := Int.mul_le_mul hk2 hB2 (by omega) (by omega); omega
  have HM : Hid ((k + 1) * B = k * B + B) := by show _ = _; rw [Int.add_mul, Int.one_mul]
  have h2 : 0 ≤ (k + 1) * B := by rw [HM.out]; omega
  have h3 : (k + 1) * B ≤ 1600000016 := by rw [HM.out]; omega
  have HZ : Hid (∀ i, sizeTo B tot k i = if i ≤ tot then i - k * B else if tot ≤ k * B then 0 else tot - k * B) := fun _ => rfl
  have HY : Hid (sizeL B tot k = if tot ≤ k * B then 0 else if k * B + B ≤ tot then B else tot - k * B) := rfl
  go_enter Try.func110, Try.ntmps110
  go_wp2
  go_loop [7, 8] (fun n i => ∃ j : Int, k * B ≤ j ∧ j ≤ (k + 1) * B ∧ i = .int .i64 j ∧ n = .int .i64 (sizeTo B tot k j)) (fun _ i => ((k + 1) * B - intOf i).toNat)
  case atStart => exact ⟨k * B, Int.le_refl _, by rw [HM.out]; omega, rfl, by rw [HZ.out]; congr 1; split <;> (try split) <;> omega⟩
  case round =>
    obtain ⟨j, hj1, hj2, rfl, rfl⟩ := hrel
    have hn : Hid (sizeTo B tot k (j + 1) = if j < tot then sizeTo B tot k j + 1 else sizeTo B tot k j) := by
      show _ = _
      rw [HZ.out, HZ.out]
      split <;> split <;> (try split) <;> (try split) <;> omega
    have hb : 0 ≤ sizeTo B tot k j ∧ sizeTo B tot k j ≤ 1000 := by
      rw [HZ.out]; split <;> (try split) <;> omega
    by_cases hlt : j < (k + 1) * B
    · by_cases hjt : j < tot
      · have hE : Hid (sizeTo B tot k (j + 1) = sizeTo B tot k j + 1) := by show _ = _; rw [hn.out, if_pos hjt]
        clear hn
        generalize sizeTo B tot k j = S at *
        go_wp2

        exact ⟨⟨j + 1, by omega, by omega, by go_num, by rw [hE.out]⟩, by simp [intOf]; omega⟩
      · have hE : Hid (sizeTo B tot k (j + 1) = sizeTo B tot k j) := by show _ = _; rw [hn.out, if_neg hjt]
        clear hn
        generalize sizeTo B tot k j = S at *
        go_wp2
        exact ⟨⟨j + 1, by omega, by omega, by go_num, by rw [hE.out]⟩, by simp [intOf]; omega⟩
    · go_wp2
      go_ret
      refine ⟨ret_int ?_, Ext.new w _⟩
      rw [HZ.out, HY.out]
      have := HM.out
      split <;> split <;> (try split) <;> omega

/-- What a transfer holds of block k. -/
def heldL (has : List ByteArray) (k : Int) : ByteArray := has.getD k.toNat ByteArray.empty
theorem ret_string {a b : ByteArray} (h : a = b) : Ending.returned (.string a) = .returned (.string b) := by rw [h]

set_option maxHeartbeats 400000 in
theorem held_any (b o : Nat) (has : List ByteArray) (hv : Value) (k : Int) (w : World) (base : Nat) (hh : w.cell? ⟨b, o + 11, none⟩ = some hv)
    (ho : w.ownsRow base 9 1 hv has.length (has.map .string)) (hk : 0 ≤ k) (hk2 : k ≤ 1000000000) (hl : has.length ≤ 1000000000) :
    Calls Try.prog 119 #[.pointer (some ⟨b, o, none⟩), .int .i64 k] w fun e w' => e = .returned (.string (heldL has k)) ∧ w' = w := by
  obtain ⟨a, cap, rfl, hg⟩ := own_form ho
  obtain ⟨K, rfl⟩ := Int.eq_ofNat_of_zero_le hk
  by_cases hlt : K < has.length
  · obtain ⟨g, rfl⟩ := hg (by omega)
    have hck : w.cell? ⟨g, K, none⟩ = some (.string has[K]) := by
      rw [ho.cellAt K (by omega)]; simp [hlt]
    clear hg
    go_enter Try.func119, Try.ntmps119
    go_wp2
    go_ret
    exact ⟨ret_string (by simp [heldL, List.getD, hlt]), rfl⟩
  · go_enter Try.func119, Try.ntmps119
    go_wp2
    go_ret
    exact ⟨ret_string (by simp [heldL, List.getD, hlt]; rfl), rfl⟩

/-- The blocks k0, k0 + 1, ..: c of them. -/
def seqL (k0 : Int) (c : Nat) : List Int := (List.range c).map (fun j : Nat => k0 + j)
theorem seq_len (k0 : Int) (c : Nat) : (seqL k0 c).length = c := by simp [seqL]
theorem seq_snoc (k0 : Int) (c : Nat) : seqL k0 (c + 1) = seqL k0 c ++ [k0 + c] := by simp [seqL, List.range_succ]
theorem seq_get (k0 : Int) (c j : Nat) (h : j < c) : (seqL k0 c)[j]'(by simpa [seqL] using h) = k0 + j := by simp [seqL]
theorem seq_mem (k0 x : Int) (c : Nat) : x ∈ seqL k0 c ↔ k0 ≤ x ∧ x < k0 + c := by
  simp only [seqL, List.mem_map, List.mem_range]
  constructor
  · rintro ⟨j, hj, rfl⟩; omega
  · intro h; exact ⟨(x - k0).toNat, by omega, by omega⟩

/-- How many blocks begin at or lie in [lo, i). -/
def cntB (B lo i : Int) : Int := if i ≤ lo then 0 else (i - 1) / B - lo / B + 1
theorem cntB_step (B lo i : Int) (hB : 1 ≤ B) (hB2 : B ≤ 16) (hl : 0 ≤ lo) (h : lo ≤ i) :
    0 ≤ cntB B lo i ∧ cntB B lo i ≤ i - lo ∧ i / B = lo / B + cntB B lo (i + 1) - 1 ∧ (cntB B lo (i + 1) = cntB B lo i ∧ 0 < cntB B lo i ∨ cntB B lo (i + 1) = cntB B lo i + 1) ∧ 0 ≤ lo / B ∧ lo / B ≤ lo ∧ 0 ≤ i / B ∧ i / B ≤ i := by
  unfold cntB
  have hc : B = 1 ∨ B = 2 ∨ B = 3 ∨ B = 4 ∨ B = 5 ∨ B = 6 ∨ B = 7 ∨ B = 8 ∨ B = 9 ∨ B = 10 ∨ B = 11 ∨ B = 12 ∨ B = 13 ∨ B = 14 ∨ B = 15 ∨ B = 16 := by omega
  rcases hc with rfl | rfl | rfl | rfl | rfl | rfl | rfl | rfl | rfl | rfl | rfl | rfl | rfl | rfl | rfl | rfl
  all_goals (rw [if_neg (show ¬ i + 1 ≤ lo by omega)]; split <;> omega)
theorem cntB_mono (B lo i j : Int) (hB : 1 ≤ B) (hB2 : B ≤ 16) (hl : 0 ≤ lo) (h : lo ≤ i) (hij : i ≤ j) : cntB B lo i ≤ cntB B lo j := by
  unfold cntB
  have hc : B = 1 ∨ B = 2 ∨ B = 3 ∨ B = 4 ∨ B = 5 ∨ B = 6 ∨ B = 7 ∨ B = 8 ∨ B = 9 ∨ B = 10 ∨ B = 11 ∨ B = 12 ∨ B = 13 ∨ B = 14 ∨ B = 15 ∨ B = 16 := by omega
  rcases hc with rfl | rfl | rfl | rfl | rfl | rfl | rfl | rfl | rfl | rfl | rfl | rfl | rfl | rfl | rfl | rfl
  all_goals (split <;> split <;> omega)

/-- The numbers of the blocks of a window. -/
def winN (B W lo hi : Int) : Nat := if W ≤ cntB B lo hi then W.toNat else (cntB B lo hi).toNat
def winL (B W : Int) (m : Mv) : List Int :=
  if m.tag = 0 ∨ m.lost = true then [] else seqL ((fromL m + m.taken) / B) (winN B W (fromL m + m.taken) (fromL m + lenL m))

theorem ints_one (k : Int) : ∀ u ∈ [Value.int .i64 k], u.oneCell' = true := by intro u hu; simp at hu; subst hu; rfl

end Go.Proofs.Ytpjkicbahocnlaa
