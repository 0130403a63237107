import Derived.Test.YtjhihliciadipabGreatHead
set_option linter.unusedVariables false
set_option linter.unusedSimpArgs false
set_option linter.unnecessarySimpa false
namespace Go.Proofs.YtjhihliciadipabGreat
open Go.RowKit


/-- How many bytes a block has. -/
def sizeL (B tot k : Int) : Int := if tot ≤ k * B then 0 else if k * B + B ≤ tot then B else tot - k * B
def sizeTo (B tot k i : Int) : Int := if i ≤ tot then i - k * B else if tot ≤ k * B then 0 else tot - k * B

set_option maxHeartbeats 400000 in
theorem size_any (p : Nat) (B tag tot k : Int) (w : World) (hB : 1 ≤ B) (hB2 : B ≤ 16) (hk : 0 ≤ k) (hk2 : k ≤ 100000000)
   (ht : 0 ≤ tot) (ht2 : tot ≤ 1000) (hc : w.cell? ⟨p, 1, none⟩ = some (.int .i64 B)) :
    Calls Tryz.prog 52 #[.pointer (some ⟨p, 0, none⟩), .agg #[.int .i64 tag, .int .i64 tot], .int .i64 k] w fun e w' => e = .returned (.int .i64 (sizeL B tot k)) ∧ Ext w w' := by
  have hp : p < w.heap.size := World.block_lt_of_cell? w _ hc
  have h0 : 0 ≤ k * B := Int.mul_nonneg hk (by omega)
  have h1 : k * B ≤ 1600000000 := by have := Int.mul_le_mul hk2 hB2 (by omega) (by omega); omega
  have HM : Hid ((k + 1) * B = k * B + B) := by show _ = _; rw [Int.add_mul, Int.one_mul]
  have h2 : 0 ≤ (k + 1) * B := by rw [HM.out]; omega
  have h3 : (k + 1) * B ≤ 1600000016 := by rw [HM.out]; omega
  have HZ : Hid (∀ i, sizeTo B tot k i = if i ≤ tot then i - k * B else if tot ≤ k * B then 0 else tot - k * B) := fun _ => rfl
  have HY : Hid (sizeL B tot k = if tot ≤ k * B then 0 else if k * B + B ≤ tot then B else tot - k * B) := rfl
  go_enter Tryz.func52, Tryz.ntmps52
  go_wp2
  go_loop [7, 8] (fun n i => ∃ j : Int, k * B ≤ j ∧ j ≤ (k + 1) * B ∧ i = .int .i64 j ∧ n = .int .i64 (sizeTo B tot k j)) (fun _ i => ((k + 1) * B - intOf i).toNat)
  case atStart => exact ⟨k * B, Int.le_refl _, by rw [HM.out]; omega, rfl, by rw [HZ.out]; congr 1; split <;> (try split) <;> omega⟩
  case round =>
    obtain ⟨j, hj1, hj2, rfl, rfl⟩ := hrel
    have hn : Hid (sizeTo B tot k (j + 1) = if j < tot then sizeTo B tot k j + 1 else sizeTo B tot k j) := by
      show _ = _
      rw [HZ.out, HZ.out]
      split <;> split <;> (try split) <;> (try split) <;> omega
    have hb : 0 ≤ sizeTo B tot k j ∧ sizeTo B tot k j ≤ 1000 := by
      rw [HZ.out]; split <;> (try split) <;> omega
    by_cases hlt : j < (k + 1) * B
    · by_cases hjt : j < tot
      · have hE : Hid (sizeTo B tot k (j + 1) = sizeTo B tot k j + 1) := by show _ = _; rw [hn.out, if_pos hjt]
        clear hn
        generalize sizeTo B tot k j = S at *
        go_wp2

        exact ⟨⟨j + 1, by omega, by omega, by go_num, by rw [hE.out]⟩, by simp [intOf]; omega⟩
      · have hE : Hid (sizeTo B tot k (j + 1) = sizeTo B tot k j) := by show _ = _; rw [hn.out, if_neg hjt]
        clear hn
        generalize sizeTo B tot k j = S at *
        go_wp2
        exact ⟨⟨j + 1, by omega, by omega, by go_num, by rw [hE.out]⟩, by simp [intOf]; omega⟩
    · go_wp2
      go_ret
      refine ⟨ret_int ?_, Ext.new w _⟩
      rw [HZ.out, HY.out]
      have := HM.out
      split <;> split <;> (try split) <;> omega

/-- What a transfer holds of block k. -/
def heldL (has : List ByteArray) (k : Int) : ByteArray := has.getD k.toNat ByteArray.empty
theorem ret_string {a b : ByteArray} (h : a = b) : Ending.returned (.string a) = .returned (.string b) := by rw [h]

set_option maxHeartbeats 400000 in
theorem held_any (b o : Nat) (has : List ByteArray) (hv : Value) (k : Int) (w : World) (base : Nat) (hh : w.cell? ⟨b, o + 11, none⟩ = some hv)
    (ho : w.ownsRow base 9 1 hv has.length (has.map .string)) (hk : 0 ≤ k) (hk2 : k ≤ 1000000000) (hl : has.length ≤ 1000000000) :
    Calls Tryz.prog 68 #[.pointer (some ⟨b, o, none⟩), .int .i64 k] w fun e w' => e = .returned (.string (heldL has k)) ∧ w' = w := by
  obtain ⟨a, cap, rfl, hg⟩ := own_form ho
  obtain ⟨K, rfl⟩ := Int.eq_ofNat_of_zero_le hk
  by_cases hlt : K < has.length
  · obtain ⟨g, rfl⟩ := hg (by omega)
    have hck : w.cell? ⟨g, K, none⟩ = some (.string has[K]) := by
      rw [ho.cellAt K (by omega)]; simp [hlt]
    clear hg
    go_enter Tryz.func68, Tryz.ntmps68
    go_wp2
    go_ret
    exact ⟨ret_string (by simp [heldL, List.getD, hlt]), rfl⟩
  · go_enter Tryz.func68, Tryz.ntmps68
    go_wp2
    go_ret
    exact ⟨ret_string (by simp [heldL, List.getD, hlt]; rfl), rfl⟩

/-- The blocks k0, k0 + 1, ..: c of them. -/
def seqL (k0 : Int) (c : Nat) : List Int := (List.range c).map (fun j : Nat => k0 + j)
theorem seq_len (k0 : Int) (c : Nat) : (seqL k0 c).length = c := by simp [seqL]
theorem seq_snoc (k0 : Int) (c : Nat) : seqL k0 (c + 1) = seqL k0 c ++ [k0 + c] := by simp [seqL, List.range_succ]
theorem seq_get (k0 : Int) (c j : Nat) (h : j < c) : (seqL k0 c)[j]'(by simpa [seqL] using h) = k0 + j := by simp [seqL]
theorem seq_mem (k0 x : Int) (c : Nat) : x ∈ seqL k0 c ↔ k0 ≤ x ∧ x < k0 + c := by
  simp only [seqL, List.mem_map, List.mem_range]
  constructor
  · rintro ⟨j, hj, rfl⟩; omega
  · intro h; exact ⟨(x - k0).toNat, by omega, by omega⟩

/-- How many blocks begin at or lie in [lo, i). -/
def cntB (B lo i : Int) : Int := if i ≤ lo then 0 else (i - 1) / B - lo / B + 1
theorem cntB_step (B lo i : Int) (hB : 1 ≤ B) (hB2 : B ≤ 16) (hl : 0 ≤ lo) (h : lo ≤ i) :
    0 ≤ cntB B lo i ∧ cntB B lo i ≤ i - lo ∧ i / B = lo / B + cntB B lo (i + 1) - 1 ∧ (cntB B lo (i + 1) = cntB B lo i ∧ 0 < cntB B lo i ∨ cntB B lo (i + 1) = cntB B lo i + 1) ∧ 0 ≤ lo / B ∧ lo / B ≤ lo ∧ 0 ≤ i / B ∧ i / B ≤ i := by
  unfold cntB
  have hc : B = 1 ∨ B = 2 ∨ B = 3 ∨ B = 4 ∨ B = 5 ∨ B = 6 ∨ B = 7 ∨ B = 8 ∨ B = 9 ∨ B = 10 ∨ B = 11 ∨ B = 12 ∨ B = 13 ∨ B = 14 ∨ B = 15 ∨ B = 16 := by omega
  rcases hc with rfl | rfl | rfl | rfl | rfl | rfl | rfl | rfl | rfl | rfl | rfl | rfl | rfl | rfl | rfl | rfl
  all_goals (rw [if_neg (show ¬ i + 1 ≤ lo by omega)]; split <;> omega)
theorem cntB_mono (B lo i j : Int) (hB : 1 ≤ B) (hB2 : B ≤ 16) (hl : 0 ≤ lo) (h : lo ≤ i) (hij : i ≤ j) : cntB B lo i ≤ cntB B lo j := by
  unfold cntB
  have hc : B = 1 ∨ B = 2 ∨ B = 3 ∨ B = 4 ∨ B = 5 ∨ B = 6 ∨ B = 7 ∨ B = 8 ∨ B = 9 ∨ B = 10 ∨ B = 11 ∨ B = 12 ∨ B = 13 ∨ B = 14 ∨ B = 15 ∨ B = 16 := by omega
  rcases hc with rfl | rfl | rfl | rfl | rfl | rfl | rfl | rfl | rfl | rfl | rfl | rfl | rfl | rfl | rfl | rfl
  all_goals (split <;> split <;> omega)

/-- The numbers of the blocks of a window. -/
def winN (B W lo hi : Int) : Nat := if W ≤ cntB B lo hi then W.toNat else (cntB B lo hi).toNat
def winL (B W : Int) (m : Mv) : List Int :=
  if m.tag = 0 ∨ m.lost = true then [] else seqL ((fromL m + m.taken) / B) (winN B W (fromL m + m.taken) (fromL m + lenL m))

theorem ints_one (k : Int) : ∀ u ∈ [Value.int .i64 k], u.oneCell' = true := by intro u hu; simp at hu; subst hu; rfl

end Go.Proofs.YtjhihliciadipabGreat

namespace Go.Proofs.YtjhihliciadipabGreat
open Go.RowKit

theorem app_ext {w1 wr w2 : World} {o : Obj} {base : Nat} {e : TypeId} {sz : Nat} {v : Value} {n : Nat} {xs : List Value} (hE : Ext w1 wr) (hown : wr.ownsRow base e sz v n xs)
    (hb : w1.heap.size ≤ base) (hg : (wr.alloc o).grownBy w2 v.ownBlock) : Ext w1 w2 :=
  (Below.alloc hE hE.size o).grown hg (by have := hE.size; simp; omega) (fun k hk => by have := (hown.lt k hk).1; omega)
theorem app_blk {wr w2 : World} {o : Obj} {base : Nat} {e : TypeId} {sz : Nat} {v : Value} {n : Nat} {xs : List Value} {b : Nat} {T : TypeId} {arr : Array Value} (hB : Blk wr b T arr)
    (hown : wr.ownsRow base e sz v n xs) (hb : b < base) (hg : (wr.alloc o).grownBy w2 v.ownBlock) : Blk w2 b T arr :=
  (hB.ext (Ext.new _ _)).grown hg (fun h => by have := (hown.lt b h).1; omega)

set_option maxHeartbeats 1000000 in
theorem window_any (p b o : Nat) (B W : Int) (m : Mv) (w : World) (hm : MvAt w b o m) (hx : SpnOk m.sp) (ht : 0 ≤ m.tot) (ht2 : m.tot ≤ 1000)
    (hB : 1 ≤ B) (hB2 : B ≤ 16) (hW : 1 ≤ W) (hW2 : W ≤ 4) (hcB : w.cell? ⟨p, 1, none⟩ = some (.int .i64 B)) (hcW : w.cell? ⟨p, 2, none⟩ = some (.int .i64 W))
    (hk1 : 0 ≤ m.taken) (hk2 : m.taken ≤ 1000) :
    Calls Tryz.prog 67 #[.pointer (some ⟨p, 0, none⟩), .pointer (some ⟨b, o, none⟩)] w fun e w' =>
      ∃ v, e = .returned v ∧ Ext w w' ∧ w'.ownsRow w.heap.size 3 1 v (winL B W m).length ((winL B W m).map (.int .i64)) := by
  have hp : p < w.heap.size := World.block_lt_of_cell? w _ hcB
  have hb : b < w.heap.size := World.block_lt_of_cell? w _ hm.path
  have h4 := hm.tag
  have h7 := hm.lost
  have h9 := hm.taken
  by_cases h0 : (m.tag == 0) = true
  · have HW : Hid (winL B W m = []) := by show _ = _; unfold winL; rw [if_pos (Or.inl (by simpa using h0))]
    go_enter Tryz.func67, Tryz.ntmps67
    go_wp2
    go_ret
    rw [HW.out]
    exact ⟨_, rfl, Below.refl _ _, World.ownsRow_nil _ _ _ _⟩
  have h0' : (m.tag == 0) = false := by simpa using h0
  clear h0
  cases hlo : m.lost
  case true =>
    have HW : Hid (winL B W m = []) := by show _ = _; unfold winL; rw [if_pos (Or.inr hlo)]
    rw [hlo] at h7
    go_enter Tryz.func67, Tryz.ntmps67
    go_wp2
    go_ret
    rw [HW.out]
    exact ⟨_, rfl, Below.refl _ _, World.ownsRow_nil _ _ _ _⟩
  case false =>
    have HW : Hid (winL B W m = seqL ((fromL m + m.taken) / B) (winN B W (fromL m + m.taken) (fromL m + lenL m))) := by
      show _ = _; unfold winL; rw [if_neg]; rintro (h | h); simp [h] at h0'; simp [hlo] at h
    rw [hlo] at h7
    go_enter Tryz.func67, Tryz.ntmps67
    go_wp2_with fail
    refine (head_any b o m _ hm hx ht ht2).mono ?_
    rintro e w1 ⟨rfl, hE1⟩
    have hm1 := hm.ext hE1
    have h9' := hm1.taken
    have hb1 : b < w1.heap.size := Nat.lt_of_lt_of_le hb hE1.size
    have hp1 : p < w1.heap.size := Nat.lt_of_lt_of_le hp hE1.size
    have hcB1 := ext_cell hE1 hcB
    have hcW1 := ext_cell hE1 hcW
    have hbd := cnt_bd m.sp m.tot m.tot.toNat
    have hf1 : 0 ≤ fromL m ∧ fromL m ≤ 1000 := by unfold fromL; omega
    have hf2 : 0 ≤ lenL m ∧ lenL m ≤ 1000 := by unfold lenL; omega
    clear hcB hcW h4 h7 h9 hbd
    go_wp2_with fail
    go_quiet (fail)
    go_wp2_with fail
    have hlo0 : 0 ≤ fromL m + m.taken := by omega
    generalize hHB : (#[Value.int .i64 (statL m), .int .i64 m.tag, .int .i64 m.tot, .int .i64 (fromL m), .int .i64 (lenL m)] : Array Value) = HB
    go_loopw [5, 7] (fun l i w' => ∃ (j : Int) (c : Nat), fromL m + m.taken ≤ j ∧ (j ≤ fromL m + lenL m ∨ j = fromL m + m.taken) ∧ i = .int .i64 j ∧ Hid ((c : Int) = cntB B (fromL m + m.taken) j) ∧ (c : Int) ≤ W ∧
      w'.ownsRow (w1.heap.size + 1) 3 1 l c ((seqL ((fromL m + m.taken) / B) c).map (.int .i64)) ∧ Ext w1 w' ∧ Blk w' w1.heap.size 71 HB) (fun _ i _ => (fromL m + lenL m - intOf i).toNat)
    case atStart =>
      refine ⟨_, 0, Int.le_refl _, Or.inr rfl, rfl, ?_, by omega, World.ownsRow_nil _ _ _ _, ?_, ?_⟩
      · show _ = _; simp [cntB]
      · exact (Ext.new w1 _).drewN nq
      · rw [← hHB]; exact (Blk.new w1 _ _).ext (Ext.drewN (Below.refl _ _) nq)
    case round =>
      obtain ⟨j, c, hj1, hj2, rfl, HC, hcW, hown, hE2, hBk⟩ := hrel
      subst hHB
      have k3 : wr.cell? ⟨w1.heap.size, 3, none⟩ = some (.int .i64 (fromL m)) := hBk.cell 3
      have k4 : wr.cell? ⟨w1.heap.size, 4, none⟩ = some (.int .i64 (lenL m)) := hBk.cell 4
      have hcB2 := ext_cell hE2 hcB1
      have hcW2 := ext_cell hE2 hcW1
      obtain ⟨a, cap, rfl, hg⟩ := own_form hown
      by_cases hlt : j < fromL m + lenL m
      · have hst := cntB_step B (fromL m + m.taken) j hB hB2 hlo0 hj1
        rw [← HC.out] at hst
        obtain ⟨-, hcj, hkj, hnx, hk00, hk01, hq0, hq1⟩ := hst
        have HC2 := hide hkj
        clear hkj
        by_cases hc0 : c = 0
        · subst hc0
          have HN : Hid (cntB B (fromL m + m.taken) (j + 1) = 1) := by show _ = _; omega
          have HK : Hid (j / B = (fromL m + m.taken) / B) := by have h1 := HC2.out; have h2 := HN.out; show _ = _; omega
          have hz : ((0 : Int) == W) = false := beq_eq_false_iff_ne.2 (by omega)
          clear hnx hg
          go_wp2_with (at_builtin; refine app_one Tryz.underlying29 infoInt rfl (by decide) (by decide) _ rfl _ _ rfl (by rfl) (hown.alloc _) [.int .i64 (j / B)] rfl rfl (news_new _ _ _) (ints_one _) (by omega) (by have := hBk.lt; simp; omega) ?_; intro v1 w2 hown2 hg2 hwh2)
          refine ⟨⟨j + 1, 1, by omega, Or.inl (by omega), by go_num, HN.out.symm, by omega, ?_, app_ext hE2 hown (by omega) hg2, app_blk hBk hown (by omega) hg2⟩, by simp [intOf]; omega⟩
          have e1 : seqL ((fromL m + m.taken) / B) 1 = [j / B] := by rw [HK.out]; simp [seqL]
          rw [e1]; exact hown2
        · obtain ⟨g, rfl⟩ := hg (by omega)
          have hce : ((c : Int) == 0) = false := beq_eq_false_iff_ne.2 (by omega)
          obtain ⟨d, rfl⟩ : ∃ d, c = d + 1 := ⟨c - 1, by omega⟩
          have hlast : wr.cell? ⟨g, d, none⟩ = some (.int .i64 ((fromL m + m.taken) / B + d)) := by
            rw [hown.cellAt d (by omega)]; simp [seqL]
          clear hg
          rcases hnx with ⟨hsame, -⟩ | hnew
          · have HD : Hid (((fromL m + m.taken) / B + d != j / B) = false) := by
              show _ = _
              have h1 := HC2.out
              rw [bne_eq_false_iff_eq]; omega
            have HN : Hid (cntB B (fromL m + m.taken) (j + 1) = (d + 1 : Nat)) := hsame
            have hd := HD.out
            clear HD
            go_wp2_with fail
            exact ⟨⟨j + 1, d + 1, by omega, Or.inl (by omega), by go_num, HN.out.symm, by omega, hown, hE2, hBk⟩, by simp [intOf]; omega⟩
          · have HN : Hid (cntB B (fromL m + m.taken) (j + 1) = (d + 1 : Nat) + 1) := hnew
            have hd : ((fromL m + m.taken) / B + d != j / B) = true := by
              have h1 := HC2.out
              rw [bne_iff_ne]; omega
            by_cases hcw : (((d + 1 : Nat) : Int) == W) = true
            · have HR : Hid (winN B W (fromL m + m.taken) (fromL m + lenL m) = d + 1) := by
                show _ = _
                have h1 := cntB_mono B (fromL m + m.taken) (j + 1) (fromL m + lenL m) hB hB2 hlo0 (by omega) (by omega)
                have h2 := beq_iff_eq.1 hcw
                rw [HN.out] at h1
                unfold winN; rw [if_pos (by omega)]; omega
              go_wp2_with fail
              go_ret
              refine ⟨_, rfl, Ext.trans' hE1 hE2, ?_⟩
              rw [HW.out, seq_len, HR.out]
              exact own_base hown (by have := hE1.size; omega)
            · have hcw' : (((d + 1 : Nat) : Int) == W) = false := by simpa using hcw
              have hlw : ((d + 1 : Nat) : Int) < W := by have := beq_eq_false_iff_ne.1 hcw'; omega
              clear hcw
              go_wp2_with (at_builtin; refine app_one Tryz.underlying29 infoInt rfl (by decide) (by decide) _ rfl _ _ rfl (by rfl) (hown.alloc _) [.int .i64 (j / B)] rfl rfl (news_new _ _ _) (ints_one _) (by omega) (by have := hBk.lt; simp; omega) ?_; intro v1 w2 hown2 hg2 hwh2)
              refine ⟨⟨j + 1, d + 1 + 1, by omega, Or.inl (by omega), by go_num, ?_, by omega, ?_, app_ext hE2 hown (by omega) hg2, app_blk hBk hown (by omega) hg2⟩, by simp [intOf]; omega⟩
              · show _ = _; rw [HN.out]; omega
              · rw [seq_snoc, List.map_append]
                have e1 : (fromL m + m.taken) / B + ((d + 1 : Nat) : Int) = j / B := by have h1 := HC2.out; have h2 := HN.out; omega
                rw [e1]; exact hown2
      · go_wp2
        go_ret
        refine ⟨_, rfl, Ext.trans' hE1 hE2, ?_⟩
        rw [HW.out, seq_len]
        have hcc : winN B W (fromL m + m.taken) (fromL m + lenL m) = c := by
          have h1 := HC.out
          rcases hj2 with h | h
          · have : j = fromL m + lenL m := by omega
            subst this
            unfold winN; split <;> omega
          · subst h
            have h2 : cntB B (fromL m + m.taken) (fromL m + lenL m) = 0 := by unfold cntB; rw [if_pos (by omega)]
            have h3 : cntB B (fromL m + m.taken) (fromL m + m.taken) = 0 := by unfold cntB; rw [if_pos (by omega)]
            unfold winN; rw [h2, if_neg (by omega)]; omega
        rw [hcc]
        exact own_base hown (by have := hE1.size; omega)
end Go.Proofs.YtjhihliciadipabGreat
