import Derived.Test.YtpjkicbahocnlaaWind
set_option linter.unusedVariables false
set_option linter.unusedSimpArgs false
set_option linter.unnecessarySimpa false
namespace Go.Proofs.Ytpjkicbahocnlaa
open Go.RowKit

theorem app_ext {w1 wr w2 : World} {o : Obj} {base : Nat} {e : TypeId} {sz : Nat} {v : Value} {n : Nat} {xs : List Value} (hE : Ext w1 wr) (hown : wr.ownsRow base e sz v n xs)
    (hb : w1.heap.size ≤ base) (hg : (wr.alloc o).grownBy w2 v.ownBlock) : Ext w1 w2 :=
  (Below.alloc hE hE.size o).grown hg (by have := hE.size; simp; omega) (fun k hk => by have := (hown.lt k hk).1; omega)
theorem app_blk {wr w2 : World} {o : Obj} {base : Nat} {e : TypeId} {sz : Nat} {v : Value} {n : Nat} {xs : List Value} {b : Nat} {T : TypeId} {arr : Array Value} (hB : Blk wr b T arr)
    (hown : wr.ownsRow base e sz v n xs) (hb : b < base) (hg : (wr.alloc o).grownBy w2 v.ownBlock) : Blk w2 b T arr :=
  (hB.ext (Ext.new _ _)).grown hg (fun h => by have := (hown.lt b h).1; omega)

set_option maxHeartbeats 1000000 in
theorem window_any (p b o : Nat) (B W : Int) (m : Mv) (w : World) (hm : MvAt w b o m) (hx : SpnOk m.sp) (ht : 0 ≤ m.tot) (ht2 : m.tot ≤ 1000)
    (hB : 1 ≤ B) (hB2 : B ≤ 16) (hW : 1 ≤ W) (hW2 : W ≤ 4) (hcB : w.cell? ⟨p, 1, none⟩ = some (.int .i64 B)) (hcW : w.cell? ⟨p, 2, none⟩ = some (.int .i64 W))
    (hk1 : 0 ≤ m.taken) (hk2 : m.taken ≤ 1000) :
    Calls Try.prog 118 #[.pointer (some ⟨p, 0, none⟩), .pointer (some ⟨b, o, none⟩)] w fun e w' =>
      ∃ v, e = .returned v ∧ Ext w w' ∧ w'.ownsRow w.heap.size 3 1 v (winL B W m).length ((winL B W m).map (.int .i64)) := by
  have hp : p < w.heap.size := World.block_lt_of_cell? w _ hcB
  have hb : b < w.heap.size := World.block_lt_of_cell? w _ hm.path
  have h4 := hm.tag
  have h7 := hm.lost
  have h9 := hm.taken
  by_cases h0 : (m.tag == 0) = true
  · have HW : Hid (winL B W m = []) := by show _ = _; unfold winL; rw [if_pos (Or.inl (by simpa using h0))]
    go_enter Try.func118, Try.ntmps118
    go_wp2
    go_ret
    rw [HW.out]
    exact ⟨_, rfl, Below.refl _ _, World.ownsRow_nil _ _ _ _⟩
  have h0' : (m.tag == 0) = false := by simpa using h0
  clear h0
  cases hlo : m.lost
  case true =>
    have HW : Hid (winL B W m = []) := by show _ = _; unfold winL; rw [if_pos (Or.inr hlo)]
    rw [hlo] at h7
    go_enter Try.func118, Try.ntmps118
    go_wp2
    go_ret
    rw [HW.out]
    exact ⟨_, rfl, Below.refl _ _, World.ownsRow_nil _ _ _ _⟩
  case false =>
    have HW : Hid (winL B W m = seqL ((fromL m + m.taken) / B) (winN B W (fromL m + m.taken) (fromL m + lenL m))) := by
      show _ = _; unfold winL; rw [if_neg]; rintro (h | h); simp [h] at h0'; simp [hlo] at h
    rw [hlo] at h7
    go_enter Try.func118, Try.ntmps118
    go_wp2_with fail
    refine (head_any b o m _ hm hx ht ht2).mono ?_
    rintro e w1 ⟨rfl, hE1⟩
    have hm1 := hm.ext hE1
    have h9' := hm1.taken
    have hb1 : b < w1.heap.size := Nat.lt_of_lt_of_le hb hE1.size
    have hp1 : p < w1.heap.size := Nat.lt_of_lt_of_le hp hE1.size
    have hcB1 := ext_cell hE1 hcB
    have hcW1 := ext_cell hE1 hcW
    have hbd := cnt_bd m.sp m.tot m.tot.toNat
    have hf1 : 0 ≤ fromL m ∧ fromL m ≤ 1000 := by unfold fromL; omega
    have hf2 : 0 ≤ lenL m ∧ lenL m ≤ 1000 := by unfold lenL; omega
    clear hcB hcW h4 h7 h9 hbd
    go_wp2_with fail
    go_quiet (fail)
    go_wp2_with fail
    have hlo0 : 0 ≤ fromL m + m.taken := by omega
    generalize hHB : (#[Value.int .i64 (statL m), .int .i64 m.tag, .int .i64 m.tot, .int .i64 (fromL m), .int .i64 (lenL m)] : Array Value) = HB
    go_loopw [5, 7] (fun l i w' => ∃ (j : Int) (c : Nat), fromL m + m.taken ≤ j ∧ (j ≤ fromL m + lenL m ∨ j = fromL m + m.taken) ∧ i = .int .i64 j ∧ Hid ((c : Int) = cntB B (fromL m + m.taken) j) ∧ (c : Int) ≤ W ∧
      w'.ownsRow (w1.heap.size + 1) 3 1 l c ((seqL ((fromL m + m.taken) / B) c).map (.int .i64)) ∧ Ext w1 w' ∧ Blk w' w1.heap.size 49 HB) (fun _ i _ => (fromL m + lenL m - intOf i).toNat)
    case atStart =>
      refine ⟨_, 0, Int.le_refl _, Or.inr rfl, rfl, ?_, by omega, World.ownsRow_nil _ _ _ _, ?_, ?_⟩
      · show _ = _; simp [cntB]
      · exact (Ext.new w1 _).drewN nq
      · rw [← hHB]; exact (Blk.new w1 _ _).ext (Ext.drewN (Below.refl _ _) nq)
    case round =>
      obtain ⟨j, c, hj1, hj2, rfl, HC, hcW, hown, hE2, hBk⟩ := hrel
      subst hHB
      have k3 : wr.cell? ⟨w1.heap.size, 3, none⟩ = some (.int .i64 (fromL m)) := hBk.cell 3
      have k4 : wr.cell? ⟨w1.heap.size, 4, none⟩ = some (.int .i64 (lenL m)) := hBk.cell 4
      have hcB2 := ext_cell hE2 hcB1
      have hcW2 := ext_cell hE2 hcW1
      obtain ⟨a, cap, rfl, hg⟩ := own_form hown
      by_cases hlt : j < fromL m + lenL m
      · have hst := cntB_step B (fromL m + m.taken) j hB hB2 hlo0 hj1
        rw [← HC.out] at hst
        obtain ⟨-, hcj, hkj, hnx, hk00, hk01, hq0, hq1⟩ := hst
        have HC2 := hide hkj
        clear hkj
        by_cases hc0 : c = 0
        · subst hc0
          have HN : Hid (cntB B (fromL m + m.taken) (j + 1) = 1) := by show _ = _; omega
          have HK : Hid (j / B = (fromL m + m.taken) / B) := by have h1 := HC2.out; have h2 := HN.out; show _ = _; omega
          have hz : ((0 : Int) == W) = false := beq_eq_false_iff_ne.2 (by omega)
          clear hnx hg
          go_wp2_with (at_builtin; refine app_one Try.underlying25 infoInt rfl (by decide) (by decide) _ rfl _ _ rfl (by rfl) (hown.alloc _) [.int .i64 (j / B)] rfl rfl (news_new _ _ _) (ints_one _) (by omega) (by have := hBk.lt; simp; omega) ?_; intro v1 w2 hown2 hg2 hwh2)
          refine ⟨⟨j + 1, 1, by omega, Or.inl (by omega), by go_num, HN.out.symm, by omega, ?_, app_ext hE2 hown (by omega) hg2, app_blk hBk hown (by omega) hg2⟩, by simp [intOf]; omega⟩
          have e1 : seqL ((fromL m + m.taken) / B) 1 = [j / B] := by rw [HK.out]; simp [seqL]
          rw [e1]; exact hown2
        · obtain ⟨g, rfl⟩ := hg (by omega)
          have hce : ((c : Int) == 0) = false := beq_eq_false_iff_ne.2 (by omega)
          obtain ⟨d, rfl⟩ : ∃ d, c = d + 1 := ⟨c - 1, by omega⟩
          have hlast : wr.cell? ⟨g, d, none⟩ = some (.int .i64 ((fromL m + m.taken) / B + d)) := by
            rw [hown.cellAt d (by omega)]; simp [seqL]
          clear hg
          rcases hnx with ⟨hsame, -⟩ | hnew
          · have HD : Hid (((fromL m + m.taken) / B + d != j / B) = false) := by
              show _ = _
              have h1 := HC2.out
              rw [bne_eq_false_iff_eq]; omega
            have HN : Hid (cntB B (fromL m + m.taken) (j + 1) = (d + 1 : Nat)) := hsame
            have hd := HD.out
            clear HD
            go_wp2_with fail
            exact ⟨⟨j + 1, d + 1, by omega, Or.inl (by omega), by go_num, HN.out.symm, by omega, hown, hE2, hBk⟩, by simp [intOf]; omega⟩
          · have HN : Hid (cntB B (fromL m + m.taken) (j + 1) = (d + 1 : Nat) + 1) := hnew
            have hd : ((fromL m + m.taken) / B + d != j / B) = true := by
              have h1 := HC2.out
              rw [bne_iff_ne]; omega
            by_cases hcw : (((d + 1 : Nat) : Int) == W) = true
            · have HR : Hid (winN B W (fromL m + m.taken) (fromL m + lenL m) = d + 1) := by
                show _ = _
                have h1 := cntB_mono B (fromL m + m.taken) (j + 1) (fromL m + lenL m) hB hB2 hlo0 (by omega) (by omega)
                have h2 := beq_iff_eq.1 hcw
                rw [HN.out] at h1
                unfold winN; rw [if_pos (by omega)]; omega
              go_wp2_with fail
              go_ret
              refine ⟨_, rfl, Ext.trans' hE1 hE2, ?_⟩
              rw [HW.out, seq_len, HR.out]
              exact own_base hown (by have := hE1.size; omega)
            · have hcw' : (((d + 1 : Nat) : Int) == W) = false := by simpa using hcw
              have hlw : ((d + 1 : Nat) : Int) < W := by have := beq_eq_false_iff_ne.1 hcw'; omega
              clear hcw
              go_wp2_with (at_builtin; refine app_one Try.underlying25 infoInt rfl (by decide) (by decide) _ rfl _ _ rfl (by rfl) (hown.alloc _) [.int .i64 (j / B)] rfl rfl (news_new _ _ _) (ints_one _) (by omega) (by have := hBk.lt; simp; omega) ?_; intro v1 w2 hown2 hg2 hwh2)
              refine ⟨⟨j + 1, d + 1 + 1, by omega, Or.inl (by omega), by go_num, ?_, by omega, ?_, app_ext hE2 hown (by omega) hg2, app_blk hBk hown (by omega) hg2⟩, by simp [intOf]; omega⟩
              · show _ = _; rw [HN.out]; omega
              · rw [seq_snoc, List.map_append]
                have e1 : (fromL m + m.taken) / B + ((d + 1 : Nat) : Int) = j / B := by have h1 := HC2.out; have h2 := HN.out; omega
                rw [e1]; exact hown2
      · go_wp2
        go_ret
        refine ⟨_, rfl, Ext.trans' hE1 hE2, ?_⟩
        rw [HW.out, seq_len]
        have hcc : winN B W (fromL m + m.taken) (fromL m + lenL m) = c := by
          have h1 := HC.out
          rcases hj2 with h | h
          · have : j = fromL m + lenL m := by omega
            subst this
            unfold winN; split <;> omega
          · subst h
            have h2 : cntB B (fromL m + m.taken) (fromL m + lenL m) = 0 := by unfold cntB; rw [if_pos (by omega)]
            have h3 : cntB B (fromL m + m.taken) (fromL m + m.taken) = 0 := by unfold cntB; rw [if_pos (by omega)]
            unfold winN; rw [h2, if_neg (by omega)]; omega
        rw [hcc]
        exact own_base hown (by have := hE1.size; omega)
end Go.Proofs.Ytpjkicbahocnlaa
