import Derived.Test.YtjhihliciadipabGreatWind
import Derived.Test.YtjhihliciadipabGreatBase
set_option linter.unusedVariables false
set_option linter.unusedSimpArgs false
set_option linter.unnecessarySimpa false
namespace Go.Proofs.YtjhihliciadipabGreat
open Go.RowKit

structure MvOk (m : Mv) : Prop where
  sp : SpnOk m.sp
  t0 : 0 ≤ m.tot
  t1 : m.tot ≤ 1000
  k0 : 0 ≤ m.taken
  k1 : m.taken ≤ 1000
  hl : m.has.length ≤ 1000000
  hb : ∀ b ∈ m.has, b.size ≤ 16

structure SetAt (w : World) (p : Nat) (B W : Int) : Prop where
  B1 : 1 ≤ B
  B2 : B ≤ 16
  W1 : 1 ≤ W
  W2 : W ≤ 4
  cB : w.cell? ⟨p, 1, none⟩ = some (.int .i64 B)
  cW : w.cell? ⟨p, 2, none⟩ = some (.int .i64 W)
theorem SetAt.ext {w w' : World} {p : Nat} {B W : Int} (h : SetAt w p B W) (hE : Ext w w') : SetAt w' p B W := ⟨h.B1, h.B2, h.W1, h.W2, ext_cell hE h.cB, ext_cell hE h.cW⟩

/-- What a transfer holds, by block number. -/
structure HasAt (w : World) (b o : Nat) (hv : Value) (has : List ByteArray) : Prop where
  c : w.cell? ⟨b, o + 11, none⟩ = some hv
  own : w.ownsRow 0 9 1 hv has.length (has.map .string)
theorem HasAt.ext {w w' : World} {b o : Nat} {hv : Value} {has : List ByteArray} (h : HasAt w b o hv has) (hE : Ext w w') : HasAt w' b o hv has := ⟨ext_cell hE h.c, own_ext h.own hE⟩

def wantsL (B W : Int) (m : Mv) : List Int :=
  if m.tag = 0 ∧ m.lost = false then [0] else (winL B W m).filter (fun k => (heldL m.has k).toList.isEmpty)

theorem win_bd (B W : Int) (m : Mv) (hB : 1 ≤ B) (hB2 : B ≤ 16) (hW2 : W ≤ 4) (hm : MvOk m) : ∀ k ∈ winL B W m, 0 ≤ k ∧ k ≤ 100000 := by
  intro k hk
  unfold winL at hk
  split at hk
  · simp at hk
  · rw [seq_mem] at hk
    have hbd := cnt_bd m.sp m.tot m.tot.toNat
    have h1 := hm.t0; have h2 := hm.t1; have h3 := hm.k0; have h4 := hm.k1
    have hf1 : 0 ≤ fromL m ∧ fromL m ≤ 1000 := by unfold fromL; omega
    have hst := cntB_step B (fromL m + m.taken) (fromL m + m.taken) hB hB2 (by omega) (Int.le_refl _)
    have hn : (winN B W (fromL m + m.taken) (fromL m + lenL m) : Int) ≤ 4 := by unfold winN; split <;> omega
    omega
theorem win_len (B W : Int) (m : Mv) (hW2 : W ≤ 4) : (winL B W m).length ≤ 4 := by
  unfold winL
  split
  · simp
  · rw [seq_len]; unfold winN; split <;> omega

set_option maxHeartbeats 1000000 in
theorem wants_any (p b o : Nat) (B W : Int) (m : Mv) (hv : Value) (w : World) (hm : MvAt w b o m) (ok : MvOk m) (hs : SetAt w p B W) (hh : HasAt w b o hv m.has) :
    Calls Tryz.prog 50 #[.pointer (some ⟨p, 0, none⟩), .pointer (some ⟨b, o, none⟩)] w fun e w' =>
      ∃ v, e = .returned v ∧ Ext w w' ∧ w'.ownsRow w.heap.size 3 1 v (wantsL B W m).length ((wantsL B W m).map (.int .i64)) := by
  have hp : p < w.heap.size := World.block_lt_of_cell? w _ hs.cB
  have hb : b < w.heap.size := World.block_lt_of_cell? w _ hm.path
  have h4 := hm.tag
  have h7 := hm.lost
  have HR : Hid ((m.tag = 0 ∧ m.lost = false) → wantsL B W m = [0]) := fun h => if_pos h
  have HF : Hid (¬ (m.tag = 0 ∧ m.lost = false) → wantsL B W m = (winL B W m).filter (fun k => (heldL m.has k).toList.isEmpty)) := fun h => if_neg h
  have HB := hide (win_bd B W m hs.B1 hs.B2 hs.W2 ok)
  have HL := win_len B W m hs.W2
  have hhl := ok.hl
  by_cases hop : m.tag = 0 ∧ m.lost = false
  · rw [hop.1] at h4
    rw [hop.2] at h7
    have HR2 := hide (HR.out hop)
    clear hop HL
    go_enter Tryz.func50, Tryz.ntmps50
    go_wp2
    go_ret
    rw [HR2.out]
    exact ⟨_, rfl, Ext.new w _, World.ownsRow_lit w #[.int .i64 0] 1 (Nat.le_refl _) (by unfold maxLen; omega) rfl⟩
  · have HF2 := hide (HF.out hop)
    have HO := hide hop
    have hA : (m.tag == 0) = true → m.lost = true := by
      intro h; cases h2 : m.lost
      · exact absurd ⟨by simpa using h, h2⟩ hop
      · rfl
    clear hop
    generalize hwl : winL B W m = wl at *
    have hnot : (m.tag == 0 && !m.lost) = false := by
      cases h1 : (m.tag == 0)
      · rfl
      · rw [hA h1]; rfl
    by_cases h0 : (m.tag == 0) = true
    all_goals (try have h0' : (m.tag == 0) = false := by simpa using h0)
    all_goals (try (have h1 := hA h0; rw [h1] at h7; clear h1))
    all_goals clear hA hnot
    all_goals go_enter Tryz.func50, Tryz.ntmps50
    all_goals go_wp2_with fail
    all_goals refine (window_any p b o B W m _ hm ok.sp ok.t0 ok.t1 hs.B1 hs.B2 hs.W1 hs.W2 hs.cB hs.cW ok.k0 ok.k1).mono ?_
    all_goals rintro e w1 ⟨v1, rfl, hE1, hown1⟩
    all_goals rw [hwl] at hown1
    all_goals clear hwl h4 h7
    all_goals obtain ⟨a1, cap1, rfl, hg1⟩ := own_form hown1
    all_goals go_wp2_with fail
    all_goals go_loopw [5, 7] (fun l i w' => ∃ k : Nat, k ≤ wl.length ∧ i = .int .i64 k ∧ Ext w1 w' ∧
      w'.ownsRow w1.heap.size 3 1 l ((wl.take k).filter (fun k => (heldL m.has k).toList.isEmpty)).length (((wl.take k).filter (fun k => (heldL m.has k).toList.isEmpty)).map (.int .i64))) (fun _ i _ => wl.length - (intOf i).toNat)
    case atStart => exact ⟨0, Nat.zero_le _, rfl, Below.refl _ _, World.ownsRow_nil _ _ _ _⟩
    case atStart => exact ⟨0, Nat.zero_le _, rfl, Below.refl _ _, World.ownsRow_nil _ _ _ _⟩
    all_goals
      obtain ⟨k, hk, rfl, hE2, hown2⟩ := hrel
      by_cases hlt : k < wl.length
      · obtain ⟨g1, rfl⟩ := hg1 (by omega)
        have hck : wr.cell? ⟨g1, k, none⟩ = some (.int .i64 wl[k]) := by
          rw [(own_ext hown1 hE2).cellAt k (by omega)]; simp [hlt]
        have hbd := HB.out wl[k] (List.getElem_mem hlt)
        have hh2 := (hh.ext hE1).ext hE2
        have HT : Hid ((wl.take (k + 1)).filter (fun k => (heldL m.has k).toList.isEmpty) = (wl.take k).filter (fun k => (heldL m.has k).toList.isEmpty) ++ (if (heldL m.has wl[k]).toList.isEmpty then [wl[k]] else [])) := by
          show _ = _
          rw [List.take_succ_eq_append_getElem hlt, List.filter_append]
          simp [List.filter_cons]
        have hfl : ((wl.take k).filter (fun k => (heldL m.has k).toList.isEmpty)).length ≤ 4 := by
          have h1 := List.length_filter_le (fun k => (heldL m.has k).toList.isEmpty) (wl.take k)
          have h2 := List.length_take_le k wl
          omega
        generalize (wl.take k).filter (fun k => (heldL m.has k).toList.isEmpty) = fl at *
        clear hg1
        go_wp2_with fail
        refine (held_any b o m.has hv wl[k] _ 0 hh2.c hh2.own hbd.1 (by omega) (by omega)).mono ?_
        rintro e w' ⟨rfl, rfl⟩
        cases hem : (heldL m.has wl[k]).toList.isEmpty
        · have HT2 : Hid ((wl.take (k + 1)).filter (fun k => (heldL m.has k).toList.isEmpty) = fl) := by
            have := HT.out; rw [hem] at this; show _ = _; simpa using this
          clear HT
          go_wp2_with fail
          exact ⟨⟨k + 1, by omega, by go_num, hE2, by rw [HT2.out]; exact hown2⟩, by simp [intOf]; omega⟩
        · have HT2 : Hid ((wl.take (k + 1)).filter (fun k => (heldL m.has k).toList.isEmpty) = fl ++ [wl[k]]) := by
            have := HT.out; rw [hem] at this; show _ = _; simpa using this
          clear HT
          go_wp2_with (at_builtin; refine app_one Tryz.underlying29 infoInt rfl (by decide) (by decide) _ rfl _ _ rfl (by rfl) (hown2.alloc _) [.int .i64 wl[k]] rfl rfl (news_new _ _ _) (ints_one _) (by omega) (by have := hE2.size; simp; omega) ?_; intro v3 w3 hown3 hg3 hwh3)
          refine ⟨⟨k + 1, by omega, by go_num, app_ext hE2 hown2 (by omega) hg3, ?_⟩, by simp [intOf]; omega⟩
          rw [HT2.out, List.length_append, List.map_append]; exact hown3
      · go_wp2
        go_ret
        rw [HF2.out]
        rw [List.take_of_length_le (by omega)] at hown2
        exact ⟨_, rfl, Ext.trans' hE1 hE2, own_base hown2 hE1.size⟩
end Go.Proofs.YtjhihliciadipabGreat

namespace Go.Proofs.YtjhihliciadipabGreat
open Go.RowKit

structure Jb where
  on : Bool
  path : Int
  tag : Int
  tot : Int
  k : Int
def jobV (j : Jb) : List Value := [.bool j.on, .int .i64 j.path, .int .i64 j.tag, .int .i64 j.tot, .int .i64 j.k]

def wantingL (B W : Int) (m : Mv) (j : Jb) : Bool := decide (m.path = j.path) && decide (m.tag = j.tag) && decide (m.tot = j.tot) && decide (j.k ∈ wantsL B W m)

theorem wants_len (B W : Int) (m : Mv) (hW2 : W ≤ 4) : (wantsL B W m).length ≤ 4 := by
  unfold wantsL
  split
  · simp
  · exact Nat.le_trans (List.length_filter_le _ _) (win_len B W m hW2)

set_option maxHeartbeats 1000000 in
theorem wanting_any (p b o : Nat) (B W : Int) (m : Mv) (hv : Value) (j : Jb) (w : World) (hm : MvAt w b o m) (ok : MvOk m) (hs : SetAt w p B W) (hh : HasAt w b o hv m.has) :
    Calls Tryz.prog 89 #[.pointer (some ⟨p, 0, none⟩), .pointer (some ⟨b, o, none⟩), .agg #[.bool j.on, .int .i64 j.path, .int .i64 j.tag, .int .i64 j.tot, .int .i64 j.k]] w fun e w' =>
      e = .returned (.bool (wantingL B W m j)) ∧ Ext w w' := by
  have hp : p < w.heap.size := World.block_lt_of_cell? w _ hs.cB
  have hb : b < w.heap.size := World.block_lt_of_cell? w _ hm.path
  have h0 := hm.path
  have h4 := hm.tag
  have h5 : w.cell? ⟨b, o + 4 + 1, none⟩ = some (.int .i64 m.tot) := hm.tot
  have HL := hide (wants_len B W m hs.W2)
  have HD : Hid (wantingL B W m j = (decide (m.path = j.path) && decide (m.tag = j.tag) && decide (m.tot = j.tot) && decide (j.k ∈ wantsL B W m))) := rfl
  by_cases hpa : (m.path != j.path) = true
  · go_enter Tryz.func89, Tryz.ntmps89
    go_wp2_with fail
    go_quiet (fail)
    go_wp2
    go_ret
    refine ⟨ret_bool ?_, Ext.drewN (Ext.new w _) _⟩
    rw [HD.out]; simp at hpa; simp [hpa]
  · have hpa' : (m.path != j.path) = false := by simpa using hpa
    have hpe : m.path = j.path := by simpa using hpa
    have HPE := hide hpe
    clear hpa hpe
    by_cases ht1 : m.tag = j.tag
    · by_cases ht2 : m.tot = j.tot
      · have HD2 : Hid (wantingL B W m j = decide (j.k ∈ wantsL B W m)) := by
          show _ = _
          rw [HD.out, HPE.out, ht1, ht2]; simp
        clear HD
        go_enter Tryz.func89, Tryz.ntmps89
        go_wp2_with fail
        go_quiet (fail)
        go_wp2_with fail
        have hE0 : Ext w ((w.alloc (.cells #[.bool j.on, .int .i64 j.path, .int .i64 j.tag, .int .i64 j.tot, .int .i64 j.k] 124)).drewN nq) := Ext.drewN (Ext.new w _) _
        refine (wants_any p b o B W m hv _ (hm.ext hE0) ok (hs.ext hE0) (hh.ext hE0)).mono ?_
        rintro e w1 ⟨v1, rfl, hE1, hown1⟩
        have hjk : w1.cell? ⟨w.heap.size, 4, none⟩ = some (.int .i64 j.k) := ext_cell hE1 (by simp)
        have HL2 := HL.out
        have hE2 := Ext.trans' hE0 hE1
        clear h0 h4 h5 hE0 hE1
        go_wp2_with fail
        refine (in_any (wantsL B W m) v1 j.k _ (by unfold maxLen; omega) _ hown1).mono ?_
        rintro e w' ⟨rfl, rfl⟩
        go_wp2
        go_ret
        exact ⟨ret_bool HD2.out.symm, hE2⟩
      · go_enter Tryz.func89, Tryz.ntmps89
        go_wp2_with fail
        go_quiet (fail)
        go_wp2
        go_ret
        refine ⟨ret_bool ?_, Ext.drewN (Ext.new w _) _⟩
        rw [HD.out]; simp [ht2]
    · go_enter Tryz.func89, Tryz.ntmps89
      go_wp2_with fail
      go_quiet (fail)
      go_wp2
      go_ret
      refine ⟨ret_bool ?_, Ext.drewN (Ext.new w _) _⟩
      rw [HD.out]; simp [ht1]
end Go.Proofs.YtjhihliciadipabGreat
