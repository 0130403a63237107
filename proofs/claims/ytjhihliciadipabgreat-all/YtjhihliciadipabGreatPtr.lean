import Derived.Test.YtjhihliciadipabGreatPdef
import Derived.Deep.RegionHeld3
set_option linter.unusedVariables false
set_option linter.unusedSimpArgs false
set_option linter.unnecessarySimpa false
namespace Go.Proofs.YtjhihliciadipabGreat
open Go.RowKit

def setAgg (s : Px) : Value := .agg #[.int .i64 s.mir, .int .i64 s.blk, .int .i64 s.win, .int .i64 s.cap, .int .i64 s.tri]
def erAgg (e : Er) : Value := .agg #[.int .i64 e.path, .int .i64 e.tag, .int .i64 e.tot, .int .i64 e.blk]
theorem setAgg_eq (s : Px) : setAgg s = .agg #[.int .i64 s.mir, .int .i64 s.blk, .int .i64 s.win, .int .i64 s.cap, .int .i64 s.tri] := rfl
theorem erAgg_eq (e : Er) : erAgg e = .agg #[.int .i64 e.path, .int .i64 e.tag, .int .i64 e.tot, .int .i64 e.blk] := rfl

theorem atMost_any (n k : Int) (w : World) : Calls Tryz.prog 96 #[.int .i64 n, .int .i64 k] w fun e w' => e = .returned (.int .i64 (atM n k)) ∧ w' = w := by
  unfold atM
  by_cases h : k < n
  · rw [if_pos h]
    go_enter Tryz.func96, Tryz.ntmps96
    go_wp2_with fail
    go_ret
    exact ⟨rfl, rfl⟩
  · rw [if_neg h]
    go_enter Tryz.func96, Tryz.ntmps96
    go_wp2_with fail
    go_ret
    exact ⟨rfl, rfl⟩

theorem state_any (b o : Nat) (t : Tr) (w : World) (h : TrAt w b o t) :
    Calls Tryz.prog 61 #[.pointer (some ⟨b, o, none⟩)] w fun e w' => e = .returned (.int .i64 (stT t)) ∧ Ext w w' := by
  have c4 : w.cell? ⟨b, o + 4, none⟩ = some (.bool t.bound) := h.c 4
  have c6 : w.cell? ⟨b, o + 6, none⟩ = some (.bool t.lost) := h.c 6
  have c11 : w.cell? ⟨b, o + 11, none⟩ = some (.int .i64 t.hd.len) := h.c 11
  have c12 : w.cell? ⟨b, o + 12, none⟩ = some (.int .i64 t.taken) := h.c 12
  clear h
  unfold stT
  cases hl : t.lost <;> rw [hl] at c6
  · cases hb : t.bound <;> rw [hb] at c4
    · go_enter Tryz.func61, Tryz.ntmps61
      go_wp2_with fail
      go_ret
      exact ⟨rfl, Below.refl _ _⟩
    · by_cases ht : t.taken = t.hd.len
      · rw [ht] at c12
        go_enter Tryz.func61, Tryz.ntmps61
        go_wp2_with fail
        go_region
        go_wp2_with fail
        go_ret
        exact ⟨by simp [ht], Below.drew (Below.refl _ _)⟩
      · have hd : (t.taken == t.hd.len) = false := by simpa using ht
        go_enter Tryz.func61, Tryz.ntmps61
        go_wp2_with fail
        go_region
        go_wp2_with fail
        go_ret
        exact ⟨by simp [ht], Below.drew (Below.refl _ _)⟩
  · go_enter Tryz.func61, Tryz.ntmps61
    go_wp2_with fail
    go_ret
    exact ⟨rfl, Below.refl _ _⟩


theorem version_any (b o : Nat) (t : Tr) (w : World) (h : TrAt w b o t) :
    Calls Tryz.prog 102 #[.pointer (some ⟨b, o, none⟩)] w fun e w' => e = .returned (.agg #[.int .i64 t.hd.tag, .int .i64 t.hd.tot]) ∧ Ext w w' := by
  have c8 : w.cell? ⟨b, o + 8, none⟩ = some (.int .i64 t.hd.tag) := h.c 8
  have c9 : w.cell? ⟨b, o + 9, none⟩ = some (.int .i64 t.hd.tot) := h.c 9
  have hlt := h.lt
  clear h
  go_enter Tryz.func102, Tryz.ntmps102
  go_wp2_with fail
  go_region
  go_wp2_with fail
  refine bodyPost_ret (v := .agg #[.int .i64 t.hd.tag, .int .i64 t.hd.tot]) (by simp [results, Tryz.results102, go_sem]) rfl ⟨rfl, Below.drew (Ext.new w _)⟩

theorem isOpen_any (b o : Nat) (t : Tr) (w : World) (h : TrAt w b o t) :
    Calls Tryz.prog 65 #[.pointer (some ⟨b, o, none⟩)] w fun e w' => e = .returned (.bool (openT t)) ∧ w' = w := by
  have c4 : w.cell? ⟨b, o + 4, none⟩ = some (.bool t.bound) := h.c 4
  have c6 : w.cell? ⟨b, o + 6, none⟩ = some (.bool t.lost) := h.c 6
  clear h
  unfold openT
  cases hl : t.lost <;> rw [hl] at c6
  all_goals cases hb : t.bound <;> rw [hb] at c4
  all_goals
    go_enter Tryz.func65, Tryz.ntmps65
    go_wp2_with fail
    go_ret
    exact ⟨rfl, rfl⟩

theorem win_lost {B W : Int} {t : Tr} (h : t.lost = true) : winT B W t = (0, 0) ∧ stT t = 4 := by simp [winT, stT, h]
theorem win_open {B W : Int} {t : Tr} (h : t.lost = false) (hb : t.bound = false) : winT B W t = (0, 1) ∧ stT t = 1 := by simp [winT, stT, h, hb]
theorem win_done {B W : Int} {t : Tr} (h : t.lost = false) (hb : t.bound = true) (hk : t.taken = t.hd.len) : winT B W t = (0, 0) ∧ stT t = 3 := by simp [winT, stT, h, hb, hk]
theorem win_going {B W : Int} {t : Tr} (h : t.lost = false) (hb : t.bound = true) (hk : t.taken ≠ t.hd.len) : winT B W t = ((t.hd.frm + t.taken) / B, atM ((t.hd.frm + t.hd.len - 1) / B + 1) ((t.hd.frm + t.taken) / B + W)) ∧ stT t = 2 := by simp [winT, stT, h, hb, hk]

theorem window_known (b o : Nat) (t : Tr) (s : Px) (w : World) (h : TrAt w b o t) (x y z : Int) (hz : stT t = z) (hxy : z = 4 ∧ x = 0 ∧ y = 0 ∨ z = 3 ∧ x = 0 ∧ y = 0 ∨ z = 1 ∧ x = 0 ∧ y = 1) :
    Calls Tryz.prog 95 #[.pointer (some ⟨b, o, none⟩), setAgg s] w fun e w' => e = .returned (.tuple #[.int .i64 x, .int .i64 y]) ∧ Ext w w' := by
  rw [setAgg_eq]
  rcases hxy with ⟨rfl, rfl, rfl⟩ | ⟨rfl, rfl, rfl⟩ | ⟨rfl, rfl, rfl⟩
  all_goals
    go_enter Tryz.func95, Tryz.ntmps95
    go_wp2_with fail
    have hE := Ext.new w (.cells #[.int .i64 s.mir, .int .i64 s.blk, .int .i64 s.win, .int .i64 s.cap, .int .i64 s.tri] 45)
    refine (state_any b o t _ (h.ext hE)).mono ?_
    rintro e w1 ⟨rfl, hE1⟩
    have hE2 := Ext.trans' hE hE1
    rw [hz]
    go_wp2_with fail
    go_ret2
    exact ⟨rfl, hE2⟩

theorem tdiv_pos {a b : Int} (h : 0 ≤ a) : a.tdiv b = a / b := Int.tdiv_eq_ediv_of_nonneg h

set_option maxHeartbeats 1000000 in
theorem window_going (b o : Nat) (t : Tr) (s : Px) (w : World) (h : TrAt w b o t) (ok : TrOk t) (hf : Fair s) (hz : stT t = 2) (hk : t.taken ≠ t.hd.len) :
    Calls Tryz.prog 95 #[.pointer (some ⟨b, o, none⟩), setAgg s] w fun e w' => e = .returned (.tuple #[.int .i64 ((t.hd.frm + t.taken) / s.blk), .int .i64 (atM ((t.hd.frm + t.hd.len - 1) / s.blk + 1) ((t.hd.frm + t.taken) / s.blk + s.win))]) ∧ Ext w w' := by
  have c10 : w.cell? ⟨b, o + 10, none⟩ = some (.int .i64 t.hd.frm) := h.c 10
  have c11 : w.cell? ⟨b, o + 11, none⟩ = some (.int .i64 t.hd.len) := h.c 11
  have c12 : w.cell? ⟨b, o + 12, none⟩ = some (.int .i64 t.taken) := h.c 12
  have hlt := h.lt
  have hB1 := hf.B1
  have hB2 := hf.B2
  have hW1 := hf.W1
  have hW2 := hf.W2
  have hr0 := ok.r0
  have hn0 := ok.n0
  have hn1 := ok.n1
  have hk0 := ok.k0
  have hk1 := ok.k1
  rw [setAgg_eq]
  go_enter Tryz.func95, Tryz.ntmps95
  go_wp2_with fail
  have hE := Ext.new w (.cells #[.int .i64 s.mir, .int .i64 s.blk, .int .i64 s.win, .int .i64 s.cap, .int .i64 s.tri] 45)
  refine (state_any b o t _ (h.ext hE)).mono ?_
  rintro e w1 ⟨rfl, hE1⟩
  have hE2 := Ext.trans' hE hE1
  rw [hz]
  have hBs := (Blk.new w 45 #[.int .i64 s.mir, .int .i64 s.blk, .int .i64 s.win, .int .i64 s.cap, .int .i64 s.tri]).ext hE1
  have s1 : w1.cell? ⟨w.heap.size, 1, none⟩ = some (.int .i64 s.blk) := hBs.cell 1
  have s2 : w1.cell? ⟨w.heap.size, 2, none⟩ = some (.int .i64 s.win) := hBs.cell 2
  replace c10 := ext_cell hE2 c10
  replace c11 := ext_cell hE2 c11
  replace c12 := ext_cell hE2 c12
  have hdz : (s.blk == 0) = false := by simp; omega
  have q1 : 0 ≤ (t.hd.frm + t.taken) / s.blk := Int.ediv_nonneg (by omega) (by omega)
  have q2 : (t.hd.frm + t.taken) / s.blk ≤ 1000 := Int.le_trans (Int.ediv_le_self _ (by omega)) (by omega)
  have q3 : 0 ≤ (t.hd.frm + t.hd.len - 1) / s.blk := Int.ediv_nonneg (by omega) (by omega)
  have q4 : (t.hd.frm + t.hd.len - 1) / s.blk ≤ 1000 := Int.le_trans (Int.ediv_le_self _ (by omega)) (by omega)
  go_wp2_with fail
  go_region
  go_wp2_with fail
  go_region
  go_wp2_with fail
  refine (atMost_any _ _ _).mono ?_
  rintro e w2 ⟨rfl, rfl⟩
  go_wp2_with fail
  go_ret2
  exact ⟨rfl, Below.drew (Below.drew hE2)⟩

theorem pwindow_any (b o : Nat) (t : Tr) (s : Px) (w : World) (h : TrAt w b o t) (ok : TrOk t) (hf : Fair s) :
    Calls Tryz.prog 95 #[.pointer (some ⟨b, o, none⟩), setAgg s] w fun e w' => e = .returned (.tuple #[.int .i64 (winT s.blk s.win t).1, .int .i64 (winT s.blk s.win t).2]) ∧ Ext w w' := by
  cases hl : t.lost
  · cases hb : t.bound
    · have := win_open (B := s.blk) (W := s.win) hl hb
      rw [this.1]; exact window_known b o t s w h 0 1 1 this.2 (by simp)
    · by_cases ht : t.taken = t.hd.len
      · have := win_done (B := s.blk) (W := s.win) hl hb ht
        rw [this.1]; exact window_known b o t s w h 0 0 3 this.2 (by simp)
      · have := win_going (B := s.blk) (W := s.win) hl hb ht
        rw [this.1]; exact window_going b o t s w h ok hf this.2 ht
  · have := win_lost (B := s.blk) (W := s.win) hl
    rw [this.1]; exact window_known b o t s w h 0 0 4 this.2 (by simp)
end Go.Proofs.YtjhihliciadipabGreat

namespace Go.Proofs.YtjhihliciadipabGreat
open Go.RowKit

set_option maxHeartbeats 1000000 in
@[go_sem] theorem eqPv (d : Nat) (a0 a1 b0 b1 : Int) (w : World) : (Op.equalIn (d + 2) 89 (.agg #[.int .i64 a0, .int .i64 a1]) (.agg #[.int .i64 b0, .int .i64 b1])).run Tryz.prog w = .ok (a0 == b0 && a1 == b1) w := by
  have u3 := Tryz.underlying3
  have ag3 := Tryz.isAgg3
  have z3 := Tryz.sizeOf3
  have hS : Tryz.prog.underlying 89 = some (.struct (Tryz.prog.fieldsOf 89)) := by kernel_rfl
  have hp : Tryz.prog.stoodInHeld 89 = false := by kernel_rfl
  rw [show d + 2 = (d + 1) + 1 from rfl, run_equalIn_agg w (d + 1) 89 _ _ hS hp]
  simp only [Program.fieldsOf, Tryz.underlying89]
  go_simp
  by_cases h0 : a0 = b0 <;> by_cases h1 : a1 = b1 <;> simp [h0, h1]
@[go_sem] theorem eqPv' (a0 a1 b0 b1 : Int) (w : World) : (Op.equalIn 10000 89 (.agg #[.int .i64 a0, .int .i64 a1]) (.agg #[.int .i64 b0, .int .i64 b1])).run Tryz.prog w = .ok (a0 == b0 && a1 == b1) w := eqPv 9998 _ _ _ _ w

def erEq (t : Tr) (e : Er) : Bool := t.path == e.path && (t.hd.tag == e.tag && t.hd.tot == e.tot)
theorem wantsT_eq (B W : Int) (t : Tr) (e : Er) : wantsT B W t e = (erEq t e && decide ((winT B W t).1 ≤ e.blk) && decide (e.blk < (winT B W t).2) && (heldAt t e.blk).toList.isEmpty) := rfl

theorem winT_bd {t : Tr} {s : Px} (ok : TrOk t) (hf : Fair s) : 0 ≤ (winT s.blk s.win t).1 ∧ (winT s.blk s.win t).1 ≤ 1000 ∧ 0 ≤ (winT s.blk s.win t).2 ∧ (winT s.blk s.win t).2 ≤ 1001 ∧ (winT s.blk s.win t).2 ≤ (winT s.blk s.win t).1 + 4 := by
  have hB1 := hf.B1
  have hB2 := hf.B2
  have hW1 := hf.W1
  have hW2 := hf.W2
  have hr0 := ok.r0
  have hn0 := ok.n0
  have hn1 := ok.n1
  have hk0 := ok.k0
  have hk1 := ok.k1
  unfold winT
  split
  · simp
  · split
    · simp
    · split
      · simp
      · have q1 : 0 ≤ (t.hd.frm + t.taken) / s.blk := Int.ediv_nonneg (by omega) (by omega)
        have q2 : (t.hd.frm + t.taken) / s.blk ≤ 1000 := Int.le_trans (Int.ediv_le_self _ (by omega)) (by omega)
        have q3 : 0 ≤ (t.hd.frm + t.hd.len - 1) / s.blk := Int.ediv_nonneg (by omega) (by omega)
        have q4 : (t.hd.frm + t.hd.len - 1) / s.blk ≤ 1000 := Int.le_trans (Int.ediv_le_self _ (by omega)) (by omega)
        unfold atM
        simp only
        split <;> omega

end Go.Proofs.YtjhihliciadipabGreat
