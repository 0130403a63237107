import Derived.Test.YtjhihliciadipabGreatLawM
import Derived.Deep.DrawnRows
set_option linter.unusedVariables false
set_option linter.unusedSimpArgs false
set_option linter.unnecessarySimpa false
namespace Go.Proofs.YtjhihliciadipabGreat
open Go.RowKit
attribute [local go_sem ↓] Go.wp_at_zero Go.wp_at_succ

set_option maxRecDepth 100000 in
set_option maxHeartbeats 2000000 in
theorem plays_moves (W : Nat) (col : Nat → Nat) (A : Lw) (C : Int) (kind K a b c d e : Int) (s : ByteArray) (w : World) (h : LwAt w W col A) (hf : Fit A C) (hk2 : 2 ≤ kind) (hk11 : kind ≤ 5) (hn0 : 0 < A.xs.length) (hn : A.xs.length ≤ 7999999999000) (hl : A.lists.length ≤ 7999999999000)
    (hC : C ≤ 20000000000000000) (hs : s.size ≤ 9223372036854775807) (hb : b ≤ 9223372036854775807) (hK0 : -9223372036854775808 ≤ K) (hK1 : K ≤ 9223372036854775807) :
    Calls Tryz.prog 7 #[.pointer (some ⟨W, 0, none⟩), .agg #[.int .i64 kind, .int .i64 K, .int .i64 a, .int .i64 b, .int .i64 c, .int .i64 d, .int .i64 e, .string s]] w fun e w' =>
      LRet kind e ∧ LPost w w' W col A C := by
  have hE := Ext.new w (.cells #[.int .i64 kind, .int .i64 K, .int .i64 a, .int .i64 b, .int .i64 c, .int .i64 d, .int .i64 e, .string s] 33)
  have hB := Blk.new w 33 #[.int .i64 kind, .int .i64 K, .int .i64 a, .int .i64 b, .int .i64 c, .int .i64 d, .int .i64 e, .string s]
  have h1 := h.ext hE
  have hps : A.ps.length = A.xs.length := by rw [hf.ps]; simp
  have hrs : A.rs.length = A.xs.length := by rw [hf.rs]; simp
  obtain ⟨kk, hkk, hkl⟩ := pickL_bd K A.xs.length hn0
  have hx : A.xs[kk]? = some A.xs[kk] := by simp [hkl]
  obtain ⟨aP, capP, hvP, haP⟩ := own_form (h.ps id).1
  obtain ⟨aR, capR, hvR, haR⟩ := own_form (h.rs id).1
  obtain ⟨gP, rfl⟩ := haP (by omega)
  obtain ⟨gR, rfl⟩ := haR (by omega)
  have hoP := (h.ps id).1
  have hoR := (h.rs id).1
  have cP : w.cell? ⟨W, 0, none⟩ = some A.vP := (h.blk id).cell 0
  have cR : w.cell? ⟨W, 1, none⟩ = some A.vR := (h.blk id).cell 1
  rw [hvP] at cP hoP
  rw [hvR] at cR hoR
  have eP : w.cell? ⟨gP, kk, none⟩ = some (.pointer (some ⟨A.xs[kk].q, 0, none⟩)) := by
    rw [hoP.cellAt kk (by omega), hf.ps]; simp [hkl, ptrV]
  have eR : w.cell? ⟨gR, kk, none⟩ = some (.pointer (some ⟨A.xs[kk].r, 0, none⟩)) := by
    rw [hoR.cellAt kk (by omega), hf.rs]; simp [hkl, ptrV]
  rw [hps] at cP
  rw [hrs] at cR
  have hlt := h.ltW
  have hgP := World.block_lt_of_cell? w _ eP
  have hgR := World.block_lt_of_cell? w _ eR
  generalize A.xs[kk] = x at *
  have H1 := hide h1
  have HF := hide hf
  have HX := hide hx
  have HN := hide hl
  clear h1 hf hx hl h hvP hvR haP haR hoP hoR hps hrs
  generalize hnx : A.xs.length = n at *
  have HNX := hide hnx
  clear hnx
  have hkl' : (kk : Int) < n := by omega
  have hn0' : ¬ ((n : Int) = 0) := by omega
  have hgd : ((n : Int) == 0 || decide (kind < 1) || decide (11 < kind)) = false := by simp only [Bool.or_eq_false_iff, beq_eq_false_iff_ne, decide_eq_false_iff_not, ne_eq]; omega
  have k1 : ¬ (kind = 1) := by omega
  have ck : (w.alloc (.cells #[.int .i64 kind, .int .i64 K, .int .i64 a, .int .i64 b, .int .i64 c, .int .i64 d, .int .i64 e, .string s] 33)).cell? ⟨w.heap.size, 1, none⟩ = some (.int .i64 K) := hB.cell 1
  clear hB
  go_enter Tryz.func7, Tryz.ntmps7
  go_wp2_with fail
  go_region_held3 (fun w' => w'.cell? ⟨w.heap.size, 1, none⟩ = some (.int .i64 K) ∧ w'.cell? ⟨W, 0, none⟩ = some (.slice (some ⟨gP, 0, none⟩) n capP)) (go_keep) ((go_at_call 10; refine (pick_any K n _ hn0 (by omega) hK0 hK1).mono ?_; rintro e1 w1 ⟨rfl, rfl⟩))
  have hE2 : Ext w (w.alloc (.cells #[.int .i64 kind, .int .i64 K, .int .i64 a, .int .i64 b, .int .i64 c, .int .i64 d, .int .i64 e, .string s] 33)).drew.drew := Below.drew (Below.drew hE)
  have h2 : LwAt (w.alloc (.cells #[.int .i64 kind, .int .i64 K, .int .i64 a, .int .i64 b, .int .i64 c, .int .i64 d, .int .i64 e, .string s] 33)).drew.drew W (recol w col 5) A := H1.out.drew2
  have H2 := hide h2
  clear h2
  go_wp2_with fail
  go_region_with (go_at_call 11; refine (moves_any W _ A C kk x kind K a b c d e s _ H2.out HF.out HX.out hC hs hk2 hk11).mono ?_; rintro e1 w3 ⟨rfl, hP⟩; have HP := hide (LPost.ext hE2 hP); clear hP)
  all_goals go_wp2_with fail
  all_goals (go_ret; exact ⟨rfl, HP.out⟩)
end Go.Proofs.YtjhihliciadipabGreat
