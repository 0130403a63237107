import Derived.Test.YtjhihliciadipabGreatKeep0
import Derived.Test.YtjhihliciadipabGreatReadW
import Derived.Deep.RegionHeld3
set_option linter.unusedVariables false
set_option linter.unusedSimpArgs false
set_option linter.unnecessarySimpa false
namespace Go.Proofs.YtjhihliciadipabGreat
open Go.RowKit

theorem fold_digits (l : List UInt8) (v : Int) (B : Int) (h : l.all isDig = true) (hv : 0 ≤ v) (hv2 : v ≤ B) (hl : l.length ≤ 6) (hB : (B + 1) * 10 ^ l.length ≤ 1000000) : 0 ≤ l.foldl valStep v ∧ l.foldl valStep v ≤ 999999 := by
  induction l generalizing v B with
  | nil => simp at hB ⊢; omega
  | cons c l ih =>
    simp only [List.all_cons, Bool.and_eq_true] at h
    have hd := h.1
    unfold isDig at hd
    simp at hd
    have hB3 : (B + 1) * 10 * 10 ^ l.length ≤ 1000000 := by
      rw [List.length_cons, Int.pow_succ, Int.mul_comm (10 ^ l.length) 10, ← Int.mul_assoc] at hB; exact hB
    have hpos : (1 : Int) ≤ 10 ^ l.length := by
      have : (0 : Int) < 10 ^ l.length := Int.pow_pos (by omega)
      omega
    have hB4 : (B + 1) * 10 ≤ 1000000 := by
      have h1 : (B + 1) * 10 * 1 ≤ (B + 1) * 10 * 10 ^ l.length := Int.mul_le_mul_of_nonneg_left hpos (by omega)
      omega
    have hw : valStep v c = 10 * v + c.toNat - 48 := by
      unfold valStep
      rw [Go.IntWalk.wrap64_in (10 * v) (by omega), Go.IntWalk.wrap64_in (10 * v + c.toNat) (by omega), Go.IntWalk.wrap64_in _ (by omega)]
    rw [List.foldl_cons, hw]
    refine ih _ (10 * B + 9) h.2 (by omega) (by omega) (by simp at hl; omega) ?_
    rw [show 10 * B + 9 + 1 = (B + 1) * 10 from by omega]; exact hB3
theorem value_bd (s : ByteArray) (h : digitsL s = true) : s.size ≤ 6 ∧ 0 ≤ valueL s ∧ valueL s ≤ 999999 := by
  unfold digitsL at h
  simp only [Bool.and_eq_true, decide_eq_true_eq] at h
  have hl : s.data.toList.length = s.size := by simp
  have hp : (10 : Int) ^ s.data.toList.length ≤ 1000000 := by
    rw [hl]
    have : s.size = 0 ∨ s.size = 1 ∨ s.size = 2 ∨ s.size = 3 ∨ s.size = 4 ∨ s.size = 5 ∨ s.size = 6 := by omega
    rcases this with h | h | h | h | h | h | h <;> rw [h] <;> decide
  have := fold_digits s.data.toList 0 0 h.1 (by omega) (by omega) (by omega) (by omega)
  exact ⟨by omega, this.1, this.2⟩
theorem noSpn_ok : SpnOk noSpn := ⟨by decide, by decide, by decide, by decide, by decide, by decide⟩
theorem readL_ok (s : ByteArray) : SpnOk (readL s) := by
  unfold readL
  split
  · exact noSpn_ok
  split
  · unfold read2
    split
    · exact noSpn_ok
    split
    · exact noSpn_ok
    · rename_i h
      unfold readBad at h
      simp only [Bool.or_eq_true, not_or, Bool.not_eq_true', Bool.not_eq_false] at h
      have h1 := value_bd _ h.1.1.1
      have h2 := value_bd _ h.1.1.2
      exact ⟨h1.1, h2.1, h1.2.1, h1.2.2, h2.2.1, h2.2.2⟩
  · exact noSpn_ok

theorem infoMoved : (Tryz.prog.info? 118).map (fun i => (i.zero, i.size, i.bytes)) = some (some (.agg #[.int .i64 0, .bool false, .string ByteArray.empty, .string ByteArray.empty, .int .i64 0, .int .i64 0, .bool false, .bool false, .bool false, .int .i64 0, .int .i64 0, .slice none 0 0]), 12, 112) := by kernel_rfl
def newMv (s : Pr) (path : Nat) (r : ByteArray) : Mv := ⟨path, readL r, ((s.latest[path]?).getD (0, 0)).1, ((s.latest[path]?).getD (0, 0)).2, false, false, false, 0, 0, []⟩
theorem mv_one (m : Mv) : ∀ u ∈ mvV m (.slice none 0 0), u.oneCell' = true := by
  intro u hu; simp [mvV] at hu; rcases hu with rfl | rfl | rfl | rfl | rfl | rfl | rfl | rfl | rfl | rfl | rfl | rfl <;> rfl
def askOk (s : Pr) (path : Int) : Bool := decide (0 ≤ path) && decide (path < 4) && decide (s.ts.length < 8)
def askL (s : Pr) (path : Int) (r : ByteArray) : Pr := if askOk s path = true then lookL { s with ts := s.ts ++ [newMv s path.toNat r] } else s
def askR (s : Pr) (path : Int) : Int × Int := if 0 ≤ path ∧ path < 4 then (if s.ts.length = 8 then (0, 3) else (s.ts.length, 0)) else (0, 2)

set_option maxRecDepth 100000 in
set_option maxHeartbeats 2000000 in
theorem Ask_new (p : Nat) (s : Pr) (L : Lay) (C : Int) (path : Nat) (r : ByteArray) (w : World) (h : PrAt w p s L) (inv : Inv s C) (hC : C ≤ 30000000000000000) (hlat : s.latest.length = 4) (hla : ∀ v ∈ s.latest, 0 ≤ v.2 ∧ v.2 ≤ 1000)
    (hr : r.size ≤ 9223372036854775807) (hp4 : path < 4) (hn8 : s.ts.length < 8) :
    Calls Tryz.prog 19 #[.pointer (some ⟨p, 0, none⟩), .int .i64 path, .string r] w fun e w' =>
      e = .returned (.tuple #[.int .i64 s.ts.length, .int .i64 0]) ∧ ∃ L', PrAt w' p (lookL { s with ts := s.ts ++ [newMv s path r] }) L' ∧ Mvs w w' p L L' := by
  have hvT : w.cell? ⟨p, 5, none⟩ = some L.vT := h.blk.cell 5
  obtain ⟨aT, capT, hT, -⟩ := own_form h.ts
  rw [hT] at hvT
  have hx : s.latest[path]? = some (s.latest[path]'(by omega)) := by simp
  have hxv := hla _ (List.getElem_mem (show path < s.latest.length by omega))
  have HNM : Hid (newMv s path r = ⟨path, readL r, (s.latest[path]'(by omega)).1, (s.latest[path]'(by omega)).2, false, false, false, 0, 0, []⟩) := by show _ = _; unfold newMv; rw [hx]; rfl
  generalize s.latest[path]'(by omega) = lv at *
  obtain ⟨aL, capL, hLf, hgL⟩ := own_form h.latest
  obtain ⟨gL, rfl⟩ := hgL (by omega)
  have hok : MvOk (newMv s path r) := by
    rw [HNM.out]; exact ⟨readL_ok r, hxv.1, hxv.2, by simp, by simp, by simp, by simp⟩
  have hinv : Inv { s with ts := s.ts ++ [newMv s path r] } C := ⟨⟨inv.fair.m1, inv.fair.m2, inv.fair.B1, inv.fair.B2, inv.fair.W1, inv.fair.W2, inv.fair.c1, inv.fair.c2, inv.fair.t1, inv.fair.t2⟩, by simp; omega, fun m hm => by
    rcases List.mem_append.1 hm with h1 | h1
    · exact inv.ts m h1
    · simp at h1; subst h1; exact hok, inv.cache, inv.nc, inv.c0, inv.c1⟩
  have hn8' : ((s.ts.length : Int) == 8) = false := beq_eq_false_iff_ne.2 (by omega)
  go_enter Tryz.func19, Tryz.ntmps19
  go_wp2_with fail
  refine (Read_any r _ hr).mono ?_
  rintro e w1 ⟨rfl, hE1⟩
  have h1 := h.ext hE1
  have hBx := Blk.new w1 112 #[.bool (readL r).counts, .string (readL r).frm, .string (readL r).til]
  have h2 := h1.ext (Ext.new w1 (.cells #[.bool (readL r).counts, .string (readL r).frm, .string (readL r).til] 112))
  have hM2 : Mvs w _ p L L := Mvs.of_ext (Ext.trans' hE1 (Ext.new w1 (.cells #[.bool (readL r).counts, .string (readL r).frm, .string (readL r).til] 112)))
  go_wp2_with fail
  generalize w1.alloc (.cells #[.bool (readL r).counts, .string (readL r).frm, .string (readL r).til] 112) = w2 at *
  have x0 : w2.cell? ⟨w1.heap.size, 0, none⟩ = some (.bool (readL r).counts) := hBx.cell 0
  have x1 : w2.cell? ⟨w1.heap.size, 1, none⟩ = some (.string (readL r).frm) := hBx.cell 1
  have x2 : w2.cell? ⟨w1.heap.size, 2, none⟩ = some (.string (readL r).til) := hBx.cell 2
  have v5 : w2.cell? ⟨p, 5, none⟩ = some (.slice aT s.ts.length capT) := by rw [← hT]; exact h2.blk.cell 5
  have v7 : w2.cell? ⟨p, 7, none⟩ = some (.slice (some ⟨gL, 0, none⟩) 4 capL) := by rw [← hlat, ← hLf]; exact h2.blk.cell 7
  have l0 : w2.cell? ⟨gL, path * 2, none⟩ = some (.int .i64 lv.1) := h2.cellL hx hLf 0 (by omega)
  have l1 : w2.cell? ⟨gL, path * 2 + 1, none⟩ = some (.int .i64 lv.2) := h2.cellL hx hLf 1 (by omega)
  have hfp := h2.blk.frozen
  have hpl := h2.blk.lt
  have hgl := World.block_lt_of_cell? w2 _ l0
  have hxl := hBx.lt
  have hots := h2.ts
  rw [hT] at hots
  have hp4' : (path : Int) < 4 := by omega
  have H2 := hide h2
  have hBp := h2.blk
  have hnpT : (Value.slice aT s.ts.length capT).ownBlock ≠ some p := by rw [← hT]; exact h2.np L.vT (by simp [Lay.vs])
  have hnpL : (Value.slice aT s.ts.length capT).ownBlock ≠ some gL := fun e => h2.sep 0 2 L.vT L.vL gL (by omega) rfl rfl (by rw [hT]; exact e) (by rw [hLf]; rfl)
  have hnpX : (Value.slice aT s.ts.length capT).ownBlock ≠ some w1.heap.size := fun e => by
    have h3 := h.ts
    rw [hT] at h3
    have := (h3.lt _ e).2
    have := hE1.size
    omega
  clear h2 h1 hvT hE1
  go_cut [8] (fun a wx => True ∧ ∃ v6, PrAt wx p { s with ts := s.ts ++ [newMv s path r] } { L with vT := v6, hs := L.hs ++ [.slice none 0 0] } ∧ Mvs w wx p L { L with vT := v6, hs := L.hs ++ [.slice none 0 0] })
  case first =>
    go_region_law (
      refine step_app Tryz.underlying100 infoMoved rfl (by decide) (by decide) rfl _ _ rfl (by rfl) (own_ext hots (Below.drew (Ext.new _ _))) (mvV (newMv s path r) (.slice none 0 0)) rfl rfl (by rw [HNM.out]; exact news_new _ _ _) (mv_one _) (by omega) (Nat.zero_le _) ?_
      intro v6 w6 ho6 hg6 hw6
      have hB6 : Blk w6 p 103 _ := (hBp.ext (Below.drew (Ext.new _ _))).grown hg6 hnpT
      have c6 : w6.cell? ⟨p, 5, none⟩ = some L.vT := hB6.cell 5
      rw [hT] at c6
      have f6 := hB6.frozen 5
      obtain ⟨a6, cap6, rfl, hgx⟩ := own_form ho6
      clear hgx)
    all_goals
      go_wp2_with fail
      go_meet
      have hnew := H2.out.newT (w1 := w6) ((Chg.of_ext (Below.drew (Ext.new _ _))).trans (Chg.of_grown hg6 (fun x hx => by rw [hT]; exact hx))) (.slice a6 (s.ts.length + 1) cap6) (newMv s path r) rfl ho6
        (fun x hx => by
          rcases hw6 with h1 | h1
          · exact Or.inl (by rw [hT]; exact h1.symm.trans hx)
          · right; rw [h1] at hx; simp at hx; omega)
      exact ⟨trivial, _, hnew.1, hM2.trans hnew.2⟩
  case rest =>
    obtain ⟨-, v6, hP6, hM6⟩ := hcut
    clear x0 x1 x2 v5 v7 l0 l1 hfp hots hBp H2 hBx
    go_wp2_with fail
    refine (look_any p _ _ C _ hP6 hinv (by omega)).mono ?_
    rintro e w7 ⟨rfl, L7, hA7⟩
    have hts7 := hA7.at_.ts
    have hsl := (lookL_same { s with ts := s.ts ++ [newMv s path r] }).nts
    have hvT7 : w7.cell? ⟨p, 5, none⟩ = some L7.vT := hA7.at_.blk.cell 5
    obtain ⟨a7, cap7, hT7, -⟩ := own_form hts7
    rw [hT7, hsl] at hvT7
    simp only [List.length_append, List.length_cons, List.length_nil] at hvT7
    clear hts7 hsl hT7
    go_wp2_with fail
    go_ret2
    exact ⟨ret_tuple2 (by omega) rfl, L7, hA7.at_, hM6.trans hA7.mvs⟩
end Go.Proofs.YtjhihliciadipabGreat
