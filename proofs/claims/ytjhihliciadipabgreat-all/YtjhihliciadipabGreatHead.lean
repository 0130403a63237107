import Derived.Test.YtjhihliciadipabGreatBase
set_option linter.unusedVariables false
set_option linter.unusedSimpArgs false
set_option linter.unnecessarySimpa false
namespace Go.Proofs.YtjhihliciadipabGreat
open Go.RowKit

/-- A range as it was read: whether it counts, the texts at both sides of the sign. -/
structure Spn where
  counts : Bool
  frm : ByteArray
  til : ByteArray

/-- What Read gives: short texts whose values are small. -/
structure SpnOk (x : Spn) : Prop where
  f1 : x.frm.size ≤ 6
  t1 : x.til.size ≤ 6
  f2 : 0 ≤ valueL x.frm
  f3 : valueL x.frm ≤ 999999
  t2 : 0 ≤ valueL x.til
  t3 : valueL x.til ≤ 999999

def takesL (x : Spn) (i total : Int) : Bool :=
  if x.counts = false then true
  else if x.frm.toList.isEmpty = true then decide (total - valueL x.til ≤ i)
  else if x.til.toList.isEmpty = true then decide (valueL x.frm ≤ i)
  else decide (valueL x.frm ≤ i) && decide (i ≤ valueL x.til)

set_option maxHeartbeats 400000 in
theorem takes_any (x : Spn) (i total : Int) (w : World) (hx : SpnOk x) (hi : 0 ≤ i) (hi2 : i ≤ 1000) (ht : 0 ≤ total) (ht2 : total ≤ 1000) :
    Calls Tryz.prog 111 #[.agg #[.bool x.counts, .string x.frm, .string x.til], .int .i64 i, .int .i64 total] w fun e w' => e = .returned (.bool (takesL x i total)) ∧ Ext w w' := by
  obtain ⟨c, f, t⟩ := x
  obtain ⟨f1, t1, f2, f3, t2, t3⟩ := hx
  simp only at f1 t1 f2 f3 t2 t3
  have hfs : f.size ≤ maxLen := by unfold maxLen; omega
  have hts : t.size ≤ maxLen := by unfold maxLen; omega
  have hL : Hid (∀ (c : Bool), takesL ⟨c, f, t⟩ i total = if c = false then true
    else if f.toList.isEmpty = true then decide (total - valueL t ≤ i)
    else if t.toList.isEmpty = true then decide (valueL f ≤ i)
    else decide (valueL f ≤ i) && decide (i ≤ valueL t)) := fun _ => rfl
  go_enter Tryz.func111, Tryz.ntmps111
  go_wp2_with fail
  refine (value_any f _ hfs).mono ?_
  rintro e w' ⟨rfl, rfl⟩
  go_wp2_with fail
  refine (value_any t _ hts).mono ?_
  rintro e w' ⟨rfl, rfl⟩
  clear hfs hts
  generalize valueL f = a at *
  generalize valueL t = b at *
  cases c
  all_goals go_wp2
  all_goals go_ret
  all_goals refine ⟨ret_bool ?_, (Below.refl _ _).alloc (Nat.le_refl _) _⟩
  all_goals rw [hL.out]
  all_goals simp [*]
  all_goals omega

/-- What 'counted' has after k rounds: the first byte that the range takes in, and how many. -/
def cntTo (x : Spn) (total : Int) : Nat → Int × Int
  | 0 => (0, 0)
  | k + 1 =>
    let r := cntTo x total k
    if takesL x k total = true then (if r.2 = 0 then (k : Int) else r.1, r.2 + 1) else r
theorem cnt_bd (x : Spn) (total : Int) (k : Nat) : 0 ≤ (cntTo x total k).2 ∧ (cntTo x total k).2 ≤ k ∧ 0 ≤ (cntTo x total k).1 ∧ (cntTo x total k).1 ≤ k := by
  induction k with
  | zero => simp [cntTo]
  | succ k ih => simp only [cntTo]; split <;> (try split) <;> omega

set_option maxHeartbeats 400000 in
theorem counted_any (x : Spn) (total : Int) (w : World) (hx : SpnOk x) (ht : 0 ≤ total) (ht2 : total ≤ 1000) :
    Calls Tryz.prog 94 #[.agg #[.bool x.counts, .string x.frm, .string x.til], .int .i64 total] w fun e w' =>
      e = .returned (.tuple #[.int .i64 (cntTo x total total.toNat).1, .int .i64 (cntTo x total total.toNat).2]) ∧ Ext w w' := by
  obtain ⟨T, rfl⟩ := Int.eq_ofNat_of_zero_le ht
  rw [Int.toNat_natCast]
  go_enter Tryz.func94, Tryz.ntmps94
  go_wp2
  go_loopw [6, 7, 8] (fun f n i w' => ∃ k : Nat, k ≤ T ∧ i = .int .i64 k ∧ f = .int .i64 (cntTo x T k).1 ∧ n = .int .i64 (cntTo x T k).2 ∧
      Ext (w.alloc (.cells #[.bool x.counts, .string x.frm, .string x.til] 112)) w') (fun _ _ i _ => T - (intOf i).toNat)
  case atStart => exact ⟨0, Nat.zero_le _, rfl, rfl, rfl, Below.refl _ _⟩
  case round =>
    obtain ⟨k, hk, rfl, rfl, rfl, hE⟩ := hrel
    have c0 : wr.cell? ⟨w.heap.size, 0, none⟩ = some (.bool x.counts) := ext_cell hE (by simp)
    have c1 : wr.cell? ⟨w.heap.size, 1, none⟩ = some (.string x.frm) := ext_cell hE (by simp)
    have c2 : wr.cell? ⟨w.heap.size, 2, none⟩ = some (.string x.til) := ext_cell hE (by simp)
    have hb := cnt_bd x T k
    by_cases hlt : k < T
    · have HN : Hid (cntTo x T (k + 1) = if takesL x k T = true then (if (cntTo x T k).2 = 0 then (k : Int) else (cntTo x T k).1, (cntTo x T k).2 + 1) else cntTo x T k) := rfl
      generalize cntTo x T k = r at *
      obtain ⟨r1, r2⟩ := r
      simp only at hb HN
      go_wp2_with fail
      refine (takes_any x k T _ hx (by omega) (by omega) (by omega) (by omega)).mono ?_
      rintro e w' ⟨rfl, hE2⟩
      have hE3 := hE.trans' hE2
      clear hE hE2 c0 c1 c2
      cases htk : takesL x k T
      all_goals by_cases hr2 : (r2 == 0) = true
      all_goals (try have hr3 : (r2 == 0) = false := by simpa using hr2)
      all_goals go_wp2_with fail
      all_goals refine ⟨⟨k + 1, by omega, by go_num, ?_, ?_, hE3⟩, by simp [intOf]; omega⟩
      all_goals (rw [HN.out]; simp only [htk]; simp at hr2; simp [hr2])
    · go_wp2
      go_ret2
      have : k = T := by omega
      subst this
      exact ⟨rfl, Ext.trans' ((Below.refl _ _).alloc (Nat.le_refl _) _) hE⟩

end Go.Proofs.YtjhihliciadipabGreat

namespace Go.Proofs.YtjhihliciadipabGreat
open Go.RowKit

/-- A transfer, as the document's own answer keeps it. -/
structure Mv where
  path : Int
  sp : Spn
  tag : Int
  tot : Int
  shown : Bool
  lost : Bool
  cut : Bool
  taken : Int
  fails : Int
  has : List ByteArray

/-- Its cells, but for the slice of what it holds. -/
structure MvAt (w : World) (b o : Nat) (m : Mv) : Prop where
  path : w.cell? ⟨b, o, none⟩ = some (.int .i64 m.path)
  counts : w.cell? ⟨b, o + 1, none⟩ = some (.bool m.sp.counts)
  frm : w.cell? ⟨b, o + 2, none⟩ = some (.string m.sp.frm)
  til : w.cell? ⟨b, o + 3, none⟩ = some (.string m.sp.til)
  tag : w.cell? ⟨b, o + 4, none⟩ = some (.int .i64 m.tag)
  tot : w.cell? ⟨b, o + 5, none⟩ = some (.int .i64 m.tot)
  shown : w.cell? ⟨b, o + 6, none⟩ = some (.bool m.shown)
  lost : w.cell? ⟨b, o + 7, none⟩ = some (.bool m.lost)
  cut : w.cell? ⟨b, o + 8, none⟩ = some (.bool m.cut)
  taken : w.cell? ⟨b, o + 9, none⟩ = some (.int .i64 m.taken)
  fails : w.cell? ⟨b, o + 10, none⟩ = some (.int .i64 m.fails)

theorem MvAt.ext {w w' : World} {b o : Nat} {m : Mv} (h : MvAt w b o m) (hE : Ext w w') : MvAt w' b o m :=
  ⟨ext_cell hE h.path, ext_cell hE h.counts, ext_cell hE h.frm, ext_cell hE h.til, ext_cell hE h.tag, ext_cell hE h.tot, ext_cell hE h.shown, ext_cell hE h.lost,
    ext_cell hE h.cut, ext_cell hE h.taken, ext_cell hE h.fails⟩

def fromL (m : Mv) : Int := (cntTo m.sp m.tot m.tot.toNat).1
def lenL (m : Mv) : Int := (cntTo m.sp m.tot m.tot.toNat).2
def statL (m : Mv) : Int := if m.sp.counts = false then 200 else if lenL m = 0 then 416 else 206

set_option maxHeartbeats 1000000 in
theorem head_any (b o : Nat) (m : Mv) (w : World) (hm : MvAt w b o m) (hx : SpnOk m.sp) (ht : 0 ≤ m.tot) (ht2 : m.tot ≤ 1000) :
    Calls Tryz.prog 63 #[.pointer (some ⟨b, o, none⟩)] w fun e w' =>
      e = .returned (.agg #[.int .i64 (statL m), .int .i64 m.tag, .int .i64 m.tot, .int .i64 (fromL m), .int .i64 (lenL m)]) ∧ Ext w w' := by
  have h1 := hm.counts
  have h2 := hm.frm
  have h3 := hm.til
  have h4 := hm.tag
  have h5 := hm.tot
  have hb : b < w.heap.size := World.block_lt_of_cell? w _ hm.path
  have h6 : w.cell? ⟨b, o + 1 + 1, none⟩ = some (.string m.sp.frm) := hm.frm
  have h7 : w.cell? ⟨b, o + 1 + 2, none⟩ = some (.string m.sp.til) := hm.til
  have h8 : w.cell? ⟨b, o + 4 + 1, none⟩ = some (.int .i64 m.tot) := hm.tot
  go_enter Tryz.func63, Tryz.ntmps63
  go_wp2_with fail
  have HS : Hid (statL m = if m.sp.counts = false then 200 else if lenL m = 0 then 416 else 206) := rfl
  go_cut [3, 4] (fun a b wx => a = .int .i64 (fromL m) ∧ b = .int .i64 (lenL m) ∧ Ext w wx ∧ Blk wx w.heap.size 71 #[.int .i64 0, .int .i64 0, .int .i64 0, .int .i64 0, .int .i64 0])
  case first =>
    go_region_with (go_at_call 94; refine (counted_any m.sp _ _ hx ht ht2).mono ?_; rintro e w' ⟨rfl, hE⟩)
    all_goals (go_wp2_with fail; go_meet)
    all_goals exact ⟨rfl, rfl, Ext.trans' (Ext.new w _) hE.undrew, (Blk.new w _ _).ext hE.undrew⟩
  case rest =>
    obtain ⟨rfl, rfl, hE, hB⟩ := hcut
    have hm2 := hm.ext hE
    clear h1 h2 h3 h4 h5 h6 h7 h8
    have h1 := hm2.counts
    have h4 := hm2.tag
    have h8 : wc.cell? ⟨b, o + 4 + 1, none⟩ = some (.int .i64 m.tot) := hm2.tot
    have hb2 : b < wc.heap.size := Nat.lt_of_lt_of_le hb hE.size
    have k0 : wc.cell? ⟨w.heap.size, 0, none⟩ = some (.int .i64 0) := hB.cell 0
    have k1 : wc.cell? ⟨w.heap.size, 1, none⟩ = some (.int .i64 0) := hB.cell 1
    have k2 : wc.cell? ⟨w.heap.size, 2, none⟩ = some (.int .i64 0) := hB.cell 2
    have k3 : wc.cell? ⟨w.heap.size, 3, none⟩ = some (.int .i64 0) := hB.cell 3
    have k4 : wc.cell? ⟨w.heap.size, 4, none⟩ = some (.int .i64 0) := hB.cell 4
    have k5 := hB.frozen
    have k6 := hB.lt
    go_wp2_with fail
    go_region
    cases hc : m.sp.counts
    all_goals by_cases hL : (lenL m == 0) = true
    all_goals (try have hL2 : (lenL m == 0) = false := by simpa using hL)
    all_goals go_wp2
    all_goals refine bodyPost_ret (v := .agg #[.int .i64 (statL m), .int .i64 m.tag, .int .i64 m.tot, .int .i64 (fromL m), .int .i64 (lenL m)]) ?_ rfl ⟨rfl, ?_⟩
    all_goals first
      | (rw [HS.out]; simp at hL; simp [results, Tryz.results63, go_sem, k0, k1, k2, k3, k4, k5, k6, hc, hL]; done)
      | skip
    all_goals (with_reducible repeat (first | refine Below.drew ?_ | refine Below.alloc ?_ ?_ _ | refine Below.setCell ?_ ?_ _ | exact hE))
    all_goals (simp; try omega)
end Go.Proofs.YtjhihliciadipabGreat
