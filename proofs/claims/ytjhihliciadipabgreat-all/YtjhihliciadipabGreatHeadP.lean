import Derived.Test.YtjhihliciadipabGreatNewv
set_option linter.unusedVariables false
set_option linter.unusedSimpArgs false
set_option linter.unnecessarySimpa false
namespace Go.Proofs.YtjhihliciadipabGreat
open Go.RowKit

theorem Mvs.fresh {w w1 w2 : World} {p : Nat} {L L1 : Lay} (h : Mvs w w1 p L L1) (hc : Chg (fun x => x = w.heap.size) w1 w2) : Mvs w w2 p L L1 :=
  ⟨h.chg.trans' (hc.mono (fun x _ hx => Or.inr (by omega))), h.foot⟩

def headOf (t : Mv) : Value := if t.lost = true ∧ t.cut = false then headAgg 502 0 0 0 0 else headAgg (statL t) t.tag t.tot (fromL t) (lenL t)
def showT (t : Mv) : Mv := { t with shown := true }

set_option maxHeartbeats 1000000 in
theorem Head_no (p : Nat) (id : Int) (s : Pr) (L : Lay) (w : World) (h : PrAt w p s L) (hn : s.ts.length ≤ 8) (hI : isL s id = false) :
    Calls Tryz.prog 31 #[.pointer (some ⟨p, 0, none⟩), .int .i64 id] w fun e w' => e = .returned (.tuple #[headAgg 0 0 0 0 0, .int .i64 7]) ∧ Ext w w' := by
  go_enter Tryz.func31, Tryz.ntmps31
  go_wp2_with fail
  refine (is_any p id s L _ (h.ext (Ext.new _ _)) hn).mono ?_
  rintro e w1 ⟨rfl, rfl⟩
  rw [hI]
  go_wp2_with fail
  refine bodyPost_ret (v := .tuple #[headAgg 0 0 0 0 0, .int .i64 7]) (by simp [results, Tryz.results31, go_sem, headAgg]) rfl ⟨rfl, ?_⟩
  (with_reducible repeat (first | refine Below.drew ?_ | refine Below.alloc ?_ ?_ _ | refine Below.setCell ?_ ?_ _ | exact Below.refl _ _)) <;> simp

set_option maxHeartbeats 1000000 in
theorem Head_open (p i : Nat) (s : Pr) (L : Lay) (t : Mv) (w : World) (h : PrAt w p s L) (hn : s.ts.length ≤ 8) (ht : s.ts[i]? = some t) (hop : t.tag = 0 ∧ t.lost = false) :
    Calls Tryz.prog 31 #[.pointer (some ⟨p, 0, none⟩), .int .i64 i] w fun e w' => e = .returned (.tuple #[headAgg 0 0 0 0 0, .int .i64 8]) ∧ Ext w w' := by
  have hi := (List.getElem?_eq_some_iff.1 ht).1
  have hI : isL s i = true := by unfold isL; simp; omega
  obtain ⟨hv, hh⟩ := h.hv ht
  obtain ⟨g, cap, hT⟩ := h.tsBlk (by omega)
  obtain ⟨hm, hha⟩ := h.mv ht hh hT
  have hc : w.cell? ⟨p, 5, none⟩ = some L.vT := h.blk.cell 5
  rw [hT] at hc
  have r4 := hm.tag
  have r7 := hm.lost
  rw [hop.1] at r4
  rw [hop.2] at r7
  have hgl := World.block_lt_of_cell? w _ r4
  have hpl := h.blk.lt
  clear hop hm hha
  go_enter Tryz.func31, Tryz.ntmps31
  go_wp2_with fail
  refine (is_any p i s L _ (h.ext (Ext.new _ _)) hn).mono ?_
  rintro e w1 ⟨rfl, rfl⟩
  rw [hI]
  go_wp2_with fail
  refine bodyPost_ret (v := .tuple #[headAgg 0 0 0 0 0, .int .i64 8]) (by simp [results, Tryz.results31, go_sem, headAgg]) rfl ⟨rfl, ?_⟩
  (with_reducible repeat (first | refine Below.drew ?_ | refine Below.alloc ?_ ?_ _ | refine Below.setCell ?_ ?_ _ | exact Below.refl _ _)) <;> simp

set_option maxHeartbeats 1000000 in
theorem Head_ok (p i : Nat) (s : Pr) (L : Lay) (t : Mv) (w : World) (h : PrAt w p s L) (hn : s.ts.length ≤ 8) (ht : s.ts[i]? = some t) (hok : MvOk t) (hop : ¬ (t.tag = 0 ∧ t.lost = false)) :
    Calls Tryz.prog 31 #[.pointer (some ⟨p, 0, none⟩), .int .i64 i] w fun e w' => e = .returned (.tuple #[headOf t, .int .i64 0]) ∧ PrAt w' p { s with ts := s.ts.set i (showT t) } L ∧ Mvs w w' p L L := by
  have hi := (List.getElem?_eq_some_iff.1 ht).1
  have hI : isL s i = true := by unfold isL; simp; omega
  obtain ⟨hv, hh⟩ := h.hv ht
  obtain ⟨g, cap, hT⟩ := h.tsBlk (by omega)
  have hE0 : Ext w (w.alloc (.cells #[.int .i64 0, .int .i64 0, .int .i64 0, .int .i64 0, .int .i64 0] 71)) := Ext.new w _
  have h0 := h.ext hE0
  have hBr := Blk.new w 71 #[.int .i64 0, .int .i64 0, .int .i64 0, .int .i64 0, .int .i64 0]
  have hHO : Hid (headOf t = if t.lost = true ∧ t.cut = false then headAgg 502 0 0 0 0 else headAgg (statL t) t.tag t.tot (fromL t) (lenL t)) := rfl
  have hA : (t.tag == 0) = true → t.lost = true := by
    intro h1; cases h2 : t.lost
    · exact absurd ⟨by simpa using h1, h2⟩ hop
    · rfl
  clear hop
  go_enter Tryz.func31, Tryz.ntmps31
  go_wp2_with fail
  refine (is_any p i s L _ h0 hn).mono ?_
  rintro e w1 ⟨rfl, rfl⟩
  rw [hI]
  generalize w.alloc (.cells #[.int .i64 0, .int .i64 0, .int .i64 0, .int .i64 0, .int .i64 0] 71) = w1 at *
  obtain ⟨hm, hha⟩ := h0.mv ht hh hT
  have hc : w1.cell? ⟨p, 5, none⟩ = some L.vT := h0.blk.cell 5
  rw [hT] at hc
  have r4 := hm.tag
  have r6 := hm.shown
  have r7 := hm.lost
  have r8 := hm.cut
  have hfz : ∀ r, w1.frozen? ⟨g, r, none⟩ = false := by have h5 := h0.ts; rw [hT] at h5; exact fun r => h5.frozenAt r
  obtain ⟨hP2, hM2⟩ := h0.store ht hh hT 6 (by omega) (.bool true) (showT t) rfl rfl
  have HP2 := hide hP2
  have HM2 := hide ((Mvs.of_ext hE0).trans hM2)
  have hgw : g ≠ w.heap.size := by
    intro e
    have := h.lt g (Or.inr ⟨L.vT, by simp [Lay.vs], by rw [hT]; rfl⟩)
    omega
  have hB2 := hBr.setOther (p := ⟨g, i * 12 + 6, none⟩) hgw (.bool true)
  obtain ⟨hm2, -⟩ := hP2.mv (i := i) (m := showT t) (hv := hv) (by simp [hi]) hh (by simpa using hT)
  have HM := hide hm2
  clear hP2 hM2 h0 hm hha hm2
  have hd : ((t.tag == 0) && !t.lost) = false := by
    cases h1 : (t.tag == 0)
    · rfl
    · rw [hA h1]; rfl
  have HHO := hHO
  clear hHO
  cases hlo : t.lost
  all_goals cases hcu : t.cut
  all_goals cases hz : (t.tag == 0)
  all_goals rw [hlo] at r7
  all_goals rw [hcu] at r8
  all_goals try (exfalso; rw [hz, hlo] at hd; simp at hd; done)
  all_goals clear hd hA
  all_goals have HLO := hide hlo
  all_goals have HCU := hide hcu
  all_goals clear hlo hcu
  all_goals have k0 : w1.cell? ⟨w.heap.size, 0, none⟩ = some (.int .i64 0) := hBr.cell 0
  all_goals have k1 : w1.cell? ⟨w.heap.size, 1, none⟩ = some (.int .i64 0) := hBr.cell 1
  all_goals have k2 : w1.cell? ⟨w.heap.size, 2, none⟩ = some (.int .i64 0) := hBr.cell 2
  all_goals have k3 : w1.cell? ⟨w.heap.size, 3, none⟩ = some (.int .i64 0) := hBr.cell 3
  all_goals have k4 : w1.cell? ⟨w.heap.size, 4, none⟩ = some (.int .i64 0) := hBr.cell 4
  all_goals have kf := hBr.frozen
  all_goals have hgw2 : w.heap.size ≠ g := fun e => hgw e.symm
  all_goals go_wp2_with fail
  all_goals first
    | (refine (head_any g (i * 12) (showT t) _ HM.out hok.sp hok.t0 hok.t1).mono ?_
       rintro e w2 ⟨rfl, hE2⟩
       have hB3 := hB2.ext hE2
       have j0 : w2.cell? ⟨w.heap.size, 0, none⟩ = some (.int .i64 0) := hB3.cell 0
       have j1 : w2.cell? ⟨w.heap.size, 1, none⟩ = some (.int .i64 0) := hB3.cell 1
       have j2 : w2.cell? ⟨w.heap.size, 2, none⟩ = some (.int .i64 0) := hB3.cell 2
       have j3 : w2.cell? ⟨w.heap.size, 3, none⟩ = some (.int .i64 0) := hB3.cell 3
       have j4 : w2.cell? ⟨w.heap.size, 4, none⟩ = some (.int .i64 0) := hB3.cell 4
       have jf := hB3.frozen
       have jl := hB3.lt
       clear k0 k1 k2 k3 k4 kf
       go_wp2_with fail
       refine bodyPost_ret (v := .tuple #[headAgg (statL (showT t)) (showT t).tag (showT t).tot (fromL (showT t)) (lenL (showT t)), .int .i64 0]) (by simp [results, Tryz.results31, go_sem, headAgg, j0, j1, j2, j3, j4, jf, jl]) rfl ⟨?_, ?_, ?_⟩
       · rw [HHO.out, HLO.out, HCU.out]; rfl
       · refine (HP2.out.ext hE2).chg (S := fun x => x = w.heap.size) ?_ (fun b hb e => by have := h.lt b hb; omega)
         (with_reducible repeat (first | exact Chg.refl _ _ | refine Chg.alloc ?_ _ | refine Chg.setCell ?_ ?_ _)) <;> simp
       · refine (HM2.out.ext hE2).fresh ?_
         (with_reducible repeat (first | exact Chg.refl _ _ | refine Chg.alloc ?_ _ | refine Chg.setCell ?_ ?_ _)) <;> simp)
    | (refine bodyPost_ret (v := .tuple #[headAgg 502 0 0 0 0, .int .i64 0]) (by simp [results, Tryz.results31, go_sem, headAgg, k0, k1, k2, k3, k4, kf]) rfl ⟨?_, ?_, ?_⟩
       · rw [HHO.out, HLO.out, HCU.out]; rfl
       · refine HP2.out.chg (S := fun x => x = w.heap.size) ?_ (fun b hb e => by have := h.lt b hb; omega)
         (with_reducible repeat (first | exact Chg.refl _ _ | refine Chg.alloc ?_ _ | refine Chg.setCell ?_ ?_ _)) <;> simp
       · refine HM2.out.fresh ?_
         (with_reducible repeat (first | exact Chg.refl _ _ | refine Chg.alloc ?_ _ | refine Chg.setCell ?_ ?_ _)) <;> simp)
end Go.Proofs.YtjhihliciadipabGreat

namespace Go.Proofs.YtjhihliciadipabGreat
open Go.RowKit

theorem cnt_sum (x : Spn) (total : Int) (k : Nat) : (cntTo x total k).1 + (cntTo x total k).2 ≤ k := by
  induction k with
  | zero => simp [cntTo]
  | succ k ih => simp only [cntTo]; split <;> (try split) <;> simp <;> omega
theorem head_in (t : Mv) (h0 : 0 ≤ t.tot) : fromL t + lenL t ≤ t.tot := by
  have := cnt_sum t.sp t.tot t.tot.toNat
  unfold fromL lenL; omega

def toOne (B F Len t k sz : Int) : Int := if sz < F + Len - k * B then sz else F + Len - k * B
def toTwo (B F Len n t k sz osz : Int) : Int := if n - osz < toOne B F Len t k sz - (F + t - k * B) then F + t - k * B + n - osz else toOne B F Len t k sz
def takeGo (B F Len n : Int) (has : List ByteArray) : List Int → Int → ByteArray → Int × ByteArray
  | [], t, o => (t, o)
  | k :: ks, t, o =>
    if (heldL has k).toList.isEmpty = true then (t, o)
    else
      if ((o ++ (heldL has k).extract (F + t - k * B).toNat (toTwo B F Len n t k (heldL has k).size o.size).toNat).size : Int) = n then
        (t + toTwo B F Len n t k (heldL has k).size o.size - (F + t - k * B), o ++ (heldL has k).extract (F + t - k * B).toNat (toTwo B F Len n t k (heldL has k).size o.size).toNat)
      else takeGo B F Len n has ks (t + toTwo B F Len n t k (heldL has k).size o.size - (F + t - k * B)) (o ++ (heldL has k).extract (F + t - k * B).toNat (toTwo B F Len n t k (heldL has k).size o.size).toNat)

/-- What each block that is held has of bytes. -/
def HasOk (B : Int) (t : Mv) : Prop := ∀ (k : Nat) (s : ByteArray), t.has[k]? = some s → s.size = 0 ∨ (s.size : Int) = sizeL B t.tot k

theorem held_size {B : Int} {t : Mv} (h : HasOk B t) (k : Int) (hk : 0 ≤ k) (hne : (heldL t.has k).toList.isEmpty = false) : ((heldL t.has k).size : Int) = sizeL B t.tot k := by
  unfold heldL at *
  rw [List.getD_eq_getElem?_getD] at *
  cases hg : t.has[k.toNat]? with
  | none => rw [hg] at hne; simp only [Option.getD_none] at hne; rw [ByteArray.toList_eq] at hne; exact absurd hne (by decide)
  | some s =>
    rw [hg] at hne
    simp only [Option.getD_some] at hne ⊢
    rcases h k.toNat s hg with h1 | h1
    · exfalso
      have : s = ByteArray.empty := by
        cases s with | mk d => cases d with | mk l => cases l with
          | nil => rfl
          | cons a l => simp [ByteArray.size] at h1
      rw [this, ByteArray.toList_eq] at hne; exact absurd hne (by decide)
    · rw [h1]; congr 1; omega

/-- The window's i-th block begins ahead of the end. -/
theorem win_at (B W lo hi : Int) (i : Nat) (hB : 1 ≤ B) (hB2 : B ≤ 16) (hl : 0 ≤ lo) (hi' : i < winN B W lo hi) : (lo / B + i) * B ≤ hi - 1 ∧ lo < hi ∧ lo / B * B ≤ lo ∧ lo < lo / B * B + B := by
  have hc0 : (i : Int) < cntB B lo hi := by unfold winN at hi'; split at hi' <;> omega
  unfold cntB at hc0
  have hc : B = 1 ∨ B = 2 ∨ B = 3 ∨ B = 4 ∨ B = 5 ∨ B = 6 ∨ B = 7 ∨ B = 8 ∨ B = 9 ∨ B = 10 ∨ B = 11 ∨ B = 12 ∨ B = 13 ∨ B = 14 ∨ B = 15 ∨ B = 16 := by omega
  rcases hc with rfl | rfl | rfl | rfl | rfl | rfl | rfl | rfl | rfl | rfl | rfl | rfl | rfl | rfl | rfl | rfl
  all_goals (split at hc0 <;> omega)

/-- Where the taking stands ahead of the window's i-th block: in that block, ahead of the end. -/
structure At (B F Len : Int) (k t : Int) : Prop where
  a : k * B ≤ F + t
  b : F + t < k * B + B
  c : t < Len

theorem step_bd {B F Len n t k tot : Int} {sz osz : Int} (hB : 1 ≤ B) (hF : 0 ≤ F) (ht : F + Len ≤ tot) (h : At B F Len k t) (hs : sz = sizeL B tot k) (ho : osz ≤ n) :
    0 ≤ F + t - k * B ∧ F + t - k * B ≤ toTwo B F Len n t k sz osz ∧ toTwo B F Len n t k sz osz ≤ sz ∧ toTwo B F Len n t k sz osz - (F + t - k * B) ≤ n - osz ∧ sz ≤ B ∧
      t + toTwo B F Len n t k sz osz - (F + t - k * B) ≤ Len ∧
      (toTwo B F Len n t k sz osz - (F + t - k * B) < n - osz → (t + toTwo B F Len n t k sz osz - (F + t - k * B) = Len ∧ F + Len ≤ k * B + B) ∨ (F + (t + toTwo B F Len n t k sz osz - (F + t - k * B)) = k * B + B ∧ t + toTwo B F Len n t k sz osz - (F + t - k * B) < Len)) := by
  obtain ⟨a, b, c⟩ := h
  subst hs
  unfold toTwo toOne sizeL
  generalize k * B = kB at *
  have h1 : ¬ tot ≤ kB := by omega
  rw [if_neg h1]
  by_cases h2 : kB + B ≤ tot
  · rw [if_pos h2]
    by_cases h3 : B < F + Len - kB
    · rw [if_pos h3]
      by_cases h4 : n - osz < B - (F + t - kB)
      · rw [if_pos h4]; omega
      · rw [if_neg h4]; omega
    · rw [if_neg h3]
      by_cases h4 : n - osz < F + Len - kB - (F + t - kB)
      · rw [if_pos h4]; omega
      · rw [if_neg h4]; omega
  · rw [if_neg h2]
    by_cases h3 : tot - kB < F + Len - kB
    · omega
    · rw [if_neg h3]
      by_cases h4 : n - osz < F + Len - kB - (F + t - kB)
      · rw [if_pos h4]; omega
      · rw [if_neg h4]; omega
end Go.Proofs.YtjhihliciadipabGreat

namespace Go.Proofs.YtjhihliciadipabGreat
open Go.RowKit

set_option maxHeartbeats 1000000 in
theorem Take_no (p : Nat) (id n : Int) (s : Pr) (L : Lay) (w : World) (h : PrAt w p s L) (hn : s.ts.length ≤ 8) (hI : isL s id = false) :
    Calls Tryz.prog 33 #[.pointer (some ⟨p, 0, none⟩), .int .i64 id, .int .i64 n] w fun e w' => e = .returned (.tuple #[.string ByteArray.empty, .int .i64 7]) ∧ Ext w w' := by
  go_enter Tryz.func33, Tryz.ntmps33
  go_wp2_with fail
  refine (is_any p id s L _ h hn).mono ?_
  rintro e w1 ⟨rfl, rfl⟩
  rw [hI]
  go_wp2_with fail
  go_ret2
  exact ⟨rfl, Below.refl _ _⟩

set_option maxHeartbeats 1000000 in
theorem Take_arg (p : Nat) (id n : Int) (s : Pr) (L : Lay) (w : World) (h : PrAt w p s L) (hn : s.ts.length ≤ 8) (hI : isL s id = true) (hneg : n < 0) :
    Calls Tryz.prog 33 #[.pointer (some ⟨p, 0, none⟩), .int .i64 id, .int .i64 n] w fun e w' => e = .returned (.tuple #[.string ByteArray.empty, .int .i64 9]) ∧ Ext w w' := by
  go_enter Tryz.func33, Tryz.ntmps33
  go_wp2_with fail
  refine (is_any p id s L _ h hn).mono ?_
  rintro e w1 ⟨rfl, rfl⟩
  rw [hI]
  go_wp2_with fail
  go_ret2
  exact ⟨rfl, Below.refl _ _⟩

set_option maxHeartbeats 1000000 in
theorem Take_open (p i : Nat) (n : Int) (s : Pr) (L : Lay) (t : Mv) (w : World) (h : PrAt w p s L) (hn : s.ts.length ≤ 8) (ht : s.ts[i]? = some t) (hop : t.tag = 0 ∧ t.lost = false) (hn0 : 0 ≤ n) :
    Calls Tryz.prog 33 #[.pointer (some ⟨p, 0, none⟩), .int .i64 i, .int .i64 n] w fun e w' => e = .returned (.tuple #[.string ByteArray.empty, .int .i64 8]) ∧ Ext w w' := by
  have hi := (List.getElem?_eq_some_iff.1 ht).1
  have hI : isL s i = true := by unfold isL; simp; omega
  have HT := hide ht
  have HOP := hide hop
  clear ht hop
  go_enter Tryz.func33, Tryz.ntmps33
  go_wp2_with fail
  refine (is_any p i s L _ h hn).mono ?_
  rintro e w1 ⟨rfl, rfl⟩
  rw [hI]
  go_wp2_with fail
  refine (Head_open p i s L t _ h hn HT.out HOP.out).mono ?_
  rintro e w2 ⟨rfl, hE2⟩
  unfold headAgg
  go_wp2_with fail
  go_ret2
  exact ⟨rfl, Ext.trans' hE2 (Ext.new _ _)⟩
end Go.Proofs.YtjhihliciadipabGreat
