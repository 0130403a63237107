import Derived.Test.YtjhihliciadipabGreatOver
import Derived.Test.YtjhihliciadipabGreatHeadP
set_option linter.unusedVariables false
set_option linter.unusedSimpArgs false
set_option linter.unnecessarySimpa false
namespace Go.Proofs.YtjhihliciadipabGreat
open Go.RowKit

theorem Chg.drew {S : Nat → Prop} {a w : World} (h : Chg S a w) : Chg S a w.drew := ⟨h.os, h.tape, h.output, h.size, h.block⟩

set_option maxRecDepth 100000 in
set_option maxHeartbeats 4000000 in
theorem Next_idle (p : Nat) (s : Pr) (L : Lay) (C : Int) (mr : Nat) (j0 : Jb) (w : World) (h : PrAt w p s L) (inv : Inv s C) (hjl : s.jobs.length = s.mir.toNat) (hj : s.jobs[mr]? = some j0) (hoff : j0.on = false) :
    Calls Tryz.prog 21 #[.pointer (some ⟨p, 0, none⟩), .int .i64 mr] w fun e w' =>
      (nextJ s = none ∧ e = .returned (.tuple #[fetAgg 0 0 0 0 0, .bool false, .int .i64 0]) ∧ Ext w w') ∨
      (∃ j, nextJ s = some j ∧ e = .returned (.tuple #[fetAgg j.path j.tag j.tot (j.k * s.blk) (nextLen s j), .bool true, .int .i64 0]) ∧ PrAt w' p { s with jobs := s.jobs.set mr j } L ∧ Mvs w w' p L L) := by
  have hlt := (List.getElem?_eq_some_iff.1 hj).1
  have hm1 := inv.fair.m1
  have hm2 := inv.fair.m2
  have hnts := inv.nts
  have hmr : (mr : Int) < s.mir := by omega
  have hc : w.cell? ⟨p, 0, none⟩ = some (.int .i64 s.mir) := h.blk.cell 0
  have hpl := h.blk.lt
  have hcj : w.cell? ⟨p, 6, none⟩ = some L.vJ := h.blk.cell 6
  obtain ⟨gJ, capJ, hJ⟩ := h.jobsBlk (by omega)
  rw [hJ] at hcj
  have q0 : w.cell? ⟨gJ, mr * 5, none⟩ = some (.bool j0.on) := h.cellJ hj hJ 0 (by omega)
  rw [hoff] at q0
  have hgl : gJ < w.heap.size := World.block_lt_of_cell? w _ q0
  have hge : (decide ((mr : Int) < 0) || decide (s.mir ≤ (mr : Int))) = false := by simp; omega
  have HN : Hid (nextJ s = nextT s.blk s.win s.jobs (s.ts.drop 0)) := rfl
  have HJ0 := hide hj
  clear hj hoff
  go_enter Tryz.func21, Tryz.ntmps21
  go_wp2_with fail
  have hE0 : Ext w ((w.alloc (.cells #[.int .i64 0, .int .i64 0, .int .i64 0, .int .i64 0, .int .i64 0] 57)).alloc (.cells #[.int .i64 0, .int .i64 0, .int .i64 0, .int .i64 0, .int .i64 0] 57)) := Ext.trans' (Ext.new _ _) (Ext.new _ _)
  have hBr : Blk ((w.alloc (.cells #[.int .i64 0, .int .i64 0, .int .i64 0, .int .i64 0, .int .i64 0] 57)).alloc (.cells #[.int .i64 0, .int .i64 0, .int .i64 0, .int .i64 0, .int .i64 0] 57)) w.heap.size 57 #[.int .i64 0, .int .i64 0, .int .i64 0, .int .i64 0, .int .i64 0] := (Blk.new w _ _).ext (Ext.new _ _)
  have hBn : Blk ((w.alloc (.cells #[.int .i64 0, .int .i64 0, .int .i64 0, .int .i64 0, .int .i64 0] 57)).alloc (.cells #[.int .i64 0, .int .i64 0, .int .i64 0, .int .i64 0, .int .i64 0] 57)) (w.heap.size + 1) 57 #[.int .i64 0, .int .i64 0, .int .i64 0, .int .i64 0, .int .i64 0] := by
    have h1 := Blk.new (w.alloc (.cells #[.int .i64 0, .int .i64 0, .int .i64 0, .int .i64 0, .int .i64 0] 57)) 57 #[.int .i64 0, .int .i64 0, .int .i64 0, .int .i64 0, .int .i64 0]
    have h2 : (w.alloc (.cells #[.int .i64 0, .int .i64 0, .int .i64 0, .int .i64 0, .int .i64 0] 57)).heap.size = w.heap.size + 1 := by simp
    rw [h2] at h1; exact h1
  generalize hW0 : (w.alloc (.cells #[.int .i64 0, .int .i64 0, .int .i64 0, .int .i64 0, .int .i64 0] 57)).alloc (.cells #[.int .i64 0, .int .i64 0, .int .i64 0, .int .i64 0, .int .i64 0] 57) = W0 at *
  clear hW0
  go_loopw [8] (fun i wr => ∃ n : Nat, n ≤ s.ts.length ∧ i = .int .i64 n ∧ Ext W0 wr ∧ Hid (nextJ s = nextT s.blk s.win s.jobs (s.ts.drop n))) (fun i _ => s.ts.length - (intOf i).toNat)
  case atStart => exact ⟨0, Nat.zero_le _, rfl, Below.refl _ _, HN⟩
  case round =>
    obtain ⟨n, hn, rfl, hE, HT⟩ := hrel
    have hP := (h.ext hE0).ext hE
    have hvT : wr.cell? ⟨p, 5, none⟩ = some L.vT := hP.blk.cell 5
    obtain ⟨aT, cap, hTf, hgT⟩ := own_form h.ts
    rw [hTf] at hvT
    have hB2 := hBr.ext hE
    have hBn2 := hBn.ext hE
    by_cases hlt2 : n < s.ts.length
    · obtain ⟨g, rfl⟩ := hgT (by omega)
      have ht : s.ts[n]? = some s.ts[n] := by simp [hlt2]
      have HT2 : Hid (nextT s.blk s.win s.jobs (s.ts.drop n) = match nextK s.jobs s.ts[n] (wantsL s.blk s.win s.ts[n]) with | some j => some j | none => nextT s.blk s.win s.jobs (s.ts.drop (n + 1))) := by
        show _ = _; rw [List.drop_eq_getElem_cons hlt2]; rfl
      generalize s.ts[n] = t at *
      obtain ⟨hv, hh⟩ := hP.hv ht
      obtain ⟨hm, hha⟩ := hP.mv ht hh hTf
      have hok := inv.ts t (List.mem_of_getElem? ht)
      clear hgT
      go_wp2_with fail
      refine (wants_any p g (n * 12) s.blk s.win t hv _ hm hok (hP.set inv.fair) hha).mono ?_
      rintro e w1 ⟨v1, rfl, hE1, hown1⟩
      have hll := wants_len s.blk s.win t inv.fair.W2
      have HWB := hide (wants_bd t inv.fair hok)
      have HK0 : Hid (nextK s.jobs t (wantsL s.blk s.win t) = nextK s.jobs t ((wantsL s.blk s.win t).drop 0)) := rfl
      generalize wantsL s.blk s.win t = l at *
      obtain ⟨a1, cap1, rfl, hg1⟩ := own_form hown1
      clear hm hha hvT
      go_wp2_with fail
      go_loopw [11] (fun i wr2 => ∃ m : Nat, m ≤ l.length ∧ i = .int .i64 m ∧ Ext w1 wr2 ∧ Hid (nextK s.jobs t l = nextK s.jobs t (l.drop m))) (fun i _ => l.length - (intOf i).toNat)
      case atStart => exact ⟨0, Nat.zero_le _, rfl, Below.refl _ _, HK0⟩
      case round =>
        obtain ⟨m, hm, rfl, hE2, HK⟩ := hrel
        have hE3 : Ext W0 wr := Ext.trans' (Ext.trans' hE hE1) hE2
        have hP3 := (h.ext hE0).ext hE3
        by_cases hlt3 : m < l.length
        · obtain ⟨g1, rfl⟩ := hg1 (by omega)
          have hck : wr.cell? ⟨g1, m, none⟩ = some (.int .i64 l[m]) := by
            rw [(own_ext hown1 hE2).cellAt m (by omega)]; simp [hlt3]
          have hkb := HWB.out l[m] (List.getElem_mem hlt3)
          have HK2 : Hid (nextK s.jobs t (l.drop m) = if busyL s.jobs ⟨true, t.path, t.tag, t.tot, l[m]⟩ = true then nextK s.jobs t (l.drop (m + 1)) else some ⟨true, t.path, t.tag, t.tot, l[m]⟩) := by
            show _ = _; rw [List.drop_eq_getElem_cons hlt3]; rfl
          generalize l[m] = k at *
          obtain ⟨hm3, -⟩ := hP3.mv ht hh hTf
          have r0 := hm3.path
          have r4 := hm3.tag
          have r5 : wr.cell? ⟨g, n * 12 + 4 + 1, none⟩ = some (.int .i64 t.tot) := hm3.tot
          have hgl3 := World.block_lt_of_cell? wr _ r0
          have hg1l := World.block_lt_of_cell? wr _ hck
          clear hg1 hm3
          go_wp2_with fail
          go_region
          go_wp2_with fail
          have hE4 : Ext wr ((wr.alloc (.cells #[.bool true, .int .i64 t.path, .int .i64 t.tag, .int .i64 t.tot, .int .i64 k] 124)).drew) := Below.drew (Ext.new _ _)
          have hBj4 : Blk ((wr.alloc (.cells #[.bool true, .int .i64 t.path, .int .i64 t.tag, .int .i64 t.tot, .int .i64 k] 124)).drew) wr.heap.size 124 #[.bool true, .int .i64 t.path, .int .i64 t.tag, .int .i64 t.tot, .int .i64 k] := (Blk.new wr _ _).ext (Below.drew (Below.refl _ _))
          have hP4 := hP3.ext hE4
          refine (busy_any p s.jobs L.vJ ⟨true, t.path, t.tag, t.tot, k⟩ _ (hP4.blk.cell 6) hP4.jobs (by omega)).mono ?_
          rintro e w6 ⟨rfl, hE6⟩
          have hE7 := Ext.trans' hE4 hE6
          have hP6 := hP4.ext hE6
          have hBj6 := hBj4.ext hE6
          have hB6 := hBr.ext (Ext.trans' hE3 hE7)
          have hE8 := Ext.trans' (Ext.trans' hE0 hE3) hE7
          clear r0 r4 r5 hck hE4 hBj4 hP4 hE6
          cases hbu : busyL s.jobs ⟨true, t.path, t.tag, t.tot, k⟩
          · have HR : Hid (nextJ s = some ⟨true, t.path, t.tag, t.tot, k⟩) := by
              show _ = _; rw [HT.out, HT2.out, HK.out, HK2.out, hbu]; rfl
            have b0 : w6.cell? ⟨wr.heap.size, 0, none⟩ = some (.bool true) := hBj6.cell 0
            have b1 : w6.cell? ⟨wr.heap.size, 1, none⟩ = some (.int .i64 t.path) := hBj6.cell 1
            have b2 : w6.cell? ⟨wr.heap.size, 2, none⟩ = some (.int .i64 t.tag) := hBj6.cell 2
            have b3 : w6.cell? ⟨wr.heap.size, 3, none⟩ = some (.int .i64 t.tot) := hBj6.cell 3
            have b4 : w6.cell? ⟨wr.heap.size, 4, none⟩ = some (.int .i64 k) := hBj6.cell 4
            have q0 : w6.cell? ⟨gJ, mr * 5, none⟩ = some (.bool j0.on) := hP6.cellJ HJ0.out hJ 0 (by omega)
            have q1 : w6.cell? ⟨gJ, mr * 5 + 1, none⟩ = some (.int .i64 j0.path) := hP6.cellJ HJ0.out hJ 1 (by omega)
            have q2 : w6.cell? ⟨gJ, mr * 5 + 2, none⟩ = some (.int .i64 j0.tag) := hP6.cellJ HJ0.out hJ 2 (by omega)
            have q3 : w6.cell? ⟨gJ, mr * 5 + 3, none⟩ = some (.int .i64 j0.tot) := hP6.cellJ HJ0.out hJ 3 (by omega)
            have q4 : w6.cell? ⟨gJ, mr * 5 + 4, none⟩ = some (.int .i64 j0.k) := hP6.cellJ HJ0.out hJ 4 (by omega)
            have hfJ : ∀ r, w6.frozen? ⟨gJ, r, none⟩ = false := by have h5 := hP6.jobs; rw [hJ] at h5; exact fun r => h5.frozenAt r
            have hcj6 : w6.cell? ⟨p, 6, none⟩ = some (.slice (some ⟨gJ, 0, none⟩) s.jobs.length capJ) := by rw [← hJ]; exact hP6.blk.cell 6
            have hz1 := hE3.size
            have hz2 := hE0.size
            have hz3 := hE.size
            have hgJw : gJ ≠ wr.heap.size := by omega
            have hgJw0 : gJ ≠ w.heap.size := by omega
            have hgJp : gJ ≠ p := fun e => h.np L.vJ (by simp [Lay.vs]) (by rw [hJ, e]; rfl)
            obtain ⟨hPs, hMs⟩ := hP6.storeJob HJ0.out hJ ⟨true, t.path, t.tag, t.tot, k⟩
            have HPS := hide hPs
            have HMS := hide ((Mvs.of_ext hE8).trans hMs)
            clear hPs hMs
            go_wp2_with fail
            go_cut [13] (fun b wx => b = .bool false ∧ PrAt wx p { s with jobs := s.jobs.set mr ⟨true, t.path, t.tag, t.tot, k⟩ } L ∧ Mvs w wx p L L ∧ Blk wx wr.heap.size 124 #[.bool true, .int .i64 t.path, .int .i64 t.tag, .int .i64 t.tot, .int .i64 k] ∧
              Blk wx w.heap.size 57 #[.int .i64 0, .int .i64 0, .int .i64 0, .int .i64 0, .int .i64 0])
            case first =>
              go_region
              all_goals
                go_wp2_with fail
                go_meet
                refine ⟨rfl, HPS.out.ext (Below.drew (Below.refl _ _)), HMS.out.ext (Below.drew (Below.refl _ _)), ?_, ?_⟩
                · exact (((((hBj6.setOther (p := ⟨gJ, mr * 5, none⟩) hgJw _).setOther (p := ⟨gJ, mr * 5 + 1, none⟩) hgJw _).setOther (p := ⟨gJ, mr * 5 + 2, none⟩) hgJw _).setOther (p := ⟨gJ, mr * 5 + 3, none⟩) hgJw _).setOther (p := ⟨gJ, mr * 5 + 4, none⟩) hgJw _).ext (Below.drew (Below.refl _ _))
                · exact (((((hB6.setOther (p := ⟨gJ, mr * 5, none⟩) hgJw0 _).setOther (p := ⟨gJ, mr * 5 + 1, none⟩) hgJw0 _).setOther (p := ⟨gJ, mr * 5 + 2, none⟩) hgJw0 _).setOther (p := ⟨gJ, mr * 5 + 3, none⟩) hgJw0 _).setOther (p := ⟨gJ, mr * 5 + 4, none⟩) hgJw0 _).ext (Below.drew (Below.refl _ _))
            case rest =>
              obtain ⟨rfl, hP7, hM7, hBj7, hB7⟩ := hcut
              clear b0 b1 b2 b3 b4 q0 q1 q2 q3 q4 hfJ hcj6 HPS HMS hP6 hBj6 hB6
              have hcB : wc.cell? ⟨p, 1, none⟩ = some (.int .i64 s.blk) := hP7.blk.cell 1
              have hkB0 : 0 ≤ k * s.blk := Int.mul_nonneg hkb.1 (by have := inv.fair.B1; omega)
              have hkB1 : k * s.blk ≤ 1600000 := by have := Int.mul_le_mul hkb.2 inv.fair.B2 (by have := inv.fair.B1; omega) (by omega); omega
              have hpl7 := hP7.blk.lt
              have hbl7 := hBj7.lt
              cases hz : (t.tag == 0)
              · have HLN : Hid (nextLen s ⟨true, t.path, t.tag, t.tot, k⟩ = sizeL s.blk t.tot k) := by
                  show _ = _; unfold nextLen; rw [if_neg (by simpa using hz)]
                have hzb : (t.tag != 0) = true := by simpa using hz
                have b1 : wc.cell? ⟨wr.heap.size, 1, none⟩ = some (.int .i64 t.path) := hBj7.cell 1
                have b2 : wc.cell? ⟨wr.heap.size, 2, none⟩ = some (.int .i64 t.tag) := hBj7.cell 2
                have b3 : wc.cell? ⟨wr.heap.size, 3, none⟩ = some (.int .i64 t.tot) := hBj7.cell 3
                have b4 : wc.cell? ⟨wr.heap.size, 4, none⟩ = some (.int .i64 k) := hBj7.cell 4
                have k0 : wc.cell? ⟨w.heap.size, 0, none⟩ = some (.int .i64 0) := hB7.cell 0
                have k1 : wc.cell? ⟨w.heap.size, 1, none⟩ = some (.int .i64 0) := hB7.cell 1
                have k2 : wc.cell? ⟨w.heap.size, 2, none⟩ = some (.int .i64 0) := hB7.cell 2
                have k3 : wc.cell? ⟨w.heap.size, 3, none⟩ = some (.int .i64 0) := hB7.cell 3
                have k4 : wc.cell? ⟨w.heap.size, 4, none⟩ = some (.int .i64 0) := hB7.cell 4
                have kf := hB7.frozen
                have kl := hB7.lt
                go_wp2_with fail
                refine (size_any p s.blk t.tag t.tot k _ inv.fair.B1 inv.fair.B2 hkb.1 (by omega) hok.t0 hok.t1 hcB).mono ?_
                rintro e w9 ⟨rfl, hE9⟩
                have hP9 := hP7.ext hE9
                have hM9 := hM7.ext hE9
                have hBj9 := hBj7.ext hE9
                have hB9 := hB7.ext hE9
                have hcB9 := ext_cell hE9 hcB
                have hpl9 := hP9.blk.lt
                clear b1 b2 b3 b4 k0 k1 k2 k3 k4 kf kl
                have b1 : w9.cell? ⟨wr.heap.size, 1, none⟩ = some (.int .i64 t.path) := hBj9.cell 1
                have b2 : w9.cell? ⟨wr.heap.size, 2, none⟩ = some (.int .i64 t.tag) := hBj9.cell 2
                have b3 : w9.cell? ⟨wr.heap.size, 3, none⟩ = some (.int .i64 t.tot) := hBj9.cell 3
                have b4 : w9.cell? ⟨wr.heap.size, 4, none⟩ = some (.int .i64 k) := hBj9.cell 4
                have k0 : w9.cell? ⟨w.heap.size, 0, none⟩ = some (.int .i64 0) := hB9.cell 0
                have k1 : w9.cell? ⟨w.heap.size, 1, none⟩ = some (.int .i64 0) := hB9.cell 1
                have k2 : w9.cell? ⟨w.heap.size, 2, none⟩ = some (.int .i64 0) := hB9.cell 2
                have k3 : w9.cell? ⟨w.heap.size, 3, none⟩ = some (.int .i64 0) := hB9.cell 3
                have k4 : w9.cell? ⟨w.heap.size, 4, none⟩ = some (.int .i64 0) := hB9.cell 4
                have kf := hB9.frozen
                have kl := hB9.lt
                go_wp2_with fail
                go_region
                all_goals go_wp2_with fail
                all_goals refine bodyPost_ret (v := .tuple #[fetAgg t.path t.tag t.tot (k * s.blk) (sizeL s.blk t.tot k), .bool true, .int .i64 0]) (by simp [results, Tryz.results21, go_sem, fetAgg, k0, k1, k2, k3, k4, kf, kl]) rfl (Or.inr ⟨⟨true, t.path, t.tag, t.tot, k⟩, HR.out, ?_, ?_, ?_⟩)
                all_goals first
                  | (rw [HLN.out])
                  | (refine hP9.chg (S := fun x => x = w.heap.size) ?_ (fun b hb e => by have := h.lt b hb; omega)
                     (with_reducible repeat (first | exact Chg.refl _ _ | refine Chg.drew ?_ | refine Chg.alloc ?_ _ | refine Chg.setCell ?_ ?_ _)) <;> simp)
                  | (refine hM9.fresh ?_
                     (with_reducible repeat (first | exact Chg.refl _ _ | refine Chg.drew ?_ | refine Chg.alloc ?_ _ | refine Chg.setCell ?_ ?_ _)) <;> simp)
              · have HLN : Hid (nextLen s ⟨true, t.path, t.tag, t.tot, k⟩ = s.blk) := by
                  show _ = _; unfold nextLen; rw [if_pos (by simpa using hz)]
                have hzb : (t.tag != 0) = false := by simpa using hz
                have b1 : wc.cell? ⟨wr.heap.size, 1, none⟩ = some (.int .i64 t.path) := hBj7.cell 1
                have b2 : wc.cell? ⟨wr.heap.size, 2, none⟩ = some (.int .i64 t.tag) := hBj7.cell 2
                have b3 : wc.cell? ⟨wr.heap.size, 3, none⟩ = some (.int .i64 t.tot) := hBj7.cell 3
                have b4 : wc.cell? ⟨wr.heap.size, 4, none⟩ = some (.int .i64 k) := hBj7.cell 4
                have k0 : wc.cell? ⟨w.heap.size, 0, none⟩ = some (.int .i64 0) := hB7.cell 0
                have k1 : wc.cell? ⟨w.heap.size, 1, none⟩ = some (.int .i64 0) := hB7.cell 1
                have k2 : wc.cell? ⟨w.heap.size, 2, none⟩ = some (.int .i64 0) := hB7.cell 2
                have k3 : wc.cell? ⟨w.heap.size, 3, none⟩ = some (.int .i64 0) := hB7.cell 3
                have k4 : wc.cell? ⟨w.heap.size, 4, none⟩ = some (.int .i64 0) := hB7.cell 4
                have kf := hB7.frozen
                have kl := hB7.lt
                go_wp2_with fail
                go_region
                all_goals go_wp2_with fail
                all_goals refine bodyPost_ret (v := .tuple #[fetAgg t.path t.tag t.tot (k * s.blk) s.blk, .bool true, .int .i64 0]) (by simp [results, Tryz.results21, go_sem, fetAgg, k0, k1, k2, k3, k4, kf, kl]) rfl (Or.inr ⟨⟨true, t.path, t.tag, t.tot, k⟩, HR.out, ?_, ?_, ?_⟩)
                all_goals first
                  | (rw [HLN.out])
                  | (refine hP7.chg (S := fun x => x = w.heap.size) ?_ (fun b hb e => by have := h.lt b hb; omega)
                     (with_reducible repeat (first | exact Chg.refl _ _ | refine Chg.drew ?_ | refine Chg.alloc ?_ _ | refine Chg.setCell ?_ ?_ _)) <;> simp)
                  | (refine hM7.fresh ?_
                     (with_reducible repeat (first | exact Chg.refl _ _ | refine Chg.drew ?_ | refine Chg.alloc ?_ _ | refine Chg.setCell ?_ ?_ _)) <;> simp)
          · have HK3 : Hid (nextK s.jobs t l = nextK s.jobs t (l.drop (m + 1))) := by
              show _ = _; rw [HK.out, HK2.out, hbu]; rfl
            go_wp2_with fail
            exact ⟨⟨m + 1, by omega, by go_num, Ext.trans' hE2 hE7, HK3⟩, by simp [intOf]; omega⟩
        · clear hg1
          have HT3 : Hid (nextJ s = nextT s.blk s.win s.jobs (s.ts.drop (n + 1))) := by
            show _ = _; rw [HT.out, HT2.out, HK.out, List.drop_eq_nil_of_le (by omega)]; rfl
          go_wp2_with fail
          exact ⟨⟨n + 1, by omega, by go_num, hE3, HT3⟩, by simp [intOf]; omega⟩
    · clear hgT
      have HT3 : Hid (nextJ s = none) := by
        show _ = _; rw [HT.out, List.drop_eq_nil_of_le (by omega)]; rfl
      have k0 : wr.cell? ⟨w.heap.size, 0, none⟩ = some (.int .i64 0) := hB2.cell 0
      have k1 : wr.cell? ⟨w.heap.size, 1, none⟩ = some (.int .i64 0) := hB2.cell 1
      have k2 : wr.cell? ⟨w.heap.size, 2, none⟩ = some (.int .i64 0) := hB2.cell 2
      have k3 : wr.cell? ⟨w.heap.size, 3, none⟩ = some (.int .i64 0) := hB2.cell 3
      have k4 : wr.cell? ⟨w.heap.size, 4, none⟩ = some (.int .i64 0) := hB2.cell 4
      have n0 : wr.cell? ⟨w.heap.size + 1, 0, none⟩ = some (.int .i64 0) := hBn2.cell 0
      have n1 : wr.cell? ⟨w.heap.size + 1, 1, none⟩ = some (.int .i64 0) := hBn2.cell 1
      have n2 : wr.cell? ⟨w.heap.size + 1, 2, none⟩ = some (.int .i64 0) := hBn2.cell 2
      have n3 : wr.cell? ⟨w.heap.size + 1, 3, none⟩ = some (.int .i64 0) := hBn2.cell 3
      have n4 : wr.cell? ⟨w.heap.size + 1, 4, none⟩ = some (.int .i64 0) := hBn2.cell 4
      have kf := hB2.frozen
      have hE9 := Ext.trans' hE0 hE
      go_wp2_with fail
      refine bodyPost_ret (v := .tuple #[fetAgg 0 0 0 0 0, .bool false, .int .i64 0]) (by simp [results, Tryz.results21, go_sem, fetAgg, k0, k1, k2, k3, k4, kf]) rfl (Or.inl ⟨HT3.out, rfl, ?_⟩)
      (with_reducible repeat (first | exact hE9 | refine Below.drew ?_ | refine Below.alloc ?_ ?_ _ | refine Below.setCell ?_ ?_ _)) <;> simp
end Go.Proofs.YtjhihliciadipabGreat
