import Derived.Test.YtjhihliciadipabGreatPtr
import Derived.Deep.RegionHeld3
set_option linter.unusedVariables false
set_option linter.unusedSimpArgs false
set_option linter.unnecessarySimpa false
namespace Go.Proofs.YtjhihliciadipabGreat
open Go.RowKit

theorem isNone_any (tag tot : Int) (w : World) : Calls Tryz.prog 42 #[.agg #[.int .i64 tag, .int .i64 tot]] w fun e w' => e = .returned (.bool (tag == 0)) ∧ Ext w w' := by
  go_enter Tryz.func42, Tryz.ntmps42
  go_wp2_with fail
  go_ret
  exact ⟨rfl, Ext.new w _⟩

set_option maxHeartbeats 1000000 in
theorem fairV_any (tag tot : Int) (w : World) : Calls Tryz.prog 105 #[.agg #[.int .i64 tag, .int .i64 tot]] w fun e w' => e = .returned (.bool (fairV tag tot)) ∧ Ext w w' := by
  unfold fairV
  by_cases h1 : tag < 1
  · go_enter Tryz.func105, Tryz.ntmps105
    go_wp2_with fail
    go_ret
    exact ⟨ret_bool (by simp; omega), Ext.new w _⟩
  · by_cases h2 : 99 < tag
    · go_enter Tryz.func105, Tryz.ntmps105
      go_wp2_with fail
      go_ret
      exact ⟨ret_bool (by simp; omega), Ext.new w _⟩
    · by_cases h3 : 0 ≤ tot
      all_goals
        go_enter Tryz.func105, Tryz.ntmps105
        go_wp2_with fail
        go_ret
        exact ⟨ret_bool (by simp <;> omega), Ext.new w _⟩

set_option maxHeartbeats 1000000 in
theorem blockLen_any (tag tot k B : Int) (w : World) (h0 : 0 ≤ tot) (h1 : tot ≤ 1000) (hk : 0 ≤ k) (hk1 : k ≤ 1000) (hB : 1 ≤ B) (hB2 : B ≤ 16) :
    Calls Tryz.prog 85 #[.agg #[.int .i64 tag, .int .i64 tot], .int .i64 k, .int .i64 B] w fun e w' => e = .returned (.int .i64 (blkLen tot k B)) ∧ Ext w w' := by
  unfold blkLen
  have hm : 0 ≤ k * B := Int.mul_nonneg hk (by omega)
  have hm2 : k * B ≤ 1000 * 16 := Int.mul_le_mul hk1 hB2 (by omega) (by omega)
  by_cases h : tot - k * B < 0
  · rw [if_pos h]
    go_enter Tryz.func85, Tryz.ntmps85
    go_wp2_with fail
    go_ret
    exact ⟨rfl, Ext.new w _⟩
  · rw [if_neg h]
    go_enter Tryz.func85, Tryz.ntmps85
    go_wp2_with fail
    refine (atMost_any _ _ _).mono ?_
    rintro e w1 ⟨rfl, rfl⟩
    go_wp2_with fail
    go_ret
    exact ⟨rfl, Ext.new w _⟩

theorem Blk.new3' (w : World) (o o' : Obj) (T : TypeId) (arr : Array Value) : Blk (((w.alloc o).alloc o').alloc (.cells arr T)) (w.heap.size + 1 + 1) T arr := by
  have := Blk.new ((w.alloc o).alloc o') T arr
  simpa using this

set_option maxRecDepth 100000 in
set_option maxHeartbeats 1000000 in
theorem fetch_any (e : Er) (B : Int) (w : World) (hk : 0 ≤ e.blk) (hk1 : e.blk ≤ 1000) (hB : 1 ≤ B) (hB2 : B ≤ 16) (h0 : 0 ≤ e.tot) (h1 : e.tot ≤ 1000) :
    Calls Tryz.prog 49 #[erAgg e, .int .i64 B] w fun r w' => r = .returned (fetAgg (fetchE B e).1 (fetchE B e).2.1 (fetchE B e).2.2.1 (fetchE B e).2.2.2.1 (fetchE B e).2.2.2.2) ∧ Ext w w' := by
  obtain ⟨ep, et, eo, eb⟩ := e
  simp only at *
  have hm : 0 ≤ eb * B := Int.mul_nonneg hk (by omega)
  have hm2 : eb * B ≤ 1000 * 16 := Int.mul_le_mul hk1 hB2 (by omega) (by omega)
  rw [erAgg_eq]
  unfold fetchE fetAgg
  simp only
  have hE := Ext.trans' (Ext.new2' w (.cells #[.int .i64 ep, .int .i64 et, .int .i64 eo, .int .i64 eb] 94) (.cells #[.int .i64 0, .int .i64 0, .int .i64 0, .int .i64 0, .int .i64 0] 57)) (Ext.new _ (.cells #[.int .i64 ep, .int .i64 et, .int .i64 eo, .int .i64 (eb * B), .int .i64 B] 57))
  by_cases h : et = 0
  · rw [if_pos h]
    subst h
    go_enter Tryz.func49, Tryz.ntmps49
    go_wp2_with fail
    refine (isNone_any 0 eo _).mono ?_
    rintro r w1 ⟨rfl, hE1⟩
    have hX := Ext.trans' hE hE1
    have hBe := ((Blk.new w 94 #[.int .i64 ep, .int .i64 0, .int .i64 eo, .int .i64 eb]).ext (Ext.new2' _ (.cells #[.int .i64 0, .int .i64 0, .int .i64 0, .int .i64 0, .int .i64 0] 57) (.cells #[.int .i64 ep, .int .i64 0, .int .i64 eo, .int .i64 (eb * B), .int .i64 B] 57))).ext hE1
    have hBr := ((Blk.new2' w (.cells #[.int .i64 ep, .int .i64 0, .int .i64 eo, .int .i64 eb] 94) 57 #[.int .i64 0, .int .i64 0, .int .i64 0, .int .i64 0, .int .i64 0]).ext (Ext.new _ (.cells #[.int .i64 ep, .int .i64 0, .int .i64 eo, .int .i64 (eb * B), .int .i64 B] 57))).ext hE1
    have hBf := (Blk.new3' w (.cells #[.int .i64 ep, .int .i64 0, .int .i64 eo, .int .i64 eb] 94) (.cells #[.int .i64 0, .int .i64 0, .int .i64 0, .int .i64 0, .int .i64 0] 57) 57 #[.int .i64 ep, .int .i64 0, .int .i64 eo, .int .i64 (eb * B), .int .i64 B]).ext hE1
    have r0 : w1.cell? ⟨w.heap.size + 1, 0, none⟩ = some (.int .i64 0) := hBr.cell 0
    have r1 : w1.cell? ⟨w.heap.size + 1, 1, none⟩ = some (.int .i64 0) := hBr.cell 1
    have r2 : w1.cell? ⟨w.heap.size + 1, 2, none⟩ = some (.int .i64 0) := hBr.cell 2
    have r3 : w1.cell? ⟨w.heap.size + 1, 3, none⟩ = some (.int .i64 0) := hBr.cell 3
    have r4 : w1.cell? ⟨w.heap.size + 1, 4, none⟩ = some (.int .i64 0) := hBr.cell 4
    have rf := hBr.frozen
    have f0 : w1.cell? ⟨w.heap.size + 2, 0, none⟩ = some (.int .i64 ep) := hBf.cell 0
    have f1 : w1.cell? ⟨w.heap.size + 2, 1, none⟩ = some (.int .i64 0) := hBf.cell 1
    have f2 : w1.cell? ⟨w.heap.size + 2, 2, none⟩ = some (.int .i64 eo) := hBf.cell 2
    have f3 : w1.cell? ⟨w.heap.size + 2, 3, none⟩ = some (.int .i64 (eb * B)) := hBf.cell 3
    have f4 : w1.cell? ⟨w.heap.size + 2, 4, none⟩ = some (.int .i64 B) := hBf.cell 4
    have ff := hBf.frozen
    have e1 : w1.cell? ⟨w.heap.size, 1, none⟩ = some (.int .i64 0) := hBe.cell 1
    have e2 : w1.cell? ⟨w.heap.size, 2, none⟩ = some (.int .i64 eo) := hBe.cell 2
    have e3 : w1.cell? ⟨w.heap.size, 3, none⟩ = some (.int .i64 eb) := hBe.cell 3
    clear hBe hBr hBf hE1 hE
    go_wp2_with fail
    refine bodyPost_ret (v := .agg #[.int .i64 ep, .int .i64 0, .int .i64 eo, .int .i64 (eb * B), .int .i64 B]) (by simp [results, Tryz.results49, go_sem, r0, r1, r2, r3, r4]) rfl ⟨rfl, ?_⟩
    (with_reducible repeat (first | refine Below.drew ?_ | refine Below.alloc ?_ ?_ _ | refine Below.setCell ?_ ?_ _ | exact hX)) <;> first | (simp; done) | (simp; omega)
  · rw [if_neg h]
    have h0' : (et == 0) = false := by simpa using h
    go_enter Tryz.func49, Tryz.ntmps49
    go_wp2_with fail
    refine (isNone_any et eo _).mono ?_
    rintro r w1 ⟨rfl, hE1⟩
    have hX1 := Ext.trans' hE hE1
    rw [h0']
    have hBe := ((Blk.new w 94 #[.int .i64 ep, .int .i64 et, .int .i64 eo, .int .i64 eb]).ext (Ext.new2' _ (.cells #[.int .i64 0, .int .i64 0, .int .i64 0, .int .i64 0, .int .i64 0] 57) (.cells #[.int .i64 ep, .int .i64 et, .int .i64 eo, .int .i64 (eb * B), .int .i64 B] 57))).ext hE1
    have hBr := ((Blk.new2' w (.cells #[.int .i64 ep, .int .i64 et, .int .i64 eo, .int .i64 eb] 94) 57 #[.int .i64 0, .int .i64 0, .int .i64 0, .int .i64 0, .int .i64 0]).ext (Ext.new _ (.cells #[.int .i64 ep, .int .i64 et, .int .i64 eo, .int .i64 (eb * B), .int .i64 B] 57))).ext hE1
    have hBf := (Blk.new3' w (.cells #[.int .i64 ep, .int .i64 et, .int .i64 eo, .int .i64 eb] 94) (.cells #[.int .i64 0, .int .i64 0, .int .i64 0, .int .i64 0, .int .i64 0] 57) 57 #[.int .i64 ep, .int .i64 et, .int .i64 eo, .int .i64 (eb * B), .int .i64 B]).ext hE1
    have r0 : w1.cell? ⟨w.heap.size + 1, 0, none⟩ = some (.int .i64 0) := hBr.cell 0
    have r1 : w1.cell? ⟨w.heap.size + 1, 1, none⟩ = some (.int .i64 0) := hBr.cell 1
    have r2 : w1.cell? ⟨w.heap.size + 1, 2, none⟩ = some (.int .i64 0) := hBr.cell 2
    have r3 : w1.cell? ⟨w.heap.size + 1, 3, none⟩ = some (.int .i64 0) := hBr.cell 3
    have r4 : w1.cell? ⟨w.heap.size + 1, 4, none⟩ = some (.int .i64 0) := hBr.cell 4
    have rf := hBr.frozen
    have f0 : w1.cell? ⟨w.heap.size + 2, 0, none⟩ = some (.int .i64 ep) := hBf.cell 0
    have f1 : w1.cell? ⟨w.heap.size + 2, 1, none⟩ = some (.int .i64 et) := hBf.cell 1
    have f2 : w1.cell? ⟨w.heap.size + 2, 2, none⟩ = some (.int .i64 eo) := hBf.cell 2
    have f3 : w1.cell? ⟨w.heap.size + 2, 3, none⟩ = some (.int .i64 (eb * B)) := hBf.cell 3
    have f4 : w1.cell? ⟨w.heap.size + 2, 4, none⟩ = some (.int .i64 B) := hBf.cell 4
    have ff := hBf.frozen
    have e1 : w1.cell? ⟨w.heap.size, 1, none⟩ = some (.int .i64 et) := hBe.cell 1
    have e2 : w1.cell? ⟨w.heap.size, 2, none⟩ = some (.int .i64 eo) := hBe.cell 2
    have e3 : w1.cell? ⟨w.heap.size, 3, none⟩ = some (.int .i64 eb) := hBe.cell 3
    clear hE1 hE
    go_wp2_with fail
    refine (blockLen_any et eo eb B _ h0 h1 hk hk1 hB hB2).mono ?_
    rintro r w2 ⟨rfl, hE2⟩
    have hX := Ext.trans' hX1 hE2
    clear rf ff
    replace r0 := ext_cell hE2 r0
    replace r1 := ext_cell hE2 r1
    replace r2 := ext_cell hE2 r2
    replace r3 := ext_cell hE2 r3
    replace r4 := ext_cell hE2 r4
    replace f0 := ext_cell hE2 f0
    replace f1 := ext_cell hE2 f1
    replace f2 := ext_cell hE2 f2
    replace f3 := ext_cell hE2 f3
    replace f4 := ext_cell hE2 f4
    have rf := (hBr.ext hE2).frozen
    have ff := (hBf.ext hE2).frozen
    clear hBe hBr hBf hE2 hX1 e1 e2 e3
    go_wp2_with fail
    refine bodyPost_ret (v := .agg #[.int .i64 ep, .int .i64 et, .int .i64 eo, .int .i64 (eb * B), .int .i64 (blkLen eo eb B)]) (by simp [results, Tryz.results49, go_sem, r0, r1, r2, r3, r4]) rfl ⟨rfl, ?_⟩
    (with_reducible repeat (first | refine Below.drew ?_ | refine Below.alloc ?_ ?_ _ | refine Below.setCell ?_ ?_ _ | exact hX)) <;> first | (simp; done) | (simp; omega)

set_option maxRecDepth 100000 in
set_option maxHeartbeats 2000000 in
theorem sensible_any (e : Er) (tag tot off : Int) (body : ByteArray) (B : Int) (w : World) (hk : 0 ≤ e.blk) (hk1 : e.blk ≤ 1000) (hB : 1 ≤ B) (hB2 : B ≤ 16) (hb : body.size ≤ 9223372036854775807) :
    Calls Tryz.prog 86 #[erAgg e, repAgg tag tot off body, .int .i64 B] w fun r w' => r = .returned (.bool (sensible B e tag tot off body.size)) ∧ Ext w w' := by
  obtain ⟨ep, et, eo, eb⟩ := e
  simp only at *
  have hm : 0 ≤ eb * B := Int.mul_nonneg hk (by omega)
  have hm2 : eb * B ≤ 1000 * 16 := Int.mul_le_mul hk1 hB2 (by omega) (by omega)
  rw [erAgg_eq]
  unfold repAgg
  have HR : Hid (sensible B ⟨ep, et, eo, eb⟩ tag tot off body.size = (fairV tag tot && (off == eb * B && (body.size : Int) == blkLen tot eb B))) := rfl
  generalize sensible B ⟨ep, et, eo, eb⟩ tag tot off body.size = res at *
  have hE := Ext.trans' (Ext.new2' w (.cells #[.int .i64 ep, .int .i64 et, .int .i64 eo, .int .i64 eb] 94) (.cells #[.int .i64 tag, .int .i64 tot, .int .i64 off, .string body] 63)) (Ext.new _ (.cells #[.int .i64 tag, .int .i64 tot] 89))
  have hBe := (Blk.new w 94 #[.int .i64 ep, .int .i64 et, .int .i64 eo, .int .i64 eb]).ext (Ext.new2' _ (.cells #[.int .i64 tag, .int .i64 tot, .int .i64 off, .string body] 63) (.cells #[.int .i64 tag, .int .i64 tot] 89))
  have hBr := (Blk.new2' w (.cells #[.int .i64 ep, .int .i64 et, .int .i64 eo, .int .i64 eb] 94) 63 #[.int .i64 tag, .int .i64 tot, .int .i64 off, .string body]).ext (Ext.new _ (.cells #[.int .i64 tag, .int .i64 tot] 89))
  have hBv := Blk.new3' w (.cells #[.int .i64 ep, .int .i64 et, .int .i64 eo, .int .i64 eb] 94) (.cells #[.int .i64 tag, .int .i64 tot, .int .i64 off, .string body] 63) 89 #[.int .i64 tag, .int .i64 tot]
  have HF := fairV_any tag tot
  go_enter Tryz.func86, Tryz.ntmps86
  go_wp2_with fail
  refine (HF _).mono ?_
  rintro r w1 ⟨rfl, hE1⟩
  have hX := Ext.trans' hE hE1
  replace hBe := hBe.ext hE1
  replace hBr := hBr.ext hE1
  replace hBv := hBv.ext hE1
  clear hE hE1 HF
  cases hf : fairV tag tot
  · go_wp2_with fail
    go_ret
    exact ⟨ret_bool (by rw [HR.out, hf]; rfl), hX⟩
  · have ht0 : 0 ≤ tot := by unfold fairV at hf; simp at hf; omega
    have ht1 : tot ≤ 1000 := by unfold fairV at hf; simp at hf; omega
    have HF := hide hf
    clear hf
    have e3 : w1.cell? ⟨w.heap.size, 3, none⟩ = some (.int .i64 eb) := hBe.cell 3
    have r2 : w1.cell? ⟨w.heap.size + 1, 2, none⟩ = some (.int .i64 off) := hBr.cell 2
    have r3 : w1.cell? ⟨w.heap.size + 1, 3, none⟩ = some (.string body) := hBr.cell 3
    have v0 : w1.cell? ⟨w.heap.size + 2, 0, none⟩ = some (.int .i64 tag) := hBv.cell 0
    have v1 : w1.cell? ⟨w.heap.size + 2, 1, none⟩ = some (.int .i64 tot) := hBv.cell 1
    go_wp2_with fail
    by_cases ho : off = eb * B
    · subst ho
      have q5 : IntKind.i64.wrap (eb * B) = eb * B := (Go.IntWalk.i64_left _).trans (Go.IntWalk.wrap64_in _ (by omega))
      have HK := hide (blockLen_any tag tot eb B)
      go_region_held3 (fun w' => w'.cell? ⟨w.heap.size, 3, none⟩ = some (.int .i64 eb) ∧ w'.cell? ⟨w.heap.size + 1, 2, none⟩ = some (.int .i64 (eb * B)) ∧ w'.cell? ⟨w.heap.size + 1, 3, none⟩ = some (.string body) ∧ w'.cell? ⟨w.heap.size + 2, 0, none⟩ = some (.int .i64 tag) ∧ w'.cell? ⟨w.heap.size + 2, 1, none⟩ = some (.int .i64 tot)) (go_keep)
        ((go_at_call 85
          refine (HK.out _ ht0 ht1 hk hk1 hB hB2).mono ?_
          rintro r w2 ⟨rfl, hE2⟩
          have e3' := ext_cell hE2 e3
          have r2' := ext_cell hE2 r2
          have r3' := ext_cell hE2 r3
          have v0' := ext_cell hE2 v0
          have v1' := ext_cell hE2 v1))
      all_goals go_wp2_with fail
      all_goals go_ret
      all_goals exact ⟨ret_bool (by rw [HR.out, HF.out]; simp), Ext.trans' hX hE2.undrew⟩
    · have ho' : (off == eb * B) = false := by simpa using ho
      go_quiet (fail)
      go_wp2_with fail
      go_ret
      exact ⟨ret_bool (by rw [HR.out, ho']; simp), Ext.drewN hX _⟩
end Go.Proofs.YtjhihliciadipabGreat
