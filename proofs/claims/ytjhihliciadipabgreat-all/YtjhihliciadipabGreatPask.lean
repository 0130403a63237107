import Derived.Test.YtjhihliciadipabGreatPask1
import Derived.Deep.Cut
set_option linter.unusedVariables false
set_option linter.unusedSimpArgs false
set_option linter.unnecessarySimpa false
namespace Go.Proofs.YtjhihliciadipabGreat
open Go.RowKit

set_option maxRecDepth 100000 in
set_option maxHeartbeats 4000000 in
theorem AskP_new (q : Nat) (g : Pg) (path : Nat) (r : ByteArray) (w : World) (h : PgAt w q g) (hr : r.size ≤ 9223372036854775807) (hp4 : path < 4) (hn8 : g.s.trs.length < 8) :
    Calls Tryz.prog 18 #[.pointer (some ⟨q, 0, none⟩), .int .i64 path, .string r] w fun e w' =>
      e = .returned (.tuple #[.int .i64 g.s.trs.length, .int .i64 0]) ∧ PTo w w' q g (plookS { g.s with trs := g.s.trs ++ [askT path (readP r) (g.s.lat.getD path (0, 0))] }) := by
  have hvT : w.cell? ⟨q, 13, none⟩ = some g.v.t := h.cV
  obtain ⟨aT, capT, hT, -⟩ := own_form h.ts
  rw [hT] at hvT
  have hp4' : (path : Int) < 4 := by omega
  have hn8' : (g.s.trs.length : Int) < 8 := by omega
  obtain ⟨v, hv⟩ : ∃ v, g.s.lat[path]? = some v := ⟨_, List.getElem?_eq_getElem (by rw [h.ok.nl]; exact hp4)⟩
  have hvb := h.ok.lat v (List.mem_of_getElem? hv)
  have HG : Hid (g.s.lat.getD path (0, 0) = v) := by show _ = _; simp [hv]
  have HRd := ReadP_any r
  have hrb := readP_bd r
  have HAk : Hid (askT path (readP r) v = if v.1 = 0 then rawT path (readP r) else bindT (rawT path (readP r)) v) := askT_eq _ _ _
  have HRok : Hid (TrOk (rawT path (readP r))) := rawT_ok (by omega) hp4' hrb
  rw [HG.out]
  generalize askT path (readP r) v = T at *
  obtain ⟨ra, rb, rc⟩ := readP r
  unfold rngAgg at HRd
  simp only at *
  go_enter Tryz.func18, Tryz.ntmps18
  go_wp2_with fail
  refine (HRd _ hr).mono ?_
  rintro e w1 ⟨rfl, hE1⟩
  have h1 := h.ext hE1
  have l0 : w1.cell? ⟨q, 5 + path * 2, none⟩ = some (.int .i64 v.1) := h1.cLat path 0 v hv (by omega)
  have l1 : w1.cell? ⟨q, 5 + path * 2 + 1, none⟩ = some (.int .i64 v.2) := by rw [Nat.add_assoc]; exact h1.cLat path 1 v hv (by omega)
  have hpl := h1.blk.lt
  clear hvT HRd
  have hBx : Blk (w1.alloc (.cells #[.int .i64 path, .int .i64 (readP r).1, .int .i64 (readP r).2.1, .int .i64 (readP r).2.2, .bool false, .bool false, .bool false, .int .i64 0, .int .i64 0, .int .i64 0, .int .i64 0, .int .i64 0, .int .i64 0, .int .i64 0, .string { data := #[] }, .string { data := #[] }, .string { data := #[] }, .string { data := #[] }] 109)) w1.heap.size 109 (trL (rawT path (readP r))).toArray := Blk.new w1 _ _
  have hE2 := Ext.new w1 (.cells #[.int .i64 path, .int .i64 (readP r).1, .int .i64 (readP r).2.1, .int .i64 (readP r).2.2, .bool false, .bool false, .bool false, .int .i64 0, .int .i64 0, .int .i64 0, .int .i64 0, .int .i64 0, .int .i64 0, .int .i64 0, .string { data := #[] }, .string { data := #[] }, .string { data := #[] }, .string { data := #[] }] 109)
  go_upto_if 34 with (go_at_call 42; refine (isNone_any _ _ _).mono ?_; rintro e w3 ⟨rfl, hE3⟩)
  have hX3 := Ext.trans' (Ext.trans' hE1 hE2) hE3
  have hBx3 := hBx.ext hE3
  have hP3 := h.ext hX3
  have l0' := ext_cell hE3 (ext_cell hE2 l0)
  have l1' := ext_cell hE3 (ext_cell hE2 l1)
  have hT3 : TrAt w3 w1.heap.size 0 (rawT path (readP r)) := TrAt.ofBlk hBx3 rfl
  have hql3 := hP3.blk.lt
  have hs1 : w.heap.size ≤ w1.heap.size := hE1.size
  clear hE2 hBx l0 l1 hE3 h1 hpl
  go_cut [9] (fun u wx => u = .pointer (some ⟨w1.heap.size, 0, none⟩) ∧ TrAt wx w1.heap.size 0 T ∧ TrOk T ∧ PgAt wx q g ∧ Ext w wx)
  case first =>
    by_cases hv0 : v.1 = 0
    · have hv0' : (v.1 == 0) = true := by simpa using hv0
      have HT : Hid (T = rawT path (readP r)) := by show _ = _; rw [HAk.out, if_pos hv0]
      clear hv0
      rw [hv0']
      simp only [Bool.not_true]
      go_wp2_with fail
      go_meet
      exact ⟨rfl, by rw [HT.out]; exact hT3, by rw [HT.out]; exact HRok.out, hP3, hX3⟩
    · have hv0' : (v.1 == 0) = false := by simpa using hv0
      have HT : Hid (T = bindT (rawT path (readP r)) v) := by show _ = _; rw [HAk.out, if_neg hv0]
      clear hv0
      rw [hv0']
      simp only [Bool.not_false]
      go_wp2_with fail
      refine (bind_known w1.heap.size 0 _ v.1 v.2 _ hT3 HRok.out hvb.2.2.1 hvb.2.2.2).mono ?_
      rintro e w4 ⟨rfl, hT4⟩
      go_wp2_with fail
      go_meet
      have hX4 : Ext w w4 := hX3.trans ⟨hT4.chg.os, hT4.chg.tape, hT4.chg.output, hT4.chg.size, fun k hk => hT4.chg.block k (Nat.lt_of_lt_of_le hk hX3.size) (by omega)⟩
      exact ⟨rfl, by rw [HT.out]; exact hT4.at, by rw [HT.out]; exact bindT_ok HRok.out rfl hvb.2.2.1 hvb.2.2.2, h.ext hX4, hX4⟩
  case rest =>
    obtain ⟨rfl, hT5, hTok, hP5, hX5⟩ := hcut
    apply_assumption
    exact AskP_rest q g path r w wc w1.heap.size T hn8 hT5 hTok hP5 hX5 _ _ _ _ _ _ _ _ _ _ _ _ _ _ _ _ _ _ _ _ _ _ _ _ _ _ _ _ _ _ _ _ _ _ _ _ _ _ _ _ _ _ _ _ _ _ _ _
end Go.Proofs.YtjhihliciadipabGreat
