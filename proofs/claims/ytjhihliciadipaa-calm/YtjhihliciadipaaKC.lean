import Derived.Test.YtjhihliciadipaaKM4
import Derived.Test.YtjhihliciadipaaKW
set_option linter.unusedVariables false
set_option linter.unusedSimpArgs false
set_option linter.unnecessarySimpa false
namespace Go.Proofs.Ytjhihliciadipaa
open Go.RowKit

/-- A mirror's errand is answered honestly. -/
theorem setl_blk (P : Pl) (v : Int) (m : Nat) : (setlPl P v m).g.s.blk = P.g.s.blk := rp_blk _ _ _
set_option maxRecDepth 100000 in
set_option maxHeartbeats 4000000 in
theorem settle_any (y : Nat) (col : Nat → Nat) (k : Nat) (K : Kn) (n : Nat) (P : Pl) (V : Pv) (m : Nat) (w : World) (h : PlAt w y col k P V) (hI : PI K n P) (hm : (m : Int) < P.g.s.mir) (hs : P.sent.length ≤ 3000000000000) (hk1 : 1 ≤ k) :
    Calls Try.prog 46 #[.pointer (some ⟨y, 0, none⟩), .int .i64 m] w fun e w' => e = .returned (.tuple #[]) ∧ PlTo w w' y col k (setlPl P 0 m) := by
  have h2 := hI.si.fair.m2
  have hst := hI.j.st.2.1
  have hb1 := hI.si.fair.B1
  have hb2 := hI.si.fair.B2
  obtain ⟨f, hf⟩ : ∃ f, P.jobs[m]? = some f := ⟨_, List.getElem?_eq_getElem (by rw [hI.nj]; omega)⟩
  have hj := hI.jo f (List.mem_of_getElem? hf)
  have hgd : P.jobs.getD m noFe = f := by rw [List.getD_eq_getElem?_getD, hf]; rfl
  have hE0 := Ext.new w (.cells #[.int .i64 f.path, .int .i64 f.tag, .int .i64 f.tot, .int .i64 f.off, .int .i64 f.len] 32)
  have hBx := Blk.new w 32 #[.int .i64 f.path, .int .i64 f.tag, .int .i64 f.tot, .int .i64 f.off, .int .i64 f.len]
  have h0 := h.ext hE0 0
  have hS0 := StK.ext (col := col) (k := k) hE0 0
  have j0 : w.cell? ⟨y, 6 + m * 5, none⟩ = some (.int .i64 f.path) := h.cJob m 0 f hf (by omega)
  have j1 : w.cell? ⟨y, 6 + m * 5 + 1, none⟩ = some (.int .i64 f.tag) := h.cJob m 1 f hf (by omega)
  have j2 : w.cell? ⟨y, 6 + m * 5 + 2, none⟩ = some (.int .i64 f.tot) := h.cJob m 2 f hf (by omega)
  have j3 : w.cell? ⟨y, 6 + m * 5 + 3, none⟩ = some (.int .i64 f.off) := h.cJob m 3 f hf (by omega)
  have j4 : w.cell? ⟨y, 6 + m * 5 + 4, none⟩ = some (.int .i64 f.len) := h.cJob m 4 f hf (by omega)
  have hm3 : (m : Int) < 3 := by omega
  have hyl := h.lt
  obtain ⟨tg, htg⟩ : ∃ tg, tg = tgV 0 f.tag := ⟨_, rfl⟩
  have htb : 0 ≤ tg ∧ tg ≤ 99 := by
    rw [htg]; unfold tgV
    have := hj.t0
    have := hj.t1
    split
    · simp
    · omega
  have HH := hide (fun w' (h' : PlAt w' y (recolK w col 0) k P V) => honest_any y _ k P V f tg w' h' (by omega) (by omega) hj.p0 hj.p1 htb.1 htb.2 hj.o0 (by have := hj.o1; omega))
  have HR := hide (fun w' col' (h' : PlAt w' y col' k P V) => yreply_any y col' k K n P V m (honK P.st.b f tg) w' h' hI hm (by
    show (objK f.path tg f.off.toNat P.st.b.toNat).size ≤ _
    rw [objK_size]; unfold objN; omega) hs)
  have hset : setlPl P 0 m = rpPl P m (honK P.st.b f tg) := by unfold setlPl; rw [hgd, ← htg]
  rw [hset]
  unfold feAgg fetAgg at HH
  have H0 := hide h0
  have HS0 := hide hS0
  generalize honK P.st.b f tg = r at *
  unfold rpAgg repAgg at HH HR
  obtain ⟨fp, ft, fo, ff, fl⟩ := f
  simp only at *
  clear hset hgd hf h h0 hS0 hI
  by_cases q : ft = 0
  · have e1 : tg = 1 := by rw [htg]; unfold tgV; rw [if_pos q]; rfl
    subst e1 q
    clear htg
    go_enter Try.func46, Try.ntmps46
    go_upto_region 4 with (fail)
    generalize w.alloc (.cells #[.int .i64 fp, .int .i64 0, .int .i64 fo, .int .i64 ff, .int .i64 fl] 32) = w1 at *
    have x0 : w1.cell? ⟨w.heap.size, 0, none⟩ = some (.int .i64 fp) := hBx.cell 0
    have x1 : w1.cell? ⟨w.heap.size, 1, none⟩ = some (.int .i64 0) := hBx.cell 1
    have x2 : w1.cell? ⟨w.heap.size, 2, none⟩ = some (.int .i64 fo) := hBx.cell 2
    have x3 : w1.cell? ⟨w.heap.size, 3, none⟩ = some (.int .i64 ff) := hBx.cell 3
    have x4 : w1.cell? ⟨w.heap.size, 4, none⟩ = some (.int .i64 fl) := hBx.cell 4
    have HH1 := HH.out w1 H0.out
    clear HH hBx
    go_wp2_with fail
    refine HH1.mono ?_
    rintro e w2 ⟨rfl, hE2⟩
    have HR2 := HR.out w2 _ (H0.out.ext hE2 0)
    clear HR HH1
    go_wp2_with fail
    refine HR2.mono ?_
    rintro e w3 ⟨rfl, hT3⟩
    go_wp2_with fail
    go_end0
    exact ⟨rfl, PlTo.trans (HS0.out.trans (StK.ext (k := k) hE2 0)) hT3⟩
  · have e1 : tg = ft := by rw [htg]; unfold tgV; rw [if_neg q]
    subst e1
    clear htg
    go_enter Try.func46, Try.ntmps46
    go_upto_region 4 with (fail)
    generalize w.alloc (.cells #[.int .i64 fp, .int .i64 tg, .int .i64 fo, .int .i64 ff, .int .i64 fl] 32) = w1 at *
    have x0 : w1.cell? ⟨w.heap.size, 0, none⟩ = some (.int .i64 fp) := hBx.cell 0
    have x1 : w1.cell? ⟨w.heap.size, 1, none⟩ = some (.int .i64 tg) := hBx.cell 1
    have x2 : w1.cell? ⟨w.heap.size, 2, none⟩ = some (.int .i64 fo) := hBx.cell 2
    have x3 : w1.cell? ⟨w.heap.size, 3, none⟩ = some (.int .i64 ff) := hBx.cell 3
    have x4 : w1.cell? ⟨w.heap.size, 4, none⟩ = some (.int .i64 fl) := hBx.cell 4
    have HH1 := HH.out w1 H0.out
    clear HH hBx
    go_wp2_with fail
    refine HH1.mono ?_
    rintro e w2 ⟨rfl, hE2⟩
    have HR2 := HR.out w2 _ (H0.out.ext hE2 0)
    clear HR HH1
    go_wp2_with fail
    refine HR2.mono ?_
    rintro e w3 ⟨rfl, hT3⟩
    go_wp2_with fail
    go_end0
    exact ⟨rfl, PlTo.trans (HS0.out.trans (StK.ext (k := k) hE2 0)) hT3⟩
end Go.Proofs.Ytjhihliciadipaa
