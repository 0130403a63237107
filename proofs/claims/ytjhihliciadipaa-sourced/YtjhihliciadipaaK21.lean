import Derived.Test.YtjhihliciadipaaKH
set_option linter.unusedVariables false
set_option linter.unusedSimpArgs false
set_option linter.unnecessarySimpa false
namespace Go.Proofs.Ytjhihliciadipaa
open Go.RowKit

set_option maxHeartbeats 1000000 in
theorem begins_any (s t : ByteArray) (w : World) (hl : t.size ≤ s.size) (hs : s.size ≤ 1000000000) (he : s.extract 0 t.size = t) :
    Calls Try.prog 24 #[.string s, .string t] w fun e w' => e = .returned (.bool true) ∧ w' = w := by
  have hl' : (t.size : Int) ≤ s.size := by omega
  go_enter Try.func24, Try.ntmps24
  go_wp2_with fail
  go_ret
  exact ⟨by simp [he], rfl⟩
set_option maxRecDepth 100000 in
set_option maxHeartbeats 2000000 in
theorem fair_head (h : Hd) (w : World) (hf : FairH h) (hb1 : h.frm ≤ 1000) (hb2 : h.len ≤ 1000) :
    Calls Try.prog 25 #[hdAgg h] w fun e w' => e = .returned (.bool true) ∧ Ext w w' := by
  obtain ⟨st, tag, tot, frm, len⟩ := h
  obtain ⟨hf⟩ := hf
  unfold hdAgg
  simp only at *
  have hE := Ext.new2' w (.cells #[.int .i64 st, .int .i64 tag, .int .i64 tot, .int .i64 frm, .int .i64 len] 46) (.cells #[.int .i64 502, .int .i64 0, .int .i64 0, .int .i64 0, .int .i64 0] 46)
  rcases hf with hf | ⟨h1, ⟨rfl, rfl, rfl⟩ | ⟨rfl, rfl, rfl⟩ | ⟨rfl, h2, h3, h4⟩⟩
  · simp at hf
    obtain ⟨rfl, rfl, rfl, rfl, rfl⟩ := hf
    go_enter Try.func25, Try.ntmps25
    go_wp2_with fail
    go_ret
    exact ⟨rfl, hE⟩
  · have h1' : 0 < tag := by omega
    go_enter Try.func25, Try.ntmps25
    go_wp2_with fail
    go_ret
    exact ⟨by simp, hE⟩
  · have h2' : 0 < tag := by omega
    go_enter Try.func25, Try.ntmps25
    go_wp2_with fail
    go_ret
    exact ⟨by simp, hE⟩
  · have h2' : 0 < tag := by omega
    go_enter Try.func25, Try.ntmps25
    go_wp2_with fail
    go_ret
    exact ⟨by simp [h1], hE⟩
/-- A head is shown. -/
def headPl (P : Pl) (i : Nat) : Pl := { P with g := ⟨headS P.g.s i, P.g.v⟩ }
theorem headS_yes {s : Px} {i : Nat} {t : Tr} (ht : s.trs[i]? = some t) (ho : openT t = false) : headA s i = (t.hd, 0) ∧ headS s i = setT s i (pshowT t) := by
  unfold headA headS
  rw [Int.toNat_natCast, ht]
  simp only
  rw [hasT_of ht, ho]
  exact ⟨rfl, rfl⟩
theorem headPl_PI {K : Kn} {n : Nat} {P : Pl} (h : PI K n P) {i : Nat} {t : Tr} (ht : P.g.s.trs[i]? = some t) (ho : openT t = false) : PI K n (headPl P i) := by
  have hS : SameJ P.g.s (headS P.g.s i) := by rw [(headS_yes ht ho).2]; exact same_setT _ i t _ ht rfl
  have hI : SI K (headS P.g.s i) P.taken := by rw [(headS_yes ht ho).2]; exact SI_show h.si i t ht ho
  exact same_PI h (Nat.le_refl n) hS hI rfl h.an

/-- A block beside the play is written. -/
theorem PlTo.box {w w2 w' : World} {y : Nat} {col col2 : Nat → Nat} {k : Nat} {P : Pl} {V : Pv} {v : Vs} {b : Nat} (h : PlAt w2 y col2 k (P.lay v) V) (hS : StK w w2 col col2 k) (hk : 1 ≤ k) (hb0 : col2 b = 0) (hb : w.heap.size ≤ b) (hC : Chg (fun x => x = b) w2 w') : PlTo w w' y col k P := by
  have h2 := (h.weaken (Y := fun c => c = 0) (fun _ e => e.elim)).stay hC (fun x _ hx => by rw [hx]; exact hb0) 0
  refine ⟨recolK w2 col2 0, V, v, ⟨h2.lt, h2.c0, fun _ => h2.blk (by omega), fun _ => h2.pp (by omega), fun _ => h2.tt (by omega), fun _ => h2.kk (by omega), fun _ => h2.ss (by omega), fun _ => h2.oo (by omega), fun _ => h2.pg (by omega), h2.nj, h2.na⟩, ?_, fun x hx => ?_⟩
  · exact hS.chg.trans' (hC.mono (fun x _ hx => Or.inr (by omega)))
  · rw [recolK_old (Nat.lt_of_lt_of_le hx hS.chg.size)]; exact hS.col x hx

set_option maxRecDepth 100000 in
set_option maxHeartbeats 2000000 in
theorem yhead_open (y : Nat) (col : Nat → Nat) (k : Nat) (P : Pl) (V : Pv) (i : Nat) (t : Tr) (w : World) (h : PlAt w y col k P V) (ok : PlOk P) (ht : P.g.s.trs[i]? = some t) (ho : stT t = 1) :
    Calls Try.prog 17 #[.pointer (some ⟨y, 0, none⟩), .int .i64 i] w fun e w' => e = .returned (.tuple #[hdAgg ⟨0, 0, 0, 0, 0⟩, .bool false]) ∧ Ext w w' := by
  have hE := Ext.new w (.cells #[.int .i64 0, .int .i64 0, .int .i64 0, .int .i64 0, .int .i64 0] 46)
  have hB := Blk.new w 46 #[.int .i64 0, .int .i64 0, .int .i64 0, .int .i64 0, .int .i64 0]
  have HO := open_any y _ k P V i t _ (h.ext hE 0) ht
  have e1 : decide (stT t = 1) = true := by simpa using ho
  rw [e1] at HO
  unfold hdAgg
  simp only
  clear h ok ht ho e1
  go_enter Try.func17, Try.ntmps17
  go_wp2_with fail
  refine HO.mono ?_
  rintro e w1 ⟨rfl, hE1⟩
  have hB1 := hB.ext hE1
  have z0 : w1.cell? ⟨w.heap.size, 0, none⟩ = some (.int .i64 0) := hB1.cell 0
  have z1 : w1.cell? ⟨w.heap.size, 1, none⟩ = some (.int .i64 0) := hB1.cell 1
  have z2 : w1.cell? ⟨w.heap.size, 2, none⟩ = some (.int .i64 0) := hB1.cell 2
  have z3 : w1.cell? ⟨w.heap.size, 3, none⟩ = some (.int .i64 0) := hB1.cell 3
  have z4 : w1.cell? ⟨w.heap.size, 4, none⟩ = some (.int .i64 0) := hB1.cell 4
  have zf := hB1.frozen
  have hX := Ext.trans' hE hE1
  go_wp2_with fail
  refine bodyPost_ret (v := .tuple #[.agg #[.int .i64 0, .int .i64 0, .int .i64 0, .int .i64 0, .int .i64 0], .bool false]) (by simp [results, Try.results17, go_sem, z0, z1, z2, z3, z4]) rfl ⟨rfl, ?_⟩
  (with_reducible repeat (first | refine Below.drew ?_ | refine Below.setCell ?_ ?_ _ | exact hX)) <;> first | (simp; done) | (simp; omega)

set_option maxRecDepth 100000 in
set_option maxHeartbeats 4000000 in
theorem yhead_yes (y : Nat) (col : Nat → Nat) (k : Nat) (P : Pl) (V : Pv) (i : Nat) (t : Tr) (w : World) (h : PlAt w y col k P V) (ok : PlOk P) (ht : P.g.s.trs[i]? = some t) (ho : ¬ stT t = 1) (hk1 : 1 ≤ k) :
    Calls Try.prog 17 #[.pointer (some ⟨y, 0, none⟩), .int .i64 i] w fun e w' => e = .returned (.tuple #[hdAgg t.hd, .bool true]) ∧ PlTo w w' y col k (headPl P i) := by
  have hE := Ext.new w (.cells #[.int .i64 0, .int .i64 0, .int .i64 0, .int .i64 0, .int .i64 0] 46)
  have hB := Blk.new w 46 #[.int .i64 0, .int .i64 0, .int .i64 0, .int .i64 0, .int .i64 0]
  have hc0 : recolK w col 0 w.heap.size = 0 := recolK_new (Nat.le_refl _)
  have h0 := h.ext hE 0
  have hS0 := StK.ext (col := col) (k := k) hE 0
  have HO := open_any y _ k P V i t _ h0 ht
  have e1 : decide (stT t = 1) = false := by simpa using ho
  rw [e1] at HO
  obtain ⟨hA, hHS⟩ := headS_yes ht (open_st ho)
  have HH := hide (fun w' (h' : PgAt w' P.q P.g) => HeadP_any P.q i P.g w' h')
  rw [hA] at HH
  have HFin : Hid (∀ v, ({ P with g := ⟨headS P.g.s i, v⟩ } : Pl) = (headPl P i).lay v) := fun v => rfl
  clear hA hHS
  unfold headAgg at HH
  unfold hdAgg
  simp only at HH
  generalize headS P.g.s i = s' at *
  generalize t.hd = hd at *
  obtain ⟨st, tag, tot, frm, len⟩ := hd
  simp only at HH ⊢
  have hbad := ok.bad
  clear ht ho e1 ok
  go_enter Try.func17, Try.ntmps17
  go_wp2_with fail
  refine HO.mono ?_
  rintro e w1 ⟨rfl, hE1⟩
  have h1 := h0.ext hE1 0
  have hS1 := hS0.trans (StK.ext (k := k) hE1 0)
  have hB1 := hB.ext hE1
  have hbl := hB.lt
  have hc1 : recolK (w.alloc (.cells #[.int .i64 0, .int .i64 0, .int .i64 0, .int .i64 0, .int .i64 0] 46)) (recolK w col 0) 0 w.heap.size = 0 := by rw [recolK_old hbl]; exact hc0
  generalize recolK (w.alloc (.cells #[.int .i64 0, .int .i64 0, .int .i64 0, .int .i64 0, .int .i64 0] 46)) (recolK w col 0) 0 = col1 at *
  have c29 : w1.cell? ⟨y, 29, none⟩ = some (.bool false) := by rw [← hbad]; exact h1.cEnd 5
  have c0 : w1.cell? ⟨y, 0, none⟩ = some (.pointer (some ⟨P.q, 0, none⟩)) := h1.cSt 0 (by omega)
  have HH1 := HH.out w1 (h1.pg id).1
  clear HO HH h0 hS0
  go_wp2_with fail
  refine HH1.mono ?_
  rintro e w2 ⟨rfl, v2, hP2, hM2⟩
  obtain ⟨hL2, hS2⟩ := h1.pgS hP2 hM2
  have hB2 := hB1.chg hS2.chg (by rw [hc1]; omega)
  have hE3 := Ext.new w2 (.cells #[.int .i64 st, .int .i64 tag, .int .i64 tot, .int .i64 frm, .int .i64 len] 46)
  have hB3 := hB2.ext hE3
  have hBx := Blk.new w2 46 #[.int .i64 st, .int .i64 tag, .int .i64 tot, .int .i64 frm, .int .i64 len]
  have hL3 := hL2.ext hE3 0
  have hS3 := (hS1.trans hS2).trans (StK.ext (k := k) hE3 0)
  have hbl1 : w.heap.size < w1.heap.size := Nat.lt_of_lt_of_le hbl hE1.size
  have hbl2 := hB2.lt
  have HC : Hid (recolK w2 (recolK w1 col1 (k + 6)) 0 w.heap.size = 0) := by
    show _ = _
    rw [recolK_old hbl2, recolK_old hbl1]; exact hc1
  go_upto_region 5 with (fail)
  generalize w2.alloc (.cells #[.int .i64 st, .int .i64 tag, .int .i64 tot, .int .i64 frm, .int .i64 len] 46) = w3 at *
  have z0 : w3.cell? ⟨w.heap.size, 0, none⟩ = some (.int .i64 0) := hB3.cell 0
  have z1 : w3.cell? ⟨w.heap.size, 1, none⟩ = some (.int .i64 0) := hB3.cell 1
  have z2 : w3.cell? ⟨w.heap.size, 2, none⟩ = some (.int .i64 0) := hB3.cell 2
  have z3 : w3.cell? ⟨w.heap.size, 3, none⟩ = some (.int .i64 0) := hB3.cell 3
  have z4 : w3.cell? ⟨w.heap.size, 4, none⟩ = some (.int .i64 0) := hB3.cell 4
  have zf := hB3.frozen
  have x0 : w3.cell? ⟨w2.heap.size, 0, none⟩ = some (.int .i64 st) := hBx.cell 0
  have x1 : w3.cell? ⟨w2.heap.size, 1, none⟩ = some (.int .i64 tag) := hBx.cell 1
  have x2 : w3.cell? ⟨w2.heap.size, 2, none⟩ = some (.int .i64 tot) := hBx.cell 2
  have x3 : w3.cell? ⟨w2.heap.size, 3, none⟩ = some (.int .i64 frm) := hBx.cell 3
  have x4 : w3.cell? ⟨w2.heap.size, 4, none⟩ = some (.int .i64 len) := hBx.cell 4
  have HL := hide hL3
  have HS := hide hS3
  clear hL2 hS2 hS1 h1 hB1 hB2 HH1 hP2 hM2 hL3 hS3 hB3 hBx hE3 c29 c0 h hE hB hE1 hbl hbl1
  go_wp2_with fail
  refine bodyPost_ret (v := .tuple #[.agg #[.int .i64 st, .int .i64 tag, .int .i64 tot, .int .i64 frm, .int .i64 len], .bool true]) (by simp [results, Try.results17, go_sem, z0, z1, z2, z3, z4]) rfl ⟨rfl, ?_⟩
  have hL9 := HL.out
  rw [HFin.out] at hL9
  refine PlTo.box hL9 HS.out hk1 (b := w.heap.size) HC.out (Nat.le_refl _) ?_
  exact Chg.setCell (S := fun x => x = w.heap.size) (Chg.setCell (S := fun x => x = w.heap.size) (Chg.setCell (S := fun x => x = w.heap.size) (Chg.setCell (S := fun x => x = w.heap.size) (Chg.setCell (S := fun x => x = w.heap.size) (Chg.refl _ _) (p := ⟨w.heap.size, 0, none⟩) (Or.inl rfl) _) (p := ⟨w.heap.size, 1, none⟩) (Or.inl rfl) _) (p := ⟨w.heap.size, 2, none⟩) (Or.inl rfl) _) (p := ⟨w.heap.size, 3, none⟩) (Or.inl rfl) _) (p := ⟨w.heap.size, 4, none⟩) (Or.inl rfl) _
end Go.Proofs.Ytjhihliciadipaa
