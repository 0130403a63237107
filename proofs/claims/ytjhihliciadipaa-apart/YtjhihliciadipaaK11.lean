import Derived.Test.YtjhihliciadipaaK10
set_option linter.unusedVariables false
set_option linter.unusedSimpArgs false
set_option linter.unnecessarySimpa false
namespace Go.Proofs.Ytjhihliciadipaa
open Go.RowKit

def feAgg (f : Fe) : Value := fetAgg f.path f.tag f.tot f.off f.len
/-- What an honest mirror sends. -/
def honK (B : Int) (f : Fe) (tag : Int) : Rp := ⟨tag, totK f.path tag, f.off, objK f.path tag f.off.toNat B.toNat⟩

set_option maxRecDepth 100000 in
set_option maxHeartbeats 4000000 in
theorem honest_any (y : Nat) (col : Nat → Nat) (k : Nat) (P : Pl) (V : Pv) (f : Fe) (tag : Int) (w : World) (h : PlAt w y col k P V) (hB1 : 1 ≤ P.st.b) (hB2 : P.st.b ≤ 16) (h0 : 0 ≤ f.path) (h1 : f.path ≤ 3) (h2 : 0 ≤ tag) (h3 : tag ≤ 99) (h4 : 0 ≤ f.off) (h5 : f.off ≤ 20000) :
    Calls Try.prog 15 #[.pointer (some ⟨y, 0, none⟩), feAgg f, .int .i64 tag] w fun e w' => e = .returned (rpAgg (honK P.st.b f tag)) ∧ Ext w w' := by
  obtain ⟨fp, ft, fo, ff, fl⟩ := f
  simp only at *
  obtain ⟨O, rfl⟩ := Int.eq_ofNat_of_zero_le h4
  obtain ⟨Bn, hBn⟩ := Int.eq_ofNat_of_zero_le (show 0 ≤ P.st.b by omega)
  have c2 : w.cell? ⟨y, 2, none⟩ = some (.int .i64 Bn) := by rw [← hBn]; exact h.cSt 2 (by omega)
  have hyl := h.lt
  have HR : Hid (honK P.st.b ⟨fp, ft, fo, O, fl⟩ tag = ⟨tag, totK fp tag, O, objK fp tag O Bn⟩) := by show _ = _; unfold honK; rw [hBn]; simp
  rw [hBn] at hB1 hB2
  have HT := totK_any fp tag
  have HO := hide (object_any fp tag O Bn)
  have hE := Ext.new2' w (.cells #[.int .i64 fp, .int .i64 ft, .int .i64 fo, .int .i64 O, .int .i64 fl] 32) (.cells #[.int .i64 0, .int .i64 0, .int .i64 0, .string { data := #[] }] 42)
  have hBf := (Blk.new w 32 #[.int .i64 fp, .int .i64 ft, .int .i64 fo, .int .i64 O, .int .i64 fl]).ext (Ext.new _ (.cells #[.int .i64 0, .int .i64 0, .int .i64 0, .string { data := #[] }] 42))
  have hBz := Blk.new2' w (.cells #[.int .i64 fp, .int .i64 ft, .int .i64 fo, .int .i64 O, .int .i64 fl] 32) 42 #[.int .i64 0, .int .i64 0, .int .i64 0, .string { data := #[] }]
  rw [HR.out]
  unfold rpAgg repAgg feAgg fetAgg
  simp only
  generalize totK fp tag = tt at *
  generalize objK fp tag O Bn = body at *
  clear HR hBn h
  go_enter Try.func15, Try.ntmps15
  go_wp2_with fail
  generalize (w.alloc (.cells #[.int .i64 fp, .int .i64 ft, .int .i64 fo, .int .i64 O, .int .i64 fl] 32)).alloc (.cells #[.int .i64 0, .int .i64 0, .int .i64 0, .string { data := #[] }] 42) = w0 at *
  have e0 : w0.cell? ⟨w.heap.size, 0, none⟩ = some (.int .i64 fp) := hBf.cell 0
  have e3 : w0.cell? ⟨w.heap.size, 3, none⟩ = some (.int .i64 O) := hBf.cell 3
  have cb := ext_cell hE c2
  have hne1 : ¬ y = w.heap.size + 1 := by omega
  have hne1' : ¬ w.heap.size + 1 = y := by omega
  have hlt1 : y < w.heap.size + 1 := by omega
  have hne2 : w.heap.size ≠ w.heap.size + 1 := by omega
  go_region_held3 (fun w' => w'.cell? ⟨w.heap.size, 0, none⟩ = some (.int .i64 fp) ∧ w'.cell? ⟨w.heap.size, 3, none⟩ = some (.int .i64 O) ∧ w'.cell? ⟨y, 2, none⟩ = some (.int .i64 Bn)) (go_keep)
    ((first
      | (go_at_call 19
         refine (HT _ (by omega) (by omega) (by omega) (by omega)).mono ?_
         rintro e w2 ⟨rfl, rfl⟩)
      | (go_at_call 21
         refine (HO.out _ (by omega) (by omega) (by omega) (by omega) (by omega) (by omega)).mono ?_
         rintro e w2 ⟨rfl, hE2⟩
         have hB2z := hBz.ext hE2.undrew
         have e0' := ext_cell hE2.undrew e0
         have e3' := ext_cell hE2.undrew e3
         have cb' := ext_cell hE2.undrew cb
         have z0 : w2.cell? ⟨w.heap.size + 1, 0, none⟩ = some (.int .i64 0) := hB2z.cell 0
         have z1 : w2.cell? ⟨w.heap.size + 1, 1, none⟩ = some (.int .i64 0) := hB2z.cell 1
         have z2 : w2.cell? ⟨w.heap.size + 1, 2, none⟩ = some (.int .i64 0) := hB2z.cell 2
         have z3 : w2.cell? ⟨w.heap.size + 1, 3, none⟩ = some (.string { data := #[] }) := hB2z.cell 3
         have zf := hB2z.frozen)))
  all_goals go_wp2_with fail
  all_goals refine bodyPost_ret (v := .agg #[.int .i64 tag, .int .i64 tt, .int .i64 O, .string body]) (by simp [results, Try.results15, go_sem, z0, z1, z2, z3]) rfl ⟨rfl, ?_⟩
  all_goals
    (have hX : Ext w w2 := Ext.trans' hE hE2.undrew
     (with_reducible repeat (first | refine Below.drew ?_ | refine Below.setCell ?_ ?_ _ | exact hX)) <;> first | (simp; done) | (simp; omega))
end Go.Proofs.Ytjhihliciadipaa
