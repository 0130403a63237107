import Derived.Test.YtjhihliciadipaaK17
set_option linter.unusedVariables false
set_option linter.unusedSimpArgs false
set_option linter.unnecessarySimpa false
namespace Go.Proofs.Ytjhihliciadipaa
open Go.RowKit

theorem tdiv_i64 {c : Int} (h : I64 c) (n : Int) (hn : 2 ≤ n) : I64 (c.tdiv n) := by
  obtain ⟨a, b⟩ := h
  have h1 : c.tdiv n = c.tdiv n := rfl
  rcases Int.lt_or_le c 0 with hc | hc
  · have h2 : c.tdiv n = -((-c) / n) := by
      have := Int.neg_tdiv (a := -c) (b := n)
      rw [Int.neg_neg] at this
      rw [this, Int.tdiv_eq_ediv_of_nonneg (by omega)]
    have h3 : 0 ≤ (-c) / n := Int.ediv_nonneg (by omega) (by omega)
    have h4 : (-c) / n ≤ -c := Int.ediv_le_self _ (by omega)
    constructor <;> omega
  · have h2 : c.tdiv n = c / n := Int.tdiv_eq_ediv_of_nonneg hc
    have h3 : 0 ≤ c / n := Int.ediv_nonneg (by omega) (by omega)
    have h4 : c / n ≤ c := Int.ediv_le_self _ (by omega)
    constructor <;> omega

def abcU : ByteArray := { data := #[65, 66, 67, 68, 69, 70, 71, 72, 73, 74, 75, 76, 77, 78, 79, 80, 81, 82, 83, 84, 85, 86, 87, 88, 89, 90] }

set_option maxRecDepth 100000 in
set_option maxHeartbeats 4000000 in
theorem lie_any (y : Nat) (col : Nat → Nat) (k : Nat) (P : Pl) (V : Pv) (f : Fe) (b c : Int) (w : World) (h : PlAt w y col k P V) (hB1 : 1 ≤ P.st.b) (hB2 : P.st.b ≤ 16) (hf : JobB f) (hb : I64 b) (hc : I64 c) :
    Calls Try.prog 61 #[.pointer (some ⟨y, 0, none⟩), feAgg f, .int .i64 b, .int .i64 c] w fun e w' => ∃ r : Rp, r.body.size ≤ 1000 ∧ e = .returned (rpAgg r) ∧ Ext w w' := by
  obtain ⟨fp, ft, fo, ff, fl⟩ := f
  obtain ⟨p0, p1, t0, t1, o0, o1, n0, n1⟩ := hf
  simp only at *
  have cB : w.cell? ⟨y, 2, none⟩ = some (.int .i64 P.st.b) := h.cSt 2 (by omega)
  have hyl := h.lt
  clear h
  generalize P.st.b = B at *
  have PK5 := hide (fun w => pickK_any b 5 w hb (by omega) (by omega))
  have PK26 := hide (fun w => pickK_any b 26 w hb (by omega) (by omega))
  obtain ⟨bq, ib, qb⟩ : ∃ bq, I64 bq ∧ Go.RowKit.wrap64 (b.tdiv 5) = bq := ⟨_, tdiv_i64 hb 5 (by omega), Go.IntWalk.wrap64_in _ (by have ib := tdiv_i64 hb 5 (by omega); have := ib.lo; have := ib.hi; omega)⟩
  obtain ⟨cq, ic, qc⟩ : ∃ cq, I64 cq ∧ Go.RowKit.wrap64 (c.tdiv 9) = cq := ⟨_, tdiv_i64 hc 9 (by omega), Go.IntWalk.wrap64_in _ (by have ib := tdiv_i64 hc 9 (by omega); have := ib.lo; have := ib.hi; omega)⟩
  have PKb := hide (fun w => pickK_any bq 4 w ib (by omega) (by omega))
  have PK50 := hide (fun w => pickK_any c 50 w hc (by omega) (by omega))
  have PK9 := hide (fun w => pickK_any c 9 w hc (by omega) (by omega))
  have PKc := hide (fun w => pickK_any cq 20 w ic (by omega) (by omega))
  have k5 := pickK_bd b 5 (by omega)
  have k26 := pickK_bd b 26 (by omega)
  have kb := pickK_bd bq 4 (by omega)
  have k50 := pickK_bd c 50 (by omega)
  have k9 := pickK_bd c 9 (by omega)
  have kc := pickK_bd cq 20 (by omega)
  generalize pickK b 5 = b5 at *
  generalize pickK b 26 = b26 at *
  generalize pickK bq 4 = bt at *
  generalize pickK c 50 = c50 at *
  generalize pickK c 9 = c9 at *
  generalize pickK cq 20 = ct at *
  clear ib ic
  unfold feAgg fetAgg
  simp only
  go_enter Try.func61, Try.ntmps61
  go_upto_region 2 with (fail)
  have hBf := ((Blk.new w 32 #[.int .i64 fp, .int .i64 ft, .int .i64 fo, .int .i64 ff, .int .i64 fl]).ext (Ext.new _ (.cells #[.int .i64 0, .int .i64 0, .int .i64 0, .string { data := #[] }] 42))).ext (Ext.new _ (.cells #[.int .i64 ft, .int .i64 fo, .int .i64 ff, .string { data := #[] }] 42))
  have hBz := (Blk.new2' w (.cells #[.int .i64 fp, .int .i64 ft, .int .i64 fo, .int .i64 ff, .int .i64 fl] 32) 42 #[.int .i64 0, .int .i64 0, .int .i64 0, .string { data := #[] }]).ext (Ext.new _ (.cells #[.int .i64 ft, .int .i64 fo, .int .i64 ff, .string { data := #[] }] 42))
  have hBr := Blk.new2' (w.alloc (.cells #[.int .i64 fp, .int .i64 ft, .int .i64 fo, .int .i64 ff, .int .i64 fl] 32)) (.cells #[.int .i64 0, .int .i64 0, .int .i64 0, .string { data := #[] }] 42) 42 #[.int .i64 ft, .int .i64 fo, .int .i64 ff, .string { data := #[] }]
  have hsz1 : (w.alloc (.cells #[.int .i64 fp, .int .i64 ft, .int .i64 fo, .int .i64 ff, .int .i64 fl] 32)).heap.size = w.heap.size + 1 := by simp
  rw [hsz1] at hBr
  have hE1 := Ext.trans' (Ext.new2' w (.cells #[.int .i64 fp, .int .i64 ft, .int .i64 fo, .int .i64 ff, .int .i64 fl] 32) (.cells #[.int .i64 0, .int .i64 0, .int .i64 0, .string { data := #[] }] 42)) (Ext.new _ (.cells #[.int .i64 ft, .int .i64 fo, .int .i64 ff, .string { data := #[] }] 42))
  generalize ((w.alloc (.cells #[.int .i64 fp, .int .i64 ft, .int .i64 fo, .int .i64 ff, .int .i64 fl] 32)).alloc (.cells #[.int .i64 0, .int .i64 0, .int .i64 0, .string { data := #[] }] 42)).alloc (.cells #[.int .i64 ft, .int .i64 fo, .int .i64 ff, .string { data := #[] }] 42) = w1 at *
  clear hsz1
  have e1 : w1.cell? ⟨w.heap.size, 1, none⟩ = some (.int .i64 ft) := hBf.cell 1
  have r0 : w1.cell? ⟨w.heap.size + 1 + 1, 0, none⟩ = some (.int .i64 ft) := hBr.cell 0
  have r1 : w1.cell? ⟨w.heap.size + 1 + 1, 1, none⟩ = some (.int .i64 fo) := hBr.cell 1
  have r2 : w1.cell? ⟨w.heap.size + 1 + 1, 2, none⟩ = some (.int .i64 ff) := hBr.cell 2
  have r3 : w1.cell? ⟨w.heap.size + 1 + 1, 3, none⟩ = some (.string { data := #[] }) := hBr.cell 3
  have cB1 := ext_cell hE1 cB
  have rf := hBr.frozen
  obtain ⟨bb, HBB⟩ : ∃ bb, Hid (bb = decide (ft = 0 ∨ b5 = 0)) := ⟨_, rfl⟩
  go_cut [27] (fun v wx => v = .bool bb ∧ wx = w1)
  case first =>
    by_cases q1 : ft = 0
    · have HD : bb = true := by have := HBB.out; simpa [q1] using this
      subst q1 HD
      go_wp2_with fail
      go_meet
      exact ⟨rfl, rfl⟩
    · have q1' : (ft == 0) = false := by simpa using q1
      have HD : Hid (bb = (b5 == 0)) := by show _ = _; rw [HBB.out]; by_cases q : b5 = 0 <;> simp [q1, q]
      go_wp2_with (go_at_call 10; refine (PK5.out _).mono ?_; rintro e w2 ⟨rfl, hw2⟩; have hw2 := hw2.symm; subst hw2)
      go_meet
      exact ⟨by rw [HD.out], rfl⟩
  case rest =>
    obtain ⟨rfl, rfl⟩ := hcut
    go_upto_if 27 with (fail)
    go_cut [0] (fun v wx => v = .pointer (some ⟨y, 0, none⟩) ∧ ∃ rt ro, 0 ≤ ro ∧ ro ≤ 1000 ∧ Ext w wx ∧ Blk wx (w.heap.size + 1) 42 #[.int .i64 0, .int .i64 0, .int .i64 0, .string { data := #[] }] ∧ Blk wx (w.heap.size + 1 + 1) 42 #[.int .i64 rt, .int .i64 ro, .int .i64 ff, .string { data := #[] }])
    case first =>
      cases bb
      · go_wp2_with fail
        go_meet
        exact ⟨rfl, ft, fo, n0, n1, hE1, hBz, hBr⟩
      · have HX : Hid (∀ x : Int, Ext w ((wc.setCell ⟨w.heap.size + 1 + 1, 0, none⟩ (.int .i64 (1 + bt))).setCell ⟨w.heap.size + 1 + 1, 1, none⟩ (.int .i64 c50)) ∧ Blk ((wc.setCell ⟨w.heap.size + 1 + 1, 0, none⟩ (.int .i64 (1 + bt))).setCell ⟨w.heap.size + 1 + 1, 1, none⟩ (.int .i64 c50)) (w.heap.size + 1) 42 #[.int .i64 0, .int .i64 0, .int .i64 0, .string { data := #[] }] ∧
            Blk ((wc.setCell ⟨w.heap.size + 1 + 1, 0, none⟩ (.int .i64 (1 + bt))).setCell ⟨w.heap.size + 1 + 1, 1, none⟩ (.int .i64 c50)) (w.heap.size + 1 + 1) 42 #[.int .i64 (1 + bt), .int .i64 c50, .int .i64 ff, .string { data := #[] }]) := by
          intro x
          have hC : Chg (fun b => b = w.heap.size + 1 + 1) wc ((wc.setCell ⟨w.heap.size + 1 + 1, 0, none⟩ (.int .i64 (1 + bt))).setCell ⟨w.heap.size + 1 + 1, 1, none⟩ (.int .i64 c50)) :=
            Chg.setCell (S := fun b => b = w.heap.size + 1 + 1) (Chg.setCell (S := fun b => b = w.heap.size + 1 + 1) (Chg.refl _ _) (p := ⟨w.heap.size + 1 + 1, 0, none⟩) (Or.inl rfl) _) (p := ⟨w.heap.size + 1 + 1, 1, none⟩) (Or.inl rfl) _
          refine ⟨?_, hBz.chg hC (by omega), ?_⟩
          · exact Below.setCell (Below.setCell hE1 (by simp only; omega) _) (by simp only; omega) _
          · have := (hBr.set 0 (.int .i64 (1 + bt))).set 1 (.int .i64 c50)
            exact this
        go_upto_region 4 with (go_at_call 10; refine (PKb.out _).mono ?_; rintro e w2 ⟨rfl, hw2⟩; have hw2 := hw2.symm; subst hw2)
        go_wp2_with (go_at_call 10; refine (PK50.out _).mono ?_; rintro e w2 ⟨rfl, hw2⟩; have hw2 := hw2.symm; subst hw2)
        go_meet
        exact ⟨rfl, 1 + bt, c50, k50.1, by omega, HX.out 0⟩
    case rest =>
      obtain ⟨rfl, rt, ro, ho0, ho1, hE2, hBz2, hBr2⟩ := hcut
      have r1 : wc.cell? ⟨w.heap.size + 1 + 1, 1, none⟩ = some (.int .i64 ro) := hBr2.cell 1
      have r2 : wc.cell? ⟨w.heap.size + 1 + 1, 2, none⟩ = some (.int .i64 ff) := hBr2.cell 2
      have cB2 := ext_cell hE2 cB
      generalize wc = w2 at *
      go_upto_if 47 with (fail)
      go_cut [10] (fun v wx => wx = w2 ∧ ∃ n : Int, v = .int .i64 n ∧ n ≤ 16)
      case first =>
        by_cases q : B < ro - ff
        · go_wp2_with fail
          go_meet
          exact ⟨rfl, _, rfl, hB2⟩
        · go_wp2_with fail
          go_meet
          exact ⟨rfl, _, rfl, by omega⟩
      case rest =>
        obtain ⟨rfl, n, rfl, hn⟩ := hcut
        go_upto_if 55 with (go_at_call 10; refine (PK9.out _).mono ?_; rintro e w2 ⟨rfl, hw2⟩; have hw2 := hw2.symm; subst hw2)
        go_cut [10] (fun v wx => wx = wc ∧ ∃ n : Int, v = .int .i64 n ∧ n ≤ 20)
        case first =>
          by_cases q : c9 = 0
          · subst q
            go_wp2_with (go_at_call 10; refine (PKc.out _).mono ?_; rintro e w2 ⟨rfl, hw2⟩; have hw2 := hw2.symm; subst hw2)
            go_meet
            exact ⟨rfl, _, rfl, by omega⟩
          · have q' : (c9 == 0) = false := by simpa using q
            go_wp2_with fail
            go_meet
            exact ⟨rfl, _, rfl, by omega⟩
        case rest =>
          obtain ⟨hwc, m, rfl, hm⟩ := hcut
          subst hwc
          clear r1 r2 cB2
          go_wp2_with fail
          go_loopg [11, 12] m.toNat (fun g u v wr => ∃ k : Nat, g = m.toNat - k ∧ k ≤ m.toNat ∧ v = .int .i64 k ∧ ∃ l : List UInt8, l.length = k ∧ Ext wc wr ∧ wr.ownsRow wc.heap.size 5 1 u k (l.map byteV))
          case atStart => exact ⟨0, rfl, by omega, rfl, [], rfl, Below.refl _ _, World.ownsRow_nil _ _ _ _⟩
          case round =>
            obtain ⟨k, rfl, hk, rfl, l, hl, hX, hown⟩ := hrel
            have HO := hide hown
            by_cases hlt : (k : Int) < m
            · obtain ⟨a1, cap1, rfl, -⟩ := own_form hown
              have hk26 : ((b26 + k) % 26).toNat < abcU.size := by show _ < 26; omega
              have hk60 : k ≤ 20 := by omega
              go_wp2_with (first | (at_builtin; refine app_one Try.underlying99 infoByte rfl (by decide) (by decide) _ rfl _ _ rfl (by rfl) (hown.alloc _) [byteV (abcU[((b26 + k) % 26).toNat]'hk26)] rfl rfl (news_new _ _ _) (byte_one _) (by omega) (by have := hX.size; simp; omega) ?_; intro v2 w2 ho2 hg2 hw2; obtain ⟨a2, cap2, rfl, hga⟩ := own_form ho2; clear hga) | (go_at_call 10; refine (PK26.out _).mono ?_; rintro e w2 ⟨rfl, hw2⟩; have hw2 := hw2.symm; subst hw2))
              go_roundg (m.toNat - (k + 1))
              case measure => omega
              case rel => exact ⟨k + 1, rfl, by omega, by go_num, l ++ [abcU[((b26 + k) % 26).toNat]'hk26], by simp [hl], app_extK hX HO.out (Nat.le_refl _) hg2, by simpa using ho2⟩
            · have kc := str_of_bytes wr _ l _ (by rw [hl]; exact hown)
              obtain ⟨a1, cap1, rfl, -⟩ := own_form hown
              have hBr3 := hBr2.ext hX
              have hBz3 := hBz2.ext hX
              have hE3 := Ext.trans' hE2 hX
              have r0 : wr.cell? ⟨w.heap.size + 1 + 1, 0, none⟩ = some (.int .i64 rt) := hBr3.cell 0
              have r1 : wr.cell? ⟨w.heap.size + 1 + 1, 1, none⟩ = some (.int .i64 ro) := hBr3.cell 1
              have r2 : wr.cell? ⟨w.heap.size + 1 + 1, 2, none⟩ = some (.int .i64 ff) := hBr3.cell 2
              have r3 : wr.cell? ⟨w.heap.size + 1 + 1, 3, none⟩ = some (.string { data := #[] }) := hBr3.cell 3
              have z0 : wr.cell? ⟨w.heap.size + 1, 0, none⟩ = some (.int .i64 0) := hBz3.cell 0
              have z1 : wr.cell? ⟨w.heap.size + 1, 1, none⟩ = some (.int .i64 0) := hBz3.cell 1
              have z2 : wr.cell? ⟨w.heap.size + 1, 2, none⟩ = some (.int .i64 0) := hBz3.cell 2
              have z3 : wr.cell? ⟨w.heap.size + 1, 3, none⟩ = some (.string { data := #[] }) := hBz3.cell 3
              have rf := hBr3.frozen
              have zf := hBz3.frozen
              have hlk : l.length ≤ 20 := by omega
              clear hBr3 hBz3 hBr2 hBz2 hown HO
              go_wp2_with fail
              refine bodyPost_ret (v := .agg #[.int .i64 rt, .int .i64 ro, .int .i64 ff, .string ⟨l.toArray⟩]) (by simp [results, Try.results61, go_sem, z0, z1, z2, z3]) rfl ⟨⟨rt, ro, ff, ⟨l.toArray⟩⟩, ?_, rfl, ?_⟩
              · show l.toArray.size ≤ 1000; simp; omega
              · (with_reducible repeat (first | refine Below.drew ?_ | refine Below.setCell ?_ ?_ _ | exact hE3)) <;> first | (simp; done) | (simp; omega)
end Go.Proofs.Ytjhihliciadipaa
