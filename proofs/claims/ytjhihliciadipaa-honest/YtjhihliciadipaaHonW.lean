import Derived.Test.YtjhihliciadipaaKW
import Derived.Test.YtjhihliciadipaaK20s
import Derived.Test.YtjhihliciadipaaK21
set_option linter.unusedVariables false
set_option linter.unusedSimpArgs false
set_option linter.unnecessarySimpa false
namespace Go.Proofs.Ytjhihliciadipaa
open Go.RowKit

set_option maxRecDepth 100000 in
set_option maxHeartbeats 8000000 in
theorem Honest_walk (l s : List Int) (v u : Value) (w : World) (hv : IntsAt w v l) (hu : IntsAt w u s) (hl : l.length ≤ 17592186044416) (hs : s.length ≤ 17592186044416) (hi : ∀ x ∈ l, I64 x) (hj : ∀ x ∈ s, I64 x) :
    Calls Try.prog 5 #[v, u] w fun e w' => e = .returned (.bool true) ∧ Ext w w' := by
  have HB := begin_any l v zCol 1 w hv (by omega) hi
  have HU := hide hu
  go_enter Try.func5, Try.ntmps5
  go_wp2_with fail
  refine HB.mono ?_
  rintro e w1 ⟨y, q, rfl, hL1, hE1⟩
  have HSt := steps_any y _ 1 _ newPv s u false w1 (fun j P => PI (KnH (setK l).b) j P ∧ P.g.s.blk = (setK l).b ∧ SnOk j P) (fun j P h => by rw [h.2.1]; exact h.1.weakH) (fun j P v h => ⟨h.1.at P.q v, h.2.1, h.2.2.at P.q v⟩) (fun j P h hj => by have := h.2.2.le (by omega); omega)
    (fun j P r h pk _ _ hr => ⟨(stepH h.2.1 h.1 pk _ r (hr rfl)).1, (stepH h.2.1 h.1 pk _ r (hr rfl)).2, h.2.2.step _ r⟩) hL1 ⟨new_PI _ q l, rfl, snNew q _⟩ (by omega) (ints_new HU.out hE1) hs hj
  have HW1 := hide hE1
  clear HB hL1 hv hE1 hu
  go_wp2_with fail
  refine HSt.mono ?_
  rintro e w2 ⟨rfl, N, hN1, hN2, P2, ⟨hP2, hB2, -⟩, hT2⟩
  have HP2 := hide hP2
  have HBk := hide hB2
  have HT2 := hide hT2
  have hB1 := (setK_ok l).f3
  have hB16 := (setK_ok l).f4
  generalize (setK l).b = B at *
  clear HSt hP2 hB2 hT2 hN1 hN2 hi hj hs hl
  go_wp2_with fail
  go_loopw [6] (fun i wr => ∃ n : Nat, n ≤ 8 ∧ i = .int .i64 n ∧ Hid (∃ Q, PI (KnH B) N Q ∧ Q.g.s.blk = B ∧ PlTo w1 wr y (colY w zCol y 1) 1 Q)) (fun i _ => 8 - (intOf i).toNat)
  case atStart => exact ⟨0, by omega, rfl, P2, HP2.out, HBk.out, HT2.out⟩
  case round =>
    obtain ⟨n, hn, rfl, HQ⟩ := hrel
    obtain ⟨Q0, hQ0, hQB, colQ, V, vq, hL, hS⟩ := HQ.out
    obtain ⟨Q, hQe⟩ : ∃ Q, Q = Q0.lay vq := ⟨_, rfl⟩
    have hQ : PI (KnH B) N Q := by rw [hQe]; exact hQ0.at Q0.q vq
    have hQB' : Q.g.s.blk = B := by rw [hQe]; exact hQB
    rw [← hQe] at hL
    clear hQ0 hQB hQe HQ
    have hn8 := hQ.ok.n8
    obtain ⟨aP, capP, hvP, hgP⟩ := own_form (hL.pp id).1
    have c24 : wr.cell? ⟨y, 24, none⟩ = some (.slice aP Q.paths.length capP) := by rw [← hvP]; exact hL.cEnd 0
    have c29 : wr.cell? ⟨y, 29, none⟩ = some (.bool false) := by rw [← hQ.ok.bad]; exact hL.cEnd 5
    by_cases hlt : n < Q.paths.length
    · have hlt' : (n : Int) < Q.paths.length := by omega
      obtain ⟨t, ht⟩ : ∃ t, Q.g.s.trs[n]? = some t := ⟨_, List.getElem?_eq_getElem (by rw [hQ.ok.n1]; exact hlt)⟩
      by_cases ho : stT t = 1
      · have HH := yhead_open y colQ 1 Q V n t wr hL hQ.ok ht ho
        have HFin : Hid (∀ w', Ext wr w' → ∃ Q, PI (KnH B) N Q ∧ Q.g.s.blk = B ∧ PlTo w1 w' y (colY w zCol y 1) 1 Q) := fun w' hE => ⟨Q, hQ, hQB', PlTo.trans hS (PlTo.ext hL hE)⟩
        have hylr := hL.lt
        have HCC : Hid (∀ w', Ext wr w' → w'.cell? ⟨y, 29, none⟩ = some (.bool false)) := fun w' hE => ext_cell hE c29
        unfold hdAgg at HH
        simp only at HH
        clear hL hS hvP hgP ht hQ hQB'
        go_wp2_with fail
        refine HH.mono ?_
        rintro e w3 ⟨rfl, hE3⟩
        have c29' := HCC.out w3 hE3
        have hyl3 : y < w3.heap.size := Nat.lt_of_lt_of_le hylr hE3.size
        have HF3 : Hid (∀ w', Ext w3 w' → ∃ Q, PI (KnH B) N Q ∧ Q.g.s.blk = B ∧ PlTo w1 w' y (colY w zCol y 1) 1 Q) := fun w' hE => HFin.out w' (Ext.trans' hE3 hE)
        clear HH HCC HFin c29 c24
        go_wp2_with fail
        exact ⟨⟨n + 1, by omega, by go_num, HF3.out _ (Ext.new _ _)⟩, by simp [intOf]; omega⟩
      · have HH := yhead_yes y colQ 1 Q V n t wr hL hQ.ok ht ho (by omega)
        obtain ⟨T, hT⟩ : ∃ T, Q.taken[n]? = some T := ⟨_, List.getElem?_eq_getElem (by rw [hQ.ok.n3]; exact hlt)⟩
        have hTI := hQ.si.ts n t T ht hT
        rw [hQB'] at hTI
        have hfair := hTI.fair (KnH_ok B) (open_st ho)
        have hr := honest_round hB1 hTI (open_st ho)
        have hp : Q.paths[n]? = some t.path := by rw [hQ.j.pt]; simp [ht]
        have okT := hTI.ok
        have hst : stT (pshowT t) = stT t := rfl
        have HNX : Hid (PI (KnH B) N (headPl Q n)) := headPl_PI hQ ht (open_st ho)
        have hts : (headPl Q n).g.s.trs[n]? = some (pshowT t) := by
          show (headS Q.g.s n).trs[n]? = _
          rw [(headS_yes ht (open_st ho)).2]
          show (Q.g.s.trs.set n (pshowT t))[n]? = _
          simp [(List.getElem?_eq_some_iff.1 ht).1]
        have hpa : (headPl Q n).paths = Q.paths := rfl
        have hta : (headPl Q n).taken = Q.taken := rfl
        have hbl3 : (headPl Q n).g.s.blk = B := by
          show (headS Q.g.s n).blk = B
          rw [(headS_yes ht (open_st ho)).2]; exact hQB'
        rw [← hpa] at hp
        rw [← hta] at hT
        have hnl3 : n < (headPl Q n).paths.length := by rw [hpa]; exact hlt
        generalize headPl Q n = Q3 at *
        clear hQ hQB' hpa hta hTI ht hL hvP hgP
        unfold hdAgg at HH
        have h502 : t.hd.st = 502 ∨ ¬ t.hd.st = 502 := Decidable.em _
        obtain ⟨tp, tk, tf, tl, tb, tsh, tlo, hd, ttk, tfl, thd⟩ := t
        obtain ⟨st, tag, tot, frm, len⟩ := hd
        simp only at HH hfair hp h502
        obtain ⟨r1, r2, r3, r4, r5⟩ := hr
        have p0 := okT.p0
        have p1 := okT.p1
        have o1 := okT.r0
        have o2 := okT.n0
        have o3 := okT.n1
        have hst' := stT_bd ⟨tp, tk, tf, tl, tb, tsh, tlo, ⟨st, tag, tot, frm, len⟩, ttk, tfl, thd⟩
        generalize hsv : stT ⟨tp, tk, tf, tl, tb, tsh, tlo, ⟨st, tag, tot, frm, len⟩, ttk, tfl, thd⟩ = sv at *
        simp only at r1 r2 r3 r4 r5 p0 p1 o1 o2 o3
        obtain ⟨fr, rfl⟩ := Int.eq_ofNat_of_zero_le o1
        obtain ⟨ln, rfl⟩ := Int.eq_ofNat_of_zero_le o2
        simp only [Int.toNat_natCast] at r1 r2 r4
        have HO := hide (fun w => object_any tp tag fr ln w (by omega) (by omega) (by omega) (by omega) (by omega) (by omega))
        have hwsz : (objK tp tag fr ln).size ≤ 1000 := by rw [objK_size]; unfold objN; omega
        have HTt := hide (fun w => totK_any tp tag w (by omega) (by omega) (by omega) (by omega))
        generalize objK tp tag fr ln = whole at *
        generalize totK tp tag = tk2 at *
        have HBe := hide (fun w => begins_any whole T w r1 (by omega) r2)
        have HFa := hide (fun w => fair_head ⟨st, tag, tot, fr, ln⟩ w hfair (by simp only; omega) (by simp only; omega))
        unfold hdAgg at HFa
        simp only at HFa
        go_upto_region 7 with (go_at_call 17; refine HH.mono ?_; rintro e w3 ⟨rfl, hT3⟩)
        obtain ⟨col3, V3, v3, hL3, hS3⟩ := hT3
        obtain ⟨Q4, hQ4⟩ : ∃ Q4, Q4 = Q3.lay v3 := ⟨_, rfl⟩
        have hPI4 : PI (KnH B) N Q4 := by rw [hQ4]; exact HNX.out.at Q3.q v3
        have hts4 : Q4.g.s.trs[n]? = some (pshowT ⟨tp, tk, tf, tl, tb, tsh, tlo, ⟨st, tag, tot, fr, ln⟩, ttk, tfl, thd⟩) := by rw [hQ4]; exact hts
        have hp4 : Q4.paths[n]? = some tp := by rw [hQ4]; exact hp
        have hT4 : Q4.taken[n]? = some T := by rw [hQ4]; exact hT
        have hbl4 : Q4.g.s.blk = B := by rw [hQ4]; exact hbl3
        rw [← hQ4] at hL3
        clear hQ4 HNX hts hp hT hbl3 hnl3
        have hEb := Ext.new w3 (.cells #[.int .i64 st, .int .i64 tag, .int .i64 tot, .int .i64 fr, .int .i64 ln] 46)
        have hbx := Blk.new w3 46 #[.int .i64 st, .int .i64 tag, .int .i64 tot, .int .i64 fr, .int .i64 ln]
        have hL4 := hL3.ext hEb 0
        have hS4 := (hS.trans hS3).trans (StK.ext (k := 1) hEb 0)
        have hnl4 : n < Q4.paths.length := (List.getElem?_eq_some_iff.1 hp4).1
        have hnk4 : n < Q4.taken.length := (List.getElem?_eq_some_iff.1 hT4).1
        generalize w3.alloc (.cells #[.int .i64 st, .int .i64 tag, .int .i64 tot, .int .i64 fr, .int .i64 ln] 46) = w4 at *
        generalize recolK w3 col3 0 = col4 at *
        obtain ⟨aP4, capP4, hvP4, hgP4⟩ := own_form (hL4.pp id).1
        obtain ⟨gP4, rfl⟩ := hgP4 (by omega)
        obtain ⟨aK4, capK4, hvK4, hgK4⟩ := own_form (hL4.kk id).1
        obtain ⟨gK4, rfl⟩ := hgK4 (by omega)
        have HC : Hid (∀ w', Ext w4 w' → (w'.cell? ⟨y, 24, none⟩ = some (.slice (some ⟨gP4, 0, none⟩) Q4.paths.length capP4) ∧ w'.cell? ⟨gP4, n, none⟩ = some (.int .i64 tp) ∧ w'.cell? ⟨y, 26, none⟩ = some (.slice (some ⟨gK4, 0, none⟩) Q4.taken.length capK4) ∧ w'.cell? ⟨gK4, n, none⟩ = some (.string T) ∧ w'.cell? ⟨y, 29, none⟩ = some (.bool false)) ∧
            (w'.cell? ⟨w3.heap.size, 0, none⟩ = some (.int .i64 st) ∧ w'.cell? ⟨w3.heap.size, 1, none⟩ = some (.int .i64 tag) ∧ w'.cell? ⟨w3.heap.size, 2, none⟩ = some (.int .i64 tot) ∧ w'.cell? ⟨w3.heap.size, 3, none⟩ = some (.int .i64 fr) ∧ w'.cell? ⟨w3.heap.size, 4, none⟩ = some (.int .i64 ln)) ∧ w'.cell? ⟨y, 0, none⟩ = some (.pointer (some ⟨Q4.q, 0, none⟩))) := by
          intro w' hE
          refine ⟨⟨ext_cell hE (by rw [← hvP4]; exact hL4.cEnd 0), ext_cell hE ?_, ext_cell hE (by rw [← hvK4]; exact hL4.cEnd 2), ext_cell hE ?_, ext_cell hE (by rw [← hPI4.ok.bad]; exact hL4.cEnd 5)⟩, ⟨ext_cell hE (hbx.cell 0), ext_cell hE (hbx.cell 1), ext_cell hE (hbx.cell 2), ext_cell hE (hbx.cell 3), ext_cell hE (hbx.cell 4)⟩, ext_cell hE (hL4.cSt 0 (by omega))⟩
          · have ho := (hL4.pp id).1
            rw [hvP4] at ho
            rw [ho.cellAt n (by omega)]; simp [hp4]
          · have ho := (hL4.kk id).1
            rw [hvK4] at ho
            rw [ho.cellAt n (by omega)]; simp [hT4]
        have HSt4 := hide (fun w' (hE : Ext w4 w') => StateP_any Q4.q n Q4.g w' ((hL4.pg id).1.ext hE))
        rw [ansT_yes (hasT_of hts4) hts4] at HSt4
        have hsv4 : stT (pshowT ⟨tp, tk, tf, tl, tb, tsh, tlo, ⟨st, tag, tot, fr, ln⟩, ttk, tfl, thd⟩) = sv := hsv
        rw [hsv4] at HSt4
        simp only at HSt4
        have HFin : Hid (∀ w', Ext w4 w' → ∃ Q, PI (KnH B) N Q ∧ Q.g.s.blk = B ∧ PlTo w1 w' y (colY w zCol y 1) 1 Q) := fun w' hE => ⟨Q4, hPI4, hbl4, PlTo.trans hS4 (PlTo.ext hL4 hE)⟩
        have hnl4' : (n : Int) < Q4.paths.length := by omega
        have hnk4' : (n : Int) < Q4.taken.length := by omega
        obtain ⟨⟨x24, xgp, x26, xgk, x29⟩, ⟨y0, y1, y2, y3, y4⟩, x0⟩ := HC.out w4 (Below.refl _ _)
        have hyl4 := hL4.lt
        have hbxl := hbx.lt
        clear hL4 hS4 hL3 hS3 hS hPI4 hts4 hp4 hT4 hvP4 hvK4 hgP4 hgK4 hEb hbx hsv hsv4 okT hfair hbl4
        go_upto_region 10 with (fail)
        go_cut [9] (fun v wx => v = .string whole ∧ Ext w4 wx)
        case first =>
          go_region_held3 (fun w' => w'.cell? ⟨y, 24, none⟩ = some (.slice (some ⟨gP4, 0, none⟩) Q4.paths.length capP4) ∧ w'.cell? ⟨gP4, n, none⟩ = some (.int .i64 tp) ∧ w'.cell? ⟨w3.heap.size, 1, none⟩ = some (.int .i64 tag) ∧ w'.cell? ⟨w3.heap.size, 3, none⟩ = some (.int .i64 fr) ∧ w'.cell? ⟨w3.heap.size, 4, none⟩ = some (.int .i64 ln)) (go_keep)
            ((go_at_call 21
              refine (HO.out _).mono ?_
              rintro e w5 ⟨rfl, hE5⟩
              obtain ⟨⟨q24, qgp, q26, qgk, q29⟩, ⟨q0, q1, q2, q3, q4⟩, qx0⟩ := HC.out w5 hE5.undrew))
          all_goals go_wp2_with fail
          all_goals go_meet
          all_goals exact ⟨rfl, hE5.undrew⟩
        case rest =>
          obtain ⟨rfl, hE5⟩ := hcut
          generalize wc = w5 at *
          obtain ⟨⟨z24, zgp, z26, zgk, z29⟩, ⟨z0, z1, z2, z3, z4⟩, zx0⟩ := HC.out w5 hE5
          have hBe5 := HBe.out w5
          have hFa5 := HFa.out w5
          clear x24 xgp x26 xgk x29 y0 y1 y2 y3 y4 x0 HO
          go_upto_region 12 with (go_at_call 24; refine hBe5.mono ?_; rintro e w6 ⟨rfl, hw6⟩; have hw6 := hw6.symm; subst hw6)
          go_upto_region 13 with (go_at_call 25; refine hFa5.mono ?_; rintro e w6 ⟨rfl, hE6⟩)
          have hE46 := Ext.trans' hE5 hE6
          obtain ⟨⟨a24, agp, a26, agk, a29⟩, ⟨a0, a1, a2, a3, a4⟩, ax0⟩ := HC.out w6 hE46
          have hSt6 := HSt4.out w6 hE46
          clear z24 zgp z26 zgk z29 z0 z1 z2 z3 z4 zx0 hBe5 hFa5 HBe HFa
          go_upto_region 14 with (go_at_call 20; refine hSt6.mono ?_; rintro e w7 ⟨rfl, hE7⟩)
          have hE47 := Ext.trans' hE46 hE7
          obtain ⟨⟨b24, bgp, b26, bgk, b29⟩, ⟨b0, b1, b2, b3, b4⟩, bx0⟩ := HC.out w7 hE47
          have HF7 : Hid (∀ w', Ext w7 w' → ∃ Q, PI (KnH B) N Q ∧ Q.g.s.blk = B ∧ PlTo w1 w' y (colY w zCol y 1) 1 Q) := fun w' hE => HFin.out w' (Ext.trans' hE47 hE)
          clear a24 agp a26 agk a29 a0 a1 a2 a3 a4 ax0 hSt6 HSt4 HC HFin hE5 hE6 hE46 hE7 hE47
          go_cut [110] (fun v wx => v = .bool false ∧ Ext w7 wx)
          case first =>
            by_cases q5 : st = 502
            · subst q5
              go_quiet (fail)
              go_wp2_with fail
              go_meet
              exact ⟨rfl, Ext.drewN (Below.refl _ _) _⟩
            · have q5' : (st != 502) = true := by simpa using q5
              have q5'' : (st == 502) = false := by simpa using q5
              have hto : tot = tk2 := by rcases r3 with h9 | h9; exact absurd h9 q5; exact h9
              subst hto
              go_quiet ((go_at_call 19; exact Calls.quiet_of_same (HTt.out _)))
              go_wp2_with fail
              go_meet
              exact ⟨rfl, Ext.drewN (Below.refl _ _) _⟩
          case rest =>
            obtain ⟨rfl, hE8⟩ := hcut
            have e26 := ext_cell hE8 b26
            have egk := ext_cell hE8 bgk
            by_cases q6 : sv = 3
            · have hTw := r4 q6
              subst hTw q6
              go_wp2_with fail
              exact ⟨⟨n + 1, by omega, by go_num, HF7.out _ hE8⟩, by simp [intOf]; omega⟩
            · have q6' : (sv == 3) = false := by simpa using q6
              go_wp2_with fail
              exact ⟨⟨n + 1, by omega, by go_num, HF7.out _ hE8⟩, by simp [intOf]; omega⟩
    · have HE := hide (play_ext HW1.out hS)
      clear hL hS hvP hgP
      go_wp2_with fail
      go_ret
      exact ⟨rfl, HE.out⟩
end Go.Proofs.Ytjhihliciadipaa
