import Derived.Test.YtjhihliciadipaaKR
import Derived.Test.YtjhihliciadipaaK21
set_option linter.unusedVariables false
set_option linter.unusedSimpArgs false
set_option linter.unnecessarySimpa false
namespace Go.Proofs.Ytjhihliciadipaa
open Go.RowKit

set_option maxRecDepth 100000 in
set_option maxHeartbeats 8000000 in
theorem Ranged_walk (l : List Int) (x1 x2 x3 x4 x5 : Int) (v : Value) (w : World) (hv : IntsAt w v l) (hl : l.length ≤ 17592186044416) (hi : ∀ x ∈ l, I64 x) (h1 : I64 x1) (h2 : I64 x2) (h3 : I64 x3) (h4 : I64 x4) (h5 : I64 x5) :
    Calls Try.prog 3 #[v, .int .i64 x1, .int .i64 x2, .int .i64 x3, .int .i64 x4, .int .i64 x5] w fun e w' => e = .returned (.bool true) ∧ Ext w w' := by
  have HB := begin_any l v zCol 1 w hv (by omega) hi
  have hpb := pickK_bd x1 4 (by omega)
  have htb := pickK_bd x2 99 (by omega)
  have PK1 := hide (fun w' => pickK_any x1 4 w' h1 (by omega) (by omega))
  have PK2 := hide (fun w' => pickK_any x2 99 w' h2 (by omega) (by omega))
  have RG := hide (fun w' => ranges_any x3 x4 x5 w' h3 h4 h5)
  have hrl : (txt (rangeL x3 x4 x5)).size ≤ 100 := by rw [txt_size]; exact rangeL_len _ _ _
  have HEx := hide (fun n (hn : 0 ≤ n) (hn2 : n ≤ 1000) w' => expected_any x3 x4 x5 n w' h3 h4 h5 hn hn2)
  have HHd := hide (head_exp x3 x4 x5)
  obtain ⟨p, hp⟩ := Int.eq_ofNat_of_zero_le hpb.1
  rw [hp] at PK1 hpb
  generalize hc : pickK x2 99 = c at *
  generalize htx : txt (rangeL x3 x4 x5) = text at *
  have hB := setK_ok l
  obtain ⟨B, hBe⟩ : ∃ B, B = (setK l).b := ⟨_, rfl⟩
  clear hp hc htx
  go_enter Try.func3, Try.ntmps3
  go_upto_region 2 with (go_at_call 9; refine HB.mono ?_; rintro e w1 ⟨y, q, rfl, hL1, hE1⟩)
  have PK1' := PK1.out w1
  go_upto_region 3 with (go_at_call 10; refine PK1'.mono ?_; rintro e w2 ⟨rfl, hw2⟩; have hw2 := hw2.symm; subst hw2)
  have PK2' := PK2.out w1
  go_upto_region 4 with (go_at_call 10; refine PK2'.mono ?_; rintro e w2 ⟨rfl, hw2⟩; have hw2 := hw2.symm; subst hw2)
  have RG' := RG.out w1
  go_upto_region 5 with (go_at_call 11; refine RG'.mono ?_; rintro e w2 ⟨rfl, hw2⟩; have hw2 := hw2.symm; subst hw2)
  have HA := yask_any y _ 1 _ newPv p text w1 hL1 (new_PI (KnV B (1 + c)) q l).ok (by omega) (by omega)
  have pk0 := (hL1.pg id).1.ok
  go_upto_region 6 with (go_at_call 12; refine HA.mono ?_; rintro e w2 ⟨rfl, hT2⟩)
  have HST : Hid (∃ P', RI B (1 + c) p (readP text) 0 0 P' ∧ PlTo w1 w2 y (colY w zCol y 1) 1 P') :=
    ⟨_, ri_start hBe.symm p (by omega) text pk0 hT2.pk, hT2⟩
  have HE1 := hide hE1
  have hB1 := hB.f3
  have hB16 := hB.f4
  rw [← hBe] at hB1 hB16
  clear hL1 hT2 pk0 HA HB PK1 PK1' PK2 PK2' RG RG' hE1 hv hB hBe
  go_wp2_with fail
  go_loopw [17] (fun i wr => ∃ m : Nat, m ≤ 70 ∧ i = .int .i64 m ∧ Hid (∃ P', RI B (1 + c) p (readP text) 0 (70 - m) P' ∧ PlTo w1 wr y (colY w zCol y 1) 1 P')) (fun i _ => (intOf i).toNat)
  case atStart => exact ⟨70, by omega, rfl, HST.out⟩
  case round =>
    obtain ⟨m, hm, rfl, HP⟩ := hrel
    obtain ⟨Q0, hQ0, colQ, V, vq, hL, hS⟩ := HP.out
    have hRI0 := hQ0.at Q0.q vq
    obtain ⟨Q, hQ⟩ : ∃ Q, Q = Q0.lay vq := ⟨_, rfl⟩
    have hRI : RI B (1 + c) p (readP text) 0 (70 - m) Q := by rw [hQ]; exact hRI0
    rw [← hQ] at hL
    clear hRI0 hQ0 hQ HP HST
    have hC := hRI.cl
    have c29 : wr.cell? ⟨y, 29, none⟩ = some (.bool false) := by rw [← hC.pi.ok.bad]; exact hL.cEnd 5
    by_cases hm0 : 0 < m
    · obtain ⟨m', rfl⟩ : ∃ m', m = m' + 1 := ⟨m - 1, by omega⟩
      have hn1 : Q.paths.length = 1 := by obtain ⟨t, ht, -⟩ := hRI.tr; rw [← hC.pi.ok.n1, ht]; rfl
      have hRC := round_calls y colQ 1 B (1 + c) _ Q V wr hL hC (by omega) (by omega) hn1 (by omega) (by omega)
      have hj : 70 - m' = 70 - (m' + 1) + 1 := by omega
      have HF : Hid (∀ w3, PlTo wr w3 y colQ 1 (roundPl Q (1 + c)) → ∃ P', RI B (1 + c) p (readP text) 0 (70 - m') P' ∧ PlTo w1 w3 y (colY w zCol y 1) 1 P') := fun w3 hT => by
        rw [hj]; exact ⟨_, hRI.step (by omega) (by omega) hT.pk, PlTo.trans hS hT⟩
      clear hL hS hRI hC
      rcases hRC with H1 | ⟨f, r, H1⟩
      · unfold RdIdle at H1
        go_upto_region 10 with (go_at_call 13; refine H1.mono ?_; rintro e w2 ⟨rfl, H2⟩)
        clear H1
        go_wp2_with fail
        refine H2.mono ?_
        rintro e w3 ⟨rfl, -, hT3⟩
        have HG : Hid (∃ P', RI B (1 + c) p (readP text) 0 (70 - m') P' ∧ PlTo w1 w3 y (colY w zCol y 1) 1 P') := HF.out w3 hT3
        clear HF hT3 H2
        go_wp2_with fail
        exact ⟨⟨m', by omega, by go_num, HG⟩, by simp [intOf]⟩
      · unfold RdSent at H1
        go_upto_region 10 with (go_at_call 13; refine H1.mono ?_; rintro e w2 ⟨rfl, hJ, H2⟩)
        obtain ⟨j0, j1, j2, j3, j4, hyl2⟩ := hJ
        obtain ⟨fp, ft, fo, ff, fl⟩ := f
        obtain ⟨rt, ro, rf, rb⟩ := r
        unfold feAgg fetAgg rpAgg repAgg at H2
        simp only at H2 j0 j1 j2 j3 j4
        clear H1 c29
        go_upto_region 12 with (first | (go_at_call 15; refine H2.mono ?_; rintro e w3 ⟨rfl, H3⟩) | (go_at_call 14; refine H3.mono ?_; rintro e w4 ⟨rfl, H4⟩))
        clear H2 H3 j0 j1 j2 j3 j4
        go_wp2_with fail
        refine H4.mono ?_
        rintro e w5 ⟨rfl, -, hT5⟩
        have HG : Hid (∃ P', RI B (1 + c) p (readP text) 0 (70 - m') P' ∧ PlTo w1 w5 y (colY w zCol y 1) 1 P') := HF.out w5 hT5
        clear H4 hT5 HF
        go_wp2_with fail
        exact ⟨⟨m', by omega, by go_num, HG⟩, by simp [intOf]⟩
    · obtain rfl : m = 0 := by omega
      obtain ⟨t, T, hRE⟩ := hRI.done (by omega)
      have ht : Q.g.s.trs[0]? = some t := by rw [hRE.tr]; rfl
      have hst3 := hRE.st
      have HH := yhead_yes y colQ 1 Q V 0 t wr hL hC.pi.ok ht (by omega) (by omega)
      have htt := totK_bd p (1 + c)
      have hEq := HHd.out (1 + c) (totK p (1 + c)) htt.1
      have hhd := hRE.hd
      rw [hEq] at hhd
      have hts : (headPl Q 0).g.s.trs[0]? = some (pshowT t) := by
        show (headS Q.g.s (0 : Nat)).trs[0]? = _
        rw [(headS_yes ht (open_st (by omega))).2]
        show (Q.g.s.trs.set 0 (pshowT t))[0]? = _
        simp [(List.getElem?_eq_some_iff.1 ht).1]
      have hst0 : stT (pshowT t) = 3 := hst3
      have hTk : (headPl Q 0).taken = [T] := hRE.tk
      have hsn : ((headPl Q 0).sent.length : Int) ≤ 1 + (totK p (1 + c) + B - 1) / B := hRE.sn
      have hPI3 : PI (KnV B (1 + c)) _ (headPl Q 0) := headPl_PI hC.pi ht (open_st (by omega))
      have hstb : (headPl Q 0).st.b = B := by show Q.st.b = B; rw [hC.pi.j.st.2.1, hC.bl]
      have hn0 := hRE.n0
      have hTT := hRE.T
      rw [hhd] at hn0 hTT
      simp only at hn0 hTT
      unfold hdAgg at HH
      rw [hhd] at HH
      simp only at HH
      have hEx := hide (HEx.out (totK p (1 + c)) htt.1 (by omega))
      have hsnn : 0 ≤ ((headPl Q 0).sent.length : Int) := by omega
      generalize headPl Q 0 = Q3 at *
      generalize (expK x3 x4 x5 (totK p (1 + c))).1 = E1 at *
      generalize (expK x3 x4 x5 (totK p (1 + c))).2.1 = E2 at *
      generalize (expK x3 x4 x5 (totK p (1 + c))).2.2 = E3 at *
      obtain ⟨fr, rfl⟩ := Int.eq_ofNat_of_zero_le hn0.1
      obtain ⟨ln, rfl⟩ := Int.eq_ofNat_of_zero_le hn0.2.2.1
      simp only [Int.toNat_natCast] at hTT
      have HTt := hide (fun w' => totK_any p (1 + c) w' (by omega) (by omega) (by omega) (by omega))
      have HOb := hide (fun w' => object_any p (1 + c) fr ln w' (by omega) (by omega) (by omega) (by omega) (by omega) (by omega))
      rw [← hTT] at HOb
      have hTs : T.size ≤ 1000 := by rw [hTT, objK_size]; unfold objN; omega
      generalize totK p (1 + c) = tot at *
      clear HEx HHd hEq hRE hRI hC hL hhd hTT ht hst3
      go_upto_region 16 with (go_at_call 17; refine HH.mono ?_; rintro e w3 ⟨rfl, hT3⟩)
      obtain ⟨col3, V3, v3, hL3, hS3⟩ := hT3
      have HW := hide (play_ext HE1.out (hS.trans hS3))
      obtain ⟨Q4, hQ4⟩ : ∃ Q4, Q4 = Q3.lay v3 := ⟨_, rfl⟩
      have hts4 : Q4.g.s.trs[0]? = some (pshowT t) := by rw [hQ4]; exact hts
      have hTk4 : Q4.taken = [T] := by rw [hQ4]; exact hTk
      have hsn4 : (Q4.sent.length : Int) ≤ 1 + (tot + B - 1) / B := by rw [hQ4]; exact hsn
      have hst4 : Q4.st.b = B := by rw [hQ4]; exact hstb
      rw [← hQ4] at hL3
      have hEb := Ext.new w3 (.cells #[.int .i64 E1, .int .i64 (1 + c), .int .i64 tot, .int .i64 fr, .int .i64 ln] 46)
      have hbx := Blk.new w3 46 #[.int .i64 E1, .int .i64 (1 + c), .int .i64 tot, .int .i64 fr, .int .i64 ln]
      have hL4 := hL3.ext hEb 0
      have HW4 := hide (Ext.trans' HW.out hEb)
      obtain ⟨aK, capK, hvK, hgK⟩ := own_form (hL4.kk id).1
      have hlK : Q4.taken.length = 1 := by rw [hTk4]; rfl
      obtain ⟨gK, rfl⟩ := hgK (by omega)
      obtain ⟨aS, capS, hvS, hgS⟩ := own_form (hL4.ss id).1
      have HC : Hid (∀ w', Ext (w3.alloc (.cells #[.int .i64 E1, .int .i64 (1 + c), .int .i64 tot, .int .i64 fr, .int .i64 ln] 46)) w' → (w'.cell? ⟨y, 0, none⟩ = some (.pointer (some ⟨Q4.q, 0, none⟩)) ∧ w'.cell? ⟨y, 2, none⟩ = some (.int .i64 B) ∧ w'.cell? ⟨y, 26, none⟩ = some (.slice (some ⟨gK, 0, none⟩) 1 capK) ∧ w'.cell? ⟨gK, 0, none⟩ = some (.string T) ∧ w'.cell? ⟨y, 27, none⟩ = some (.slice aS Q4.sent.length capS)) ∧
          (w'.cell? ⟨w3.heap.size, 0, none⟩ = some (.int .i64 E1) ∧ w'.cell? ⟨w3.heap.size, 1, none⟩ = some (.int .i64 (1 + c)) ∧ w'.cell? ⟨w3.heap.size, 2, none⟩ = some (.int .i64 tot) ∧ w'.cell? ⟨w3.heap.size, 3, none⟩ = some (.int .i64 fr) ∧ w'.cell? ⟨w3.heap.size, 4, none⟩ = some (.int .i64 ln)) ∧ y < w'.heap.size ∧ w3.heap.size < w'.heap.size) := by
        intro w' hE
        refine ⟨⟨ext_cell hE (hL4.cSt 0 (by omega)), ext_cell hE (by rw [← hst4]; exact hL4.cSt 2 (by omega)), ext_cell hE (by rw [← hlK, ← hvK]; exact hL4.cEnd 2), ext_cell hE ?_, ext_cell hE (by rw [← hvS]; exact hL4.cEnd 3)⟩, ⟨ext_cell hE (hbx.cell 0), ext_cell hE (hbx.cell 1), ext_cell hE (hbx.cell 2), ext_cell hE (hbx.cell 3), ext_cell hE (hbx.cell 4)⟩, Nat.lt_of_lt_of_le hL4.lt hE.size, Nat.lt_of_lt_of_le hbx.lt hE.size⟩
        have ho := (hL4.kk id).1
        rw [hvK] at ho
        rw [ho.cellAt 0 (by omega)]; simp [hTk4]
      have HSt := hide (fun w' (hE : Ext (w3.alloc (.cells #[.int .i64 E1, .int .i64 (1 + c), .int .i64 tot, .int .i64 fr, .int .i64 ln] 46)) w') => StateP_any Q4.q (0 : Nat) Q4.g w' ((hL4.pg id).1.ext hE))
      rw [ansT_yes (hasT_of hts4) hts4, hst0] at HSt
      simp only at HSt
      generalize Q4.sent.length = sn at *
      have hsnb : (sn : Int) ≤ 100 := by
        have : (tot + B - 1) / B ≤ tot + B - 1 := Int.ediv_le_self _ (by omega)
        omega
      generalize w3.alloc (.cells #[.int .i64 E1, .int .i64 (1 + c), .int .i64 tot, .int .i64 fr, .int .i64 ln] 46) = w4 at *
      obtain ⟨⟨x0, x2, x26, xK, x27⟩, ⟨y0, y1, y2, y3, y4⟩, hyl, hbl⟩ := HC.out w4 (Below.refl _ _)
      have hTt4 := HTt.out w4
      have hEx4 := hEx.out w4
      have hSt4 := HSt.out w4 (Below.refl _ _)
      clear hL4 hL3 hS3 hS hvK hvS hgK hgS hTk4 hst4 hts4 hQ4 hts hTk hsn hPI3 hstb hEb hbx hst0 HH c29 HE1 HW
      go_upto_region 17 with (first | (go_at_call 19; refine hTt4.mono ?_; rintro e wz ⟨rfl, hwz⟩; have hwz := hwz.symm; subst hwz) | (go_at_call 18; refine hEx4.mono ?_; rintro e wz ⟨rfl, hwz⟩; have hwz := hwz.symm; subst hwz))
      go_upto_region 18 with (go_at_call 20; refine hSt4.mono ?_; rintro e w5 ⟨rfl, hE5⟩)
      have hTt5 := HTt.out w5
      obtain ⟨⟨p0, p2, p26, pK, p27⟩, ⟨q0, q1, q2, q3, q4⟩, hyl5, hbl5⟩ := HC.out w5 hE5
      have hE6 := Ext.new w5 (.cells #[.int .i64 E1, .int .i64 (1 + c), .int .i64 tot, .int .i64 fr, .int .i64 ln] 46)
      have hby := Blk.new w5 46 #[.int .i64 E1, .int .i64 (1 + c), .int .i64 tot, .int .i64 fr, .int .i64 ln]
      clear x0 x2 x26 xK x27 y0 y1 y2 y3 y4 hTt4 hEx4 hSt4 hEx HSt
      go_upto_region 19 with (go_at_call 19; refine hTt5.mono ?_; rintro e wz ⟨rfl, hwz⟩; have hwz := hwz.symm; subst hwz)
      have hE46 := Ext.trans' hE5 hE6
      generalize w5.alloc (.cells #[.int .i64 E1, .int .i64 (1 + c), .int .i64 tot, .int .i64 fr, .int .i64 ln] 46) = w6 at *
      have r0 : w6.cell? ⟨w5.heap.size, 0, none⟩ = some (.int .i64 E1) := hby.cell 0
      have r1 : w6.cell? ⟨w5.heap.size, 1, none⟩ = some (.int .i64 (1 + c)) := hby.cell 1
      have r2 : w6.cell? ⟨w5.heap.size, 2, none⟩ = some (.int .i64 tot) := hby.cell 2
      have r3 : w6.cell? ⟨w5.heap.size, 3, none⟩ = some (.int .i64 fr) := hby.cell 3
      have r4 : w6.cell? ⟨w5.heap.size, 4, none⟩ = some (.int .i64 ln) := hby.cell 4
      have hbl6 := hby.lt
      have HW6 := hide (Ext.trans' HW4.out hE46)
      obtain ⟨⟨a0, a2, a26, aK', a27⟩, ⟨b0, b1, b2, b3, b4⟩, hyl6, hbl6'⟩ := HC.out w6 hE46
      have HC6 : Hid (∀ w', Ext w6 w' → w'.cell? ⟨y, 2, none⟩ = some (.int .i64 B) ∧ w'.cell? ⟨y, 26, none⟩ = some (.slice (some ⟨gK, 0, none⟩) 1 capK) ∧ w'.cell? ⟨gK, 0, none⟩ = some (.string T) ∧ w'.cell? ⟨y, 27, none⟩ = some (.slice aS sn capS) ∧ y < w'.heap.size) := fun w' hE => by
        obtain ⟨⟨a0, a2, a26, aK', a27⟩, -, h9, -⟩ := HC.out w' (Ext.trans' hE46 hE)
        exact ⟨a2, a26, aK', a27, h9⟩
      clear p0 p2 p26 pK p27 q0 q1 q2 q3 q4 hTt5 hby hE6 hE5 HC hE46 HW4
      go_upto_region 21 with (fail)
      clear b0 b1 b2 b3 b4 r0 r1 r2 r3 r4
      have hquo : (tot + B - 1).tdiv B = (tot + B - 1) / B := Int.tdiv_eq_ediv_of_nonneg (by omega)
      have hqb : 0 ≤ (tot + B - 1) / B ∧ (tot + B - 1) / B ≤ 100 := ⟨Int.ediv_nonneg (by omega) (by omega), by
        have : (tot + B - 1) / B ≤ tot + B - 1 := Int.ediv_le_self _ (by omega)
        omega⟩
      go_quiet ((go_at_call 19; exact Calls.quiet_of_same (HTt.out _)))
      have HC7 : Hid (∀ w', Ext (w6.drewN nq) w' → w'.cell? ⟨y, 2, none⟩ = some (.int .i64 B) ∧ w'.cell? ⟨y, 26, none⟩ = some (.slice (some ⟨gK, 0, none⟩) 1 capK) ∧ w'.cell? ⟨gK, 0, none⟩ = some (.string T) ∧ w'.cell? ⟨y, 27, none⟩ = some (.slice aS sn capS) ∧ y < w'.heap.size) := fun w' hE => HC6.out w' hE.undrewN
      have HW7 := hide (Ext.drewN HW6.out nq)
      clear a0 a2 a26 aK' a27 hyl6 hbl6' hbl6 HC6 HW6 hyl5 hbl5 hyl hbl
      generalize w6.drewN nq = w7 at *
      obtain ⟨a2, a26, aK', a27, hyl7⟩ := HC7.out w7 (Below.refl _ _)
      have hle : (sn : Int) ≤ 1 + (tot + B - 1) / B := hsn4
      clear hsn4 hsnn
      generalize 1 + (tot + B - 1) / B = most at *
      go_upto_region 22 with (fail)
      go_region_held3 (fun w' => w'.cell? ⟨y, 26, none⟩ = some (.slice (some ⟨gK, 0, none⟩) 1 capK) ∧ w'.cell? ⟨gK, 0, none⟩ = some (.string T) ∧ w'.cell? ⟨y, 27, none⟩ = some (.slice aS sn capS)) (go_keep)
        ((go_at_call 21
          refine (HOb.out _).mono ?_
          rintro e w8 ⟨rfl, hE8⟩
          obtain ⟨c2, c26, cK, c27, hyl8⟩ := HC7.out w8 hE8.undrew))
      all_goals go_wp2_with fail
      all_goals go_ret
      all_goals exact ⟨by simp [hle], Ext.trans' HW7.out hE8.undrew⟩
end Go.Proofs.Ytjhihliciadipaa
