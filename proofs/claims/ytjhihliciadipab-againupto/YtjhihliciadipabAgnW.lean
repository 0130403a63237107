import Derived.Test.YtjhihliciadipabKI
set_option linter.unusedVariables false
set_option linter.unusedSimpArgs false
set_option linter.unnecessarySimpa false
namespace Go.Proofs.Ytjhihliciadipab
open Go.RowKit

theorem ints5 (w : World) (a b c d e : Int) (T : TypeId) : IntsAt (w.alloc (.cells #[.int .i64 a, .int .i64 b, .int .i64 c, .int .i64 d, .int .i64 e] T)) (.slice (some ⟨w.heap.size, 0, none⟩) 5 5) [a, b, c, d, e] := by
  refine ⟨_, 5, rfl, by simp, fun _ => ⟨_, rfl, fun j x hj => ?_⟩⟩
  have := news_new w [.int .i64 a, .int .i64 b, .int .i64 c, .int .i64 d, .int .i64 e] T j (.int .i64 x)
  refine this ?_
  rcases j with _ | _ | _ | _ | _ | j <;> simp at hj <;> first | (subst hj; rfl) | skip

set_option maxRecDepth 100000 in
set_option maxHeartbeats 8000000 in
theorem Again_walk (l : List Int) (x1 x2 x3 x4 x5 : Int) (v : Value) (w : World) (hv : IntsAt w v l) (hl : l.length ≤ 1048576) (hi : ∀ x ∈ l, I64 x) (h1 : I64 x1) (h2 : I64 x2) (h3 : I64 x3) (h4 : I64 x4) (h5 : I64 x5) :
    Calls Try.prog 4 #[v, .int .i64 x1, .int .i64 x2, .int .i64 x3, .int .i64 x4, .int .i64 x5] w fun e w' => e = .returned (.bool true) ∧ Ext w w' := by
  obtain ⟨f, hf⟩ : ∃ f : Int → Int, ∀ i : Nat, f i = numK l i := ⟨fun ix => numK l ix.toNat, fun i => by simp⟩
  have HN : Hid (∀ ix, 0 ≤ ix → ix ≤ 1000 → Calls Try.prog 8 #[v, .int .i64 ix] w fun e w' => e = .returned (.int .i64 (f ix)) ∧ w' = w) := fun ix h0 h9 => by
    obtain ⟨i, rfl⟩ := Int.eq_ofNat_of_zero_le h0
    rw [hf i]
    exact numK_any l v i w hv (by omega) (by omega)
  have hN : ∀ i : Nat, I64 (f i) := fun i => by
    rw [hf i]
    unfold numK
    rw [List.getD_eq_getElem?_getD]
    cases hx : l[i]? with
    | none => exact ⟨by simp, by simp⟩
    | some x => exact hi x (List.mem_of_getElem? hx)
  have hi5 : ∀ x ∈ [f 0, f 1, f 2, 256, f 4], I64 x := by
    intro x hx
    simp at hx
    rcases hx with rfl | rfl | rfl | rfl | rfl
    · exact hN 0
    · exact hN 1
    · exact hN 2
    · exact ⟨by omega, by omega⟩
    · exact hN 4
  obtain ⟨l5, hl5⟩ : ∃ l5 : List Int, l5 = [f 0, f 1, f 2, 256, f 4] := ⟨_, rfl⟩
  have HE0 := hide (Ext.new w (.cells #[.int .i64 (f 0), .int .i64 (f 1), .int .i64 (f 2), .int .i64 256, .int .i64 (f 4)] 3))
  have HB := begin_any l5 (.slice (some ⟨w.heap.size, 0, none⟩) 5 5) zCol 1 (w.alloc (.cells #[.int .i64 (f 0), .int .i64 (f 1), .int .i64 (f 2), .int .i64 256, .int .i64 (f 4)] 3)) (by rw [hl5]; exact ints5 w (f 0) (f 1) (f 2) 256 (f 4) _) (by rw [hl5]; simp) (by rw [hl5]; exact hi5)
  have hc5 : (setK l5).c = 256 := by rw [hl5]; rfl
  have hpb := pickK_bd x1 4 (by omega)
  have htb := pickK_bd x2 99 (by omega)
  have PK1 := hide (fun w' => pickK_any x1 4 w' h1 (by omega) (by omega))
  have PK2 := hide (fun w' => pickK_any x2 99 w' h2 (by omega) (by omega))
  have RG := hide (fun w' => ranges_any x3 x4 x5 w' h3 h4 h5)
  have hrl : (txt (rangeL x3 x4 x5)).size ≤ 100 := by rw [txt_size]; exact rangeL_len _ _ _
  have HEx := hide (fun n (hn : 0 ≤ n) (hn2 : n ≤ 1000) w' => expected_any x3 x4 x5 n w' h3 h4 h5 hn hn2)
  have HHd := hide (head_exp x3 x4 x5)
  obtain ⟨p, hp⟩ := Int.eq_ofNat_of_zero_le hpb.1
  rw [hp] at PK1 hpb
  generalize hc : pickK x2 99 = c at *
  generalize htx : txt (rangeL x3 x4 x5) = text at *
  have hB := setK_ok l5
  obtain ⟨B, hBe⟩ : ∃ B, B = (setK l5).b := ⟨_, rfl⟩
  have HPI0 := hide (new_PI (KnV B (1 + c)))
  clear hp hc htx hl5 hi5 hN hi hv hl hf
  go_enter Try.func4, Try.ntmps4
  go_upto_region 2 with (first | (go_at_call 8; refine (HN.out _ (by omega) (by omega)).mono ?_; rintro e wz ⟨rfl, hwz⟩; have hwz := hwz.symm; subst hwz) | (go_at_call 5; refine HB.mono ?_; rintro e w1 ⟨y, q, rfl, hL1, hE1⟩))
  generalize w.alloc (.cells #[.int .i64 (f 0), .int .i64 (f 1), .int .i64 (f 2), .int .i64 256, .int .i64 (f 4)] 3) = w0 at *
  have PK1' := PK1.out w1
  go_upto_region 3 with (go_at_call 9; refine PK1'.mono ?_; rintro e w2 ⟨rfl, hw2⟩; have hw2 := hw2.symm; subst hw2)
  have PK2' := PK2.out w1
  go_upto_region 4 with (go_at_call 9; refine PK2'.mono ?_; rintro e w2 ⟨rfl, hw2⟩; have hw2 := hw2.symm; subst hw2)
  have HA := yask_any y _ 1 _ newPv p ByteArray.empty w1 hL1 (HPI0.out q l5).ok (by omega) (by simp)
  have pk0 := (hL1.pg id).1.ok
  go_upto_region 5 with (go_at_call 10; refine HA.mono ?_; rintro e w2 ⟨rfl, hT2⟩)
  have HST : Hid (∃ P', B1 B (1 + c) p 0 P' ∧ PlTo w1 w2 y (colY w0 zCol y 1) 1 P') :=
    ⟨_, b1_start hBe.symm hc5 p (by omega) pk0 hT2.pk, hT2⟩
  have HE1 := hide hE1
  have hB1 := hB.f3
  have hB16 := hB.f4
  rw [← hBe] at hB1 hB16
  clear hL1 hT2 pk0 HA HB PK1 PK1' PK2 PK2' hE1 hB hBe hc5 HN HPI0
  go_wp2_with fail
  go_loopw [16] (fun i wr => ∃ m : Nat, m ≤ 70 ∧ i = .int .i64 m ∧ Hid (∃ P', B1 B (1 + c) p (70 - m) P' ∧ PlTo w1 wr y (colY w0 zCol y 1) 1 P')) (fun i _ => (intOf i).toNat)
  case atStart => exact ⟨70, by omega, rfl, HST.out⟩
  case round =>
    obtain ⟨m, hm, rfl, HP⟩ := hrel
    obtain ⟨Q0, hQ0, colQ, V, vq, hL, hS⟩ := HP.out
    have hRI := hQ0.at Q0.q vq
    obtain ⟨Q, hQ⟩ : ∃ Q, Q = Q0.lay vq := ⟨_, rfl⟩
    rw [← lay_at, ← hQ] at hRI
    rw [← hQ] at hL
    clear hQ0 hQ HP HST
    have hC := hRI.ri.cl
    have c29 : wr.cell? ⟨y, 29, none⟩ = some (.bool false) := by rw [← hC.pi.ok.bad]; exact hL.cEnd 5
    by_cases hm0 : 0 < m
    · obtain ⟨m', rfl⟩ : ∃ m', m = m' + 1 := ⟨m - 1, by omega⟩
      have hn1 : Q.paths.length = 1 := by obtain ⟨t, ht, -⟩ := hRI.ri.tr; rw [← hC.pi.ok.n1, ht]; rfl
      have hRC := round_calls y colQ 1 B (1 + c) _ Q V wr hL hC (by omega) (by omega) hn1 (by omega) (by omega)
      have hj : 70 - m' = 70 - (m' + 1) + 1 := by omega
      have HF : Hid (∀ w3, POk (nextPl Q 0).1.g.s → PlTo wr w3 y colQ 1 (roundPl Q (1 + c)) → ∃ P', B1 B (1 + c) p (70 - m') P' ∧ PlTo w1 w3 y (colY w0 zCol y 1) 1 P') := fun w3 a hT => by
        rw [hj]; exact ⟨_, hRI.step (by omega) (by omega) (by omega) a hT.pk, PlTo.trans hS hT⟩
      clear hL hS hRI hC
      rcases hRC with H1 | ⟨f, r, H1⟩
      · unfold RdIdle at H1
        go_upto_region 9 with (go_at_call 11; refine H1.mono ?_; rintro e w2 ⟨rfl, H2⟩)
        clear H1
        go_wp2_with fail
        refine H2.mono ?_
        rintro e w3 ⟨rfl, hpk, hT3⟩
        have HG : Hid (∃ P', B1 B (1 + c) p (70 - m') P' ∧ PlTo w1 w3 y (colY w0 zCol y 1) 1 P') := HF.out w3 hpk hT3
        clear HF hT3 H2
        go_wp2_with fail
        exact ⟨⟨m', by omega, by go_num, HG⟩, by simp [intOf]⟩
      · unfold RdSent at H1
        go_upto_region 9 with (go_at_call 11; refine H1.mono ?_; rintro e w2 ⟨rfl, hJ, H2⟩)
        obtain ⟨j0, j1, j2, j3, j4, hyl2⟩ := hJ
        obtain ⟨fp, ft, fo, ff, fl⟩ := f
        obtain ⟨rt, ro, rf, rb⟩ := r
        unfold feAgg fetAgg rpAgg repAgg at H2
        simp only at H2 j0 j1 j2 j3 j4
        clear H1 c29
        go_upto_region 11 with (first | (go_at_call 13; refine H2.mono ?_; rintro e w3 ⟨rfl, H3⟩) | (go_at_call 12; refine H3.mono ?_; rintro e w4 ⟨rfl, H4⟩))
        clear H2 H3 j0 j1 j2 j3 j4
        go_wp2_with fail
        refine H4.mono ?_
        rintro e w5 ⟨rfl, hpk, hT5⟩
        have HG : Hid (∃ P', B1 B (1 + c) p (70 - m') P' ∧ PlTo w1 w5 y (colY w0 zCol y 1) 1 P') := HF.out w5 hpk hT5
        clear H4 hT5 HF
        go_wp2_with fail
        exact ⟨⟨m', by omega, by go_num, HG⟩, by simp [intOf]⟩
    · obtain rfl : m = 0 := by omega
      obtain ⟨t, T0, ht, hst, hTk, hT0, hfu, hlat⟩ := hRI.done (by omega)
      have RG' := RG.out wr
      have HA := yask_any y _ 1 _ V p text wr hL hC.pi.ok (by omega) (by omega)
      have HF0 : Hid (∀ w3, PlTo wr w3 y colQ 1 (askPl Q p text) → ∃ P', A2 B (1 + c) p (readP text) (0 + 2 * (70 - 0)) 0 T0 P' ∧ PlTo w1 w3 y (colY w0 zCol y 1) 1 P') := fun w3 hT =>
        ⟨_, A2.start hC (by omega) (by omega) ht hst hTk hfu hlat text hT.pk, PlTo.trans hS hT⟩
      clear hL hS hC hRI ht hst hTk hfu hlat
      go_upto_region 13 with (go_at_call 15; refine RG'.mono ?_; rintro e wz ⟨rfl, hwz⟩; have hwz := hwz.symm; subst hwz)
      go_upto_region 14 with (go_at_call 10; refine HA.mono ?_; rintro e w3 ⟨rfl, hT3⟩)
      have HST2 : Hid (∃ P', A2 B (1 + c) p (readP text) (0 + 2 * (70 - 0)) 0 T0 P' ∧ PlTo w1 w3 y (colY w0 zCol y 1) 1 P') := HF0.out w3 hT3
      clear HF0 hT3 HA RG RG' c29
      go_wp2_with fail
      obtain ⟨wo, hwo⟩ : ∃ wo : World, wo = wr := ⟨_, rfl⟩
      clear hwo
      go_loopw [19] (fun i wx => ∃ m : Nat, m ≤ 70 ∧ i = .int .i64 m ∧ Hid (∃ P', A2 B (1 + c) p (readP text) (0 + 2 * (70 - 0)) (70 - m) T0 P' ∧ PlTo w1 wx y (colY w0 zCol y 1) 1 P')) (fun i _ => (intOf i).toNat)
      case atStart => exact ⟨70, by omega, rfl, HST2.out⟩
      case round =>
        obtain ⟨m, hm, rfl, HP⟩ := hrel
        obtain ⟨R0, hR0, colR, VR, vr, hL, hS⟩ := HP.out
        have hRA := hR0.at R0.q vr
        obtain ⟨R, hR⟩ : ∃ R, R = R0.lay vr := ⟨_, rfl⟩
        rw [← lay_at, ← hR] at hRA
        rw [← hR] at hL
        clear hR0 hR HP HST2
        have hC := hRA.cl
        have c29 : wr.cell? ⟨y, 29, none⟩ = some (.bool false) := by rw [← hC.pi.ok.bad]; exact hL.cEnd 5
        by_cases hm0 : 0 < m
        · obtain ⟨m', rfl⟩ : ∃ m', m = m' + 1 := ⟨m - 1, by omega⟩
          have H1 := again_calls y colR 1 B (1 + c) _ R VR wr ((m' + 1 : Nat) : Int) ⟨by omega, by omega⟩ hL hC (hRA.idle (by omega)).2 (by omega) (by omega)
          have hj : 70 - m' = 70 - (m' + 1) + 1 := by omega
          have HF : Hid (∀ w3, PlTo wr w3 y colR 1 (takePl R 1 99) → ∃ P', A2 B (1 + c) p (readP text) (0 + 2 * (70 - 0)) (70 - m') T0 P' ∧ PlTo w1 w3 y (colY w0 zCol y 1) 1 P') := fun w3 hT => by
            rw [hj]; exact ⟨_, hRA.step (by omega) hT.pk, PlTo.trans hS hT⟩
          clear hL hS hRA hC
          unfold AgC at H1
          go_upto_region 18 with (go_at_call 11; refine H1.mono ?_; rintro e w2 ⟨rfl, H2⟩)
          clear H1
          go_wp2_with fail
          refine H2.mono ?_
          rintro e w3 ⟨rfl, hT3⟩
          have HG : Hid (∃ P', A2 B (1 + c) p (readP text) (0 + 2 * (70 - 0)) (70 - m') T0 P' ∧ PlTo w1 w3 y (colY w0 zCol y 1) 1 P') := HF.out w3 hT3
          clear HF hT3 H2
          go_wp2_with fail
          first | exact ⟨⟨m', by omega, by go_num, HG⟩, by simp [intOf]⟩ | exact ⟨by (repeat apply Exists.intro); exact ⟨⟨m', by omega, by go_num, HG⟩, rfl⟩, by simp [intOf]⟩
        · obtain rfl : m = 0 := by omega
          obtain ⟨t1, T1, hE⟩ := hRA.done (by omega)
          have htt := totK_bd p (1 + c)
          have hEq := HHd.out (1 + c) (totK p (1 + c)) htt.1
          have hhd := hE.hd
          rw [hEq] at hhd
          have hTI := hC.pi.si.ts 1 t1 T1 hE.tr (by rw [hE.tk]; rfl)
          have o1 := hTI.ok.r0
          have o2 := hTI.ok.n0
          have o3 := hTI.ok.n1
          have hTT := hE.T
          rw [hhd] at o1 o2 o3 hTT
          simp only at o1 o2 o3 hTT
          have hEx := hide (HEx.out (totK p (1 + c)) htt.1 (by omega))
          have hst1 := hE.st
          have hts := hE.tr
          have hTk := hE.tk
          have HTt := hide (fun w' => totK_any p (1 + c) w' (by omega) (by omega) (by omega) (by omega))
          obtain ⟨O, hO⟩ : ∃ O : Int → Int → ByteArray, ∀ a n : Nat, O a n = objK p (1 + c) a n := ⟨fun a n => objK p (1 + c) a.toNat n.toNat, fun a n => by simp⟩
          have HOb : Hid (∀ a n w', 0 ≤ a → a ≤ 1000 → 0 ≤ n → n ≤ 1000 → Calls Try.prog 19 #[.int .i64 p, .int .i64 (1 + c), .int .i64 a, .int .i64 n] w' fun e w'' => e = .returned (.string (O a n)) ∧ Ext w' w'') := fun a n w' ha ha2 hn hn2 => by
            obtain ⟨a, rfl⟩ := Int.eq_ofNat_of_zero_le ha
            obtain ⟨n, rfl⟩ := Int.eq_ofNat_of_zero_le hn
            rw [hO a n]
            exact object_any p (1 + c) a n w' (by omega) (by omega) (by omega) (by omega) (by omega) (by omega)
          have hT0' : T0 = O 0 (totK p (1 + c)) := by
            have h9 := hO 0 (totK p (1 + c)).toNat
            rw [hT0, ← h9]
            congr 1
            omega
          have hT1' : T1 = O (expK x3 x4 x5 (totK p (1 + c))).2.1 (expK x3 x4 x5 (totK p (1 + c))).2.2 := by
            have h9 := hO (expK x3 x4 x5 (totK p (1 + c))).2.1.toNat (expK x3 x4 x5 (totK p (1 + c))).2.2.toNat
            rw [hTT, ← h9]
            congr 1 <;> omega
          obtain ⟨aK, capK, hvK, hgK⟩ := own_form (hL.kk id).1
          have hlK : R.taken.length = 2 := by rw [hTk]; rfl
          obtain ⟨gK, rfl⟩ := hgK (by omega)
          have HC : Hid (∀ w', Ext wr w' → w'.cell? ⟨y, 0, none⟩ = some (.pointer (some ⟨R.q, 0, none⟩)) ∧ w'.cell? ⟨y, 26, none⟩ = some (.slice (some ⟨gK, 0, none⟩) 2 capK) ∧ w'.cell? ⟨gK, 0, none⟩ = some (.string T0) ∧ w'.cell? ⟨gK, 1, none⟩ = some (.string T1) ∧ y < w'.heap.size) := by
            intro w' hE'
            have ho := (hL.kk id).1
            rw [hvK] at ho
            refine ⟨ext_cell hE' (hL.cSt 0 (by omega)), ext_cell hE' (by rw [← hlK, ← hvK]; exact hL.cEnd 2), ext_cell hE' ?_, ext_cell hE' ?_, Nat.lt_of_lt_of_le hL.lt hE'.size⟩
            · rw [ho.cellAt 0 (by omega)]; simp [hTk]
            · rw [ho.cellAt 1 (by omega)]; simp [hTk]
          have HSt := hide (fun w' (hE' : Ext wr w') => StateP_any R.q (1 : Nat) R.g w' ((hL.pg id).1.ext hE'))
          rw [ansT_yes (hasT_of hts) hts, hst1] at HSt
          simp only at HSt
          have HW := hide (Ext.trans' HE0.out (play_ext HE1.out hS))
          rw [hT0', hT1'] at HC
          generalize (expK x3 x4 x5 (totK p (1 + c))).1 = E1 at *
          generalize (expK x3 x4 x5 (totK p (1 + c))).2.1 = E2 at *
          generalize (expK x3 x4 x5 (totK p (1 + c))).2.2 = E3 at *
          generalize totK p (1 + c) = tot at *
          obtain ⟨a0, a26, aK0, aK1, hyl⟩ := HC.out wr (Below.refl _ _)
          have hTt4 := HTt.out wr
          have hEx4 := hEx.out wr
          have hSt4 := HSt.out wr (Below.refl _ _)
          clear hL hS hC hRA hE hTI hT0' hT1' hTT hT0 hhd hEq hvK hgK hlK hts hTk hst1 HEx HHd hO HE0 HE1
          go_upto_region 23 with (fail)
          go_upto_region 24 with (first | (go_at_call 17; refine hTt4.mono ?_; rintro e wz ⟨rfl, hwz⟩; have hwz := hwz.symm; subst hwz) | (go_at_call 16; refine hEx4.mono ?_; rintro e wz ⟨rfl, hwz⟩; have hwz := hwz.symm; subst hwz))
          go_upto_region 25 with (go_at_call 18; refine hSt4.mono ?_; rintro e w5 ⟨rfl, hE5⟩)
          clear a0 a26 aK0 aK1 hyl
          obtain ⟨a0, a26, aK0, aK1, hyl⟩ := HC.out w5 hE5
          have HX := hide hE5
          clear hE5 hTt4 hEx4 hSt4 HSt hEx
          go_region_held3 (fun w' => w'.cell? ⟨y, 26, none⟩ = some (.slice (some ⟨gK, 0, none⟩) 2 capK) ∧ w'.cell? ⟨gK, 0, none⟩ = some (.string (O 0 tot)) ∧ w'.cell? ⟨gK, 1, none⟩ = some (.string (O E2 E3))) (go_keep)
            ((first
              | (go_at_call 17
                 refine (HTt.out _).mono ?_
                 rintro e wz ⟨rfl, hwz⟩
                 have hwz := hwz.symm
                 subst hwz)
              | (go_at_call 19
                 refine (HOb.out _ _ _ (by omega) (by omega) (by omega) (by omega)).mono ?_
                 rintro e w8 ⟨rfl, hE8⟩
                 have HX : Hid (Ext wr w8) := (by first | exact Ext.trans' HX.out hE8.undrewN | exact Ext.trans' HX.out hE8.undrew | exact Ext.trans' HX.out hE8)
                 obtain ⟨d0, d26, dK0, dK1, hyl8⟩ := HC.out w8 HX.out)))
          all_goals go_wp2_with fail
          all_goals go_ret
          all_goals exact ⟨by simp, Ext.trans' HW.out HX.out⟩
end Go.Proofs.Ytjhihliciadipab
