import Derived.Test.YtjhihliciadipabGreatKeep0
set_option linter.unusedVariables false
set_option linter.unusedSimpArgs false
set_option linter.unnecessarySimpa false
namespace Go.Proofs.YtjhihliciadipabGreat
open Go.RowKit

set_option maxRecDepth 100000 in
set_option maxHeartbeats 2000000 in
theorem keep_any (p : Nat) (s : Pr) (L : Lay) (C : Int) (j : Jb) (body : ByteArray) (w : World) (h : PrAt w p s L) (inv : Inv s C) (hC : C ≤ 50000000000000000) (hj0 : 0 ≤ j.k) (hj1 : j.k ≤ 100000) (hb0 : 1 ≤ body.size) (hb1 : body.size ≤ 16) :
    Calls Tryz.prog 91 #[.pointer (some ⟨p, 0, none⟩), .agg #[.bool j.on, .int .i64 j.path, .int .i64 j.tag, .int .i64 j.tot, .int .i64 j.k], .string body] w fun e w' => e = .returned (.tuple #[]) ∧
      ∃ v', PrAt w' p (keepL s j body) { L with vC := v' } ∧ Mvs w w' p L { L with vC := v' } := by
  have hcap : w.cell? ⟨p, 3, none⟩ = some (.int .i64 s.cap) := h.blk.cell 3
  have hc1 := inv.fair.c1
  have hc2 := inv.fair.c2
  have hpl := h.blk.lt
  have hnc := inv.nc
  by_cases hbig : s.cap < body.size
  · have HK : Hid (keepL s j body = s) := if_pos hbig
    have HH := hide h
    clear h
    go_enter Tryz.func91, Tryz.ntmps91
    go_wp2_with fail
    refine bodyPost_ret (v := .tuple #[]) (by simp [results, Tryz.results91, go_sem]) rfl ⟨rfl, L.vC, by rw [HK.out]; exact HH.out.ext (Ext.new w _), Mvs.of_ext (Ext.new w _)⟩
  · have HK : Hid (keepL s j body = { s with cache := evict s.cap (keepAll s j body).length (keepAll s j body), clock := s.clock + 1 }) := if_neg hbig
    have hc : w.cell? ⟨p, 8, none⟩ = some L.vC := h.blk.cell 8
    obtain ⟨aC, capC, hCf, hgC⟩ := own_form h.cache
    rw [hCf] at hc
    have HCf := hide hCf
    have hE0 : Ext w (w.alloc (.cells #[.bool j.on, .int .i64 j.path, .int .i64 j.tag, .int .i64 j.tot, .int .i64 j.k] 124)) := Ext.new w _
    have hBj : Blk (w.alloc (.cells #[.bool j.on, .int .i64 j.path, .int .i64 j.tag, .int .i64 j.tot, .int .i64 j.k] 124)) w.heap.size 124 #[.bool j.on, .int .i64 j.path, .int .i64 j.tag, .int .i64 j.tot, .int .i64 j.k] := Blk.new w _ _
    clear hCf hgC
    go_enter Tryz.func91, Tryz.ntmps91
    go_wp2_with fail
    go_loopw [6] (fun i wr => ∃ (m : Nat) (v' : Value), m ≤ s.cache.length ∧ i = .int .i64 ((m : Int) - 1) ∧ PrAt wr p { s with cache := rmTo j s.cache m } { L with vC := v' } ∧ Mvs w wr p L { L with vC := v' } ∧
      Blk wr w.heap.size 124 #[.bool j.on, .int .i64 j.path, .int .i64 j.tag, .int .i64 j.tot, .int .i64 j.k] ∧ ¬ Foot p { L with vC := v' } w.heap.size) (fun i _ => (intOf i + 1).toNat)
    case atStart => exact ⟨s.cache.length, L.vC, Nat.le_refl _, rfl, by rw [rmTo_all]; exact h.ext hE0, Mvs.of_ext hE0, hBj, fun hf => by have := h.lt _ hf; omega⟩
    case round =>
      obtain ⟨m, v', hm, rfl, hP, hM, hB, hNF⟩ := hrel
      have HNF := hide hNF
      clear hNF
      have b1 : wr.cell? ⟨w.heap.size, 1, none⟩ = some (.int .i64 j.path) := hB.cell 1
      have b2 : wr.cell? ⟨w.heap.size, 2, none⟩ = some (.int .i64 j.tag) := hB.cell 2
      have b3 : wr.cell? ⟨w.heap.size, 3, none⟩ = some (.int .i64 j.tot) := hB.cell 3
      have b4 : wr.cell? ⟨w.heap.size, 4, none⟩ = some (.int .i64 j.k) := hB.cell 4
      have hbl := hB.lt
      have hrs := (rmTo_sub j s.cache m).1
      have HRS := hide (rmTo_sub j s.cache m).2
      have hvC : wr.cell? ⟨p, 8, none⟩ = some v' := hP.blk.cell 8
      have hpw := hP.blk.lt
      by_cases hm0 : m = 0
      · subst hm0
        clear b1 b2 b3 b4
        have hck : wr.cell? ⟨p, 9, none⟩ = some (.int .i64 s.clock) := hP.blk.cell 9
        go_wp2_with fail
        refine (use_any p s.clock _ hck (hP.blk.frozen 9) inv.c0 (by have := inv.c1; omega)).mono ?_
        rintro e w5 ⟨rfl, rfl⟩
        obtain ⟨hP5, hM5⟩ := hP.top 9 (.int .i64 (s.clock + 1)) { s with cache := rmTo j s.cache 0, clock := s.clock + 1 } _ rfl rfl rfl rfl rfl rfl
        have hB5 : Blk (wr.setCell ⟨p, 9, none⟩ (.int .i64 (s.clock + 1))) w.heap.size 124 _ := hB.setOther (p := ⟨p, 9, none⟩) (show p ≠ w.heap.size by omega) _
        have hM6 := hM.trans hM5
        generalize wr.setCell ⟨p, 9, none⟩ (.int .i64 (s.clock + 1)) = w5 at *
        have b1 : w5.cell? ⟨w.heap.size, 1, none⟩ = some (.int .i64 j.path) := hB5.cell 1
        have b2 : w5.cell? ⟨w.heap.size, 2, none⟩ = some (.int .i64 j.tag) := hB5.cell 2
        have b3 : w5.cell? ⟨w.heap.size, 3, none⟩ = some (.int .i64 j.tot) := hB5.cell 3
        have b4 : w5.cell? ⟨w.heap.size, 4, none⟩ = some (.int .i64 j.k) := hB5.cell 4
        have hvC5 : w5.cell? ⟨p, 8, none⟩ = some v' := hP5.blk.cell 8
        have hfp := hP5.blk.frozen
        have ho5 := hP5.cache
        simp only at ho5
        have hrl0 := (rmTo_sub j s.cache 0).1
        have hnpv : v'.ownBlock ≠ some p := hP5.np v' (by simp [Lay.vs])
        obtain ⟨aC5, capC5, rfl, -⟩ := own_form ho5
        have HP5 := hide hP5
        have hBp := hP5.blk
        have hp5 := hBp.lt
        clear hP hM hB hM5 hck hvC hP5
        go_wp2_with fail
        go_cut [8] (fun a wx => a = .int .i64 (s.clock + 1) ∧ ∃ v6, PrAt wx p { s with cache := keepAll s j body, clock := s.clock + 1 } { L with vC := v6 } ∧ Mvs w wx p L { L with vC := v6 })
        case first =>
          go_region_law (
            refine step_app Tryz.underlying101 infoKept rfl (by decide) (by decide) rfl _ _ rfl (by rfl) (own_ext ho5 (Below.drew (Ext.new _ _))) (kpV (keepNew s j body)) rfl rfl (news_new _ _ _) (kp_one _) (by omega) (Nat.zero_le _) ?_
            intro v6 w6 ho6 hg6 hw6
            have hB6 : Blk w6 p 103 _ := (hBp.ext (Below.drew (Ext.new _ _))).grown hg6 hnpv
            have c6 : w6.cell? ⟨p, 8, none⟩ = some (.slice aC5 (rmTo j s.cache 0).length capC5) := hB6.cell 8
            have f6 := hB6.frozen 8
            obtain ⟨a6, cap6, rfl, hgx⟩ := own_form ho6
            clear hgx)
          all_goals
            go_wp2_with fail
            go_meet
            have hnew := HP5.out.newC (w1 := w6) ((Chg.of_ext (Below.drew (Ext.new _ _))).trans (Chg.of_grown hg6 (fun x hx => hx))) (.slice a6 ((rmTo j s.cache 0).length + 1) cap6) (keepAll s j body)
              (by unfold keepAll; rw [List.length_append, List.map_append, List.flatten_append]; simpa using ho6)
              (fun x hx => by
                rcases hw6 with h1 | h1
                · exact Or.inl (h1.symm.trans hx)
                · right; rw [h1] at hx; simp at hx; omega)
            exact ⟨rfl, _, hnew.1, hM6.trans hnew.2⟩
        case rest =>
          obtain ⟨rfl, v6, hP6, hM7⟩ := hcut
          clear HP5 hBp ho5 hfp hB5 b1 b2 b3 b4 hvC5 hM6
          have hkl : (keepAll s j body).length ≤ 257 := by unfold keepAll; rw [List.length_append]; simp; omega
          have HKO : Hid (∀ x ∈ keepAll s j body, KpOk x) := fun x hx => by
            unfold keepAll at hx
            rcases List.mem_append.1 hx with h1 | h1
            · exact inv.cache x (HRS.out x h1)
            · simp at h1; subst h1; exact ⟨hj0, hj1, hb0, hb1⟩
          go_wp2_with fail
          refine (Used_any p { s with cache := keepAll s j body, clock := s.clock + 1 } { L with vC := v6 } _ (hP6.blk.cell 8) hP6.cache HKO.out (show (keepAll s j body).length ≤ 1000 by omega)).mono ?_
          rintro e w7 ⟨rfl, rfl⟩
          go_wp2_with fail
          go_loopg [9] (keepAll s j body).length (fun f n wr => ∃ (cur : List Kp) (v7 : Value), n = .int .i64 (usedL cur) ∧ PrAt wr p { s with cache := cur, clock := s.clock + 1 } { L with vC := v7 } ∧ Mvs w wr p L { L with vC := v7 } ∧
            Hid (evict s.cap f cur = evict s.cap (keepAll s j body).length (keepAll s j body)) ∧ cur.length ≤ f ∧ f ≤ 257 ∧ Hid (∀ x ∈ cur, KpOk x))
          case atStart => exact ⟨_, v6, rfl, hP6, hM7, rfl, Nat.le_refl _, hkl, HKO⟩
          case round =>
            obtain ⟨cur, v7, rfl, hP8, hM8, HEV, hcf, hf, HKC⟩ := hrel
            have hcp : wr.cell? ⟨p, 3, none⟩ = some (.int .i64 s.cap) := hP8.blk.cell 3
            by_cases hu : s.cap < usedL cur
            · have hcn : 0 < cur.length := by
                rcases Nat.eq_zero_or_pos cur.length with h0 | h0
                · rw [List.eq_nil_of_length_eq_zero h0, usedL_nil] at hu; omega
                · exact h0
              obtain ⟨f, rfl⟩ : ∃ f, gk = f + 1 := ⟨gk - 1, by omega⟩
              have HEV2 : Hid (evict s.cap f (cur.eraseIdx (oldTo cur cur.length)) = evict s.cap (keepAll s j body).length (keepAll s j body)) := by
                have := HEV.out; simp only [evict, if_pos hu] at this; exact this
              have hol := (oldTo_lt cur cur.length).2 hcn
              go_wp2_with fail
              refine (oldest_any p { s with cache := cur, clock := s.clock + 1 } { L with vC := v7 } _ (hP8.blk.cell 8) hP8.cache (show cur.length ≤ 1000 by omega)).mono ?_
              rintro e w9 ⟨rfl, hE9⟩
              go_wp2_with fail
              refine (away_any p (oldTo cur cur.length) _ _ _ (hP8.ext hE9) (show cur.length ≤ 1000 by omega) (show oldTo cur cur.length ≤ 1000 by omega)).mono ?_
              rintro e w10 ⟨rfl, v10, hP10, hM10⟩
              have HKC2 : Hid (∀ x ∈ cur.eraseIdx (oldTo cur cur.length), KpOk x) := fun x hx => HKC.out x (List.mem_of_mem_eraseIdx hx)
              have hel : (cur.eraseIdx (oldTo cur cur.length)).length + 1 = cur.length := by rw [List.length_eraseIdx, if_pos hol]; omega
              go_wp2_with fail
              refine (Used_any p { s with cache := cur.eraseIdx (oldTo cur cur.length), clock := s.clock + 1 } { L with vC := v10 } _ (hP10.blk.cell 8) hP10.cache HKC2.out (show (cur.eraseIdx (oldTo cur cur.length)).length ≤ 1000 by omega)).mono ?_
              rintro e w11 ⟨rfl, rfl⟩
              go_wp2_with fail
              go_roundg f
              case measure => omega
              case rel => exact ⟨_, v10, rfl, hP10, (hM8.ext hE9).trans hM10, HEV2, by omega, by omega, HKC2⟩
            · have HEV2 : Hid (cur = evict s.cap (keepAll s j body).length (keepAll s j body)) := by
                have := HEV.out
                cases gk with
                | zero => exact this
                | succ f => simp only [evict, if_neg hu] at this; exact this
              go_wp2_with fail
              go_end0
              exact ⟨rfl, v7, by rw [HK.out, ← HEV2.out]; exact hP8, hM8⟩
      · obtain ⟨m, rfl⟩ : ∃ k, m = k + 1 := ⟨m - 1, by omega⟩
        have hmi : m < s.cache.length := by omega
        have hx : ({ s with cache := rmTo j s.cache (m + 1) } : Pr).cache[m]? = some s.cache[m] := rmTo_get j s.cache m hmi
        have HH : Hid (kpHit j s.cache[m] = true → (rmTo j s.cache (m + 1)).eraseIdx m = rmTo j s.cache m) := rmTo_hit j s.cache m hmi
        have HM : Hid (kpHit j s.cache[m] = false → rmTo j s.cache (m + 1) = rmTo j s.cache m) := rmTo_miss j s.cache m hmi
        generalize s.cache[m] = x at *
        obtain ⟨aC2, capC2, hCf2, hgC2⟩ := own_form hP.cache
        have hrl : m < (rmTo j s.cache (m + 1)).length := (List.getElem?_eq_some_iff.1 hx).1
        obtain ⟨gC, rfl⟩ := hgC2 (show 0 < (rmTo j s.cache (m + 1)).length by omega)
        simp only at hCf2
        rw [hCf2] at hvC
        have q0 : wr.cell? ⟨gC, m * 6, none⟩ = some (.int .i64 x.path) := hP.cellC hx hCf2 0 (by omega)
        have q1 : wr.cell? ⟨gC, m * 6 + 1, none⟩ = some (.int .i64 x.tag) := hP.cellC hx hCf2 1 (by omega)
        have q2 : wr.cell? ⟨gC, m * 6 + 2, none⟩ = some (.int .i64 x.tot) := hP.cellC hx hCf2 2 (by omega)
        have q3 : wr.cell? ⟨gC, m * 6 + 3, none⟩ = some (.int .i64 x.k) := hP.cellC hx hCf2 3 (by omega)
        have q4 : wr.cell? ⟨gC, m * 6 + 4, none⟩ = some (.string x.body) := hP.cellC hx hCf2 4 (by omega)
        have q5 : wr.cell? ⟨gC, m * 6 + 5, none⟩ = some (.int .i64 x.when) := hP.cellC hx hCf2 5 (by omega)
        have hmm : ((m + 1 : Nat) : Int) - 1 = (m : Int) := by omega
        rw [hmm]
        clear hgC2 hmm
        generalize hrm : rmTo j s.cache (m + 1) = rc at *
        clear hrm
        have HKH : Hid (kpHit j x = (x.path == j.path && (x.tag == j.tag && x.tot == j.tot) && x.k == j.k)) := rfl
        go_upto_region 6 with fail
        go_cut [54] (fun b wx => b = .bool (kpHit j x) ∧ wx = wr.alloc (.cells #[.int .i64 x.path, .int .i64 x.tag, .int .i64 x.tot, .int .i64 x.k, .string x.body, .int .i64 x.when] 144))
        case first =>
          by_cases hp : x.path = j.path
          · have hpb : (x.path == j.path) = true := beq_iff_eq.2 hp
            have HP1 := hide hp
            clear hp
            by_cases ht1 : x.tag = j.tag
            · have e1 : (x.tag = j.tag) = True := eq_true ht1
              have HT1 := hide ht1
              clear ht1
              by_cases ht2 : x.tot = j.tot
              · have e2 : (x.tot = j.tot) = True := eq_true ht2
                have HT2 := hide ht2
                clear ht2
                cases hk : (x.k == j.k)
                all_goals
                  go_wp2_with fail
                  go_meet
                  exact ⟨by rw [HKH.out, hpb, HT1.out, HT2.out, hk]; simp, rfl⟩
              · go_wp2_with fail
                go_meet
                exact ⟨by rw [HKH.out]; simp [ht2], rfl⟩
            · go_wp2_with fail
              go_meet
              exact ⟨by rw [HKH.out]; simp [ht1], rfl⟩
          · have hpb : (x.path == j.path) = false := beq_eq_false_iff_ne.2 hp
            clear hp
            go_wp2_with fail
            go_meet
            exact ⟨by rw [HKH.out, hpb]; simp, rfl⟩
        case rest =>
          obtain ⟨rfl, rfl⟩ := hcut
          have hE4 : Ext wr (wr.alloc (.cells #[.int .i64 x.path, .int .i64 x.tag, .int .i64 x.tot, .int .i64 x.k, .string x.body, .int .i64 x.when] 144)) := Ext.new wr _
          have hP4 := hP.ext hE4
          have hM4 := hM.ext hE4
          have hB4 := hB.ext hE4
          generalize wr.alloc (.cells #[.int .i64 x.path, .int .i64 x.tag, .int .i64 x.tot, .int .i64 x.k, .string x.body, .int .i64 x.when] 144) = w4 at *
          clear q0 q1 q2 q3 q4 q5 b1 b2 b3 b4 hvC hP hM hB
          have hbl4 := hB4.lt
          cases hhit : kpHit j x
          · have HM2 := hide (HM.out hhit)
            go_wp2_with fail
            exact ⟨⟨m, _, by omega, rfl, by rw [← HM2.out]; exact hP4, hM4, hB4, HNF.out⟩, by simp [intOf]; try omega⟩
          · have HM2 := hide (HH.out hhit)
            go_wp2_with fail
            refine (away_any p m _ _ _ hP4 (show rc.length ≤ 1000 by omega) (by omega)).mono ?_
            rintro e w5 ⟨rfl, v5, hP5, hM5⟩
            go_wp2_with fail
            refine ⟨⟨m, v5, by omega, rfl, by rw [← HM2.out]; exact hP5, hM4.trans hM5, hB4.chg hM5.chg HNF.out, fun hf => ?_⟩, by simp [intOf]; try omega⟩
            rcases hM5.foot _ hf with h1 | h1
            · exact HNF.out h1
            · omega
end Go.Proofs.YtjhihliciadipabGreat
