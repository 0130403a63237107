import Derived.Test.YtjhihliciadipaaKF
set_option linter.unusedVariables false
set_option linter.unusedSimpArgs false
set_option linter.unnecessarySimpa false
namespace Go.Proofs.Ytjhihliciadipaa
open Go.RowKit

theorem infoBool : (Try.prog.info? 4).map (fun i => (i.zero, i.size, i.bytes)) = some (some (.bool false), 1, 1) := by kernel_rfl
theorem boolOne (x : Bool) : ∀ u ∈ [Value.bool x], u.oneCell' = true := by intro u hu; simp at hu; subst hu; rfl

set_option maxRecDepth 100000 in
set_option maxHeartbeats 4000000 in
theorem all_any (y : Nat) (col : Nat → Nat) (k : Nat) (P : Pl) (V : Pv) (w : World) (ls : List Bool) (v : Value) (base : Nat) (h : PlAt w y col k P V) (ok : PlOk P) (ho : w.ownsRow base 4 1 v ls.length (ls.map .bool)) (hlen : ls.length = P.paths.length)
    (hd : ∀ (i : Nat) t b, P.g.s.trs[i]? = some t → ls[i]? = some b → stT t = 3 ∨ stT t = 4 ∧ b = true) :
    Calls Try.prog 28 #[.pointer (some ⟨y, 0, none⟩), v] w fun e w' => e = .returned (.bool true) ∧ Ext w w' := by
  have n8 := ok.n8
  have hn1 := ok.n1
  obtain ⟨aP, capP, hvP, -⟩ := own_form (h.pp id).1
  obtain ⟨aL, capL, rfl, hgL⟩ := own_form ho
  have HC : Hid (∀ w', Ext w w' → w'.cell? ⟨y, 0, none⟩ = some (.pointer (some ⟨P.q, 0, none⟩)) ∧ w'.cell? ⟨y, 24, none⟩ = some (.slice aP P.paths.length capP)) := fun w' hE =>
    ⟨ext_cell hE (h.cSt 0 (by omega)), ext_cell hE (by rw [← hvP]; exact h.cEnd 0)⟩
  have HSt := hide (fun (i : Nat) t (ht : P.g.s.trs[i]? = some t) w' (hE : Ext w w') => StateP_any P.q i P.g w' ((h.pg id).1.ext hE))
  have HLs : Hid (∀ (i : Nat) b g, aL = some ⟨g, 0, none⟩ → ls[i]? = some b → ∀ w', Ext w w' → w'.cell? ⟨g, i, none⟩ = some (.bool b)) := by
    intro i b g hg hb w' hE
    refine ext_cell hE ?_
    rw [hg] at ho
    rw [ho.cellAt i (by have := (List.getElem?_eq_some_iff.1 hb).1; omega)]
    simp [hb]
  have HD := hide hd
  have HTr := hide (fun (i : Nat) (hi : i < P.paths.length) => show ∃ t, P.g.s.trs[i]? = some t from ⟨_, List.getElem?_eq_getElem (by rw [hn1]; exact hi)⟩)
  have HLb := hide (fun (i : Nat) (hi : i < P.paths.length) => show ∃ b, ls[i]? = some b from ⟨_, List.getElem?_eq_getElem (by rw [hlen]; exact hi)⟩)
  have hgL' := hide (fun (hp : 0 < P.paths.length) => hgL (by omega))
  rw [hlen]
  clear h ok ho hd hvP hgL hn1 hlen
  go_enter Try.func28, Try.ntmps28
  go_wp2_with fail
  go_loopw [5] (fun i wr => ∃ j : Nat, j ≤ P.paths.length ∧ i = .int .i64 j ∧ Ext w wr) (fun i _ => P.paths.length - (intOf i).toNat)
  case atStart => exact ⟨0, by omega, rfl, Below.refl _ _⟩
  case round =>
    obtain ⟨j, hj, rfl, hE⟩ := hrel
    obtain ⟨c0, c24⟩ := HC.out wr hE
    by_cases hlt : j < P.paths.length
    · have hlt' : (j : Int) < P.paths.length := by omega
      obtain ⟨t, ht⟩ := HTr.out j hlt
      obtain ⟨b, hb⟩ := HLb.out j hlt
      obtain ⟨g, rfl⟩ := hgL'.out (by omega)
      have HS := HSt.out j t ht wr hE
      rw [ansT_yes (hasT_of ht) ht] at HS
      simp only at HS
      have hdd := HD.out j t b ht hb
      have HB := HLs.out j b g rfl hb
      generalize stT t = sv at *
      clear ht hb
      go_upto_region 5 with (go_at_call 20; refine HS.mono ?_; rintro e w2 ⟨rfl, hE2⟩)
      have hE02 := Ext.trans' hE hE2
      have cb := HB w2 hE02
      rcases hdd with rfl | ⟨rfl, rfl⟩
      · clear HB HS
        go_wp2_with fail
        exact ⟨⟨j + 1, by omega, by go_num, hE02⟩, by simp [intOf]; omega⟩
      · clear HB HS
        go_wp2_with fail
        exact ⟨⟨j + 1, by omega, by go_num, hE02⟩, by simp [intOf]; omega⟩
    · go_wp2_with fail
      go_ret
      exact ⟨rfl, hE⟩

set_option maxRecDepth 100000 in
set_option maxHeartbeats 8000000 in
theorem Calm_walk (l s : List Int) (v u : Value) (w : World) (hv : IntsAt w v l) (hu : IntsAt w u s) (hl : l.length ≤ 1048576) (hs : s.length ≤ 1048576) (hi : ∀ x ∈ l, I64 x) (hj : ∀ x ∈ s, I64 x) :
    Calls Try.prog 7 #[v, u] w fun e w' => e = .returned (.bool true) ∧ Ext w w' := by
  have HB := begin_any l v zCol 1 w hv (by omega) hi
  have HU := hide hu
  go_enter Try.func7, Try.ntmps7
  go_wp2_with fail
  refine HB.mono ?_
  rintro e w1 ⟨y, q, rfl, hL1, hE1⟩
  have HSt := steps_any y _ 1 _ newPv s u false w1 (fun j P => PI (KnH (setK l).b) j P ∧ P.g.s.blk = (setK l).b ∧ AwOk P) (fun j P h => by rw [h.2.1]; exact h.1.weakH) (fun j P v h => ⟨h.1.at P.q v, h.2.1, h.2.2⟩)
    (fun j P r h pk _ _ hr => ⟨(stepH h.2.1 h.1 pk _ r (hr rfl)).1, (stepH h.2.1 h.1 pk _ r (hr rfl)).2, h.2.2.step h.1 _ r⟩) hL1 ⟨new_PI _ q l, rfl, fun m hm => by
      exfalso
      have hm2 : ([false, false, false] : List Bool).getD m false = true := hm
      rcases m with _ | _ | _ | m <;> simp at hm2⟩ (by omega) (ints_new HU.out hE1) hs hj
  have HW1 := hide hE1
  clear HB hL1 hv hE1 hu
  go_wp2_with fail
  refine HSt.mono ?_
  rintro e w2 ⟨rfl, N, hN1, hN2, P2, ⟨hP2, hB2, hA2⟩, hT2⟩
  obtain ⟨col2, V2, v2, hL2, hS2⟩ := hT2
  obtain ⟨Q, hQ⟩ : ∃ Q, Q = P2.lay v2 := ⟨_, rfl⟩
  have hPI : PI (KnH (setK l).b) N Q := by rw [hQ]; exact hP2.at P2.q v2
  have hBQ : Q.g.s.blk = (setK l).b := by rw [hQ]; exact hB2
  have hAQ : AwOk Q := by rw [hQ]; exact hA2
  rw [← hQ] at hL2
  have HW2 := hide (play_ext HW1.out hS2)
  generalize (setK l).b = B at *
  have n8 := hPI.ok.n8
  have hn1 := hPI.ok.n1
  obtain ⟨aP, capP, hvP, -⟩ := own_form (hL2.pp id).1
  have HC : Hid (∀ w', Ext w2 w' → w'.cell? ⟨y, 0, none⟩ = some (.pointer (some ⟨Q.q, 0, none⟩)) ∧ w'.cell? ⟨y, 24, none⟩ = some (.slice aP Q.paths.length capP) ∧ w'.cell? ⟨y, 29, none⟩ = some (.bool false) ∧ y < w'.heap.size) := fun w' hE =>
    ⟨ext_cell hE (hL2.cSt 0 (by omega)), ext_cell hE (by rw [← hvP]; exact hL2.cEnd 0), ext_cell hE (by rw [← hPI.ok.bad]; exact hL2.cEnd 5), Nat.lt_of_lt_of_le hL2.lt hE.size⟩
  have HSt' := hide (fun (i : Nat) t (ht : Q.g.s.trs[i]? = some t) w' (hE : Ext w2 w') => StateP_any Q.q i Q.g w' ((hL2.pg id).1.ext hE))
  have HTr := hide (fun (i : Nat) (hi : i < Q.paths.length) => show ∃ t, Q.g.s.trs[i]? = some t from ⟨_, List.getElem?_eq_getElem (by rw [hn1]; exact hi)⟩)
  have HCm := hide (fun w' (hE : Ext w2 w') => calm_any y (recolK w2 col2 0) 1 B N Q V2 w' (hL2.ext hE 0) hPI.toV hBQ hAQ (by omega) (by omega))
  have HLs : Hid (∃ ls : List Bool, ls = Q.g.s.trs.map Tr.lost ∧ ls.length = Q.paths.length) := ⟨_, rfl, by rw [List.length_map]; exact hn1⟩
  obtain ⟨ls, hls, hll⟩ := HLs.out
  have HLs' : Hid (∀ (i : Nat) t, Q.g.s.trs[i]? = some t → ls.take (i + 1) = ls.take i ++ [t.lost]) := by
    intro i t ht
    have h1 : ls[i]? = some t.lost := by rw [hls]; simp [ht]
    obtain ⟨hlt, he⟩ := List.getElem?_eq_some_iff.1 h1
    rw [List.take_succ_eq_append_getElem hlt, he]
  have HLd : Hid (∀ (i : Nat) t, Q.g.s.trs[i]? = some t → ls[i]? = some t.lost) := by
    intro i t ht; rw [hls]; simp [ht]
  have HLo : Hid (∀ (i : Nat) b, ls[i]? = some b → ∃ t, Q.g.s.trs[i]? = some t ∧ b = t.lost) := by
    intro i b hb
    rw [hls] at hb
    simp only [List.getElem?_map, Option.map_eq_some_iff] at hb
    obtain ⟨t, h1, h2⟩ := hb
    exact ⟨t, h1, h2.symm⟩
  have HS2 := hide hS2
  clear HSt hP2 hB2 hA2 hN1 hi hj hs hl hQ hvP hn1 hL2 hS2 hls HLs hPI hBQ hAQ
  go_wp2_with fail
  go_loopg [6, 7] Q.paths.length (fun g a i wr => ∃ j : Nat, g = Q.paths.length - j ∧ j ≤ Q.paths.length ∧ i = .int .i64 j ∧ Ext w2 wr ∧ wr.ownsRow w2.heap.size 4 1 a j ((ls.take j).map .bool))
  case atStart => exact ⟨0, rfl, by omega, rfl, Below.refl _ _, World.ownsRow_nil _ _ _ _⟩
  case round =>
    obtain ⟨j, rfl, hjl, rfl, hX, hown⟩ := hrel
    obtain ⟨c0, c24, c29, hyl⟩ := HC.out wr hX
    have HO := hide hown
    by_cases hlt : j < Q.paths.length
    · have hlt' : (j : Int) < Q.paths.length := by omega
      obtain ⟨t, ht⟩ := HTr.out j hlt
      have HS := HSt'.out j t ht wr hX
      rw [ansT_yes (hasT_of ht) ht] at HS
      simp only at HS
      have hlost : (stT t == 4) = t.lost := by
        unfold stT
        cases hl : t.lost
        · simp only [Bool.false_eq_true, if_false]
          split
          · rfl
          · split <;> rfl
        · rfl
      have hst := stT_bd t
      have HSn := hide (HLs'.out j t ht)
      generalize stT t = sv at *
      obtain ⟨a1, cap1, rfl, -⟩ := own_form hown
      clear ht
      go_upto_region 8 with (go_at_call 20; refine HS.mono ?_; rintro e w3 ⟨rfl, hE3⟩)
      have hX3 := Ext.trans' hX hE3
      have ho3 := own_ext hown hE3
      have HO3 := hide ho3
      clear HS HO hown
      go_wp2_with (at_builtin; refine app_one Try.underlying63 infoBool rfl (by decide) (by decide) _ rfl _ _ rfl (by rfl) (ho3.alloc _) [.bool t.lost] rfl rfl (by rw [← hlost]; exact news_new _ _ _) (boolOne _) (by omega) (by have := hX3.size; simp; omega) ?_; intro v4 w4 ho4 hg4 hw4; obtain ⟨a4, cap4, rfl, hga⟩ := own_form ho4; clear hga)
      go_roundg (Q.paths.length - (j + 1))
      case measure => omega
      case rel => exact ⟨j + 1, rfl, by omega, by go_num, app_extK hX3 HO3.out (Nat.le_refl _) hg4, by rw [HSn.out, List.map_append]; exact ho4⟩
    · obtain rfl : j = Q.paths.length := by omega
      have hCm := HCm.out wr hX
      have hfull : ls.take Q.paths.length = ls := List.take_of_length_le (by omega)
      rw [hfull] at HO hown
      obtain ⟨aL, capL, rfl, -⟩ := own_form hown
      have HX := hide hX
      clear hown
      go_upto_region 14 with (go_at_call 27; refine hCm.mono ?_; rintro e w4 ⟨rfl, P', hRc, col4, V4, v4, hL4, hS4⟩)
      have hPI4 : PI (KnV B 0) _ (P'.lay v4) := hRc.cl.pi.at P'.q v4
      have d29 : w4.cell? ⟨y, 29, none⟩ = some (.bool false) := by rw [← hPI4.ok.bad]; exact hL4.cEnd 5
      have ho4 := own_chg HO.out hS4.chg (fun k hk => by
        have := (HO.out.lt k hk).1
        rw [recolK_new this]; omega)
      have HA := all_any y col4 1 (P'.lay v4) V4 w4 ls _ _ hL4 hPI4.ok (by rw [hll]; exact ho4) (by rw [hll]; show _ = P'.paths.length; rw [hRc.pa]) (fun i t b ht hb => by
        obtain ⟨t0, h0, rfl⟩ := HLo.out i b hb
        exact hRc.done h0 ht)
      have HE4 := hide (play_ext HW1.out (HS2.out.trans ((StK.ext (k := 1) HX.out 0).trans hS4)))
      clear hCm hL4 hS4 hPI4 ho4 hRc HO c0 c24 c29
      go_wp2_with fail
      refine HA.mono ?_
      rintro e w5 ⟨rfl, hE5⟩
      clear HA
      go_wp2_with fail
      go_ret
      exact ⟨rfl, Ext.trans' HE4.out hE5⟩
end Go.Proofs.Ytjhihliciadipaa
