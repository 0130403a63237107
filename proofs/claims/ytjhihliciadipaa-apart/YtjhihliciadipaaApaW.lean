import Derived.Test.YtjhihliciadipaaKA
import Derived.ChangeKeysEq
set_option linter.unusedVariables false
set_option linter.unusedSimpArgs false
set_option linter.unnecessarySimpa false
namespace Go.Proofs.Ytjhihliciadipaa
open Go.RowKit

set_option maxRecDepth 100000 in
set_option maxHeartbeats 2000000 in
@[go_sem] theorem eqJobs (a0 a1 a2 a3 a4 b0 b1 b2 b3 b4 c0 c1 c2 c3 c4 : Int) (w : World) :
    (Op.equalIn 10000 33 (.agg #[.int .i64 a0, .int .i64 a1, .int .i64 a2, .int .i64 a3, .int .i64 a4, .int .i64 b0, .int .i64 b1, .int .i64 b2, .int .i64 b3, .int .i64 b4, .int .i64 c0, .int .i64 c1, .int .i64 c2, .int .i64 c3, .int .i64 c4])
      (.agg #[.int .i64 a0, .int .i64 a1, .int .i64 a2, .int .i64 a3, .int .i64 a4, .int .i64 b0, .int .i64 b1, .int .i64 b2, .int .i64 b3, .int .i64 b4, .int .i64 c0, .int .i64 c1, .int .i64 c2, .int .i64 c3, .int .i64 c4])).run Try.prog w = .ok true w := by
  have hu : Try.prog.underlying 33 = some (.array 3 32) := by kernel_rfl
  have his : (Try.prog.info? 32).isSome = true := by kernel_rfl
  obtain ⟨i, hi⟩ := Option.isSome_iff_exists.1 his
  have hc : Try.prog.cellsOf 32 = 5 := by kernel_rfl
  rw [show (10000 : Nat) = 9999 + 1 from rfl, run_equalIn_array w 9999 _ _ hu hi, hc]
  have ag := Try.isAgg32
  have sz := Try.sizeOf32
  have e := eqFetch 9997
  simp only [List.range, List.range.loop, Op.eqItems, Sem.run_bind, part]
  go_simp
theorem new_at (q : Nat) (s : St) : newPl q s = (newPl 0 s).at q (newPl 0 s).g.v := rfl
theorem list3 {α : Type} (l : List α) (h : l.length = 3) : ∃ a b c, l = [a, b, c] := by
  rcases l with _ | ⟨a, _ | ⟨b, _ | ⟨c, _ | ⟨d, l⟩⟩⟩⟩ <;> simp at h
  exact ⟨a, b, c, rfl⟩
theorem PlX.jobs15C {w : World} {y : Nat} {col : Nat → Nat} {k : Nat} {P : Pl} {V : Pv} (h : PlAt w y col k P V) (f0 f1 f2 : Fe) (hj : P.jobs = [f0, f1, f2]) (r : Nat) (hr : r < 15) : w.cell? ⟨y, 6 + r, none⟩ = (feV f0 ++ (feV f1 ++ feV f2))[r]? := by
  obtain ⟨i, j, hj5, rfl⟩ : ∃ i j, j < 5 ∧ r = i * 5 + j := ⟨r / 5, r % 5, by omega, by omega⟩
  have hi : i = 0 ∨ i = 1 ∨ i = 2 := by omega
  rcases hi with rfl | rfl | rfl
  · have := h.cJob 0 j f0 (by rw [hj]; rfl) hj5
    rw [this, List.getElem?_append_left (by simp [feV]; omega)]; simp
  · have := h.cJob 1 j f1 (by rw [hj]; rfl) hj5
    rw [this, List.getElem?_append_right (by simp [feV]), List.getElem?_append_left (by simp [feV]; omega)]
    congr 1; simp [feV]
  · have := h.cJob 2 j f2 (by rw [hj]; rfl) hj5
    rw [this, List.getElem?_append_right (by simp [feV]; omega), List.getElem?_append_right (by simp [feV]; omega)]
    congr 1; simp [feV]; omega
/-- The second and the third play beside the first. -/
structure ApI (w wr : World) (ya yb yc : Nat) (PA : Pl) (s : St) (l : List Int) (t : Nat) : Prop where
  i : ∃ col VA qb vb Vb Pc Vc, FrZ w wr col ∧ PlAt wr ya col 1 PA VA ∧ PlAt wr yb col 8 ((runF (newPl 0 s) l t).at qb vb) Vb ∧ PI (KnW (runF (newPl 0 s) l t).g.s.blk) t (runF (newPl 0 s) l t) ∧ PlAt wr yc col 15 Pc Vc ∧ PI (KnW Pc.g.s.blk) t Pc ∧ SnOk t Pc

set_option maxRecDepth 100000 in
set_option maxHeartbeats 8000000 in
theorem Apart_walk (l s m o : List Int) (v u x z : Value) (w : World) (hv : IntsAt w v l) (hu : IntsAt w u s) (hx : IntsAt w x m) (hz : IntsAt w z o) (hl : l.length ≤ 17592186044416) (hs : s.length ≤ 17592186044416) (hm : m.length ≤ 17592186044416) (ho : o.length ≤ 17592186044416)
    (hi : ∀ x ∈ l, I64 x) (hj : ∀ x ∈ s, I64 x) (hi2 : ∀ x ∈ m, I64 x) (hj2 : ∀ x ∈ o, I64 x) :
    Calls Try.prog 8 #[v, u, x, z] w fun e w' => e = .returned (.bool true) ∧ Ext w w' := by
  have HB := begin_any l v zCol 1 w hv (by omega) hi
  have HV := hide hv
  have HU := hide hu
  have HX := hide hx
  have HZ := hide hz
  have HJ := hide hj
  have HJ2 := hide hj2
  go_enter Try.func8, Try.ntmps8
  go_wp2_with fail
  refine HB.mono ?_
  rintro e w1 ⟨ya, qa, rfl, hL1, hE1⟩
  have hF1 : FrZ w w1 (colY w zCol ya 1) := ⟨hE1, fun b hb => colY_old _ _ _ _ _ hb⟩
  have HSt := steps_any ya _ 1 _ newPv s u false w1 (fun j P => PI (KnW P.g.s.blk) j P ∧ (∃ q v, P = (runF (newPl 0 (setK l)) s j).at q v)) (fun j P h => h.1) (fun j P v h => ⟨h.1.at P.q v, by obtain ⟨-, q, v', e⟩ := h; exact ⟨q, v, by rw [e]; rfl⟩⟩) (fun j P h hj => by obtain ⟨-, q, v', e⟩ := h; rw [e]; have := (runF_sn 0 (setK l) s j).le (by omega); exact Nat.le_trans this (by omega))
    (fun j P r h pk hlt _ hr => ⟨step_weak h.1 pk _ r, by
      obtain ⟨-, q, v', e⟩ := h
      refine ⟨q, v', ?_⟩
      rw [hr rfl]
      show stepPl P (chunk s j) (honR P (chunk s j)) = (partF s j (runF (newPl 0 (setK l)) s j)).at q v'
      rw [← partF_at, ← e]
      unfold partF; rw [if_pos hlt]⟩) hL1 ⟨new_PI _ qa l, qa, _, new_at qa _⟩ (by omega) (hF1.ints HU.out 1 (by omega)) hs hj
  clear HB hL1 hv hE1 hu hx hz
  go_wp2_with fail
  refine HSt.mono ?_
  rintro e w2 ⟨rfl, J, hJ1, hJ2, Pa, ⟨hPa, q, v', hPe⟩, colA, VA, va, hLA, hSA⟩
  have hF2 := hF1.stk hSA (by omega)
  have HPe := hide hPe
  have HPa := hide hPa
  have HB2 := begin_any l v colA 8 w2 (HV.out.ext hF2.ext) (by omega) hi
  clear HSt hPe hPa
  go_upto_region 4 with (go_at_call 9; refine HB2.mono ?_; rintro e w3 ⟨yb, qb, rfl, hLB, hE3⟩)
  have hLA3 := hLA.extC hE3 (fun b hb => colY_old w2 colA yb 8 b hb)
  have hF3 := hF2.extC hE3 (fun b hb => colY_old w2 colA yb 8 b hb)
  generalize colY w2 colA yb 8 = col3 at *
  have HB3 := begin_any m x col3 15 w3 (HX.out.ext hF3.ext) (by omega) hi2
  clear HB2 hLA hSA hF2 hF1
  go_upto_region 5 with (go_at_call 9; refine HB3.mono ?_; rintro e w4 ⟨yc, qc, rfl, hLC, hE4⟩)
  have hLA4 := hLA3.extC hE4 (fun b hb => colY_old w3 col3 yc 15 b hb)
  have hLB4 := hLB.extC hE4 (fun b hb => colY_old w3 col3 yc 15 b hb)
  have hF4 := hF3.extC hE4 (fun b hb => colY_old w3 col3 yc 15 b hb)
  generalize colY w3 col3 yc 15 = col4 at *
  have HI0 : Hid (ApI w w4 ya yb yc (Pa.lay va) (setK l) s 0) := ⟨col4, VA, qb, _, newPv, newPl qc (setK m), newPv, hF4, hLA4, hLB4, new_PI _ 0 l, hLC, new_PI _ qc m, snNew qc _⟩
  have ca : w4.cell? ⟨ya, 29, none⟩ = some (.bool false) := by rw [← (HPa.out).ok.bad]; exact hLA4.cEnd 5
  have cb : w4.cell? ⟨yb, 29, none⟩ = some (.bool false) := hLB4.cEnd 5
  have cc : w4.cell? ⟨yc, 29, none⟩ = some (.bool false) := hLC.cEnd 5
  clear HB3 hLA3 hLB hF3 hLA4 hLB4 hF4 hLC hE3 hE4
  obtain ⟨aU, capU, hue, hcU, -⟩ := HU.out
  subst hue
  obtain ⟨aZ, capZ, hze, hcZ, -⟩ := HZ.out
  subst hze
  go_wp2_with fail
  go_loopw [12] (fun i wr => ∃ t : Nat, (4 * t ≤ s.length + 3 ∨ 4 * t ≤ o.length + 3) ∧ i = .int .i64 (4 * t : Nat) ∧ Hid (ApI w wr ya yb yc (Pa.lay va) (setK l) s t)) (fun i _ => s.length + o.length + 8 - (intOf i).toNat)
  case atStart => exact ⟨0, by omega, rfl, HI0⟩
  case round =>
    obtain ⟨t, ht, rfl, HIt⟩ := hrel
    obtain ⟨col, VA', qb', vb', Vb', Pc, Vc, hF, hLA, hLB, hIb, hLC, hIc, hIs⟩ := HIt.out.i
    by_cases hgo : 4 * t < s.length ∨ 4 * t < o.length
    · have HPB := ypart_any yb col 8 t _ Vb' s (.slice aU s.length capU) t wr hLB (hIb.at qb' vb') (by omega) (by have := (runF_sn 0 (setK l) s t).le (by omega); exact Nat.le_trans this (by omega)) (by omega) (HU.out.ext hF.ext) hs HJ.out (by omega)
      have HIn : Hid (PI (KnW (runF (newPl 0 (setK l)) s (t + 1)).g.s.blk) (t + 1) (runF (newPl 0 (setK l)) s (t + 1))) := partF_PI hIb (hLB.pg id).1.ok s t
      have HIc := hide hIc
      have HIs := hide hIs
      have hIsl : Pc.sent.length ≤ 3000000000000 := by have := hIs.le (by omega); omega
      have HIc2 := hide (partF_PI hIc (hLC.pg id).1.ok o t)
      have HF := hide hF
      have HLA := hide hLA
      have HLC := hide hLC
      clear hF hLA hLB hIb hLC hIc hIs HI0 ca cb cc
      by_cases hg1 : 4 * t < s.length
      · have hg1' : ((4 * t : Nat) : Int) < s.length := by omega
        go_wp2_with fail
        refine HPB.mono ?_
        rintro e w5 ⟨rfl, colB, Vb5, vb5, hLB5, hSB⟩
        have hF5 := HF.out.stk hSB (by omega)
        have hLA5 := HLA.out.other hSB (by omega)
        have hLC5 := HLC.out.other hSB (by omega)
        have HPC := ypart_any yc colB 15 t Pc Vc o (.slice aZ o.length capZ) t w5 hLC5 HIc.out (by omega) hIsl (by omega) (HZ.out.ext hF5.ext) ho HJ2.out (by omega)
        have H5 := hide (And.intro hF5 (And.intro hLA5 hLB5))
        clear HPB hF5 hLA5 hLC5 hLB5 hSB HLA HLC HF
        go_wp2_with fail
        refine HPC.mono ?_
        rintro e w6 ⟨rfl, colC, Vc6, vc6, hLC6, hSC⟩
        obtain ⟨hF5, hLA5, hLB5⟩ := H5.out
        have HN : Hid (ApI w w6 ya yb yc (Pa.lay va) (setK l) s (t + 1)) := ⟨colC, VA', qb', vb5, Vb5, (partF o t Pc).lay vc6, Vc6, hF5.stk hSC (by omega), hLA5.other hSC (by omega), by
          have := hLB5.other hSC (by omega)
          rw [partF_at] at this
          exact this, HIn.out, by
          have := hLC6
          exact this, (HIc2.out).at (partF o t Pc).q vc6, partF_sn HIs.out o t⟩
        clear HPC H5 hF5 hLA5 hLB5 hLC6 hSC
        go_wp2_with fail
        exact ⟨⟨t + 1, by omega, by go_num, HN⟩, by simp [intOf]; omega⟩
      · have hg1' : ¬ ((4 * t : Nat) : Int) < s.length := by omega
        have hg2' : ((4 * t : Nat) : Int) < o.length := by omega
        go_wp2_with fail
        refine HPB.mono ?_
        rintro e w5 ⟨rfl, colB, Vb5, vb5, hLB5, hSB⟩
        have hF5 := HF.out.stk hSB (by omega)
        have hLA5 := HLA.out.other hSB (by omega)
        have hLC5 := HLC.out.other hSB (by omega)
        have HPC := ypart_any yc colB 15 t Pc Vc o (.slice aZ o.length capZ) t w5 hLC5 HIc.out (by omega) hIsl (by omega) (HZ.out.ext hF5.ext) ho HJ2.out (by omega)
        have H5 := hide (And.intro hF5 (And.intro hLA5 hLB5))
        clear HPB hF5 hLA5 hLC5 hLB5 hSB HLA HLC HF
        go_wp2_with fail
        refine HPC.mono ?_
        rintro e w6 ⟨rfl, colC, Vc6, vc6, hLC6, hSC⟩
        obtain ⟨hF5, hLA5, hLB5⟩ := H5.out
        have HN : Hid (ApI w w6 ya yb yc (Pa.lay va) (setK l) s (t + 1)) := ⟨colC, VA', qb', vb5, Vb5, (partF o t Pc).lay vc6, Vc6, hF5.stk hSC (by omega), hLA5.other hSC (by omega), by
          have := hLB5.other hSC (by omega)
          rw [partF_at] at this
          exact this, HIn.out, by
          have := hLC6
          exact this, (HIc2.out).at (partF o t Pc).q vc6, partF_sn HIs.out o t⟩
        clear HPC H5 hF5 hLA5 hLB5 hLC6 hSC
        go_wp2_with fail
        exact ⟨⟨t + 1, by omega, by go_num, HN⟩, by simp [intOf]; omega⟩
    · have hg1' : ¬ ((4 * t : Nat) : Int) < s.length := by omega
      have hg2' : ¬ ((4 * t : Nat) : Int) < o.length := by omega
      rw [runF_end _ _ J t hJ1 (by omega)] at hLB
      have hPA : Pa.lay va = (runF (newPl 0 (setK l)) s J).at q va := by rw [HPe.out]; rfl
      have hIa := HPa.out
      rw [HPe.out] at hIa
      rw [hPA] at hLA
      generalize runF (newPl 0 (setK l)) s J = R at *
      have HSA := states_any ya col 1 _ VA' wr hLA (hIa.at q va).ok
      have HSB := hide (fun w' (hE : Ext wr w') => states_any yb _ 8 _ Vb' w' (hLB.ext hE 0) (hIa.at qb' vb').ok)
      have hja := hIa.nj
      obtain ⟨f0, f1, f2, hjs⟩ : ∃ f0 f1 f2, R.jobs = [f0, f1, f2] := list3 _ hja
      have HCe : Hid (∀ w', Ext wr w' → (w'.cell? ⟨ya, 29, none⟩ = some (.bool false) ∧ w'.cell? ⟨yb, 29, none⟩ = some (.bool false) ∧ w'.cell? ⟨yc, 29, none⟩ = some (.bool false) ∧ w'.cell? ⟨ya, 30, none⟩ = some (.string R.ans) ∧ w'.cell? ⟨yb, 30, none⟩ = some (.string R.ans)) ∧
          (∀ r, r < 15 → w'.cell? ⟨ya, 6 + r, none⟩ = (feV f0 ++ (feV f1 ++ feV f2))[r]? ∧ w'.cell? ⟨yb, 6 + r, none⟩ = (feV f0 ++ (feV f1 ++ feV f2))[r]?)) := by
        intro w' hE
        refine ⟨⟨ext_cell hE (by rw [← (hIa.at q va).ok.bad]; exact hLA.cEnd 5), ext_cell hE (by rw [← (hIa.at qb' vb').ok.bad]; exact hLB.cEnd 5), ext_cell hE (by rw [← hIc.ok.bad]; exact hLC.cEnd 5), ext_cell hE (hLA.cEnd 6), ext_cell hE (hLB.cEnd 6)⟩, fun r hr => ?_⟩
        have h1 := hLA.jobs15C f0 f1 f2 hjs r hr
        have h2 := hLB.jobs15C f0 f1 f2 hjs r hr
        obtain ⟨u1, hu1⟩ : ∃ u1, (feV f0 ++ (feV f1 ++ feV f2))[r]? = some u1 := ⟨_, List.getElem?_eq_getElem (by simp [feV]; omega)⟩
        rw [hu1] at h1 h2 ⊢
        exact ⟨ext_cell hE h1, ext_cell hE h2⟩
      have HEx := hide hF.ext
      have HSA' : Calls Try.prog 30 #[.pointer (some ⟨ya, 0, none⟩)] wr fun e w' => e = .returned (.string (stsF R.g.s.trs)) ∧ Ext wr w' := HSA
      have HSB' : Hid (∀ w', Ext wr w' → Calls Try.prog 30 #[.pointer (some ⟨yb, 0, none⟩)] w' fun e w'' => e = .returned (.string (stsF R.g.s.trs)) ∧ Ext w' w'') := HSB.out
      generalize stsF R.g.s.trs = sx at HSA' HSB'
      generalize R.ans = ra at HCe
      obtain ⟨a1, a2, a3, a4, a5⟩ := f0
      obtain ⟨b1, b2, b3, b4, b5⟩ := f1
      obtain ⟨d1, d2, d3, d4, d5⟩ := f2
      obtain ⟨⟨ca', cb', cc', -, -⟩, -⟩ := HCe.out wr (Below.refl _ _)
      clear HSA HSB hLA hLB hLC hF hIa hIb hIc hja hjs hPA HPe HPa HIt HI0 ca cb cc
      go_upto_region 15 with (go_at_call 30; refine HSA'.mono ?_; rintro e w7 ⟨rfl, hE7⟩)
      have hSB7 := HSB'.out w7 hE7
      go_upto_region 16 with (go_at_call 30; refine hSB7.mono ?_; rintro e w8 ⟨rfl, hE8⟩)
      have hE78 := Ext.trans' hE7 hE8
      obtain ⟨⟨-, -, -, ga, gb⟩, gj⟩ := HCe.out w8 hE78
      have HFE := hide (Ext.trans' HEx.out hE78)
      have k0 := gj 0 (by omega)
      have k1 := gj 1 (by omega)
      have k2 := gj 2 (by omega)
      have k3 := gj 3 (by omega)
      have k4 := gj 4 (by omega)
      have k5 := gj 5 (by omega)
      have k6 := gj 6 (by omega)
      have k7 := gj 7 (by omega)
      have k8 := gj 8 (by omega)
      have k9 := gj 9 (by omega)
      have k10 := gj 10 (by omega)
      have k11 := gj 11 (by omega)
      have k12 := gj 12 (by omega)
      have k13 := gj 13 (by omega)
      have k14 := gj 14 (by omega)
      simp [feV] at k0 k1 k2 k3 k4 k5 k6 k7 k8 k9 k10 k11 k12 k13 k14
      obtain ⟨k0, m0⟩ := k0
      obtain ⟨k1, m1⟩ := k1
      obtain ⟨k2, m2⟩ := k2
      obtain ⟨k3, m3⟩ := k3
      obtain ⟨k4, m4⟩ := k4
      obtain ⟨k5, m5⟩ := k5
      obtain ⟨k6, m6⟩ := k6
      obtain ⟨k7, m7⟩ := k7
      obtain ⟨k8, m8⟩ := k8
      obtain ⟨k9, m9⟩ := k9
      obtain ⟨k10, m10⟩ := k10
      obtain ⟨k11, m11⟩ := k11
      obtain ⟨k12, m12⟩ := k12
      obtain ⟨k13, m13⟩ := k13
      obtain ⟨k14, m14⟩ := k14
      clear gj HCe HSB' hSB7 HSA' hE7 hE8 hE78 ca' cb' cc'
      go_quiet (fail)
      go_wp2_with fail
      go_ret
      exact ⟨rfl, Ext.drewN HFE.out _⟩
end Go.Proofs.Ytjhihliciadipaa
