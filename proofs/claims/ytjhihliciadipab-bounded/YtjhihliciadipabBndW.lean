import Derived.Test.YtjhihliciadipabBndV
set_option linter.unusedVariables false
set_option linter.unusedSimpArgs false
set_option linter.unnecessarySimpa false
namespace Go.Proofs.Ytjhihliciadipab
open Go.RowKit

set_option maxRecDepth 100000 in
set_option maxHeartbeats 8000000 in
theorem Bounded_walk (l s : List Int) (v u : Value) (w : World) (hv : IntsAt w v l) (hu : IntsAt w u s) (hl : l.length ≤ 17592186044416) (hs : s.length ≤ 17592186044416) (hi : ∀ x ∈ l, I64 x) (hj : ∀ x ∈ s, I64 x) :
    Calls Try.prog 3 #[v, u] w fun e w' => e = .returned (.bool true) ∧ Ext w w' := by
  have HB := begin_any l v zCol 1 w hv (by omega) hi
  have HU := hide hu
  have HI := hide hj
  obtain ⟨a, cap, rfl, hcap, hcell⟩ := hu
  clear hj
  go_enter Try.func3, Try.ntmps3
  go_wp2_with fail
  refine HB.mono ?_
  rintro e w1 ⟨y, q, rfl, hL1, hE1⟩
  have HW1 := hide hE1
  have HV : Hid (IntsO w1 (.slice a s.length cap) s (colY w zCol y 1) 1) := ints_new HU.out hE1
  have HST : Hid (∃ P', ((PI (KnW P'.g.s.blk) 0 P' ∧ SnOk 0 P') ∧ CN P'.g.s.cac) ∧ PlTo w1 w1 y (colY w zCol y 1) 1 P') := ⟨_, ⟨⟨new_PI _ q l, snNew q _⟩, ⟨by simp [newPl, newG, newS], by simp [newPl, newG, newS]⟩⟩, PlTo.refl hL1⟩
  clear HB hL1 hv hE1 HU hi hl
  go_wp2_with fail
  go_loopw [6] (fun i wr => ∃ j : Nat, i = .int .i64 (4 * j : Nat) ∧ 4 * j ≤ s.length + 3 ∧ Hid (∃ P', ((PI (KnW P'.g.s.blk) j P' ∧ SnOk j P') ∧ CN P'.g.s.cac) ∧ PlTo w1 wr y (colY w zCol y 1) 1 P')) (fun i _ => s.length + 4 - (intOf i).toNat)
  case atStart => exact ⟨0, rfl, by omega, HST.out⟩
  case round =>
    obtain ⟨j, rfl, hj, HP⟩ := hrel
    obtain ⟨P', ⟨⟨hI', hsn'⟩, hcn'⟩, col', V', v', hL', hS'⟩ := HP.out
    have hwk := hI'.at P'.q v'
    rw [← lay_at] at hwk
    have hcn : CN (P'.lay v').g.s.cac := hcn'
    have hsn : SnOk j (P'.lay v') := hsn'
    have hwk : PI (KnW (P'.lay v').g.s.blk) j (P'.lay v') := hwk
    generalize P'.lay v' = Q at *
    have c29 : wr.cell? ⟨y, 29, none⟩ = some (.bool false) := by rw [← hwk.ok.bad]; exact hL'.cEnd 5
    by_cases hlt : 4 * j < s.length
    · obtain ⟨ad, rfl, hc⟩ := hcell (by intro e; rw [e] at hlt; simp at hlt)
      have hvr := (HV.out.stk hS').a
      have hcr : ∀ (j : Nat) x, s[j]? = some x → wr.cell? (ad.add j) = some (.int .i64 x) := by
        obtain ⟨a2, cap2, e2, -, hc2⟩ := hvr
        obtain ⟨ad2, e3, hc3⟩ := hc2 (by intro e; rw [e] at hlt; simp at hlt)
        simp at e2
        obtain ⟨rfl, -⟩ := e2
        simp at e3; subst e3; exact hc3
      have hlen := chunk_len s j
      have HST2 := hide (fun n c (hn : n = (chunk s j).length) (hcc : n ≤ c) => step_any y col' 1 _ j Q V' (chunk s j) (.slice (some (ad.add (4 * j))) n c) true wr hL' hwk (KnW_ok _) (by omega) (by have := hsn.le (by omega); omega) (by omega) (chunk_at hcr hcap j n c hn hcc) (by omega) (chunk_i64 HI.out j))
      have hpk := (hL'.pg id).1.ok
      have HNX := hide (fun r => And.intro (And.intro (step_weak hwk hpk (chunk s j) r) (hsn.step (chunk s j) r)) (CN_step hcn (chunk s j) r))
      have HSS := hide hS'
      have hlt' : ((4 * j : Nat) : Int) < s.length := by omega
      clear hcr hvr hwk hL' hS' hI' HP hc hcn hcn' hpk hsn hsn'
      have key : ∀ (w2 : World) (r : Rp), PlTo wr w2 y col' 1 (stepPl Q (chunk s j) r) → ∃ P4 V4 col4, PlAt w2 y col4 1 P4 V4 ∧ (PI (KnW P4.g.s.blk) (j + 1) P4 ∧ SnOk (j + 1) P4) ∧ CN P4.g.s.cac ∧ StK w1 w2 (colY w zCol y 1) col4 1 := fun w2 r hT => by
        obtain ⟨col4, V4, v4, hL4, hS4⟩ := hT
        have := HNX.out r
        exact ⟨_, V4, col4, hL4, ⟨this.1.1.at _ v4, this.1.2.at _ v4⟩, this.2, HSS.out.trans hS4⟩
      have HKey := hide key
      clear key HNX
      by_cases h4 : 4 * j + 4 ≤ s.length
      · have h4' : ¬ (s.length : Int) < (4 * j : Nat) + 4 := by omega
        have HSX := HST2.out 4 (cap - 4 * j) (by omega) (by omega)
        go_upto_region 9 with (go_at_call 6; refine HSX.mono ?_; rintro e w2 ⟨rfl, r, hr1, hr2, hT⟩)
        obtain ⟨P4, V4, col4, hL4, ⟨hI4, hs4⟩, hc4, hS4⟩ := HKey.out w2 r hT
        have d29 : w2.cell? ⟨y, 29, none⟩ = some (.bool false) := by rw [← hI4.ok.bad]; exact hL4.cEnd 5
        have HWi := within_any y col4 1 _ P4 V4 w2 hL4 hI4 hc4
        have HF : Hid (∀ w3, Ext w2 w3 → ∃ P', ((PI (KnW P'.g.s.blk) (j + 1) P' ∧ SnOk (j + 1) P') ∧ CN P'.g.s.cac) ∧ PlTo w1 w3 y (colY w zCol y 1) 1 P') := fun w3 hE => ⟨P4, ⟨⟨hI4, hs4⟩, hc4⟩, PlTo.trans hS4 (PlTo.ext hL4 hE)⟩
        clear HSX HST2 HKey hT hL4 hI4 hs4 hc4 hS4 c29
        go_wp2_with fail
        refine HWi.mono ?_
        rintro e w3 ⟨rfl, hE3⟩
        have HQ : Hid (∃ P', ((PI (KnW P'.g.s.blk) (j + 1) P' ∧ SnOk (j + 1) P') ∧ CN P'.g.s.cac) ∧ PlTo w1 w3 y (colY w zCol y 1) 1 P') := HF.out w3 hE3
        clear HWi HF d29
        go_wp2_with fail
        exact ⟨⟨j + 1, by go_num, by omega, HQ⟩, by simp [intOf]; omega⟩
      · have h4' : (s.length : Int) < (4 * j : Nat) + 4 := by omega
        have HSX := HST2.out (s.length - 4 * j) (cap - 4 * j) (by omega) (by omega)
        go_upto_region 9 with (go_at_call 6; refine HSX.mono ?_; rintro e w2 ⟨rfl, r, hr1, hr2, hT⟩)
        obtain ⟨P4, V4, col4, hL4, ⟨hI4, hs4⟩, hc4, hS4⟩ := HKey.out w2 r hT
        have d29 : w2.cell? ⟨y, 29, none⟩ = some (.bool false) := by rw [← hI4.ok.bad]; exact hL4.cEnd 5
        have HWi := within_any y col4 1 _ P4 V4 w2 hL4 hI4 hc4
        have HF : Hid (∀ w3, Ext w2 w3 → ∃ P', ((PI (KnW P'.g.s.blk) (j + 1) P' ∧ SnOk (j + 1) P') ∧ CN P'.g.s.cac) ∧ PlTo w1 w3 y (colY w zCol y 1) 1 P') := fun w3 hE => ⟨P4, ⟨⟨hI4, hs4⟩, hc4⟩, PlTo.trans hS4 (PlTo.ext hL4 hE)⟩
        clear HSX HST2 HKey hT hL4 hI4 hs4 hc4 hS4 c29
        go_wp2_with fail
        refine HWi.mono ?_
        rintro e w3 ⟨rfl, hE3⟩
        have HQ : Hid (∃ P', ((PI (KnW P'.g.s.blk) (j + 1) P' ∧ SnOk (j + 1) P') ∧ CN P'.g.s.cac) ∧ PlTo w1 w3 y (colY w zCol y 1) 1 P') := HF.out w3 hE3
        clear HWi HF d29
        go_wp2_with fail
        exact ⟨⟨j + 1, by go_num, by omega, HQ⟩, by simp [intOf]; omega⟩
    · have HWi := within_any y col' 1 _ Q V' wr hL' hwk hcn
      have HE := hide (play_ext HW1.out hS')
      clear hwk hcn hcn' hL' hS' hI' HP hsn hsn'
      go_wp2_with fail
      refine HWi.mono ?_
      rintro e w3 ⟨rfl, hE3⟩
      clear HWi
      go_wp2_with fail
      go_ret
      exact ⟨rfl, Ext.trans' HE.out hE3⟩
end Go.Proofs.Ytjhihliciadipab
