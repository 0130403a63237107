import Derived.Test.YtjhihliciadipaaK20
set_option linter.unusedVariables false
set_option linter.unusedSimpArgs false
set_option linter.unnecessarySimpa false
namespace Go.Proofs.Ytjhihliciadipaa
open Go.RowKit

set_option maxRecDepth 100000 in
set_option maxHeartbeats 4000000 in
theorem steps_any (y : Nat) (col : Nat → Nat) (k : Nat) (P : Pl) (V : Pv) (l : List Int) (v : Value) (lies : Bool) (w : World) (Inv : Nat → Pl → Prop) (hw : ∀ j P, Inv j P → PI (KnW P.g.s.blk) j P) (hat : ∀ j P v, Inv j P → Inv j (P.lay v)) (hsn : ∀ j P, Inv j P → 4 * j ≤ l.length → P.sent.length ≤ 3000000000000)
    (hs : ∀ j P r, Inv j P → POk P.g.s → 4 * j < l.length → r.body.size ≤ 1000 → (lies = false → r = honR P (chunk l j)) → Inv (j + 1) (stepPl P (chunk l j) r))
    (h : PlAt w y col k P V) (h0 : Inv 0 P) (hk1 : 1 ≤ k) (hv : IntsO w v l col k) (hl : l.length ≤ 17592186044416) (hi : ∀ x ∈ l, I64 x) :
    Calls Try.prog 23 #[.pointer (some ⟨y, 0, none⟩), v, .bool lies] w fun e w' => e = .returned (.tuple #[]) ∧ ∃ j, l.length ≤ 4 * j ∧ 4 * j ≤ l.length + 3 ∧ ∃ P', Inv j P' ∧ PlTo w w' y col k P' := by
  have H0 := hide h0
  have HW := hide hw
  have HA := hide hat
  have HSN := hide hsn
  have HS := hide hs
  have HV := hide hv
  have H := hide h
  have HI := hide hi
  obtain ⟨⟨a, cap, hve, hcap, hcell⟩, hvo⟩ := hv
  subst hve
  clear h h0 hw hat hs hvo hi hsn
  go_enter Try.func23, Try.ntmps23
  go_wp2_with fail
  go_loopw [6] (fun i wr => ∃ j : Nat, i = .int .i64 (4 * j : Nat) ∧ 4 * j ≤ l.length + 3 ∧ Hid (∃ P', Inv j P' ∧ PlTo w wr y col k P')) (fun i _ => l.length + 4 - (intOf i).toNat)
  case atStart => exact ⟨0, rfl, by omega, P, H0.out, PlTo.refl H.out⟩
  case round =>
    obtain ⟨j, rfl, hj, HP⟩ := hrel
    obtain ⟨P', hI', col', V', v', hL', hS'⟩ := HP.out
    by_cases hlt : 4 * j < l.length
    · obtain ⟨ad, rfl, hc⟩ := hcell (by intro e; rw [e] at hlt; simp at hlt)
      have hIQ := HA.out j P' v' hI'
      have hwk := HW.out j _ hIQ
      generalize P'.lay v' = Q at *
      have c29 : wr.cell? ⟨y, 29, none⟩ = some (.bool false) := by rw [← hwk.ok.bad]; exact hL'.cEnd 5
      have hvr := (HV.out.stk hS').a
      have hcr : ∀ (j : Nat) x, l[j]? = some x → wr.cell? (ad.add j) = some (.int .i64 x) := by
        obtain ⟨a2, cap2, e2, -, hc2⟩ := hvr
        obtain ⟨ad2, e3, hc3⟩ := hc2 (by intro e; rw [e] at hlt; simp at hlt)
        simp at e2
        obtain ⟨rfl, -⟩ := e2
        simp at e3; subst e3; exact hc3
      have hlen := chunk_len l j
      have HST := hide (fun n c (hn : n = (chunk l j).length) (hcc : n ≤ c) => step_any y col' k _ j Q V' (chunk l j) (.slice (some (ad.add (4 * j))) n c) lies wr hL' hwk (KnW_ok _) (by omega) (HSN.out j Q hIQ (by omega)) hk1 (chunk_at hcr hcap j n c hn hcc) (by omega) (chunk_i64 HI.out j))
      have HNX := hide (fun r => HS.out j Q r hIQ (hL'.pg id).1.ok hlt)
      have HSS := hide hS'
      have hlt' : ((4 * j : Nat) : Int) < l.length := by omega
      clear hcr hvr hIQ hwk hL' hS' hI' HP hc
      by_cases h4 : 4 * j + 4 ≤ l.length
      · have h4' : ¬ (l.length : Int) < (4 * j : Nat) + 4 := by omega
        have HSX := HST.out 4 (cap - 4 * j) (by omega) (by omega)
        go_wp2_with fail
        refine HSX.mono ?_
        rintro e w2 ⟨rfl, r, hr1, hr2, hT⟩
        have hIn := HNX.out r hr1 hr2
        have HQ : Hid (∃ P', Inv (j + 1) P' ∧ PlTo w w2 y col k P') := ⟨_, hIn, PlTo.trans HSS.out hT⟩
        clear HSX HST HNX hIn hT
        go_wp2_with fail
        exact ⟨⟨j + 1, by go_num, by omega, HQ⟩, by simp [intOf]; omega⟩
      · have h4' : (l.length : Int) < (4 * j : Nat) + 4 := by omega
        have HSX := HST.out (l.length - 4 * j) (cap - 4 * j) (by omega) (by omega)
        go_wp2_with fail
        refine HSX.mono ?_
        rintro e w2 ⟨rfl, r, hr1, hr2, hT⟩
        have hIn := HNX.out r hr1 hr2
        have HQ : Hid (∃ P', Inv (j + 1) P' ∧ PlTo w w2 y col k P') := ⟨_, hIn, PlTo.trans HSS.out hT⟩
        clear HSX HST HNX hIn hT
        go_wp2_with fail
        exact ⟨⟨j + 1, by go_num, by omega, HQ⟩, by simp [intOf]; omega⟩
    · go_wp2_with fail
      go_end0
      exact ⟨rfl, j, by omega, hj, P', hI', col', V', v', hL', hS'⟩
end Go.Proofs.Ytjhihliciadipaa
