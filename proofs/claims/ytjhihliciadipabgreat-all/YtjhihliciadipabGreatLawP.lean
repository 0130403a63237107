import Derived.Test.YtjhihliciadipabGreatRep
import Derived.Test.YtjhihliciadipabGreatHead
set_option linter.unusedVariables false
set_option linter.unusedSimpArgs false
set_option linter.unnecessarySimpa false
namespace Go.Proofs.YtjhihliciadipabGreat
open Go.RowKit

/-- What an owner wrote. -/
def mkV (m : Int) : List Value := [.int .i64 (-1), .int .i64 m, .int .i64 (-m), .int .i64 m]
/-- A list that came out reads as its owner wrote it; its block has the colour 5. -/
def MkAt (w : World) (col : Nat → Nat) (v : Value) (m : Int) : Prop := ∃ (a : Option Addr) (n cap : Nat), v = .slice a n cap ∧ n ≤ 8000000000000 ∧
  (0 < n → ∃ b, a = some ⟨b, 0, none⟩ ∧ b < w.heap.size ∧ col b = 5 ∧ ∀ i, i < n → ∀ r, r < 4 → w.cell? ⟨b, i * 4 + r, none⟩ = (mkV m)[r]?)

theorem num_any (n : Int) (w : World) : Calls Tryz.prog 17 #[.int .i64 n] w fun e w' => e = .returned (.int .i64 n) ∧ w' = w := by
  go_enter Tryz.func17, Tryz.ntmps17
  go_wp2_with fail
  go_ret
  exact ⟨rfl, rfl⟩

def pickL (c n : Int) : Int := if c < 0 then (-(c + 1)) % n else c % n
theorem pickL_bd (c : Int) (n : Nat) (h : 0 < n) : ∃ k : Nat, pickL c n = k ∧ k < n := by
  have h1 : (0 : Int) < n := by omega
  unfold pickL
  split
  · exact ⟨((-(c + 1)) % (n : Int)).toNat, by have := Int.emod_nonneg (-(c + 1)) (show (n : Int) ≠ 0 by omega); omega, by have := Int.emod_lt_of_pos (-(c + 1)) h1; omega⟩
  · exact ⟨(c % (n : Int)).toNat, by have := Int.emod_nonneg c (show (n : Int) ≠ 0 by omega); omega, by have := Int.emod_lt_of_pos c h1; omega⟩
theorem pick_any (c : Int) (n : Nat) (w : World) (h : 0 < n) (hn : n ≤ 8000000000000) (h0 : -9223372036854775808 ≤ c) (h1 : c ≤ 9223372036854775807) :
    Calls Tryz.prog 10 #[.int .i64 c, .int .i64 n] w fun e w' => e = .returned (.int .i64 (pickL c n)) ∧ w' = w := by
  have hn0 : ¬ ((n : Int) = 0) := by omega
  unfold pickL
  by_cases hc : c < 0
  · rw [if_pos hc]
    go_enter Tryz.func10, Tryz.ntmps10
    go_wp2_with fail
    go_ret
    exact ⟨ret_int (by rw [← Int.neg_tmod, Int.tmod_eq_emod_of_nonneg (by omega)]), rfl⟩
  · rw [if_neg hc]
    go_enter Tryz.func10, Tryz.ntmps10
    go_wp2_with fail
    go_ret
    exact ⟨rfl, rfl⟩

theorem mark_any (m : Int) (w : World) (h0 : 0 ≤ m) (h1 : m ≤ 8000000000000) :
    Calls Tryz.prog 14 #[.int .i64 m] w fun e w' => e = .returned (.agg #[.int .i64 (-1), .int .i64 m, .int .i64 (-m), .int .i64 m]) ∧ Ext w w' := by
  go_enter Tryz.func14, Tryz.ntmps14
  go_wp2_with fail
  refine bodyPost_ret (v := .agg #[.int .i64 (-1), .int .i64 m, .int .i64 (-m), .int .i64 m]) (by simp [results, Tryz.results14, go_sem]) rfl ⟨rfl, Ext.new _ _⟩

/-- A Bool comes back. -/
def BoolRet (e : Ending) : Prop := ∃ b : Bool, e = .returned (.bool b)
theorem same_nil (v : Value) (n : Nat) (w : World) (hv : ∃ a cap, v = .slice a n cap) (hn : n ≤ 1000000) :
    Calls Tryz.prog 38 #[.slice none 0 0, v] w fun e w' => BoolRet e ∧ w' = w := by
  obtain ⟨a, cap, rfl⟩ := hv
  by_cases h0 : n = 0
  · subst h0
    go_enter Tryz.func38, Tryz.ntmps38
    go_wp2_with fail
    go_loop [5] (fun k => k = .int .i64 0) (fun _ => 0)
    case atStart => rfl
    case round =>
      subst hrel
      go_wp2_with fail
      go_ret
      exact ⟨⟨_, rfl⟩, rfl⟩
  · have h1 : ¬ ((0 : Int) = n) := by omega
    go_enter Tryz.func38, Tryz.ntmps38
    go_wp2_with fail
    go_ret
    exact ⟨⟨_, rfl⟩, rfl⟩

set_option maxRecDepth 100000 in
set_option maxHeartbeats 2000000 in
theorem whole_any (W : Nat) (vP vR vL vM : Value) (lists : List Value) (marks : List Int) (col : Nat → Nat) (w : World) (hB : Blk w W 31 #[vP, vR, vL, vM]) (hL : w.ownsRow 0 40 1 vL lists.length lists)
    (hM : w.ownsRow 0 3 1 vM marks.length (marks.map (Value.int .i64))) (hlm : lists.length = marks.length) (hmk : ∀ (k : Nat) v m, lists[k]? = some v → marks[k]? = some m → MkAt w col v m)
    (hmb : ∀ m ∈ marks, 0 ≤ m ∧ m ≤ 8000000000000) (hn : lists.length ≤ 8000000000000) :
    Calls Tryz.prog 8 #[.pointer (some ⟨W, 0, none⟩)] w fun e w' => e = .returned (.bool true) ∧ Ext w w' := by
  have hcL : w.cell? ⟨W, 2, none⟩ = some vL := hB.cell 2
  have hcM : w.cell? ⟨W, 3, none⟩ = some vM := hB.cell 3
  obtain ⟨aL, capL, hvL, hgL⟩ := own_form hL
  obtain ⟨aM, capM, hvM, hgM⟩ := own_form hM
  rw [hvL] at hcL hL
  rw [hvM] at hcM hM
  rw [← hlm] at hcM hgM
  have HM := hide hM
  have HK := hide hmk
  have HB := hide hmb
  have HLM := hide hlm
  clear hM hmk hmb hlm hvL hvM hB
  go_enter Tryz.func8, Tryz.ntmps8
  go_wp2_with fail
  go_loopw [3] (fun i wr => ∃ k : Nat, k ≤ lists.length ∧ i = .int .i64 k ∧ Ext w wr) (fun i _ => lists.length - (intOf i).toNat)
  case atStart => exact ⟨0, Nat.zero_le _, rfl, Below.refl _ _⟩
  case round =>
    obtain ⟨k, hk, rfl, hE⟩ := hrel
    have cL := ext_cell hE hcL
    by_cases hlt : k < lists.length
    · obtain ⟨gL, rfl⟩ := hgL (by omega)
      obtain ⟨gM, rfl⟩ := hgM (by omega)
      have hkm : k < marks.length := by rw [← HLM.out]; exact hlt
      obtain ⟨a, n, cap, hv, hn1, hr⟩ := HK.out k lists[k] marks[k] (by simp [hlt]) (by simp [hkm])
      have cv : wr.cell? ⟨gL, k, none⟩ = some (.slice a n cap) := by
        have h1 := hL.cellAt k (by omega)
        rw [← hv]; exact ext_cell hE (by rw [h1]; simp [hlt])
      have cm : wr.cell? ⟨gM, k, none⟩ = some (.int .i64 marks[k]) := by
        have h1 := HM.out.cellAt k (by omega)
        exact ext_cell hE (by rw [h1]; simp [hkm])
      have hm0 := (HB.out marks[k] (List.getElem_mem hkm)).1
      have hm1 := (HB.out marks[k] (List.getElem_mem hkm)).2
      have cM := ext_cell hE hcM
      have HR := hide hr
      clear hr hv
      generalize marks[k] = m at *
      clear hkm hgL hgM
      have hlt' : (k : Int) < lists.length := by omega
      go_wp2_with fail
      go_loopw [5] (fun i wq => ∃ j : Nat, j ≤ n ∧ i = .int .i64 j ∧ Ext wr wq) (fun i _ => n - (intOf i).toNat)
      case atStart => exact ⟨0, Nat.zero_le _, rfl, Below.refl _ _⟩
      case round =>
        obtain ⟨j, hj, rfl, hE2⟩ := hrel
        by_cases hlt2 : j < n
        · obtain ⟨b, rfl, hb, -, hcell⟩ := HR.out (by omega)
          have dM := ext_cell hE2 cM
          have dm := ext_cell hE2 cm
          have q0 : wr.cell? ⟨b, j * 4, none⟩ = some (.int .i64 (-1)) := ext_cell hE2 (ext_cell hE (hcell j hlt2 0 (by omega)))
          have q1 : wr.cell? ⟨b, j * 4 + 1, none⟩ = some (.int .i64 m) := ext_cell hE2 (ext_cell hE (hcell j hlt2 1 (by omega)))
          have q2 : wr.cell? ⟨b, j * 4 + 2, none⟩ = some (.int .i64 (-m)) := ext_cell hE2 (ext_cell hE (hcell j hlt2 2 (by omega)))
          have q3 : wr.cell? ⟨b, j * 4 + 3, none⟩ = some (.int .i64 m) := ext_cell hE2 (ext_cell hE (hcell j hlt2 3 (by omega)))
          have hlt2' : (j : Int) < n := by omega
          have hjw : IntKind.i64.wrap ((j : Int) + 1) = (j : Int) + 1 := (Go.IntWalk.i64_left _).trans (Go.IntWalk.wrap64_in _ (by omega))
          clear cL cv hcL hcM HK HB HLM HM hcell
          go_wp2_with fail
          go_region_with (go_at_call 14; refine (mark_any m _ hm0 hm1).mono ?_; rintro e w5 ⟨rfl, hE5⟩; have r0 := ext_cell hE5.undrew q0; have r1 := ext_cell hE5.undrew q1; have r2 := ext_cell hE5.undrew q2; have r3 := ext_cell hE5.undrew q3)
          all_goals go_wp2_with fail
          all_goals exact ⟨⟨j + 1, by omega, by go_num, Ext.trans' hE2 hE5.undrew⟩, by simp [intOf]; omega⟩
        · go_wp2_with fail
          exact ⟨⟨k + 1, by omega, by go_num, Ext.trans' hE hE2⟩, by simp [intOf]; omega⟩
    · go_wp2_with fail
      go_ret
      exact ⟨rfl, hE⟩
end Go.Proofs.YtjhihliciadipabGreat

namespace Go.Proofs.YtjhihliciadipabGreat
open Go.RowKit

/-- An entry. -/
def erV (x : Int × Int × Int × Int) : List Value := [.int .i64 x.1, .int .i64 x.2.1, .int .i64 x.2.2.1, .int .i64 x.2.2.2]
theorem ers_len (l : List (Int × Int × Int × Int)) : ∀ r ∈ l.map erV, r.length = 4 := by intro r hr; rw [List.mem_map] at hr; obtain ⟨j, _, rfl⟩ := hr; rfl

set_option maxRecDepth 100000 in
set_option maxHeartbeats 2000000 in
theorem same_any (va vb : Value) (ra rb : List (Int × Int × Int × Int)) (w : World) (ha : w.ownsRow 0 42 4 va ra.length (ra.map erV).flatten) (hb : w.ownsRow 0 42 4 vb rb.length (rb.map erV).flatten) (hn : ra.length ≤ 8000000000000) (hn2 : rb.length ≤ 8000000000000) :
    Calls Tryz.prog 38 #[va, vb] w fun e w' => e = .returned (.bool (decide (ra = rb))) ∧ Ext w w' := by
  obtain ⟨aA, capA, hvA, hgA⟩ := own_form ha
  obtain ⟨aB, capB, hvB, hgB⟩ := own_form hb
  rw [hvA] at ha
  rw [hvB] at hb
  subst hvA hvB
  by_cases hlen : ra.length = rb.length
  · rw [← hlen] at hb hgB
    have HL := hide hlen
    have HA := hide ha
    have HB := hide hb
    rw [← hlen]
    clear ha hb hlen
    go_enter Tryz.func38, Tryz.ntmps38
    go_wp2_with fail
    go_loopw [5] (fun i wr => ∃ k : Nat, k ≤ ra.length ∧ i = .int .i64 k ∧ Hid (ra.take k = rb.take k) ∧ ∃ nq, wr = w.drewN nq) (fun i _ => ra.length - (intOf i).toNat)
    case atStart => exact ⟨0, Nat.zero_le _, rfl, rfl, 0, rfl⟩
    case round =>
      obtain ⟨k, hk, rfl, HT, nq, rfl⟩ := hrel
      by_cases hlt : k < ra.length
      · have hltb : k < rb.length := by rw [← HL.out]; exact hlt
        obtain ⟨gA, rfl⟩ := hgA (by omega)
        obtain ⟨gB, rfl⟩ := hgB (by omega)
        have cA : ∀ r, r < 4 → w.cell? ⟨gA, k * 4 + r, none⟩ = (erV ra[k])[r]? := by
          intro r hr
          rw [HA.out.cellAt (k * 4 + r) (by have : (k + 1) * 4 ≤ ra.length * 4 := Nat.mul_le_mul_right 4 hlt; omega), flat_get 4 _ (ers_len _) k r hr]; simp [hlt]
        have cB : ∀ r, r < 4 → w.cell? ⟨gB, k * 4 + r, none⟩ = (erV rb[k])[r]? := by
          intro r hr
          rw [HB.out.cellAt (k * 4 + r) (by have : (k + 1) * 4 ≤ ra.length * 4 := Nat.mul_le_mul_right 4 hlt; omega), flat_get 4 _ (ers_len _) k r hr]; simp [hltb]
        have HX : Hid (ra.take (k + 1) = ra.take k ++ [ra[k]]) := List.take_succ_eq_append_getElem hlt
        have HY : Hid (rb.take (k + 1) = rb.take k ++ [rb[k]]) := List.take_succ_eq_append_getElem hltb
        have HD : Hid (ra[k] ≠ rb[k] → ra ≠ rb) := fun hne e => hne (by subst e; rfl)
        generalize hxa : ra[k] = xa at *
        generalize hxb : rb[k] = xb at *
        clear hxa hxb
        obtain ⟨a0, a1, a2, a3⟩ := xa
        obtain ⟨b0, b1, b2, b3⟩ := xb
        have p0 : w.cell? ⟨gA, k * 4, none⟩ = some (.int .i64 a0) := cA 0 (by omega)
        have p1 : w.cell? ⟨gA, k * 4 + 1, none⟩ = some (.int .i64 a1) := cA 1 (by omega)
        have p2 : w.cell? ⟨gA, k * 4 + 2, none⟩ = some (.int .i64 a2) := cA 2 (by omega)
        have p3 : w.cell? ⟨gA, k * 4 + 3, none⟩ = some (.int .i64 a3) := cA 3 (by omega)
        have q0 : w.cell? ⟨gB, k * 4, none⟩ = some (.int .i64 b0) := cB 0 (by omega)
        have q1 : w.cell? ⟨gB, k * 4 + 1, none⟩ = some (.int .i64 b1) := cB 1 (by omega)
        have q2 : w.cell? ⟨gB, k * 4 + 2, none⟩ = some (.int .i64 b2) := cB 2 (by omega)
        have q3 : w.cell? ⟨gB, k * 4 + 3, none⟩ = some (.int .i64 b3) := cB 3 (by omega)
        have hlt' : (k : Int) < ra.length := by omega
        have hjw : IntKind.i64.wrap ((k : Int) + 1) = (k : Int) + 1 := (Go.IntWalk.i64_left _).trans (Go.IntWalk.wrap64_in _ (by omega))
        clear cA cB hgA hgB hltb
        go_wp2_with fail
        by_cases e0 : a0 = b0
        · subst e0
          by_cases e1 : a1 = b1
          · subst e1
            by_cases e2 : a2 = b2
            · subst e2
              by_cases e3 : a3 = b3
              · subst e3
                have HQ : Hid (ra.take (k + 1) = rb.take (k + 1)) := by show _ = _; rw [HX.out, HY.out, HT.out]
                clear HX HY HD HT
                go_quiet (fail)
                go_wp2_with fail
                exact ⟨⟨k + 1, by omega, by go_num, HQ, _, rfl⟩, by simp [intOf]; omega⟩
              · have HQ : Hid (ra ≠ rb) := HD.out (by simp [e3])
                clear HX HY HD HT
                go_quiet (fail)
                go_wp2_with fail
                go_ret
                exact ⟨ret_bool (by simp [HQ.out]), Ext.drewN (Ext.drewN (Below.refl _ _) _) _⟩
            · have HQ : Hid (ra ≠ rb) := HD.out (by simp [e2])
              clear HX HY HD HT
              go_quiet (fail)
              go_wp2_with fail
              go_ret
              exact ⟨ret_bool (by simp [HQ.out]), Ext.drewN (Ext.drewN (Below.refl _ _) _) _⟩
          · have HQ : Hid (ra ≠ rb) := HD.out (by simp [e1])
            clear HX HY HD HT
            go_quiet (fail)
            go_wp2_with fail
            go_ret
            exact ⟨ret_bool (by simp [HQ.out]), Ext.drewN (Ext.drewN (Below.refl _ _) _) _⟩
        · have HQ : Hid (ra ≠ rb) := HD.out (by simp [e0])
          clear HX HY HD HT
          go_quiet (fail)
          go_wp2_with fail
          go_ret
          exact ⟨ret_bool (by simp [HQ.out]), Ext.drewN (Ext.drewN (Below.refl _ _) _) _⟩
      · have hkk : k = ra.length := by omega
        have HE : Hid (ra = rb) := by
          have h1 := HT.out
          have h2 := HL.out
          show _ = _
          rw [hkk, List.take_length, h2, List.take_length] at h1; exact h1
        clear hgA hgB
        go_wp2_with fail
        go_ret
        exact ⟨ret_bool (by simp [HE.out]), Ext.drewN (Below.refl _ _) nq⟩
  · have hne : ¬ ((ra.length : Int) = rb.length) := by omega
    have HN : Hid (ra ≠ rb) := fun e => hlen (by rw [e])
    clear ha hb hgA hgB
    go_enter Tryz.func38, Tryz.ntmps38
    go_wp2_with fail
    go_ret
    exact ⟨ret_bool (by simp [HN.out]), Below.refl _ _⟩
end Go.Proofs.YtjhihliciadipabGreat
