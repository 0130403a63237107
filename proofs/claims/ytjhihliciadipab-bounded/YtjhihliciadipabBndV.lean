import Derived.Test.YtjhihliciadipabKB
import Derived.Test.YtjhihliciadipabKW
import Derived.Test.YtjhihliciadipabPheld
set_option linter.unusedVariables false
set_option linter.unusedSimpArgs false
set_option linter.unnecessarySimpa false
namespace Go.Proofs.Ytjhihliciadipab
open Go.RowKit

theorem keys_ne {c : List (Er × ByteArray)} (h : CN c) {i k : Nat} {x z : Er × ByteArray} (hk : k < i) (hx : c[i]? = some x) (hz : c[k]? = some z) : z.1 ≠ x.1 := by
  intro e
  have h1 : (c.map Prod.fst)[i]? = some x.1 := by simp [hx]
  have h2 : (c.map Prod.fst)[k]? = some z.1 := by simp [hz]
  have hi := (List.getElem?_eq_some_iff.1 h1).1
  have hkl := (List.getElem?_eq_some_iff.1 h2).1
  have := List.pairwise_iff_getElem.1 h.nd k i hkl hi hk
  apply this
  rw [(List.getElem?_eq_some_iff.1 h1).2, (List.getElem?_eq_some_iff.1 h2).2]; exact e
theorem usedC_nn (l : List (Er × ByteArray)) : ∀ n, 0 ≤ usedC (l.take n) := by
  intro n
  induction n with
  | zero => simp [usedC]
  | succ n ih =>
    cases h : l[n]? with
    | none =>
      have : l.length ≤ n := by simpa using h
      rw [List.take_of_length_le (by omega)]
      rw [List.take_of_length_le (by omega)] at ih
      exact ih
    | some x => rw [used_take h]; omega

attribute [local go_sem ↓] Go.wp_at_zero Go.wp_at_succ
set_option maxRecDepth 100000 in
set_option maxHeartbeats 8000000 in
theorem within_any (y : Nat) (col : Nat → Nat) (k : Nat) (n : Nat) (P : Pl) (V : Pv) (w : World) (h : PlAt w y col k P V) (hI : PI (KnW P.g.s.blk) n P) (hc : CN P.g.s.cac) :
    Calls Try.prog 7 #[.pointer (some ⟨y, 0, none⟩)] w fun e w' => e = .returned (.bool true) ∧ Ext w w' := by
  have pg := (h.pg id).1
  have hst := hI.j.st
  have hf := hI.si.fair
  have hn8 := hI.ok.n8
  have hn1 := hI.ok.n1
  obtain ⟨aP, capP, hvP, hgP⟩ := own_form (h.pp id).1
  have HC : Hid (∀ w', Ext w w' → w'.cell? ⟨y, 0, none⟩ = some (.pointer (some ⟨P.q, 0, none⟩)) ∧ w'.cell? ⟨y, 2, none⟩ = some (.int .i64 P.g.s.blk) ∧ w'.cell? ⟨y, 3, none⟩ = some (.int .i64 P.g.s.win) ∧ w'.cell? ⟨y, 4, none⟩ = some (.int .i64 P.g.s.cap) ∧ w'.cell? ⟨y, 24, none⟩ = some (.slice aP P.paths.length capP)) := by
    intro w' hE
    refine ⟨ext_cell hE (h.cSt 0 (by omega)), ext_cell hE ?_, ext_cell hE ?_, ext_cell hE ?_, ext_cell hE (by rw [← hvP]; exact h.cEnd 0)⟩
    · rw [← hst.2.1]; exact h.cSt 2 (by omega)
    · rw [← hst.2.2.1]; exact h.cSt 3 (by omega)
    · rw [← hst.2.2.2.1]; exact h.cSt 4 (by omega)
  have HHeld := hide (fun (i : Nat) t (ht : P.g.s.trs[i]? = some t) w' (hE : Ext w w') => HeldP_any P.q i P.g w' (pg.ext hE))
  have HUsed := hide (fun w' (hE : Ext w w') => UsedP_any P.q P.g w' (pg.ext hE))
  have HEnt := hide (fun w' (hE : Ext w w') => EntriesP_any P.q P.g w' (pg.ext hE))
  have HBd := hide (fun (i : Nat) t (ht : P.g.s.trs[i]? = some t) => by
    obtain ⟨T, hT⟩ : ∃ T, P.taken[i]? = some T := ⟨_, List.getElem?_eq_getElem (by rw [hI.si.n]; exact (List.getElem?_eq_some_iff.1 ht).1)⟩
    exact held_le hf.B1 hf.W1 hf.W2 (hI.si.ts i t T ht hT))
  have HCac := hide (fun (i : Nat) (x : Er × ByteArray) (hx : P.g.s.cac[i]? = some x) => And.intro (hI.si.cac x (List.mem_of_getElem? hx)).1 (hc.tt x (List.mem_of_getElem? hx)))
  have HNe := hide (fun (i k : Nat) (x z : Er × ByteArray) (hk : k < i) (hx : P.g.s.cac[i]? = some x) (hz : P.g.s.cac[k]? = some z) => keys_ne hc hk hx hz)
  have hcl := pg.ok.cl
  have HUb := hide (fun j => usedC_bd (P.g.s.cac.take j) (fun x hx => pg.ok.cb x (List.mem_of_mem_take hx)))
  have hcu := pg.cok.cu
  have hyl := h.lt
  have HTr := hide (fun (i : Nat) (hi : i < P.paths.length) => show ∃ t, P.g.s.trs[i]? = some t from ⟨_, List.getElem?_eq_getElem (by rw [hn1]; exact hi)⟩)
  have b1 := hf.B1
  have b2 := hf.B2
  have w1 := hf.W1
  have w2 := hf.W2
  have c2 := hf.c2
  have hWB : 0 ≤ P.g.s.win * P.g.s.blk ∧ P.g.s.win * P.g.s.blk ≤ 64 := by
    have := Int.mul_le_mul w2 b2 (by omega) (show (0 : Int) ≤ 4 by omega)
    have := Int.mul_nonneg (show 0 ≤ P.g.s.win by omega) (show 0 ≤ P.g.s.blk by omega)
    omega
  have hwr : IntKind.i64.wrap (P.g.s.win * P.g.s.blk) = P.g.s.win * P.g.s.blk := (Go.IntWalk.i64_left _).trans (Go.IntWalk.wrap64_in _ (by omega))
  clear pg hst hn1 hgP hvP h hI hc hf
  generalize P.g.s.win = W at *
  generalize P.g.s.blk = B at *
  generalize P.g.s.cap = cap at *
  go_enter Try.func7, Try.ntmps7
  go_wp2_with fail
  go_loopw [3] (fun v wr => ∃ j : Nat, j ≤ P.paths.length ∧ v = .int .i64 j ∧ Ext w wr) (fun v _ => P.paths.length - (intOf v).toNat)
  case atStart => exact ⟨0, Nat.zero_le _, rfl, Below.refl _ _⟩
  case round =>
    obtain ⟨j, hj, rfl, hE⟩ := hrel
    obtain ⟨q0, q2, q3, q4, q24⟩ := HC.out wr hE
    by_cases hlt : j < P.paths.length
    · have hlt' : (j : Int) < P.paths.length := by omega
      obtain ⟨t, ht⟩ := HTr.out j hlt
      have hb := HBd.out j t ht
      have HH := HHeld.out j t ht wr hE
      rw [ansT_yes (hasT_of ht) ht] at HH
      simp only at HH
      generalize pheldSum t.held = hs at *
      clear ht
      go_upto_region 5 with (go_at_call 24; refine HH.mono ?_; rintro e w2 ⟨rfl, hE2⟩)
      have hE02 := Ext.trans' hE hE2
      obtain ⟨r0, r2, r3, r4, r24⟩ := HC.out w2 hE02
      have hyl2 : y < w2.heap.size := Nat.lt_of_lt_of_le hyl hE02.size
      have g1 : ¬ hs < 0 := by omega
      have g2 : ¬ W * B < hs := by omega
      clear q0 q2 q3 q4 q24 HH
      go_quiet (fail)
      go_wp2_with fail
      exact ⟨⟨j + 1, by omega, by go_num, Ext.trans' hE02 (Ext.drewN (Below.refl _ _) _)⟩, by simp [intOf]; omega⟩
    · have HU := HUsed.out wr hE
      go_upto_region 8 with (go_at_call 25; refine HU.mono ?_; rintro e w2 ⟨rfl, hw2⟩; have hw2 := hw2.symm; subst hw2)
      have HN := HEnt.out wr hE
      go_upto_region 9 with (go_at_call 26; refine HN.mono ?_; rintro e w2 ⟨⟨v, rfl, ho⟩, hE2⟩)
      have hE02 := Ext.trans' hE hE2
      obtain ⟨aE, capE, rfl, hgE⟩ := own_form ho
      have HO := hide ho
      have hlen : (P.g.s.cac.map Prod.fst).length = P.g.s.cac.length := by simp
      rw [hlen] at hgE
      generalize hcc : P.g.s.cac = C at *
      clear q0 q2 q3 q4 q24 HU HN HUsed HEnt HHeld HBd HTr ho
      rw [hlen]
      have HCe : Hid (∀ w', Ext w2 w' → ∀ (i : Nat) (x : Er × ByteArray), C[i]? = some x → ∃ g, aE = some ⟨g, 0, none⟩ ∧ w'.cell? ⟨g, i * 4, none⟩ = some (.int .i64 x.1.path) ∧ w'.cell? ⟨g, i * 4 + 1, none⟩ = some (.int .i64 x.1.tag) ∧ w'.cell? ⟨g, i * 4 + 2, none⟩ = some (.int .i64 x.1.tot) ∧ w'.cell? ⟨g, i * 4 + 3, none⟩ = some (.int .i64 x.1.blk)) := by
        intro w' hE' i x hx
        have hil := (List.getElem?_eq_some_iff.1 hx).1
        obtain ⟨g, hg⟩ := hgE (by omega)
        have ho := HO.out
        rw [hg, hlen] at ho
        have hx2 : ((C.map Prod.fst).map perV)[i]? = some (perV x.1) := by simp [hx]
        have cc : ∀ r, r < 4 → w2.cell? ⟨g, i * 4 + r, none⟩ = (perV x.1)[r]? := by
          intro r hr
          have hm : (i + 1) * 4 ≤ C.length * 4 := Nat.mul_le_mul_right 4 (by omega)
          rw [ho.cellAt (i * 4 + r) (by omega), flat_get 4 _ (pers_len _) i r hr, hx2]; rfl
        exact ⟨g, hg, ext_cell hE' (cc 0 (by omega)), ext_cell hE' (cc 1 (by omega)), ext_cell hE' (cc 2 (by omega)), ext_cell hE' (cc 3 (by omega))⟩
      have HGet := hide (fun (i : Nat) (hi : i < C.length) => show ∃ x, C[i]? = some x from ⟨_, List.getElem?_eq_getElem hi⟩)
      have HTake := hide (fun (i : Nat) (x : Er × ByteArray) (hx : C[i]? = some x) => used_take hx)
      have hEw2 := hide hE02
      clear hgE HO hcc hE02 hE2 hE
      go_wp2_with fail
      obtain ⟨wo, hwo⟩ : ∃ wo : World, wo = wr := ⟨_, rfl⟩
      clear hwo
      go_loopw [8, 9] (fun a i wx => ∃ j : Nat, j ≤ C.length ∧ i = .int .i64 j ∧ a = .int .i64 (usedC (C.take j)) ∧ Ext w2 wx) (fun _ i _ => C.length - (intOf i).toNat)
      case atStart => exact ⟨0, Nat.zero_le _, rfl, rfl, Below.refl _ _⟩
      case round =>
        obtain ⟨j, hj, rfl, rfl, hX⟩ := hrel
        have hub := HUb.out j
        have htl := List.length_take_le j C
        have hub2 : 0 ≤ usedC (C.take j) ∧ usedC (C.take j) ≤ 5000 := by omega
        obtain ⟨q0, q2, q3, q4, q24⟩ := HC.out wr (Ext.trans' hEw2.out hX)
        have hyl2 : y < wr.heap.size := Nat.lt_of_lt_of_le hyl (Ext.trans' hEw2.out hX).size
        by_cases hlt : j < C.length
        · have hlt' : (j : Int) < C.length := by omega
          obtain ⟨x, hx⟩ := HGet.out j hlt
          obtain ⟨hD, htt⟩ := HCac.out j x hx
          obtain ⟨hsz, hs1, hb0⟩ := entry_size hD
          obtain ⟨g, rfl, e0, e1, e2, e3⟩ := HCe.out wr hX j x hx
          have HU := hide (HTake.out j x hx)
          have hbB : 0 ≤ x.1.blk * B := Int.mul_nonneg hb0 (by omega)
          have hlt1 : x.1.blk * B < x.1.tot := by split at hsz <;> omega
          have hble : x.1.blk ≤ x.1.blk * B := by
            have := Int.mul_le_mul_of_nonneg_left b1 hb0
            omega
          have hwr2 : IntKind.i64.wrap (x.1.blk * B) = x.1.blk * B := (Go.IntWalk.i64_left _).trans (Go.IntWalk.wrap64_in _ (by omega))
          have HNe1 := hide (fun (k : Nat) (z : Er × ByteArray) (hk : k < j) (hz : C[k]? = some z) => HNe.out j k x z hk hx hz)
          obtain ⟨⟨xp, xg, xo, xb⟩, bytes⟩ := x
          have HXg := hide hx
          simp only at *
          clear hx hD hub htl
          have hnb0 : ¬ xb < 0 := by omega
          by_cases hgt : B < xo - xb * B
          · rw [if_pos hgt] at hsz
            have hs1' : ¬ B < 1 := by omega
            go_upto_region 13 with (fail)
            go_quiet (fail)
            go_wp2_with fail
            obtain ⟨wq, hwq⟩ : ∃ wq : World, wq = wr := ⟨_, rfl⟩
            go_loopw [11] (fun i wz => ∃ k : Nat, k ≤ j ∧ i = .int .i64 k ∧ Ext w2 wz) (fun i _ => j - (intOf i).toNat)
            case atStart => exact ⟨0, Nat.zero_le _, rfl, Ext.drewN hX _⟩
            case round =>
              obtain ⟨k, hk, rfl, hZ⟩ := hrel
              by_cases hkj : k < j
              · have hkj' : (k : Int) < j := by omega
                obtain ⟨z, hz⟩ := HGet.out k (by omega)
                have hkl' : (k : Int) < C.length := by omega
                have hne := HNe1.out k z hkj hz
                obtain ⟨g2, hg2, f0, f1, f2, f3⟩ := HCe.out wr hZ k z hz
                obtain ⟨g3, hg3, h0, h1, h2, h3⟩ := HCe.out wr hZ j _ HXg.out
                simp only [Option.some.injEq, Addr.mk.injEq, and_true] at hg2 hg3
                subst hg2
                subst hg3
                obtain ⟨⟨zp, zg, zo, zb⟩, zbytes⟩ := z
                simp only [ne_eq, Er.mk.injEq] at hne f0 f1 f2 f3 h0 h1 h2 h3
                clear hz
                have HZ := hide hZ
                by_cases t1 : zp = xp
                · subst t1
                  by_cases t2 : zg = xg
                  · subst t2
                    by_cases t3 : zo = xo
                    · subst t3
                      have t4 : (zb == xb) = false := by simpa using hne
                      clear hne
                      go_upto_region 21 with (fail)
                      go_quiet (fail)
                      go_wp2_with fail
                      first | exact ⟨⟨k + 1, by omega, by go_num, Ext.drewN HZ.out _⟩, by simp [intOf]; omega⟩ | exact ⟨by (repeat apply Exists.intro); exact ⟨⟨k + 1, by omega, by go_num, Ext.drewN HZ.out _⟩, rfl⟩, by simp [intOf]; omega⟩
                    · have t3' : (zo == xo) = false := by simpa using t3
                      clear hne
                      go_upto_region 21 with (fail)
                      go_quiet (fail)
                      go_wp2_with fail
                      first | exact ⟨⟨k + 1, by omega, by go_num, Ext.drewN HZ.out _⟩, by simp [intOf]; omega⟩ | exact ⟨by (repeat apply Exists.intro); exact ⟨⟨k + 1, by omega, by go_num, Ext.drewN HZ.out _⟩, rfl⟩, by simp [intOf]; omega⟩
                  · have t2' : (zg == xg) = false := by simpa using t2
                    clear hne
                    go_upto_region 21 with (fail)
                    go_quiet (fail)
                    go_wp2_with fail
                    first | exact ⟨⟨k + 1, by omega, by go_num, Ext.drewN HZ.out _⟩, by simp [intOf]; omega⟩ | exact ⟨by (repeat apply Exists.intro); exact ⟨⟨k + 1, by omega, by go_num, Ext.drewN HZ.out _⟩, rfl⟩, by simp [intOf]; omega⟩
                · have t1' : (zp == xp) = false := by simpa using t1
                  clear hne
                  go_upto_region 21 with (fail)
                  go_quiet (fail)
                  go_wp2_with fail
                  first | exact ⟨⟨k + 1, by omega, by go_num, Ext.drewN HZ.out _⟩, by simp [intOf]; omega⟩ | exact ⟨by (repeat apply Exists.intro); exact ⟨⟨k + 1, by omega, by go_num, Ext.drewN HZ.out _⟩, rfl⟩, by simp [intOf]; omega⟩
              · obtain rfl : k = j := by omega
                have HZ := hide hZ
                clear hZ
                go_wp2_with fail
                have HV : usedC (C.take (k + 1)) = usedC (C.take k) + B := by rw [HU.out, hsz]
                first | exact ⟨⟨k + 1, by omega, by go_num, by rw [HV], HZ.out⟩, by simp [intOf]; omega⟩ | exact ⟨by (repeat apply Exists.intro); exact ⟨⟨k + 1, by omega, by go_num, by rw [HV], HZ.out⟩, rfl⟩, by simp [intOf]; omega⟩
          · rw [if_neg hgt] at hsz
            have hs1' : ¬ (xo - xb * B) < 1 := by omega
            go_upto_region 13 with (fail)
            go_quiet (fail)
            go_wp2_with fail
            obtain ⟨wq, hwq⟩ : ∃ wq : World, wq = wr := ⟨_, rfl⟩
            go_loopw [11] (fun i wz => ∃ k : Nat, k ≤ j ∧ i = .int .i64 k ∧ Ext w2 wz) (fun i _ => j - (intOf i).toNat)
            case atStart => exact ⟨0, Nat.zero_le _, rfl, Ext.drewN hX _⟩
            case round =>
              obtain ⟨k, hk, rfl, hZ⟩ := hrel
              by_cases hkj : k < j
              · have hkj' : (k : Int) < j := by omega
                obtain ⟨z, hz⟩ := HGet.out k (by omega)
                have hkl' : (k : Int) < C.length := by omega
                have hne := HNe1.out k z hkj hz
                obtain ⟨g2, hg2, f0, f1, f2, f3⟩ := HCe.out wr hZ k z hz
                obtain ⟨g3, hg3, h0, h1, h2, h3⟩ := HCe.out wr hZ j _ HXg.out
                simp only [Option.some.injEq, Addr.mk.injEq, and_true] at hg2 hg3
                subst hg2
                subst hg3
                obtain ⟨⟨zp, zg, zo, zb⟩, zbytes⟩ := z
                simp only [ne_eq, Er.mk.injEq] at hne f0 f1 f2 f3 h0 h1 h2 h3
                clear hz
                have HZ := hide hZ
                by_cases t1 : zp = xp
                · subst t1
                  by_cases t2 : zg = xg
                  · subst t2
                    by_cases t3 : zo = xo
                    · subst t3
                      have t4 : (zb == xb) = false := by simpa using hne
                      clear hne
                      go_upto_region 21 with (fail)
                      go_quiet (fail)
                      go_wp2_with fail
                      first | exact ⟨⟨k + 1, by omega, by go_num, Ext.drewN HZ.out _⟩, by simp [intOf]; omega⟩ | exact ⟨by (repeat apply Exists.intro); exact ⟨⟨k + 1, by omega, by go_num, Ext.drewN HZ.out _⟩, rfl⟩, by simp [intOf]; omega⟩
                    · have t3' : (zo == xo) = false := by simpa using t3
                      clear hne
                      go_upto_region 21 with (fail)
                      go_quiet (fail)
                      go_wp2_with fail
                      first | exact ⟨⟨k + 1, by omega, by go_num, Ext.drewN HZ.out _⟩, by simp [intOf]; omega⟩ | exact ⟨by (repeat apply Exists.intro); exact ⟨⟨k + 1, by omega, by go_num, Ext.drewN HZ.out _⟩, rfl⟩, by simp [intOf]; omega⟩
                  · have t2' : (zg == xg) = false := by simpa using t2
                    clear hne
                    go_upto_region 21 with (fail)
                    go_quiet (fail)
                    go_wp2_with fail
                    first | exact ⟨⟨k + 1, by omega, by go_num, Ext.drewN HZ.out _⟩, by simp [intOf]; omega⟩ | exact ⟨by (repeat apply Exists.intro); exact ⟨⟨k + 1, by omega, by go_num, Ext.drewN HZ.out _⟩, rfl⟩, by simp [intOf]; omega⟩
                · have t1' : (zp == xp) = false := by simpa using t1
                  clear hne
                  go_upto_region 21 with (fail)
                  go_quiet (fail)
                  go_wp2_with fail
                  first | exact ⟨⟨k + 1, by omega, by go_num, Ext.drewN HZ.out _⟩, by simp [intOf]; omega⟩ | exact ⟨by (repeat apply Exists.intro); exact ⟨⟨k + 1, by omega, by go_num, Ext.drewN HZ.out _⟩, rfl⟩, by simp [intOf]; omega⟩
              · obtain rfl : k = j := by omega
                have HZ := hide hZ
                clear hZ
                go_wp2_with fail
                have HV : usedC (C.take (k + 1)) = usedC (C.take k) + (xo - xb * B) := by rw [HU.out, hsz]
                first | exact ⟨⟨k + 1, by omega, by go_num, by rw [HV], HZ.out⟩, by simp [intOf]; omega⟩ | exact ⟨by (repeat apply Exists.intro); exact ⟨⟨k + 1, by omega, by go_num, by rw [HV], HZ.out⟩, rfl⟩, by simp [intOf]; omega⟩
        · obtain rfl : j = C.length := by omega
          have hf : C.take C.length = C := List.take_of_length_le (Nat.le_refl _)
          rw [hf] at hub2 ⊢
          have HX := hide (Ext.trans' hEw2.out hX)
          clear hX hub htl
          generalize usedC C = uc at *
          go_wp2_with fail
          go_ret
          exact ⟨by simp [hcu], HX.out⟩
end Go.Proofs.Ytjhihliciadipab
