import Derived.Test.YtjhihliciadipabGreatPbind
set_option linter.unusedVariables false
set_option linter.unusedSimpArgs false
set_option linter.unnecessarySimpa false
namespace Go.Proofs.YtjhihliciadipabGreat
open Go.RowKit

theorem goT_zero (a b : Int) (t : Tr) (k : Int) : goT a b t k 0 = t := rfl
theorem goT_succ (a b : Int) (t : Tr) (k : Int) (n : Nat) : goT a b t k (n + 1) = if a ≤ k + (n : Nat) ∧ k + (n : Nat) < b then goT a b t k n else holdT (goT a b t k n) (k + (n : Nat)) ByteArray.empty := by
  simp [goT, List.range_succ]
theorem go_same (t : Tr) (h : t.held.length = 4) (k : Int) (body : ByteArray) : (holdT t k body).held.length = 4 := by simp [holdT, h]

set_option maxRecDepth 100000 in
set_option maxHeartbeats 1000000 in
theorem letGo_any (b o : Nat) (t : Tr) (f e : Int) (s : Px) (w : World) (h : TrAt w b o t) (ok : TrOk t) (hf : Fair s) (hf0 : 0 ≤ f) (hf1 : f ≤ 1001) (he : e ≤ 1001) :
    Calls Tryz.prog 97 #[.pointer (some ⟨b, o, none⟩), .int .i64 f, .int .i64 e, setAgg s] w fun r w' => r = .returned (.tuple #[]) ∧ TrTo w w' b o (goT (winT s.blk s.win t).1 (winT s.blk s.win t).2 t f (e - f).toNat) := by
  have hlt := h.lt
  have hE := Ext.new w (.cells #[.int .i64 s.mir, .int .i64 s.blk, .int .i64 s.win, .int .i64 s.cap, .int .i64 s.tri] 45)
  have hWA := pwindow_any b o t s _ (h.ext hE) ok hf
  have hbd := winT_bd ok hf
  rw [setAgg_eq] at *
  generalize (winT s.blk s.win t).1 = x at *
  generalize (winT s.blk s.win t).2 = y at *
  clear hf
  go_enter Tryz.func97, Tryz.ntmps97
  go_wp2_with fail
  refine hWA.mono ?_
  rintro r w1 ⟨rfl, hE1⟩
  have hT1 := TrTo.ext0 h (Ext.trans' hE hE1)
  clear hWA hE hE1
  go_wp2_with fail
  go_loopg [10] (e - f).toNat (fun g v wr => ∃ n : Nat, g = (e - f).toNat - n ∧ n ≤ (e - f).toNat ∧ v = .int .i64 (f + n) ∧ TrTo w wr b o (goT x y t f n))
  case atStart => exact ⟨0, by omega, by omega, by simp, hT1⟩
  case round =>
    obtain ⟨n, rfl, hn, rfl, hTn⟩ := hrel
    by_cases hlt2 : f + n < e
    · obtain ⟨K, hK⟩ := Int.eq_ofNat_of_zero_le (show 0 ≤ f + n by omega)
      have HG := hide (goT_succ x y t f n)
      have hA := hTn.at
      have c14 := hA.ch (K % 4) (by omega)
      have hfz := hA.fz
      have hltr := hA.lt
      rw [hK] at HG hlt2 ⊢
      have HK := hide hK
      clear hK
      by_cases hin : x ≤ (K : Int) ∧ (K : Int) < y
      · obtain ⟨hin1, hin2⟩ := hin
        go_wp2_with fail
        go_roundg ((e - f).toNat - (n + 1))
        case measure => have := HK.out; omega
        case rel =>
          refine ⟨n + 1, rfl, by have := HK.out; omega, by have := HK.out; congr 1; omega, ?_⟩
          rw [HG.out, if_pos ⟨hin1, hin2⟩]; exact hTn
      · have hg : TrTo w (wr.setCell ⟨b, o + (14 + K % 4), none⟩ (.string ByteArray.empty)) b o (goT x y t f (n + 1)) := by
          rw [HG.out, if_neg hin]
          refine hTn.set (14 + K % 4) (by omega) _ ?_ (go_same _ hTn.hl _ _)
          rw [trV_held _ _ (by omega) hTn.hl]; unfold holdT; rw [mod4]
        have HGo := hide hg
        clear hg
        have hor : (decide ((K : Int) < x) || decide (y ≤ (K : Int))) = true := by simp; omega
        by_cases hx : (K : Int) < x
        · go_wp2_with fail
          go_roundg ((e - f).toNat - (n + 1))
          case measure => have := HK.out; omega
          case rel =>
            refine ⟨n + 1, rfl, by have := HK.out; omega, by have := HK.out; congr 1; omega, ?_⟩
            rw [Nat.add_assoc]; exact HGo.out
        · have hy : y ≤ (K : Int) := by omega
          go_wp2_with fail
          go_roundg ((e - f).toNat - (n + 1))
          case measure => have := HK.out; omega
          case rel =>
            refine ⟨n + 1, rfl, by have := HK.out; omega, by have := HK.out; congr 1; omega, ?_⟩
            rw [Nat.add_assoc]; exact HGo.out
    · have hnn : n = (e - f).toNat := by omega
      go_wp2_with fail
      go_end0
      exact ⟨rfl, hnn ▸ hTn⟩

def catT (t : Tr) (k : Int) (n : Nat) : ByteArray := (List.range n).foldl (fun r j => r ++ heldAt t (k + (j : Nat))) ByteArray.empty
theorem catT_succ (t : Tr) (k : Int) (n : Nat) : catT t k (n + 1) = catT t k n ++ heldAt t (k + (n : Nat)) := by simp [catT, List.range_succ]
theorem heldAt_le {t : Tr} (ok : TrOk t) (k : Int) : (heldAt t k).size ≤ 16 := by
  unfold heldAt
  rw [List.getD_eq_getElem?_getD]
  by_cases h : (k % 4).toNat < t.held.length
  · rw [List.getElem?_eq_getElem h]; exact ok.hb _ (List.getElem_mem _)
  · rw [List.getElem?_eq_none (by omega)]; simp
theorem catT_size {t : Tr} (ok : TrOk t) (k : Int) (n : Nat) : (catT t k n).size ≤ 16 * n := by
  induction n with
  | zero => simp [catT]
  | succ n ih => rw [catT_succ, ByteArray.size_append]; have := heldAt_le ok (k + (n : Nat)); omega
theorem runT_split (t : Tr) (c : Nat) : ∀ (n : Nat) (k : Int), n ≤ c → (∀ j : Nat, j < n → (heldAt t (k + (j : Nat))).toList.isEmpty = false) → runT t k c = catT t k n ++ runT t (k + (n : Nat)) (c - n) := by
  intro n
  induction n with
  | zero => intro k _ _; simp [catT]
  | succ n ih =>
    intro k hn hj
    rw [ih k (by omega) (fun j h => hj j (by omega)), catT_succ, show c - n = (c - (n + 1)) + 1 from by omega]
    have h1 := hj n (by omega)
    conv => lhs; rw [runT]
    rw [h1]
    simp only [Bool.false_eq_true, if_false]
    rw [ByteArray.append_assoc]
    congr 3
    push_cast
    omega
theorem runT_end (t : Tr) (k : Int) (c n : Nat) (hn : n ≤ c) (hj : ∀ j : Nat, j < n → (heldAt t (k + (j : Nat))).toList.isEmpty = false) (he : n = c ∨ (heldAt t (k + (n : Nat))).toList.isEmpty = true) : runT t k c = catT t k n := by
  rw [runT_split t c n k hn hj]
  rcases he with rfl | he
  · simp [runT]
  · rcases Nat.lt_or_ge n c with h | h
    · rw [show c - n = (c - (n + 1)) + 1 from by omega, runT, he]; simp
    · rw [show c - n = 0 from by omega]; simp [runT]
end Go.Proofs.YtjhihliciadipabGreat

namespace Go.Proofs.YtjhihliciadipabGreat
open Go.RowKit

theorem takeT_none {B W n : Int} {t : Tr} {x y : Int} (hx : (winT B W t).1 = x) (hy : (winT B W t).2 = y) (h : ((runT t x (y - x).toNat).size : Int) ≤ t.hd.frm + t.taken - x * B) :
    takeT B W n t = (ByteArray.empty, t) := by
  unfold takeT
  subst hx hy
  simp only
  rw [if_pos h]
theorem takeT_some {B W n : Int} {t : Tr} {x y : Int} (hx : (winT B W t).1 = x) (hy : (winT B W t).2 = y) (h : ¬ ((runT t x (y - x).toNat).size : Int) ≤ t.hd.frm + t.taken - x * B) :
    takeT B W n t = ((runT t x (y - x).toNat).extract (t.hd.frm + t.taken - x * B).toNat (t.hd.frm + t.taken - x * B + takeN t (runT t x (y - x).toNat).size (t.hd.frm + t.taken - x * B) n).toNat,
      goT (winT B W { t with taken := t.taken + takeN t (runT t x (y - x).toNat).size (t.hd.frm + t.taken - x * B) n }).1 (winT B W { t with taken := t.taken + takeN t (runT t x (y - x).toNat).size (t.hd.frm + t.taken - x * B) n }).2
        { t with taken := t.taken + takeN t (runT t x (y - x).toNat).size (t.hd.frm + t.taken - x * B) n } x (y - x).toNat) := by
  unfold takeT
  subst hx hy
  simp only
  rw [if_neg h]

theorem win_low {t : Tr} {s : Px} (ok : TrOk t) (hf : Fair s) : (winT s.blk s.win t).1 * s.blk ≤ t.hd.frm + t.taken := by
  have hB1 := hf.B1
  have hr0 := ok.r0
  have hk0 := ok.k0
  unfold winT
  split
  · simp; omega
  · split
    · simp; omega
    · split
      · simp; omega
      · exact Int.ediv_mul_le _ (by omega)

theorem takeN_bd {t : Tr} (ok : TrOk t) (run frm n : Int) (h : frm < run) (hn : 0 ≤ n) : 0 ≤ takeN t run frm n ∧ takeN t run frm n ≤ run - frm ∧ takeN t run frm n ≤ t.hd.len - t.taken ∧ takeN t run frm n ≤ n := by
  have := ok.k1
  unfold takeN atM
  split <;> split <;> omega

set_option maxRecDepth 100000 in
set_option maxHeartbeats 2000000 in
theorem take_any (b o : Nat) (t : Tr) (n : Int) (s : Px) (w : World) (h : TrAt w b o t) (ok : TrOk t) (hf : Fair s) (hn : 0 ≤ n) (ok1 : ∀ k, 0 ≤ k → k ≤ t.hd.len - t.taken → TrOk { t with taken := t.taken + k }) :
    Calls Tryz.prog 66 #[.pointer (some ⟨b, o, none⟩), .int .i64 n, setAgg s] w fun r w' => r = .returned (.string (takeT s.blk s.win n t).1) ∧ TrTo w w' b o (takeT s.blk s.win n t).2 := by
  have hlt := h.lt
  have hE := Ext.new w (.cells #[.int .i64 s.mir, .int .i64 s.blk, .int .i64 s.win, .int .i64 s.cap, .int .i64 s.tri] 45)
  have hS := Blk.new w 45 #[.int .i64 s.mir, .int .i64 s.blk, .int .i64 s.win, .int .i64 s.cap, .int .i64 s.tri]
  have hWA := pwindow_any b o t s _ (h.ext hE) ok hf
  have hbd := winT_bd ok hf
  have hlow := win_low ok hf
  have HLG := fun (t' : Tr) (f e : Int) (w' : World) (hh : TrAt w' b o t') (hok : TrOk t') (h0 : 0 ≤ f) (h1 : f ≤ 1001) (h2 : e ≤ 1001) => letGo_any b o t' f e s w' hh hok hf h0 h1 h2
  have HX : Hid (∀ x y, (winT s.blk s.win t).1 = x → (winT s.blk s.win t).2 = y → ((runT t x (y - x).toNat).size : Int) ≤ t.hd.frm + t.taken - x * s.blk → takeT s.blk s.win n t = (ByteArray.empty, t)) := fun x y hx hy => takeT_none hx hy
  have HY := hide (fun x y hx hy => takeT_some (B := s.blk) (W := s.win) (n := n) (t := t) (x := x) (y := y) hx hy)
  rw [setAgg_eq] at *
  generalize takeT s.blk s.win n t = res at *
  have HX1 := hide (HX.out _ _ rfl rfl)
  have HY1 := hide (HY.out _ _ rfl rfl)
  clear HX HY
  generalize (winT s.blk s.win t).1 = x at *
  generalize (winT s.blk s.win t).2 = y at *
  have hr0 := ok.r0
  have hn0 := ok.n0
  have hn1 := ok.n1
  have hk0 := ok.k0
  have hk1 := ok.k1
  have hB1 := hf.B1
  have hB2 := hf.B2
  go_enter Tryz.func66, Tryz.ntmps66
  go_wp2_with fail
  refine hWA.mono ?_
  rintro r w1 ⟨rfl, hE1⟩
  have hT1 := TrTo.ext0 h (Ext.trans' hE hE1)
  replace hS := hS.ext hE1
  have hA1 := hT1.at
  have hltr := hA1.lt
  clear hWA hE hE1
  go_wp2_with fail
  go_loop [9, 10] (fun u v => ∃ m : Nat, m ≤ (y - x).toNat ∧ v = .int .i64 (x + m) ∧ u = .string (catT t x m) ∧ ∀ j : Nat, j < m → (heldAt t (x + (j : Nat))).toList.isEmpty = false) (fun _ i => (y - intOf i).toNat)
  case atStart => exact ⟨0, by omega, by simp, rfl, fun j hj => absurd hj (by omega)⟩
  case round =>
    obtain ⟨m, hm, rfl, rfl, hall⟩ := hrel
    have HALL := hide hall
    clear hall
    have HS := hide (catT_succ t x m)
    have HZ : Hid ((catT t x m).size ≤ 16 * m) := catT_size ok x m
    have hm4 : m ≤ 4 := by omega
    have h16 : (heldAt t (x + (m : Nat))).size ≤ 16 := heldAt_le ok _
    have HE : Hid (m = (y - x).toNat ∨ (heldAt t (x + (m : Nat))).toList.isEmpty = true → runT t x (y - x).toNat = catT t x m) := fun he => runT_end t x _ m hm HALL.out he
    have HN : Hid ((heldAt t (x + (m : Nat))).toList.isEmpty = false → ∀ j : Nat, j < m + 1 → (heldAt t (x + (j : Nat))).toList.isEmpty = false) := by
      intro h1 j hj
      by_cases hjm : j = m
      · subst hjm; exact h1
      · exact HALL.out j (by omega)
    obtain ⟨K, hK⟩ := Int.eq_ofNat_of_zero_le (show 0 ≤ x + m by omega)
    have HK := hide hK
    have c14 := hA1.ch (K % 4) (by omega)
    have HA : Hid (heldAt t (x + (m : Nat)) = t.held.getD (K % 4) ByteArray.empty) := by show _ = _; rw [hK]; unfold heldAt; rw [mod4]
    have c14' : w1.cell? ⟨b, o + 14 + K % 4, none⟩ = some (.string (heldAt t (x + (m : Nat)))) := by rw [HA.out]; exact c14
    clear c14 HA HALL
    generalize heldAt t (x + (m : Nat)) = body at *
    rw [hK]
    clear hK
    have hz := HZ.out
    generalize catT t x m = run at *
    have hsz : run.size ≤ 64 := by omega
    by_cases hgo : (K : Int) < y ∧ body.toList.isEmpty = false
    · obtain ⟨hlt2, hbe⟩ := hgo
      have HN1 := hide (HN.out hbe)
      clear HE HN HX1 HY1 HLG
      go_wp2_with fail
      refine ⟨⟨m + 1, by have := HK.out; omega, by have := HK.out; go_num, by rw [HS.out], HN1.out⟩, ?_⟩
      have := HK.out
      simp [intOf]; omega
    · have HR : Hid (runT t x (y - x).toNat = run) := HE.out (by
        have h1 := HK.out
        by_cases hlt2 : (K : Int) < y
        · right; cases hb : body.toList.isEmpty
          · exact absurd ⟨hlt2, hb⟩ hgo
          · rfl
        · left; omega)
      rw [HR.out] at HX1 HY1
      clear HE HN HS HZ
      have hxB0 : 0 ≤ x * s.blk := Int.mul_nonneg (by omega) (by omega)
      have hxB1 : x * s.blk ≤ 1000 * 16 := Int.mul_le_mul (by omega) hB2 (by omega) (by omega)
      have m0 : w1.cell? ⟨w.heap.size, 0, none⟩ = some (.int .i64 s.mir) := hS.cell 0
      have m1 : w1.cell? ⟨w.heap.size, 1, none⟩ = some (.int .i64 s.blk) := hS.cell 1
      have m2 : w1.cell? ⟨w.heap.size, 2, none⟩ = some (.int .i64 s.win) := hS.cell 2
      have m3 : w1.cell? ⟨w.heap.size, 3, none⟩ = some (.int .i64 s.cap) := hS.cell 3
      have m4 : w1.cell? ⟨w.heap.size, 4, none⟩ = some (.int .i64 s.tri) := hS.cell 4
      have c10 : w1.cell? ⟨b, o + 10, none⟩ = some (.int .i64 t.hd.frm) := hA1.c 10
      have c11 : w1.cell? ⟨b, o + 11, none⟩ = some (.int .i64 t.hd.len) := hA1.c 11
      have c12 : w1.cell? ⟨b, o + 12, none⟩ = some (.int .i64 t.taken) := hA1.c 12
      have hfz := hA1.fz
      have HO : Hid (¬ (K : Int) < y ∨ body.toList.isEmpty = true) := by
        by_cases hlt2 : (K : Int) < y
        · right; cases hb : body.toList.isEmpty
          · exact absurd ⟨hlt2, hb⟩ hgo
          · rfl
        · left; exact hlt2
      clear hgo
      by_cases hle : (run.size : Int) ≤ t.hd.frm + t.taken - x * s.blk
      · have HRes := hide (HX1.out hle)
        clear HX1 HY1
        by_cases hlt2 : (K : Int) < y
        · have hbe : body.toList.isEmpty = true := by rcases HO.out with h1 | h1; exact absurd hlt2 h1; exact h1
          go_wp2_with fail
          go_region
          go_wp2_with fail
          go_ret
          exact ⟨by rw [HRes.out]; rfl, by rw [HRes.out]; exact hT1.ext (Below.drew (Below.refl _ _))⟩
        · go_wp2_with fail
          go_region
          go_wp2_with fail
          go_ret
          exact ⟨by rw [HRes.out]; rfl, by rw [HRes.out]; exact hT1.ext (Below.drew (Below.refl _ _))⟩
      · have HRes := hide (HY1.out (by omega))
        clear HX1 HY1
        have hkb := takeN_bd ok run.size (t.hd.frm + t.taken - x * s.blk) n (by omega) hn
        have HTk : Hid (takeN t run.size (t.hd.frm + t.taken - x * s.blk) n = atM (atM (run.size - (t.hd.frm + t.taken - x * s.blk)) (t.hd.len - t.taken)) n) := rfl
        have HOk := hide (ok1 _ hkb.1 hkb.2.2.1)
        generalize takeN t run.size (t.hd.frm + t.taken - x * s.blk) n = k at *
        have hq1 : IntKind.i64.wrap ((run.size : Int) - (t.hd.frm + t.taken - x * s.blk)) = (run.size : Int) - (t.hd.frm + t.taken - x * s.blk) := (Go.IntWalk.i64_left _).trans (Go.IntWalk.wrap64_in _ (by omega))
        have hq2 : IntKind.i64.wrap (t.hd.len - t.taken) = t.hd.len - t.taken := (Go.IntWalk.i64_left _).trans (Go.IntWalk.wrap64_in _ (by omega))
        by_cases hlt2 : (K : Int) < y
        · have hbe : body.toList.isEmpty = true := by rcases HO.out with h1 | h1; exact absurd hlt2 h1; exact h1
          go_wp2_with fail
          go_region
          go_wp2_with fail
          go_cut [12] (fun v wx => v = .int .i64 (atM ((run.size : Int) - (t.hd.frm + t.taken - x * s.blk)) (t.hd.len - t.taken)) ∧ Ext w1 wx)
          case first =>
            clear HLG HRes HOk
            go_region_with (go_at_call 96; refine (atMost_any _ _ _).mono ?_; rintro e w2 ⟨rfl, rfl⟩)
            all_goals go_wp2_with fail
            all_goals go_meet
            all_goals exact ⟨rfl, Below.drew (Below.drew (Below.refl _ _))⟩
          case rest =>
            obtain ⟨rfl, hE2⟩ := hcut
            have hT2 := hT1.ext hE2
            have HT2 : Hid (TrTo w (wc.setCell ⟨b, o + 12, none⟩ (.int .i64 (t.taken + k))) b o { t with taken := t.taken + k }) :=
              hT2.set 12 (by omega) _ (by simp [trV]) h.hl
            have c12' := ext_cell hE2 c12
            have m0' := ext_cell hE2 m0
            have m1' := ext_cell hE2 m1
            have m2' := ext_cell hE2 m2
            have m3' := ext_cell hE2 m3
            have m4' := ext_cell hE2 m4
            have hfz' := hT2.at.fz
            have hltc := hT2.at.lt
            have hne : w.heap.size ≠ b := by omega
            clear m0 m1 m2 m3 m4 c10 c11 c12 hfz hE2 hT2
            go_wp2_with fail
            refine (atMost_any _ _ _).mono ?_
            rintro e w2 ⟨rfl, rfl⟩
            rw [← HTk.out]
            go_wp2_with fail
            refine (HLG { t with taken := t.taken + k } x y _ HT2.out.at HOk.out (by omega) (by omega) (by omega)).mono ?_
            rintro e w3 ⟨rfl, hT3⟩
            have HT3 := hide (HT2.out.trans hT3)
            clear hT3 HLG
            obtain ⟨F, hF⟩ := Int.eq_ofNat_of_zero_le (show 0 ≤ t.hd.frm + t.taken - x * s.blk by omega)
            obtain ⟨k', rfl⟩ := Int.eq_ofNat_of_zero_le hkb.1
            have HF := hide hF
            rw [hF] at hkb ⊢
            clear hF
            have g1 : (F : Int) ≤ run.size := by omega
            have g2 : F + k' ≤ run.size := by omega
            have g3 : (F : Int) + k' ≤ run.size := by omega
            have g4 : IntKind.i64.wrap ((F : Int) + k') = (F : Int) + k' := (Go.IntWalk.i64_left _).trans (Go.IntWalk.wrap64_in _ (by omega))
            clear c12' m0' m1' m2' m3' m4' hfz'
            go_wp2_with fail
            go_ret
            refine ⟨?_, ?_⟩
            · rw [HRes.out, HF.out]; dsimp only; rw [Int.toNat_natCast, show ((F : Int) + (k' : Int)).toNat = F + k' from by clear hq1 hq2; omega]; rfl
            · rw [HRes.out]; exact HT3.out
        · go_wp2_with fail
          go_region
          go_wp2_with fail
          go_cut [12] (fun v wx => v = .int .i64 (atM ((run.size : Int) - (t.hd.frm + t.taken - x * s.blk)) (t.hd.len - t.taken)) ∧ Ext w1 wx)
          case first =>
            clear HLG HRes HOk
            go_region_with (go_at_call 96; refine (atMost_any _ _ _).mono ?_; rintro e w2 ⟨rfl, rfl⟩)
            all_goals go_wp2_with fail
            all_goals go_meet
            all_goals exact ⟨rfl, Below.drew (Below.drew (Below.refl _ _))⟩
          case rest =>
            obtain ⟨rfl, hE2⟩ := hcut
            have hT2 := hT1.ext hE2
            have HT2 : Hid (TrTo w (wc.setCell ⟨b, o + 12, none⟩ (.int .i64 (t.taken + k))) b o { t with taken := t.taken + k }) :=
              hT2.set 12 (by omega) _ (by simp [trV]) h.hl
            have c12' := ext_cell hE2 c12
            have m0' := ext_cell hE2 m0
            have m1' := ext_cell hE2 m1
            have m2' := ext_cell hE2 m2
            have m3' := ext_cell hE2 m3
            have m4' := ext_cell hE2 m4
            have hfz' := hT2.at.fz
            have hltc := hT2.at.lt
            have hne : w.heap.size ≠ b := by omega
            clear m0 m1 m2 m3 m4 c10 c11 c12 hfz hE2 hT2
            go_wp2_with fail
            refine (atMost_any _ _ _).mono ?_
            rintro e w2 ⟨rfl, rfl⟩
            rw [← HTk.out]
            go_wp2_with fail
            refine (HLG { t with taken := t.taken + k } x y _ HT2.out.at HOk.out (by omega) (by omega) (by omega)).mono ?_
            rintro e w3 ⟨rfl, hT3⟩
            have HT3 := hide (HT2.out.trans hT3)
            clear hT3 HLG
            obtain ⟨F, hF⟩ := Int.eq_ofNat_of_zero_le (show 0 ≤ t.hd.frm + t.taken - x * s.blk by omega)
            obtain ⟨k', rfl⟩ := Int.eq_ofNat_of_zero_le hkb.1
            have HF := hide hF
            rw [hF] at hkb ⊢
            clear hF
            have g1 : (F : Int) ≤ run.size := by omega
            have g2 : F + k' ≤ run.size := by omega
            have g3 : (F : Int) + k' ≤ run.size := by omega
            have g4 : IntKind.i64.wrap ((F : Int) + k') = (F : Int) + k' := (Go.IntWalk.i64_left _).trans (Go.IntWalk.wrap64_in _ (by omega))
            clear c12' m0' m1' m2' m3' m4' hfz'
            go_wp2_with fail
            go_ret
            refine ⟨?_, ?_⟩
            · rw [HRes.out, HF.out]; dsimp only; rw [Int.toNat_natCast, show ((F : Int) + (k' : Int)).toNat = F + k' from by clear hq1 hq2; omega]; rfl
            · rw [HRes.out]; exact HT3.out
end Go.Proofs.YtjhihliciadipabGreat
