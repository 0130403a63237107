import Derived.Test.YtjhihliciadipabGreatPtr
import Derived.Deep.RegionHeld3
set_option linter.unusedVariables false
set_option linter.unusedSimpArgs false
set_option linter.unnecessarySimpa false
namespace Go.Proofs.YtjhihliciadipabGreat
open Go.RowKit

set_option maxHeartbeats 1000000 in
@[go_sem] theorem eqEr (a1 a2 a3 a4 b1 b2 b3 b4 : Int) (w : World) : (Op.equalIn 10000 94 (.agg #[.int .i64 a1, .int .i64 a2, .int .i64 a3, .int .i64 a4]) (.agg #[.int .i64 b1, .int .i64 b2, .int .i64 b3, .int .i64 b4])).run Tryz.prog w
    = .ok (a1 == b1 && (a2 == b2 && a3 == b3) && a4 == b4) w := by
  have u3 := Tryz.underlying3
  have a3' := Tryz.isAgg3
  have z3 := Tryz.sizeOf3
  have a5' := Tryz.isAgg89
  have z5 := Tryz.sizeOf89
  have hS : Tryz.prog.underlying 94 = some (.struct (Tryz.prog.fieldsOf 94)) := by kernel_rfl
  have hp : Tryz.prog.stoodInHeld 94 = false := by kernel_rfl
  rw [show (10000 : Nat) = 9999 + 1 from rfl, run_equalIn_agg w 9999 94 _ _ hS hp]
  simp only [Program.fieldsOf, Tryz.underlying94]
  rw [show (9999 : Nat) = 9997 + 2 from rfl]
  go_simp
  by_cases h1 : a1 = b1 <;> by_cases h2 : a2 = b2 <;> by_cases h3 : a3 = b3 <;> by_cases h4 : a4 = b4 <;> simp [h1, h2, h3, h4]

theorem er_beq (x e : Er) : (x == e) = (x.path == e.path && (x.tag == e.tag && x.tot == e.tot) && x.blk == e.blk) := by
  obtain ⟨a, b, c, d⟩ := x
  obtain ⟨a', b', c', d'⟩ := e
  rw [Bool.eq_iff_iff]
  simp [and_assoc]


theorem infoErrand : (Tryz.prog.info? 94).map (fun i => (i.zero, i.size, i.bytes)) = some (some (.agg #[.int .i64 0, .int .i64 0, .int .i64 0, .int .i64 0]), 4, 32) := by kernel_rfl
theorem per_one (e : Er) : ∀ u ∈ perV e, u.oneCell' = true := by intro u hu; simp [perV] at hu; rcases hu with rfl | rfl | rfl | rfl <;> rfl
/-- One more behind a slice of our own: nothing old has turned. -/
theorem ext_grown {w wr wx w6 : World} {base : Nat} {e : TypeId} {sz : Nat} {v : Value} {n : Nat} {xs : List Value} (hE : Ext w wr) (hown : wr.ownsRow base e sz v n xs) (hb : w.heap.size ≤ base) (hx : Ext wr wx) (hg : wx.grownBy w6 v.ownBlock) : Ext w w6 := by
  have h1 := Ext.trans' hE hx
  refine ⟨hg.os.trans h1.os, hg.tape.trans h1.tape, hg.output.trans h1.output, Nat.le_trans h1.size hg.size, fun k hk => (hg.block k (Nat.lt_of_lt_of_le hk h1.size) (fun e => ?_)).trans (h1.block k hk)⟩
  have := (hown.lt k e.symm).1
  omega

/-- The errands for the wanted ones of n blocks from x on. -/
def wantTo (t : Tr) (x : Int) (n : Nat) : List Er := ((List.range n).filter (fun j => (heldAt t (x + (j : Nat))).toList.isEmpty)).map (fun j => ofT t (x + (j : Nat)))
theorem wantTo_eq (B W : Int) (t : Tr) : wantedL B W t = wantTo t (winT B W t).1 ((winT B W t).2 - (winT B W t).1).toNat := rfl
theorem wantTo_hit (t : Tr) (x : Int) (n : Nat) (h : (heldAt t (x + n)).toList.isEmpty = true) : wantTo t x (n + 1) = wantTo t x n ++ [ofT t (x + n)] := by
  unfold wantTo; rw [List.range_succ, List.filter_append, List.map_append]; simp [h]
theorem wantTo_miss (t : Tr) (x : Int) (n : Nat) (h : (heldAt t (x + n)).toList.isEmpty = false) : wantTo t x (n + 1) = wantTo t x n := by
  unfold wantTo; rw [List.range_succ, List.filter_append, List.map_append]; simp [h]
theorem wantTo_len (t : Tr) (x : Int) (n : Nat) : (wantTo t x n).length ≤ n := by
  unfold wantTo; rw [List.length_map]; exact Nat.le_trans (List.length_filter_le _ _) (by simp)

set_option maxRecDepth 100000 in
set_option maxHeartbeats 2000000 in
theorem wanted_any (b o : Nat) (t : Tr) (s : Px) (w : World) (h : TrAt w b o t) (ok : TrOk t) (hf : Fair s) :
    Calls Tryz.prog 75 #[.pointer (some ⟨b, o, none⟩), setAgg s] w fun r w' =>
      (∃ v, r = .returned v ∧ w'.ownsRow w.heap.size 94 4 v (wantedL s.blk s.win t).length ((wantedL s.blk s.win t).map perV).flatten) ∧ Ext w w' := by
  have hlt := h.lt
  have HV := hide (version_any b o t)
  have HWA := hide (pwindow_any b o t s)
  have hbd := winT_bd ok hf
  rw [wantTo_eq]
  generalize (winT s.blk s.win t).1 = x at *
  generalize (winT s.blk s.win t).2 = y at *
  obtain ⟨X, rfl⟩ := Int.eq_ofNat_of_zero_le hbd.1
  obtain ⟨res, hres⟩ : ∃ res, res = wantTo t X (y - X).toNat := ⟨_, rfl⟩
  rw [← hres]
  have HR := hide hres
  clear hres
  rw [setAgg_eq] at *
  have hE0 := Ext.new w (.cells #[.int .i64 s.mir, .int .i64 s.blk, .int .i64 s.win, .int .i64 s.cap, .int .i64 s.tri] 45)
  have HH := hide h
  clear h
  go_enter Tryz.func75, Tryz.ntmps75
  go_wp2_with fail
  refine (HWA.out _ (HH.out.ext hE0) ok hf).mono ?_
  rintro r w1 ⟨rfl, hE1⟩
  have hX1 := Ext.trans' hE0 hE1
  clear hE0 hE1
  go_wp2_with fail
  go_loopw [5, 8] (fun l i wr => ∃ n : Nat, n ≤ (y - X).toNat ∧ i = .int .i64 ((X + n : Nat) : Int) ∧ Ext w wr ∧ wr.ownsRow w.heap.size 94 4 l (wantTo t X n).length ((wantTo t X n).map perV).flatten) (fun _ i _ => (y - intOf i).toNat)
  case atStart => exact ⟨0, Nat.zero_le _, rfl, hX1, by simp [wantTo]; exact World.ownsRow_nil _ _ _ _⟩
  case round =>
    obtain ⟨n, hn, rfl, hE, hown⟩ := hrel
    have hlen := wantTo_len t X n
    by_cases hlt2 : ((X + n : Nat) : Int) < y
    · have hTr := HH.out.ext hE
      have HH1 : Hid (wantTo t X (n + 1) = wantTo t X n ++ [ofT t (X + n)] ∨ True) := Or.inr trivial
      have c0 : wr.cell? ⟨b, o, none⟩ = some (.int .i64 t.path) := hTr.c 0
      have c14 := hTr.ch ((X + n) % 4) (by omega)
      have HA : Hid (heldAt t ((X : Int) + (n : Int)) = t.held.getD ((X + n) % 4) ByteArray.empty) := by show _ = _; unfold heldAt; congr 1
      have hbl := hTr.lt
      cases hem : (t.held.getD ((X + n) % 4) ByteArray.empty).toList.isEmpty
      · have HT : Hid (wantTo t X (n + 1) = wantTo t X n) := wantTo_miss t X n (by rw [HA.out]; exact hem)
        generalize t.held.getD ((X + n) % 4) ByteArray.empty = body at *
        generalize wantTo t X n = fl at *
        clear HA HH1
        go_wp2_with fail
        exact ⟨⟨n + 1, by omega, by go_num, hE, by rw [HT.out]; exact hown⟩, by simp [intOf]; omega⟩
      · have HT : Hid (wantTo t X (n + 1) = wantTo t X n ++ [ofT t ((X : Int) + (n : Int))]) := wantTo_hit t X n (by rw [HA.out]; exact hem)
        generalize t.held.getD ((X + n) % 4) ByteArray.empty = body at *
        generalize wantTo t X n = fl at *
        clear HA HH1
        have hsz := hE.size
        go_wp2_with fail
        go_region_held3 (fun w' => w'.cell? ⟨b, o, none⟩ = some (.int .i64 t.path)) (go_keep)
          ((first
            | (go_at_call 102
               refine (HV.out _ (hTr.ext (Below.drew (Below.refl _ _)))).mono ?_
               rintro r w4 ⟨rfl, hE4⟩
               have c0' := ext_cell hE4.undrew c0
               have hbl4 : b < w4.heap.size := Nat.lt_of_lt_of_le hbl hE4.undrew.size)
            | (refine step_app Tryz.underlying148 infoErrand rfl (by decide) (by decide) rfl _ _ rfl (by rfl) (own_ext (own_ext hown hE4.undrew) (Ext.new _ _)) (perV (ofT t ((X : Int) + (n : Int)))) rfl rfl (news_new _ _ _) (per_one _) (by omega) (by have := hE4.undrew.size; simp; omega) ?_
               intro v6 w6 ho6 hg6 hw6
               have hX6 := ext_grown hE hown (Nat.le_refl _) (Ext.trans' hE4.undrew (Ext.new _ _)) hg6
               have c0'' : w6.cell? ⟨b, o, none⟩ = some (.int .i64 t.path) := (HH.out.ext hX6).c 0)))
        all_goals go_wp2_with fail
        all_goals exact ⟨⟨n + 1, by omega, by go_num, hX6, by rw [HT.out, List.length_append, List.map_append, List.flatten_append]; simpa using ho6⟩, by simp [intOf]; omega⟩
    · have HL : Hid (res = wantTo t X n) := by show _ = _; rw [HR.out]; congr 1; omega
      generalize wantTo t X n = fl at *
      obtain ⟨aL, capL, rfl, hgL⟩ := own_form hown
      clear hgL
      go_wp2_with fail
      go_ret
      exact ⟨⟨_, rfl, by rw [HL.out]; exact hown⟩, hE⟩

theorem ers_own {w : World} {base n cap g : Nat} {l : List Er} (h : w.ownsRow base 94 4 (.slice (some ⟨g, 0, none⟩) n cap) n (l.map perV).flatten) (hn : n = l.length) {i : Nat} {x : Er} (hx : l[i]? = some x) :
    w.cell? ⟨g, i * 4, none⟩ = some (.int .i64 x.path) ∧ w.cell? ⟨g, i * 4 + 1, none⟩ = some (.int .i64 x.tag) ∧ w.cell? ⟨g, i * 4 + 2, none⟩ = some (.int .i64 x.tot) ∧ w.cell? ⟨g, i * 4 + 3, none⟩ = some (.int .i64 x.blk) := by
  have hi := (List.getElem?_eq_some_iff.1 hx).1
  have hm : (i + 1) * 4 ≤ n * 4 := Nat.mul_le_mul_right 4 (by omega)
  have key : ∀ r, r < 4 → w.cell? ⟨g, i * 4 + r, none⟩ = (perV x)[r]? := fun r hr => by
    rw [h.cellAt (i * 4 + r) (by omega), flat_get 4 _ (pers_len _) i r hr]; simp [hx]
  exact ⟨key 0 (by omega), key 1 (by omega), key 2 (by omega), key 3 (by omega)⟩
theorem wantsT_any' (B W : Int) (t : Tr) (e : Er) : wantsT B W t e = (wantedL B W t).any (fun x => x == e) := by
  rw [Bool.eq_iff_iff, List.any_eq_true]
  unfold wantsT wantedL
  simp only [Bool.and_eq_true, beq_iff_eq, decide_eq_true_eq, List.mem_map, List.mem_filter, List.mem_range]
  constructor
  · rintro ⟨⟨⟨⟨h1, h2, h3⟩, h4⟩, h5⟩, h6⟩
    refine ⟨e, ⟨(e.blk - (winT B W t).1).toNat, ⟨by omega, ?_⟩, ?_⟩, rfl⟩
    · rw [show (winT B W t).1 + ((e.blk - (winT B W t).1).toNat : Int) = e.blk from by omega]; exact h6
    · unfold ofT; rw [show (winT B W t).1 + ((e.blk - (winT B W t).1).toNat : Int) = e.blk from by omega, h1, h2, h3]
  · rintro ⟨x, ⟨j, ⟨h1, h2⟩, rfl⟩, rfl⟩
    refine ⟨⟨⟨⟨rfl, rfl, rfl⟩, ?_⟩, ?_⟩, h2⟩
    · show (winT B W t).1 ≤ (winT B W t).1 + (j : Int); omega
    · show (winT B W t).1 + (j : Int) < (winT B W t).2; omega
theorem wantedL_len {t : Tr} {s : Px} (ok : TrOk t) (hf : Fair s) : (wantedL s.blk s.win t).length ≤ 4 := by
  have h1 := wantTo_len t (winT s.blk s.win t).1 ((winT s.blk s.win t).2 - (winT s.blk s.win t).1).toNat
  have h2 := winT_bd ok hf
  rw [wantTo_eq]; omega

set_option maxRecDepth 100000 in
set_option maxHeartbeats 2000000 in
theorem pwants_any (b o : Nat) (t : Tr) (e : Er) (s : Px) (w : World) (h : TrAt w b o t) (ok : TrOk t) (hf : Fair s) :
    Calls Tryz.prog 92 #[.pointer (some ⟨b, o, none⟩), erAgg e, setAgg s] w fun r w' => r = .returned (.bool (wantsT s.blk s.win t e)) ∧ Ext w w' := by
  have HW := hide (wanted_any b o t s)
  have hl4 := wantedL_len ok hf
  rw [wantsT_any']
  generalize wantedL s.blk s.win t = l at *
  rw [erAgg_eq, setAgg_eq] at *
  have hE := Ext.new2' w (.cells #[.int .i64 e.path, .int .i64 e.tag, .int .i64 e.tot, .int .i64 e.blk] 94) (.cells #[.int .i64 s.mir, .int .i64 s.blk, .int .i64 s.win, .int .i64 s.cap, .int .i64 s.tri] 45)
  have hB := (Blk.new w 94 #[.int .i64 e.path, .int .i64 e.tag, .int .i64 e.tot, .int .i64 e.blk]).ext (Ext.new _ (.cells #[.int .i64 s.mir, .int .i64 s.blk, .int .i64 s.win, .int .i64 s.cap, .int .i64 s.tri] 45))
  go_enter Tryz.func92, Tryz.ntmps92
  go_wp2_with fail
  refine (HW.out _ (h.ext hE) ok hf).mono ?_
  rintro r w1 ⟨⟨v, rfl, hown⟩, hE1⟩
  have hX1 := Ext.trans' hE hE1
  have hB1 := hB.ext hE1
  obtain ⟨aL, capL, rfl, hgL⟩ := own_form hown
  have HO := hide hown
  have k0 : w1.cell? ⟨w.heap.size, 0, none⟩ = some (.int .i64 e.path) := hB1.cell 0
  have k1 : w1.cell? ⟨w.heap.size, 1, none⟩ = some (.int .i64 e.tag) := hB1.cell 1
  have k2 : w1.cell? ⟨w.heap.size, 2, none⟩ = some (.int .i64 e.tot) := hB1.cell 2
  have k3 : w1.cell? ⟨w.heap.size, 3, none⟩ = some (.int .i64 e.blk) := hB1.cell 3
  clear hown hE hE1 hB hB1 HW h
  go_wp2_with fail
  go_loopg [8] l.length (fun m v wr => ∃ n : Nat, m = l.length - n ∧ n ≤ l.length ∧ v = .int .i64 n ∧ (∃ d, wr = w1.drewN d) ∧ Hid (∀ (j : Nat) x, j < n → l[j]? = some x → (x == e) = false))
  case atStart => exact ⟨0, rfl, by omega, rfl, ⟨0, rfl⟩, fun j x hj => absurd hj (by omega)⟩
  case round =>
    obtain ⟨n, rfl, hn, rfl, ⟨d, rfl⟩, HA⟩ := hrel
    by_cases hlt : n < l.length
    · obtain ⟨gL, rfl⟩ := hgL (by omega)
      obtain ⟨x, hx⟩ : ∃ x, l[n]? = some x := ⟨_, List.getElem?_eq_getElem hlt⟩
      obtain ⟨e0, e1, e2, e3⟩ := ers_own HO.out rfl hx
      have HQ := hide (er_beq x e)
      have HN : Hid ((x == e) = false → ∀ (j : Nat) y, j < n + 1 → l[j]? = some y → (y == e) = false) := by
        intro hbx j y hj hy
        by_cases hjk : j = n
        · subst hjk; rw [hx] at hy; simp at hy; subst hy; exact hbx
        · exact HA.out j y (by omega) hy
      have HY : Hid ((x == e) = true → l.any (fun x => x == e) = true) := by
        intro hbx
        rw [List.any_eq_true]
        exact ⟨x, List.mem_of_getElem? hx, hbx⟩
      have hlt' : (n : Int) < l.length := by omega
      clear hx hgL HO
      go_wp2_with fail
      by_cases h1 : x.path = e.path
      · by_cases h2 : x.tag = e.tag
        · by_cases h3 : x.tot = e.tot
          · by_cases h4 : x.blk = e.blk
            · have HY1 := hide (HY.out (by rw [HQ.out]; simp [h1, h2, h3, h4]))
              clear HN HY HA HQ
              go_quiet (fail)
              go_wp2_with fail
              go_ret
              exact ⟨ret_bool HY1.out.symm, Ext.drewN (Ext.drewN hX1 _) _⟩
            · have HN1 := hide (HN.out (by rw [HQ.out]; simp [h4]))
              clear HN HY HA HQ
              go_quiet (fail)
              go_wp2_with fail
              go_roundg (l.length - (n + 1))
              case measure => omega
              case rel => exact ⟨n + 1, rfl, by omega, by go_num, ⟨_, rfl⟩, HN1⟩
          · have HN1 := hide (HN.out (by rw [HQ.out]; simp [h3]))
            clear HN HY HA HQ
            go_quiet (fail)
            go_wp2_with fail
            go_roundg (l.length - (n + 1))
            case measure => omega
            case rel => exact ⟨n + 1, rfl, by omega, by go_num, ⟨_, rfl⟩, HN1⟩
        · have HN1 := hide (HN.out (by rw [HQ.out]; simp [h2]))
          clear HN HY HA HQ
          go_quiet (fail)
          go_wp2_with fail
          go_roundg (l.length - (n + 1))
          case measure => omega
          case rel => exact ⟨n + 1, rfl, by omega, by go_num, ⟨_, rfl⟩, HN1⟩
      · have HN1 := hide (HN.out (by rw [HQ.out]; simp [h1]))
        clear HN HY HA HQ
        go_quiet (fail)
        go_wp2_with fail
        go_roundg (l.length - (n + 1))
        case measure => omega
        case rel => exact ⟨n + 1, rfl, by omega, by go_num, ⟨_, rfl⟩, HN1⟩
    · have HF : Hid (l.any (fun x => x == e) = false) := by
        show _ = _
        rw [List.any_eq_false]
        intro y hy
        obtain ⟨j, hj⟩ := List.mem_iff_getElem?.1 hy
        rw [HA.out j y (by have := (List.getElem?_eq_some_iff.1 hj).1; omega) hj]; simp
      go_wp2_with fail
      go_ret
      exact ⟨ret_bool HF.out.symm, Ext.drewN hX1 _⟩
end Go.Proofs.YtjhihliciadipabGreat
