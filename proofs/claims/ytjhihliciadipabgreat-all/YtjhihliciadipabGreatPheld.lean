import Derived.Test.YtjhihliciadipabGreatPtell
import Derived.Test.YtjhihliciadipabGreatPcac
import Derived.Deep.RegionHeld3
import Derived.OwnWalk
import Derived.Laws.OwnMore
set_option linter.unusedVariables false
set_option linter.unusedSimpArgs false
set_option linter.unnecessarySimpa false
namespace Go.Proofs.YtjhihliciadipabGreat
open Go.RowKit

def sumTo (l : List ByteArray) (n : Nat) : Int := (l.take n).foldl (fun n b => n + (b.size : Int)) 0
theorem sumTo_succ (l : List ByteArray) (n : Nat) (h : n < l.length) : sumTo l (n + 1) = sumTo l n + (l.getD n ByteArray.empty).size := by
  unfold sumTo
  rw [List.take_succ_eq_append_getElem h, List.foldl_append]; simp [h]
theorem sumTo_bd (l : List ByteArray) (hb : ∀ b ∈ l, b.size ≤ 16) (n : Nat) (hn : n ≤ l.length) : 0 ≤ sumTo l n ∧ sumTo l n ≤ 16 * n := by
  induction n with
  | zero => simp [sumTo]
  | succ n ih =>
    have ih := ih (by omega)
    rw [sumTo_succ l n (by omega)]
    have : (l.getD n ByteArray.empty).size ≤ 16 := by
      rw [List.getD_eq_getElem?_getD, List.getElem?_eq_getElem (by omega)]; exact hb _ (List.getElem_mem _)
    omega

set_option maxHeartbeats 1000000 in
theorem heldBytes_any (b o : Nat) (t : Tr) (w : World) (h : TrAt w b o t) (ok : TrOk t) :
    Calls Tryz.prog 64 #[.pointer (some ⟨b, o, none⟩)] w fun e w' => e = .returned (.int .i64 (pheldSum t.held)) ∧ Ext w w' := by
  have hlt := h.lt
  have HB : Hid (∀ n, n ≤ 4 → 0 ≤ sumTo t.held n ∧ sumTo t.held n ≤ 16 * n) := fun n hn => sumTo_bd _ ok.hb n (by rw [ok.hl]; exact hn)
  have HS : Hid (∀ n, n < 4 → sumTo t.held (n + 1) = sumTo t.held n + (t.held.getD n ByteArray.empty).size) := fun n hn => sumTo_succ _ n (by rw [ok.hl]; exact hn)
  have HE : Hid (sumTo t.held 4 = pheldSum t.held) := by show _ = _; unfold sumTo pheldSum; rw [List.take_of_length_le (by rw [ok.hl]; omega)]
  go_enter Tryz.func64, Tryz.ntmps64
  go_wp2_with fail
  go_loop [3, 4] (fun n i => ∃ k : Nat, k ≤ 4 ∧ i = .int .i64 k ∧ n = .int .i64 (sumTo t.held k)) (fun _ i => 4 - (intOf i).toNat)
  case atStart => exact ⟨0, Nat.zero_le _, rfl, by simp [sumTo]⟩
  case round =>
    obtain ⟨k, hk, rfl, rfl⟩ := hrel
    by_cases hlt4 : k < 4
    · have c := h.ch k hlt4
      have b1 := HB.out k hk
      have HS1 := hide (HS.out k hlt4)
      have hz : (t.held.getD k ByteArray.empty).size ≤ 16 := by
        rw [List.getD_eq_getElem?_getD, List.getElem?_eq_getElem (by rw [ok.hl]; omega)]; exact ok.hb _ (List.getElem_mem _)
      generalize t.held.getD k ByteArray.empty = body at *
      generalize sumTo t.held k = n at *
      go_wp2_with fail
      exact ⟨⟨k + 1, by omega, by go_num, by rw [HS1.out]⟩, by simp [intOf]; omega⟩
    · have : k = 4 := by omega
      subst this
      go_wp2_with fail
      go_ret
      exact ⟨ret_int HE.out, Below.refl _ _⟩


theorem HeldP_any (q : Nat) (id : Int) (g : Pg) (w : World) (h : PgAt w q g) :
    Calls Tryz.prog 28 #[.pointer (some ⟨q, 0, none⟩), .int .i64 id] w fun e w' => e = .returned (.tuple #[.int .i64 (ansT g.s id (fun t => pheldSum t.held)).1, .int .i64 (ansT g.s id (fun t => pheldSum t.held)).2]) ∧ Ext w w' := by
  have HM := hasT_any q id g w h
  cases hI : hasT g.s id
  · rw [ansT_no hI]
    rw [hI] at HM
    go_enter Tryz.func28, Tryz.ntmps28
    go_wp2_with fail
    refine HM.mono ?_
    rintro e w1 ⟨rfl, rfl⟩
    go_wp2_with fail
    go_ret2
    exact ⟨rfl, Below.refl _ _⟩
  · obtain ⟨i, rfl, hi⟩ := hasT_yes hI
    obtain ⟨t, ht⟩ : ∃ t, g.s.trs[i]? = some t := ⟨_, List.getElem?_eq_getElem hi⟩
    rw [ansT_yes hI ht]
    rw [hI] at HM
    obtain ⟨b, cap, hT, hTr, hbq⟩ := h.row ht
    have c13 := h.cTr' hT
    have hn8 := h.ok.nt
    have hii : (i : Int) < g.s.trs.length := by omega
    have HS := heldBytes_any b (i * 18) t w hTr (h.ok.ts t (List.mem_of_getElem? ht))
    clear ht hT
    go_enter Tryz.func28, Tryz.ntmps28
    go_wp2_with fail
    refine HM.mono ?_
    rintro e w1 ⟨rfl, rfl⟩
    go_wp2_with fail
    refine HS.mono ?_
    rintro e w1 ⟨rfl, hE1⟩
    go_wp2_with fail
    go_ret2
    exact ⟨rfl, hE1⟩


theorem UsedP_any (q : Nat) (g : Pg) (w : World) (h : PgAt w q g) :
    Calls Tryz.prog 34 #[.pointer (some ⟨q, 0, none⟩)] w fun e w' => e = .returned (.int .i64 (usedC g.s.cac)) ∧ w' = w := by
  go_enter Tryz.func34, Tryz.ntmps34
  go_wp2_with fail
  refine (used_any q g w h.toPgW).mono ?_
  rintro e w1 ⟨rfl, rfl⟩
  go_wp2_with fail
  go_ret
  exact ⟨rfl, rfl⟩

/-- The list, filled as far as j. -/
def fillE (l : List (Er × ByteArray)) (j : Nat) : List Er := (l.take j).map Prod.fst ++ List.replicate (l.length - j) noEr
theorem fillE_len (l : List (Er × ByteArray)) (j : Nat) (h : j ≤ l.length) : (fillE l j).length = l.length := by simp [fillE]; omega
theorem fillE_all (l : List (Er × ByteArray)) : fillE l l.length = l.map Prod.fst := by simp [fillE]
theorem fillE_get (l : List (Er × ByteArray)) (j : Nat) (h : j < l.length) : (fillE l j)[j]? = some noEr := by
  unfold fillE
  rw [List.getElem?_append_right (by simp; omega), List.getElem?_replicate, if_pos (by simp; omega)]
theorem fillE_set (l : List (Er × ByteArray)) (j : Nat) (x : Er × ByteArray) (h : l[j]? = some x) : (fillE l j).set j x.1 = fillE l (j + 1) := by
  obtain ⟨hj, hx⟩ := List.getElem?_eq_some_iff.1 h
  unfold fillE
  have hl : ((l.take j).map Prod.fst).length = j := by simp; omega
  rw [List.set_append_right _ _ (by omega), hl, show l.length - j = (l.length - (j + 1)) + 1 by omega, List.replicate_succ, show j - j = 0 by omega, List.set_cons_zero, List.take_succ_eq_append_getElem hj, List.map_append, hx, List.append_assoc]
  rfl
theorem made_flat (n : Nat) : (madeCells #[.int .i64 0, .int .i64 0, .int .i64 0, .int .i64 0] (n * 4)).toList = ((List.replicate n noEr).map perV).flatten := by
  apply List.ext_getElem?
  intro k
  obtain ⟨a, c, hc, rfl⟩ : ∃ a c, c < 4 ∧ k = a * 4 + c := ⟨k / 4, k % 4, by omega, by omega⟩
  rw [flat_get 4 _ (pers_len _) a c hc, Array.getElem?_toList]
  by_cases ha : a < n
  · have hk : a * 4 + c < n * 4 := by have : (a + 1) * 4 ≤ n * 4 := Nat.mul_le_mul_right 4 ha; omega
    have h1 : ((List.replicate n noEr).map perV)[a]? = some (perV noEr) := by simp [ha]
    rw [h1]
    simp only [Option.bind_some]
    unfold madeCells
    rw [Array.getElem?_map, Array.getElem?_range, if_pos hk]
    simp only [Option.map_some]
    have hm : (a * 4 + c) % 4 = c := by omega
    have hcc : c = 0 ∨ c = 1 ∨ c = 2 ∨ c = 3 := by omega
    show some ((#[.int .i64 0, .int .i64 0, .int .i64 0, .int .i64 0] : Array Value)[(a * 4 + c) % 4]!) = _
    rw [hm]
    rcases hcc with rfl | rfl | rfl | rfl <;> rfl
  · have h1 : ((List.replicate n noEr).map perV)[a]? = none := by simp; omega
    rw [h1]
    have hk : ¬ (a * 4 + c < n * 4) := by have : n * 4 ≤ a * 4 := Nat.mul_le_mul_right 4 (by omega); omega
    unfold madeCells
    rw [Array.getElem?_map, Array.getElem?_range, if_neg hk]
    rfl
theorem er_set (l : List Er) (j : Nat) (x y : Er) (hx : l[j]? = some x) :
    ((((l.map perV).flatten.set (j * 4) (.int .i64 y.path)).set (j * 4 + 1) (.int .i64 y.tag)).set (j * 4 + 2) (.int .i64 y.tot)).set (j * 4 + 3) (.int .i64 y.blk) = ((l.set j y).map perV).flatten := by
  have hj := (List.getElem?_eq_some_iff.1 hx).1
  have step : ∀ (l : List Er) (x x' : Er) (r : Nat) (u : Value), l[j]? = some x → r < 4 → (perV x).set r u = perV x' → (l.map perV).flatten.set (j * 4 + r) u = ((l.set j x').map perV).flatten := by
    intro l x x' r u hx hr hrow
    rw [flat_set 4 _ (pers_len _) j r hr u (perV x) (by simp [hx]), hrow, List.map_set]
  have a := step l x ⟨y.path, x.tag, x.tot, x.blk⟩ 0 (.int .i64 y.path) hx (by omega) rfl
  have b := step (l.set j ⟨y.path, x.tag, x.tot, x.blk⟩) ⟨y.path, x.tag, x.tot, x.blk⟩ ⟨y.path, y.tag, x.tot, x.blk⟩ 1 (.int .i64 y.tag) (by simp [hj]) (by omega) rfl
  have c := step (l.set j ⟨y.path, y.tag, x.tot, x.blk⟩) ⟨y.path, y.tag, x.tot, x.blk⟩ ⟨y.path, y.tag, y.tot, x.blk⟩ 2 (.int .i64 y.tot) (by simp [hj]) (by omega) rfl
  have d := step (l.set j ⟨y.path, y.tag, y.tot, x.blk⟩) ⟨y.path, y.tag, y.tot, x.blk⟩ y 3 (.int .i64 y.blk) (by simp [hj]) (by omega) rfl
  simp only [Nat.add_zero, List.set_set] at a b c d
  rw [a, b, c, d]
theorem en_own {w : World} {base n cap g : Nat} {l : List Er} (h : w.ownsRow base 42 4 (.slice (some ⟨g, 0, none⟩) n cap) n (l.map perV).flatten) (hn : n = l.length) {i : Nat} {x : Er} (hx : l[i]? = some x) :
    ∀ r, r < 4 → w.cell? ⟨g, i * 4 + r, none⟩ = (perV x)[r]? := by
  have hi := (List.getElem?_eq_some_iff.1 hx).1
  have hm : (i + 1) * 4 ≤ n * 4 := Nat.mul_le_mul_right 4 (by omega)
  intro r hr
  rw [h.cellAt (i * 4 + r) (by omega), flat_get 4 _ (pers_len _) i r hr]; simp [hx]

set_option maxRecDepth 100000 in
set_option maxHeartbeats 2000000 in
theorem entriesC_any (q : Nat) (g : Pg) (w : World) (h : PgW w q g) :
    Calls Tryz.prog 71 #[.pointer (some ⟨q, 29, none⟩)] w fun e w' => (∃ v, e = .returned v ∧ w'.ownsRow w.heap.size 42 4 v (g.s.cac.map Prod.fst).length ((g.s.cac.map Prod.fst).map perV).flatten) ∧ Ext w w' := by
  have hc := h.cC
  have ho := h.cs
  have hn := h.ok.cl
  obtain ⟨i0, hi, hz0, hz1, hz2⟩ := info_parts (show (Tryz.prog.info? 42).map (fun i => (i.zero, i.size, i.bytes)) = some (some (.agg #[.int .i64 0, .int .i64 0, .int .i64 0, .int .i64 0]), 4, 32) by kernel_rfl)
  generalize g.s.cac = l at *
  generalize g.v.c = vc at *
  obtain ⟨a, cap, rfl, hg⟩ := own_form ho
  have HI := hide (And.intro hi (And.intro hz0 (And.intro hz1 hz2)))
  clear h hi hz0 hz1 hz2
  go_enter Tryz.func71, Tryz.ntmps71
  go_wp2_with (at_make; refine wpList_make_full _ rfl _ _ 40 rfl w.heap.size 42 i0 (.agg #[.int .i64 0, .int .i64 0, .int .i64 0, .int .i64 0]) 4 Tryz.underlying40 HI.out.1 HI.out.2.1 HI.out.2.2.1 .i64 .i64 _ _ l.length rfl rfl rfl rfl ?_ ?_ (Nat.le_refl _) ?_)
  · rw [HI.out.2.2.2]; omega
  · unfold maxLen; omega
  intro w1 hown1 hgrow1
  have hE1 : Ext w w1 := ⟨hgrow1.os, hgrow1.tape, hgrow1.output, hgrow1.size, fun k hk => hgrow1.block k hk (by simp)⟩
  rw [made_flat] at hown1
  have hc1 := ext_cell hE1 hc
  have hc0 := hc
  have HO := hide ho
  clear ho hc hgrow1 HI
  go_wp2_with fail
  go_loopw [4] (fun v wr => ∃ j : Nat, j ≤ l.length ∧ v = .int .i64 j ∧ Ext w wr ∧ wr.ownsRow w.heap.size 42 4 (.slice (some ⟨w.heap.size, 0, none⟩) l.length l.length) l.length ((fillE l j).map perV).flatten) (fun v _ => l.length - (intOf v).toNat)
  case atStart => exact ⟨0, Nat.zero_le _, rfl, hE1, by simpa [fillE] using hown1⟩
  case round =>
    obtain ⟨j, hj, rfl, hE, hown⟩ := hrel
    have ho := own_ext HO.out hE
    have hcr := ext_cell hE hc0
    by_cases hlt : j < l.length
    · obtain ⟨k, rfl⟩ := hg (by omega)
      obtain ⟨x, hx⟩ : ∃ x, l[j]? = some x := ⟨_, List.getElem?_eq_getElem hlt⟩
      have hcx := ca_own ho rfl hx
      have x0 : wr.cell? ⟨k, j * 5, none⟩ = some (.int .i64 x.1.path) := hcx 0 (by omega)
      have x1 : wr.cell? ⟨k, j * 5 + 1, none⟩ = some (.int .i64 x.1.tag) := hcx 1 (by omega)
      have x2 : wr.cell? ⟨k, j * 5 + 2, none⟩ = some (.int .i64 x.1.tot) := hcx 2 (by omega)
      have x3 : wr.cell? ⟨k, j * 5 + 3, none⟩ = some (.int .i64 x.1.blk) := hcx 3 (by omega)
      have hcy := en_own hown (fillE_len l j hj).symm (fillE_get l j hlt)
      have y0 : wr.cell? ⟨w.heap.size, j * 4, none⟩ = some (.int .i64 0) := hcy 0 (by omega)
      have y1 : wr.cell? ⟨w.heap.size, j * 4 + 1, none⟩ = some (.int .i64 0) := hcy 1 (by omega)
      have y2 : wr.cell? ⟨w.heap.size, j * 4 + 2, none⟩ = some (.int .i64 0) := hcy 2 (by omega)
      have y3 : wr.cell? ⟨w.heap.size, j * 4 + 3, none⟩ = some (.int .i64 0) := hcy 3 (by omega)
      obtain ⟨cur, b1, -, -, -, -, -⟩ := own_blk hown
      have hfz := b1.frozen
      have hkl := World.block_lt_of_cell? wr _ x0
      have hkw : k ≠ w.heap.size := fun e => by have := (HO.out.lt k rfl).2; omega
      have HX : Hid ((((wr.setCell ⟨w.heap.size, j * 4, none⟩ (.int .i64 x.1.path)).setCell ⟨w.heap.size, j * 4 + 1, none⟩ (.int .i64 x.1.tag)).setCell ⟨w.heap.size, j * 4 + 2, none⟩ (.int .i64 x.1.tot)).setCell ⟨w.heap.size, j * 4 + 3, none⟩ (.int .i64 x.1.blk) |>.ownsRow w.heap.size 42 4 (.slice (some ⟨w.heap.size, 0, none⟩) l.length l.length) l.length ((fillE l (j + 1)).map perV).flatten) := by
        have h1 := (((hown.stored (j * 4) (.int .i64 x.1.path)).1.stored (j * 4 + 1) (.int .i64 x.1.tag)).1.stored (j * 4 + 2) (.int .i64 x.1.tot)).1.stored (j * 4 + 3) (.int .i64 x.1.blk)
        rw [er_set (fillE l j) j noEr x.1 (fillE_get l j hlt), fillE_set l j x hx] at h1
        exact h1.1
      have HEx : Hid (Ext w ((((wr.setCell ⟨w.heap.size, j * 4, none⟩ (.int .i64 x.1.path)).setCell ⟨w.heap.size, j * 4 + 1, none⟩ (.int .i64 x.1.tag)).setCell ⟨w.heap.size, j * 4 + 2, none⟩ (.int .i64 x.1.tot)).setCell ⟨w.heap.size, j * 4 + 3, none⟩ (.int .i64 x.1.blk))) :=
        (((hE.setCell (p := ⟨w.heap.size, j * 4, none⟩) (Nat.le_refl _) _).setCell (p := ⟨w.heap.size, j * 4 + 1, none⟩) (Nat.le_refl _) _).setCell (p := ⟨w.heap.size, j * 4 + 2, none⟩) (Nat.le_refl _) _).setCell (p := ⟨w.heap.size, j * 4 + 3, none⟩) (Nat.le_refl _) _
      have hlt' : (j : Int) < l.length := by omega
      clear hcx hcy hx hg
      go_wp2_with fail
      exact ⟨⟨j + 1, by omega, by go_num, HEx.out, HX.out⟩, by simp [intOf]; omega⟩
    · have HL : Hid (fillE l j = l.map Prod.fst) := by
        show _ = _
        have : j = l.length := by omega
        rw [this, fillE_all]
      clear hg
      go_wp2_with fail
      go_ret
      exact ⟨⟨_, rfl, by rw [← HL.out, fillE_len l j hj]; exact hown⟩, hE⟩

theorem EntriesP_any (q : Nat) (g : Pg) (w : World) (h : PgAt w q g) :
    Calls Tryz.prog 36 #[.pointer (some ⟨q, 0, none⟩)] w fun e w' => (∃ v, e = .returned v ∧ w'.ownsRow w.heap.size 42 4 v (g.s.cac.map Prod.fst).length ((g.s.cac.map Prod.fst).map perV).flatten) ∧ Ext w w' := by
  have HE := entriesC_any q g w h.toPgW
  generalize g.s.cac.map Prod.fst = l at *
  go_enter Tryz.func36, Tryz.ntmps36
  go_wp2_with fail
  refine HE.mono ?_
  rintro e w1 ⟨⟨v, rfl, ho⟩, hE⟩
  obtain ⟨a, cap, rfl, -⟩ := own_form ho
  go_wp2_with fail
  go_ret
  exact ⟨⟨_, rfl, ho⟩, hE⟩
end Go.Proofs.YtjhihliciadipabGreat
