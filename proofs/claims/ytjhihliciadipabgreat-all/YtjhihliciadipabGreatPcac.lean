import Derived.Test.YtjhihliciadipabGreatPwant
import Derived.Deep.RegionHeld3
set_option linter.unusedVariables false
set_option linter.unusedSimpArgs false
set_option linter.unnecessarySimpa false
namespace Go.Proofs.YtjhihliciadipabGreat
open Go.RowKit

/-! The program's cache. -/
def entAgg (e : Er) : Value := .agg #[.int .i64 e.path, .int .i64 e.tag, .int .i64 e.tot, .int .i64 e.blk]
theorem entAgg_eq (e : Er) : entAgg e = .agg #[.int .i64 e.path, .int .i64 e.tag, .int .i64 e.tot, .int .i64 e.blk] := rfl
def withC (g : Pg) (l : List (Er × ByteArray)) (c : Value) : Pg := ⟨{ g.s with cac := l }, ⟨g.v.t, c⟩⟩
/-- The cache has come to be l. -/
def CTo (w w' : World) (q : Nat) (g : Pg) (l : List (Er × ByteArray)) : Prop := ∃ c, PgW w' q (withC g l c) ∧ PMvs w w' q g (withC g l c)
theorem withC_withC (g : Pg) (l l' : List (Er × ByteArray)) (c c' : Value) : withC (withC g l c) l' c' = withC g l' c' := rfl
theorem CTo.ext {w w' : World} {q : Nat} {g : Pg} (h : PgW w q g) (hE : Ext w w') : CTo w w' q g g.s.cac := ⟨g.v.c, h.ext hE, PMvs.of_ext hE⟩
theorem POk.withC {s : Px} (h : POk s) {l : List (Er × ByteArray)} (hl : l.length ≤ 257) (hb : ∀ x ∈ l, x.2.size ≤ 16) : POk { s with cac := l } :=
  ⟨⟨h.fair.m1, h.fair.m2, h.fair.B1, h.fair.B2, h.fair.W1, h.fair.W2, h.fair.c1, h.fair.c2, h.fair.t1, h.fair.t2⟩, h.nl, h.lat, h.nt, h.ts, h.nb, h.ne, h.ers, hl, hb⟩
theorem pgV_c (g : Pg) (hl : g.s.lat.length = 4) (hb : g.s.busy.length = 3) (he : g.s.ers.length = 3) (l : List (Er × ByteArray)) (c : Value) : (pgV g).set 30 c = pgV (withC g l c) := by
  have hs : (setV g.s).length = 5 := rfl
  unfold pgV
  rw [List.set_append_right _ _ (by omega), hs, List.set_append_right _ _ (by rw [lat_len hl]; omega), lat_len hl, List.set_cons_succ, List.set_append_right _ _ (by simp [hb]), List.set_append_right _ _ (by rw [ersF_len he]; simp [hb]), ersF_len he]
  simp only [List.length_map, hb]
  rfl
theorem PgW.newC {w w1 : World} {q : Nat} {g : Pg} (h : PgW w q g) (hc : Chg (fun x => g.v.c.ownBlock = some x) w w1) (c : Value) (l : List (Er × ByteArray)) (ho : w1.ownsRow 0 167 5 c l.length (l.map caV).flatten)
    (hor : ∀ b, c.ownBlock = some b → g.v.c.ownBlock = some b ∨ w.heap.size ≤ b) (hl : l.length ≤ 257) (hb : ∀ x ∈ l, x.2.size ≤ 16) :
    PgW (w1.setCell ⟨q, 30, none⟩ c) q (withC g l c) ∧ PMvs w (w1.setCell ⟨q, 30, none⟩ c) q g (withC g l c) := by
  have hB1 := h.blk.chg hc h.nc
  have hnc : c.ownBlock ≠ some q := fun e => by
    rcases hor q e with h1 | h1
    · exact h.nc h1
    · have := h.blk.lt; omega
  have hC : Chg (fun b => b = q) w1 (w1.setCell ⟨q, 30, none⟩ c) := Chg.setCell (S := fun b => b = q) (Chg.refl _ _) (p := ⟨q, 30, none⟩) (Or.inl rfl) _
  refine ⟨⟨?_, ?_, ?_, h.np, hnc, ?_, h.ok.withC hl hb⟩, ?_, ?_⟩
  · have := hB1.set 30 c
    rw [List.setIfInBounds_toArray, pgV_c g h.ok.nl h.ok.nb h.ok.ne l c] at this
    exact this
  · exact own_chg (own_chg h.ts hc (fun k hk e => h.nt k hk e)) hC (fun k hk e => h.np (e ▸ hk))
  · exact own_chg ho hC (fun k hk e => hnc (e ▸ hk))
  · intro b hb' hx
    have hx' : c.ownBlock = some b := hx
    rcases hor b hx' with h1 | h1
    · exact h.nt b hb' h1
    · have := h.lt b (Or.inr (Or.inl hb')); omega
  · exact (hc.mono (fun b _ hb => Or.inr (Or.inr hb))).trans' (hC.mono (fun b _ hb => Or.inl (Or.inl hb)))
  · rintro b (rfl | hb | hb)
    · exact Or.inl (Or.inl rfl)
    · exact Or.inl (Or.inr (Or.inl hb))
    · rcases hor b hb with h1 | h1
      · exact Or.inl (Or.inr (Or.inr h1))
      · exact Or.inr h1
theorem ca_own {w : World} {base n cap k : Nat} {l : List (Er × ByteArray)} (h : w.ownsRow base 167 5 (.slice (some ⟨k, 0, none⟩) n cap) n (l.map caV).flatten) (hn : n = l.length) {i : Nat} {x : Er × ByteArray} (hx : l[i]? = some x) :
    ∀ r, r < 5 → w.cell? ⟨k, i * 5 + r, none⟩ = (caV x)[r]? := by
  have hi := (List.getElem?_eq_some_iff.1 hx).1
  have hm : (i + 1) * 5 ≤ n * 5 := Nat.mul_le_mul_right 5 (by omega)
  intro r hr
  rw [h.cellAt (i * 5 + r) (by omega), flat_get 5 _ (cas_len _) i r hr]; simp [hx]

theorem usedC_snoc (l : List (Er × ByteArray)) (x : Er × ByteArray) : usedC (l ++ [x]) = usedC l + x.2.size := by unfold usedC; rw [List.foldl_append]; rfl
theorem usedC_bd (l : List (Er × ByteArray)) (h : ∀ x ∈ l, x.2.size ≤ 16) : 0 ≤ usedC l ∧ usedC l ≤ 16 * l.length := by
  have key : ∀ (l : List (Er × ByteArray)) (a : Int), 0 ≤ a → (∀ x ∈ l, x.2.size ≤ 16) → a ≤ l.foldl (fun n x => n + (x.2.size : Int)) a ∧ l.foldl (fun n x => n + (x.2.size : Int)) a ≤ a + 16 * l.length := by
    intro l
    induction l with
    | nil => intro a _ _; simp
    | cons x l ih =>
      intro a ha hx
      have h1 := hx x (List.mem_cons_self ..)
      have := ih (a + x.2.size) (by omega) (fun y hy => hx y (List.mem_cons_of_mem _ hy))
      simp only [List.foldl_cons, List.length_cons]
      omega
  have := key l 0 (by omega) h
  unfold usedC; omega

set_option maxHeartbeats 1000000 in
theorem used_any (q : Nat) (g : Pg) (w : World) (h : PgW w q g) :
    Calls Tryz.prog 70 #[.pointer (some ⟨q, 29, none⟩)] w fun e w' => e = .returned (.int .i64 (usedC g.s.cac)) ∧ w' = w := by
  have hc := h.cC
  have ho := h.cs
  have hn := h.ok.cl
  have HK := hide h.ok.cb
  generalize g.s.cac = l at *
  generalize g.v.c = vc at *
  obtain ⟨a, cap, rfl, hg⟩ := own_form ho
  clear h
  go_enter Tryz.func70, Tryz.ntmps70
  go_wp2_with fail
  go_loop [3, 4] (fun n k => ∃ j : Nat, j ≤ l.length ∧ k = .int .i64 j ∧ n = .int .i64 (usedC (l.take j))) (fun _ k => l.length - (intOf k).toNat)
  case atStart => exact ⟨0, Nat.zero_le _, rfl, rfl⟩
  case round =>
    obtain ⟨j, hj, rfl, rfl⟩ := hrel
    have hbd := usedC_bd (l.take j) (fun x hx => HK.out x (List.mem_of_mem_take hx))
    have hl0 := List.length_take_le j l
    by_cases hlt : j < l.length
    · obtain ⟨k, rfl⟩ := hg (by omega)
      obtain ⟨x, hx⟩ : ∃ x, l[j]? = some x := ⟨_, List.getElem?_eq_getElem hlt⟩
      have ck : w.cell? ⟨k, j * 5 + 4, none⟩ = some (.string x.2) := ca_own ho rfl hx 4 (by omega)
      have hsz := HK.out x (List.mem_of_getElem? hx)
      have HN : Hid (usedC (l.take (j + 1)) = usedC (l.take j) + x.2.size) := by
        show _ = _
        rw [List.take_succ_eq_append_getElem hlt, usedC_snoc, (List.getElem?_eq_some_iff.1 hx).2]
      have hbd2 : 0 ≤ usedC (l.take j) ∧ usedC (l.take j) ≤ 16000 := by omega
      clear hbd hx
      generalize usedC (l.take j) = S at *
      clear hg
      go_wp2_with fail
      exact ⟨⟨j + 1, by omega, by go_num, by rw [HN.out]⟩, by simp [intOf]; omega⟩
    · clear hg
      go_wp2_with fail
      go_ret
      exact ⟨ret_int (by rw [List.take_of_length_le (by omega)]), rfl⟩

set_option maxHeartbeats 1000000 in
@[go_sem] theorem eqCE (a1 a2 a3 a4 b1 b2 b3 b4 : Int) (w : World) : (Op.equalIn 10000 42 (.agg #[.int .i64 a1, .int .i64 a2, .int .i64 a3, .int .i64 a4]) (.agg #[.int .i64 b1, .int .i64 b2, .int .i64 b3, .int .i64 b4])).run Tryz.prog w
    = .ok (a1 == b1 && (a2 == b2 && a3 == b3) && a4 == b4) w := by
  have u3 := Tryz.underlying3
  have a3' := Tryz.isAgg3
  have z3 := Tryz.sizeOf3
  have hS : Tryz.prog.underlying 42 = some (.struct (Tryz.prog.fieldsOf 42)) := by kernel_rfl
  have hp : Tryz.prog.stoodInHeld 42 = false := by kernel_rfl
  rw [show (10000 : Nat) = 9999 + 1 from rfl, run_equalIn_agg w 9999 42 _ _ hS hp]
  simp only [Program.fieldsOf, Tryz.underlying42]
  rw [show (9999 : Nat) = 9997 + 2 from rfl]
  go_simp
  by_cases h1 : a1 = b1 <;> by_cases h2 : a2 = b2 <;> by_cases h3 : a3 = b3 <;> by_cases h4 : a4 = b4 <;> simp [h1, h2, h3, h4]

theorem find_hit {l : List (Er × ByteArray)} {e : Er} {n : Nat} {x : Er × ByteArray} (hx : l[n]? = some x) (ha : ∀ (j : Nat) y, j < n → l[j]? = some y → (y.1 == e) = false) (he : (x.1 == e) = true) : findC l e = n := by
  unfold findC
  obtain ⟨hn, hx'⟩ := List.getElem?_eq_some_iff.1 hx
  rw [List.findIdx_eq hn]
  refine ⟨by rw [hx']; exact he, fun j hj => ?_⟩
  exact ha j _ hj (List.getElem?_eq_getElem (by omega))
theorem find_none {l : List (Er × ByteArray)} {e : Er} (ha : ∀ (j : Nat) y, j < l.length → l[j]? = some y → (y.1 == e) = false) : findC l e = l.length := by
  unfold findC
  rw [List.findIdx_eq_length]
  intro y hy
  obtain ⟨j, hj⟩ := List.mem_iff_getElem?.1 hy
  exact ha j y (List.getElem?_eq_some_iff.1 hj).1 hj
theorem ret_nat {k : IntKind} {a b : Nat} (h : a = b) : Ending.returned (.int k (a : Int)) = .returned (.int k (b : Int)) := by rw [h]

set_option maxRecDepth 100000 in
set_option maxHeartbeats 2000000 in
theorem find_any (q : Nat) (e : Er) (g : Pg) (w : World) (h : PgW w q g) :
    Calls Tryz.prog 103 #[.pointer (some ⟨q, 29, none⟩), entAgg e] w fun r w' => r = .returned (.int .i64 (findC g.s.cac e)) ∧ Ext w w' := by
  have hn := h.ok.cl
  have hE := Ext.new w (.cells #[.int .i64 e.path, .int .i64 e.tag, .int .i64 e.tot, .int .i64 e.blk] 42)
  have hB := Blk.new w 42 #[.int .i64 e.path, .int .i64 e.tag, .int .i64 e.tot, .int .i64 e.blk]
  have h0 := h.ext hE
  have hc := h0.cC
  have ho := h0.cs
  generalize g.s.cac = l at *
  generalize g.v.c = vc at *
  obtain ⟨a, cap, rfl, hg⟩ := own_form ho
  clear h h0
  rw [entAgg_eq]
  go_enter Tryz.func103, Tryz.ntmps103
  go_wp2_with fail
  generalize w.alloc (.cells #[.int .i64 e.path, .int .i64 e.tag, .int .i64 e.tot, .int .i64 e.blk] 42) = w0 at *
  have k0 : w0.cell? ⟨w.heap.size, 0, none⟩ = some (.int .i64 e.path) := hB.cell 0
  have k1 : w0.cell? ⟨w.heap.size, 1, none⟩ = some (.int .i64 e.tag) := hB.cell 1
  have k2 : w0.cell? ⟨w.heap.size, 2, none⟩ = some (.int .i64 e.tot) := hB.cell 2
  have k3 : w0.cell? ⟨w.heap.size, 3, none⟩ = some (.int .i64 e.blk) := hB.cell 3
  have HO := hide ho
  clear ho hB
  go_loopg [5] l.length (fun m v wr => ∃ n : Nat, m = l.length - n ∧ n ≤ l.length ∧ v = .int .i64 n ∧ (∃ d, wr = w0.drewN d) ∧ Hid (∀ (j : Nat) y, j < n → l[j]? = some y → (y.1 == e) = false))
  case atStart => exact ⟨0, rfl, by omega, rfl, ⟨0, rfl⟩, fun j x hj => absurd hj (by omega)⟩
  case round =>
    obtain ⟨n, rfl, hn', rfl, ⟨d, rfl⟩, HA⟩ := hrel
    by_cases hlt : n < l.length
    · obtain ⟨k, rfl⟩ := hg (by omega)
      obtain ⟨x, hx⟩ : ∃ x, l[n]? = some x := ⟨_, List.getElem?_eq_getElem hlt⟩
      have hcell := ca_own HO.out rfl hx
      have e0 : w0.cell? ⟨k, n * 5, none⟩ = some (.int .i64 x.1.path) := hcell 0 (by omega)
      have e1 : w0.cell? ⟨k, n * 5 + 1, none⟩ = some (.int .i64 x.1.tag) := hcell 1 (by omega)
      have e2 : w0.cell? ⟨k, n * 5 + 2, none⟩ = some (.int .i64 x.1.tot) := hcell 2 (by omega)
      have e3 : w0.cell? ⟨k, n * 5 + 3, none⟩ = some (.int .i64 x.1.blk) := hcell 3 (by omega)
      have HQ := hide (er_beq x.1 e)
      have HN : Hid ((x.1 == e) = false → ∀ (j : Nat) y, j < n + 1 → l[j]? = some y → (y.1 == e) = false) := by
        intro hbx j y hj hy
        by_cases hjk : j = n
        · subst hjk; rw [hx] at hy; simp at hy; subst hy; exact hbx
        · exact HA.out j y (by omega) hy
      have HY : Hid ((x.1 == e) = true → findC l e = n) := fun hbx => find_hit hx HA.out hbx
      have hlt' : decide ((n : Int) < l.length) = true := by simpa using hlt
      clear hx hg HO hcell
      go_wp2_with fail
      by_cases h1 : x.1.path = e.path
      · by_cases h2 : x.1.tag = e.tag
        · by_cases h3 : x.1.tot = e.tot
          · by_cases h4 : x.1.blk = e.blk
            · have HY1 := hide (HY.out (by rw [HQ.out]; simp [h1, h2, h3, h4]))
              clear HN HY HA HQ
              go_quiet (fail)
              go_wp2_with fail
              go_ret
              exact ⟨ret_nat HY1.out.symm, Ext.drewN (Ext.drewN hE _) _⟩
            · have HN1 := hide (HN.out (by rw [HQ.out]; simp [h4]))
              clear HN HY HA HQ
              go_quiet (fail)
              go_wp2_with fail
              go_roundg (l.length - (n + 1))
              case measure => omega
              case rel => exact ⟨n + 1, rfl, by omega, by go_num, ⟨_, rfl⟩, HN1⟩
          · have HN1 := hide (HN.out (by rw [HQ.out]; simp [h3]))
            clear HN HY HA HQ
            go_quiet (fail)
            go_wp2_with fail
            go_roundg (l.length - (n + 1))
            case measure => omega
            case rel => exact ⟨n + 1, rfl, by omega, by go_num, ⟨_, rfl⟩, HN1⟩
        · have HN1 := hide (HN.out (by rw [HQ.out]; simp [h2]))
          clear HN HY HA HQ
          go_quiet (fail)
          go_wp2_with fail
          go_roundg (l.length - (n + 1))
          case measure => omega
          case rel => exact ⟨n + 1, rfl, by omega, by go_num, ⟨_, rfl⟩, HN1⟩
      · have HN1 := hide (HN.out (by rw [HQ.out]; simp [h1]))
        clear HN HY HA HQ
        go_quiet (fail)
        go_wp2_with fail
        go_roundg (l.length - (n + 1))
        case measure => omega
        case rel => exact ⟨n + 1, rfl, by omega, by go_num, ⟨_, rfl⟩, HN1⟩
    · have HF : Hid (findC l e = n) := by
        show _ = _
        rw [find_none (fun j y hj hy => HA.out j y (by omega) hy)]; omega
      have hlt' : decide ((n : Int) < l.length) = false := by simpa using hlt
      go_wp2_with fail
      go_quiet (fail)
      go_wp2_with fail
      go_ret
      exact ⟨ret_nat HF.out.symm, Ext.drewN (Ext.drewN hE _) _⟩
end Go.Proofs.YtjhihliciadipabGreat

namespace Go.Proofs.YtjhihliciadipabGreat
open Go.RowKit

/-- The blocks behind i have moved down, up to the place j. -/
def shiftL (l : List (Er × ByteArray)) (i j : Nat) : List (Er × ByteArray) := (l.take (j + 1)).eraseIdx i ++ l.drop j
theorem shift_first (l : List (Er × ByteArray)) (i : Nat) (h : i < l.length) : shiftL l i i = l := by
  unfold shiftL
  rw [List.take_succ_eq_append_getElem h, List.eraseIdx_append_of_length_le (by simp; omega)]
  have : i - (l.take i).length = 0 := by simp; omega
  rw [this]; simp
theorem shift_len (l : List (Er × ByteArray)) (i j : Nat) (hi : i ≤ j) (h : j < l.length) : (shiftL l i j).length = l.length := by
  unfold shiftL
  rw [List.length_append, List.length_eraseIdx, List.length_take, List.length_drop]
  split <;> omega
theorem shift_next (l : List (Er × ByteArray)) (i j : Nat) (x : Er × ByteArray) (hi : i ≤ j) (hx : l[j + 1]? = some x) : (shiftL l i j).set j x = shiftL l i (j + 1) := by
  obtain ⟨h, hx'⟩ := List.getElem?_eq_some_iff.1 hx
  have hl : ((l.take (j + 1)).eraseIdx i).length = j := by rw [List.length_eraseIdx, List.length_take]; split <;> omega
  unfold shiftL
  rw [List.set_append_right _ _ (by omega), hl, List.drop_eq_getElem_cons (show j < l.length by omega), show j - j = 0 by omega, List.set_cons_zero, List.take_succ_eq_append_getElem h, List.eraseIdx_append_of_lt_length (by simp; omega), hx', List.append_assoc]
  rfl
theorem shift_at (l : List (Er × ByteArray)) (i j k : Nat) (hi : i ≤ j) (h : j < l.length) (hk : j ≤ k) : (shiftL l i j)[k]? = l[k]? := by
  have hl : ((l.take (j + 1)).eraseIdx i).length = j := by rw [List.length_eraseIdx, List.length_take]; split <;> omega
  unfold shiftL
  rw [List.getElem?_append_right (by omega), hl, List.getElem?_drop]
  congr 1; omega
theorem shift_last (l : List (Er × ByteArray)) (i : Nat) (h : i < l.length) (y : Er × ByteArray) : (shiftL l i (l.length - 1)).set (l.length - 1) y = l.eraseIdx i ++ [y] := by
  have hl : (l.eraseIdx i).length = l.length - 1 := by rw [List.length_eraseIdx]; split <;> omega
  unfold shiftL
  rw [show l.length - 1 + 1 = l.length by omega, List.take_length, List.set_append_right _ _ (by omega), hl, show l.length - 1 - (l.length - 1) = 0 by omega, List.drop_eq_getElem_cons (show l.length - 1 < l.length by omega), List.set_cons_zero,
    List.drop_of_length_le (by omega)]
theorem ca_set (l : List (Er × ByteArray)) (j : Nat) (x y : Er × ByteArray) (hx : l[j]? = some x) :
    (((((l.map caV).flatten.set (j * 5) (.int .i64 y.1.path)).set (j * 5 + 1) (.int .i64 y.1.tag)).set (j * 5 + 2) (.int .i64 y.1.tot)).set (j * 5 + 3) (.int .i64 y.1.blk)).set (j * 5 + 4) (.string y.2) = ((l.set j y).map caV).flatten := by
  have hj := (List.getElem?_eq_some_iff.1 hx).1
  have step : ∀ (l : List (Er × ByteArray)) (x x' : Er × ByteArray) (r : Nat) (u : Value), l[j]? = some x → r < 5 → (caV x).set r u = caV x' → (l.map caV).flatten.set (j * 5 + r) u = ((l.set j x').map caV).flatten := by
    intro l x x' r u hx hr hrow
    rw [flat_set 5 _ (cas_len _) j r hr u (caV x) (by simp [hx]), hrow, List.map_set]
  have a := step l x (⟨y.1.path, x.1.tag, x.1.tot, x.1.blk⟩, x.2) 0 (.int .i64 y.1.path) hx (by omega) rfl
  have b := step (l.set j (⟨y.1.path, x.1.tag, x.1.tot, x.1.blk⟩, x.2)) (⟨y.1.path, x.1.tag, x.1.tot, x.1.blk⟩, x.2) (⟨y.1.path, y.1.tag, x.1.tot, x.1.blk⟩, x.2) 1 (.int .i64 y.1.tag) (by simp [hj]) (by omega) rfl
  have c := step (l.set j (⟨y.1.path, y.1.tag, x.1.tot, x.1.blk⟩, x.2)) (⟨y.1.path, y.1.tag, x.1.tot, x.1.blk⟩, x.2) (⟨y.1.path, y.1.tag, y.1.tot, x.1.blk⟩, x.2) 2 (.int .i64 y.1.tot) (by simp [hj]) (by omega) rfl
  have d := step (l.set j (⟨y.1.path, y.1.tag, y.1.tot, x.1.blk⟩, x.2)) (⟨y.1.path, y.1.tag, y.1.tot, x.1.blk⟩, x.2) (y.1, x.2) 3 (.int .i64 y.1.blk) (by simp [hj]) (by omega) rfl
  have e := step (l.set j (y.1, x.2)) (y.1, x.2) y 4 (.string y.2) (by simp [hj]) (by omega) rfl
  simp only [Nat.add_zero, List.set_set] at a b c d e
  rw [a, b, c, d, e]
/-- One block of the cache is written over. -/
theorem ca_store {w : World} {base k n cap : Nat} {l : List (Er × ByteArray)} (h : w.ownsRow base 167 5 (.slice (some ⟨k, 0, none⟩) n cap) n (l.map caV).flatten) (j : Nat) (x y : Er × ByteArray) (hx : l[j]? = some x) :
    (((((w.setCell ⟨k, j * 5, none⟩ (.int .i64 y.1.path)).setCell ⟨k, j * 5 + 1, none⟩ (.int .i64 y.1.tag)).setCell ⟨k, j * 5 + 2, none⟩ (.int .i64 y.1.tot)).setCell ⟨k, j * 5 + 3, none⟩ (.int .i64 y.1.blk)).setCell ⟨k, j * 5 + 4, none⟩ (.string y.2)).ownsRow base 167 5 (.slice (some ⟨k, 0, none⟩) n cap) n ((l.set j y).map caV).flatten := by
  have := ((((h.stored (j * 5) (.int .i64 y.1.path)).1.stored (j * 5 + 1) (.int .i64 y.1.tag)).1.stored (j * 5 + 2) (.int .i64 y.1.tot)).1.stored (j * 5 + 3) (.int .i64 y.1.blk)).1.stored (j * 5 + 4) (.string y.2)
  rw [ca_set l j x y hx] at this
  exact this.1
theorem box5' (w : World) (n j : Nat) (a b c d e : Value) : Chg (fun x => x = n) w (((((w.setCell ⟨n, j, none⟩ a).setCell ⟨n, j + 1, none⟩ b).setCell ⟨n, j + 2, none⟩ c).setCell ⟨n, j + 3, none⟩ d).setCell ⟨n, j + 4, none⟩ e) :=
  ((((Chg.setCell (S := fun x => x = n) (Chg.refl _ _) (p := ⟨n, j, none⟩) (Or.inl rfl) _).setCell (p := ⟨n, j + 1, none⟩) (Or.inl rfl) _).setCell (p := ⟨n, j + 2, none⟩) (Or.inl rfl) _).setCell (p := ⟨n, j + 3, none⟩) (Or.inl rfl) _).setCell (p := ⟨n, j + 4, none⟩) (Or.inl rfl) _
/-- A slice of our own, cut off at its end. -/
theorem own_cut {w : World} {base k n m cap : Nat} {l : List (Er × ByteArray)} {y : Er × ByteArray} (h : w.ownsRow base 167 5 (.slice (some ⟨k, 0, none⟩) n cap) n ((l ++ [y]).map caV).flatten) (hm : m = l.length) (hn : n = m + 1) :
    w.ownsRow base 167 5 (.slice (some ⟨k, 0, none⟩) m cap) l.length (l.map caV).flatten := by
  obtain ⟨cur, b1, b2, b3, b4, b5, b6⟩ := own_blk h
  subst hm
  refine ⟨by rw [flat_len 5 _ (cas_len _)]; simp, .inr ⟨k, cap, cur, rfl, b6, b1, by omega, b5, b2, ?_⟩⟩
  have h1 : cur.toList.take (l.length * 5) = (cur.toList.take (n * 5)).take (l.length * 5) := by rw [List.take_take]; congr 1; omega
  rw [h1, b3, List.map_append, List.flatten_append, List.take_append_of_le_length (by rw [flat_len 5 _ (cas_len _)]; simp), List.take_of_length_le (by rw [flat_len 5 _ (cas_len _)]; simp)]

theorem eraseIdx_sub (l : List (Er × ByteArray)) (i : Nat) : (l.eraseIdx i).length ≤ l.length ∧ ∀ x ∈ l.eraseIdx i, x ∈ l := ⟨List.length_eraseIdx_le .., fun x hx => (List.eraseIdx_sublist ..).subset hx⟩

set_option maxRecDepth 100000 in
set_option maxHeartbeats 4000000 in
theorem remove_in (q i : Nat) (g : Pg) (w : World) (h : PgW w q g) (hi : i < g.s.cac.length) :
    Calls Tryz.prog 104 #[.pointer (some ⟨q, 29, none⟩), .int .i64 i] w fun r w' => r = .returned (.tuple #[]) ∧ CTo w w' q g (g.s.cac.eraseIdx i) := by
  have hn := h.ok.cl
  have hb := h.ok.cb
  have hc := h.cC
  have ho := h.cs
  have hql := h.blk.lt
  have HBq := hide h.blk
  obtain ⟨a, cap, hC, hg⟩ := own_form ho
  obtain ⟨k, rfl⟩ := hg (by omega)
  rw [hC] at hc ho
  have hkq : k ≠ q := by rintro rfl; exact h.nc (by rw [hC]; rfl)
  obtain ⟨cur, b1, b2, b3, b4, b5, b6⟩ := own_blk ho
  have HNC := hide (fun (w1 : World) (hch : Chg (fun x => g.v.c.ownBlock = some x) w w1) (c : Value) (l : List (Er × ByteArray)) (o : w1.ownsRow 0 167 5 c l.length (l.map caV).flatten) (hor : ∀ b, c.ownBlock = some b → g.v.c.ownBlock = some b ∨ w.heap.size ≤ b) (hl : l.length ≤ 257) (hb : ∀ x ∈ l, x.2.size ≤ 16) => h.newC hch c l o hor hl hb)
  have HC := hide hC
  have HB := hide hb
  have HES := hide (eraseIdx_sub g.s.cac i)
  have hcapn : g.s.cac.length - 1 ≤ cap := by omega
  clear h hC hb hg b1 b2 b3 b6
  generalize g.s.cac = l at *
  have HO := hide ho
  have hlast : (i : Int) < l.length := by omega
  clear ho
  go_enter Tryz.func104, Tryz.ntmps104
  go_wp2_with fail
  go_loopw [1] (fun v wr => ∃ j : Nat, i ≤ j ∧ j ≤ l.length - 1 ∧ v = .int .i64 j ∧ Chg (fun x => x = k) w wr ∧ wr.ownsRow 0 167 5 (.slice (some ⟨k, 0, none⟩) l.length cap) l.length ((shiftL l i j).map caV).flatten) (fun v _ => l.length - (intOf v).toNat)
  case atStart => exact ⟨i, Nat.le_refl _, by omega, rfl, Chg.refl _ _, by rw [shift_first l i hi]; exact HO.out⟩
  case round =>
    obtain ⟨j, hij, hj, rfl, hch, hown⟩ := hrel
    have hc1 := chg_cell hch hc (fun e => hkq e.symm)
    have hlen := shift_len l i j hij (by omega)
    obtain ⟨cur1, b1, -, -, -, -, -⟩ := own_blk hown
    have hfz1 := b1.frozen
    have hfq := (HBq.out.chg hch (fun e => hkq e.symm)).frozen 30
    have hkl := b1.lt
    obtain ⟨x, hx⟩ : ∃ x, (shiftL l i j)[j]? = some x := ⟨_, List.getElem?_eq_getElem (by omega)⟩
    have hcx := ca_own hown hlen.symm hx
    have x0 : wr.cell? ⟨k, j * 5, none⟩ = some (.int .i64 x.1.path) := hcx 0 (by omega)
    have x1 : wr.cell? ⟨k, j * 5 + 1, none⟩ = some (.int .i64 x.1.tag) := hcx 1 (by omega)
    have x2 : wr.cell? ⟨k, j * 5 + 2, none⟩ = some (.int .i64 x.1.tot) := hcx 2 (by omega)
    have x3 : wr.cell? ⟨k, j * 5 + 3, none⟩ = some (.int .i64 x.1.blk) := hcx 3 (by omega)
    have x4 : wr.cell? ⟨k, j * 5 + 4, none⟩ = some (.string x.2) := hcx 4 (by omega)
    by_cases hlt : j < l.length - 1
    · obtain ⟨y, hy⟩ : ∃ y, l[j + 1]? = some y := ⟨_, List.getElem?_eq_getElem (by omega)⟩
      have hcy := ca_own hown hlen.symm (i := j + 1) (x := y) (by rw [shift_at l i j (j + 1) hij (by omega) (by omega)]; exact hy)
      have y0 : wr.cell? ⟨k, (j + 1) * 5, none⟩ = some (.int .i64 y.1.path) := hcy 0 (by omega)
      have y1 : wr.cell? ⟨k, (j + 1) * 5 + 1, none⟩ = some (.int .i64 y.1.tag) := hcy 1 (by omega)
      have y2 : wr.cell? ⟨k, (j + 1) * 5 + 2, none⟩ = some (.int .i64 y.1.tot) := hcy 2 (by omega)
      have y3 : wr.cell? ⟨k, (j + 1) * 5 + 3, none⟩ = some (.int .i64 y.1.blk) := hcy 3 (by omega)
      have y4 : wr.cell? ⟨k, (j + 1) * 5 + 4, none⟩ = some (.string y.2) := hcy 4 (by omega)
      have HX := hide (ca_store hown j x y hx)
      have HS : Hid ((shiftL l i j).set j y = shiftL l i (j + 1)) := shift_next l i j y hij hy
      have hlt' : (j : Int) < (l.length : Int) - 1 := by omega
      clear hcx hcy hx hy
      go_wp2_with fail
      go_region
      all_goals go_wp2_with fail
      all_goals exact ⟨⟨j + 1, by omega, by omega, by go_num, hch.trans ((box5' wr k (j * 5) _ _ _ _ _).ext (Below.drew (Below.refl _ _))), by rw [← HS.out]; exact own_ext HX.out (Below.drew (Below.refl _ _))⟩, by simp [intOf]; omega⟩
    · have hjl : j = l.length - 1 := by omega
      have HX := hide (ca_store hown (l.length - 1) x (noEr, ByteArray.empty) (by rw [← hjl]; exact hx))
      have HS : Hid ((shiftL l i j).set (l.length - 1) (noEr, ByteArray.empty) = l.eraseIdx i ++ [(noEr, ByteArray.empty)]) := by show _ = _; rw [hjl]; exact shift_last l i hi _
      rw [hjl] at x0 x1 x2 x3 x4
      have hlt' : ¬ ((j : Int) < (l.length : Int) - 1) := by omega
      clear hcx hx hjl
      go_wp2_with fail
      go_end0
      refine ⟨rfl, _, HNC.out _ ((hch.trans (box5' wr k ((l.length - 1) * 5) _ _ _ _ _)).mono (fun b _ hb => by rw [HC.out, hb]; rfl)) _ (l.eraseIdx i) ?_ (fun b hb => Or.inl (by rw [HC.out]; exact hb)) (by have := HES.out.1; omega) (fun x hx => HB.out x (HES.out.2 x hx))⟩
      have h1 := HX.out
      rw [HS.out] at h1
      have hel : (l.eraseIdx i).length = l.length - 1 := by rw [List.length_eraseIdx]; split <;> omega
      exact own_cut h1 hel.symm (by omega)

theorem remove_any (q i : Nat) (g : Pg) (w : World) (h : PgW w q g) :
    Calls Tryz.prog 104 #[.pointer (some ⟨q, 29, none⟩), .int .i64 i] w fun r w' => r = .returned (.tuple #[]) ∧ CTo w w' q g (g.s.cac.eraseIdx i) := by
  by_cases hi : i < g.s.cac.length
  · exact remove_in q i g w h hi
  · have HE : Hid (g.s.cac.eraseIdx i = g.s.cac) := List.eraseIdx_of_length_le (by omega)
    have hc := h.cC
    obtain ⟨a, cap, hC, hg⟩ := own_form h.cs
    rw [hC] at hc
    have hi' : ¬ ((i : Int) < g.s.cac.length) := by omega
    clear hg hC
    go_enter Tryz.func104, Tryz.ntmps104
    go_wp2_with fail
    refine bodyPost_ret (v := .tuple #[]) (by simp [results, Tryz.results104, go_sem]) rfl ⟨rfl, by rw [HE.out]; exact CTo.ext h (Below.refl _ _)⟩

theorem entry_any (e : Er) (w : World) : Calls Tryz.prog 77 #[erAgg e] w fun r w' => r = .returned (entAgg e) ∧ Ext w w' := by
  rw [erAgg_eq, entAgg_eq]
  go_enter Tryz.func77, Tryz.ntmps77
  go_wp2_with fail
  refine bodyPost_ret (v := .agg #[.int .i64 e.path, .int .i64 e.tag, .int .i64 e.tot, .int .i64 e.blk]) (by simp [results, Tryz.results77, go_sem]) rfl ⟨rfl, ?_⟩
  (with_reducible repeat (first | refine Below.drew ?_ | refine Below.alloc ?_ ?_ _ | refine Below.setCell ?_ ?_ _ | exact Below.refl _ _)) <;> simp
end Go.Proofs.YtjhihliciadipabGreat

namespace Go.Proofs.YtjhihliciadipabGreat
open Go.RowKit

theorem infoCached : (Tryz.prog.info? 167).map (fun i => (i.zero, i.size, i.bytes)) = some (some (.agg #[.int .i64 0, .int .i64 0, .int .i64 0, .int .i64 0, .string ByteArray.empty]), 5, 48) := by kernel_rfl
theorem ca_one (x : Er × ByteArray) : ∀ u ∈ caV x, u.oneCell' = true := by intro u hu; simp [caV] at hu; rcases hu with rfl | rfl | rfl | rfl | rfl <;> rfl
theorem PMvs.ext {w w1 w2 : World} {q : Nat} {g g1 : Pg} (h : PMvs w w1 q g g1) (hE : Ext w1 w2) : PMvs w w2 q g g1 := h.trans (PMvs.of_ext hE)
theorem CTo.trans {w w1 w2 : World} {q : Nat} {g : Pg} {l l2 : List (Er × ByteArray)} {c : Value} (h1 : PMvs w w1 q g (withC g l c)) (h2 : CTo w1 w2 q (withC g l c) l2) : CTo w w2 q g l2 := by
  obtain ⟨c2, a, b⟩ := h2; exact ⟨c2, a, h1.trans b⟩
/-- One more block behind the cache's. -/
theorem PgW.addC {w wx w1 : World} {q : Nat} {g : Pg} (h : PgW w q g) (x : Er × ByteArray) (hE : Ext w wx) {c : Value} (ho : w1.ownsRow 0 167 5 c (g.s.cac.length + 1) ((g.s.cac.map caV).flatten ++ caV x)) (hg : wx.grownBy w1 g.v.c.ownBlock)
    (hw : c.ownBlock = g.v.c.ownBlock ∨ c.ownBlock = some wx.heap.size) (hl : g.s.cac.length < 257) (hb : x.2.size ≤ 16) :
    PgW (w1.setCell ⟨q, 30, none⟩ c) q (withC g (g.s.cac ++ [x]) c) ∧ PMvs w (w1.setCell ⟨q, 30, none⟩ c) q g (withC g (g.s.cac ++ [x]) c) := by
  refine h.newC ((Chg.of_ext hE).trans (Chg.of_grown hg (fun k hk => hk))) c (g.s.cac ++ [x]) ?_ (fun b hb => ?_) (by simp; omega) (fun y hy => ?_)
  · rw [List.length_append, List.map_append, List.flatten_append]; simpa using ho
  · rcases hw with h1 | h1
    · exact Or.inl (by rw [← h1]; exact hb)
    · right; rw [h1] at hb; simp at hb; have := hE.size; omega
  · rcases List.mem_append.1 hy with h1 | h1
    · exact h.ok.cb y h1
    · simp at h1; subst h1; exact hb

theorem useC_none {l : List (Er × ByteArray)} {e : Er} (h : findC l e = l.length) : useC l e = (ByteArray.empty, l) := by
  unfold useC; rw [h, List.getElem?_eq_none (Nat.le_refl _)]
theorem useC_some {l : List (Er × ByteArray)} {e : Er} {x : Er × ByteArray} (h : l[findC l e]? = some x) : useC l e = (x.2, l.eraseIdx (findC l e) ++ [x]) := by
  unfold useC; rw [h]
theorem findC_le (l : List (Er × ByteArray)) (e : Er) : findC l e ≤ l.length := List.findIdx_le_length

set_option maxRecDepth 100000 in
set_option maxHeartbeats 4000000 in
theorem use_any' (q : Nat) (e : Er) (g : Pg) (w : World) (h : PgW w q g) :
    Calls Tryz.prog 76 #[.pointer (some ⟨q, 29, none⟩), entAgg e] w fun r w' => r = .returned (.string (useC g.s.cac e).1) ∧ CTo w w' q g (useC g.s.cac e).2 := by
  have hn := h.ok.cl
  have hE0 := Ext.new w (.cells #[.int .i64 e.path, .int .i64 e.tag, .int .i64 e.tot, .int .i64 e.blk] 42)
  have hF := find_any q e g _ (h.ext hE0)
  have hle := findC_le g.s.cac e
  rw [entAgg_eq] at *
  by_cases hfe : findC g.s.cac e = g.s.cac.length
  · have HU := hide (useC_none hfe)
    rw [hfe] at hF
    go_enter Tryz.func76, Tryz.ntmps76
    go_wp2_with fail
    refine hF.mono ?_
    rintro r w1 ⟨rfl, hE1⟩
    have hX1 := Ext.trans' hE0 hE1
    have hc := (h.ext hX1).cC
    obtain ⟨a, cap, hC, hg⟩ := own_form h.cs
    rw [hC] at hc
    clear hg hC hfe
    go_wp2_with fail
    go_ret
    exact ⟨by rw [HU.out]; rfl, by rw [HU.out]; exact CTo.ext h hX1⟩
  · obtain ⟨x, hx⟩ : ∃ x, g.s.cac[findC g.s.cac e]? = some x := ⟨_, List.getElem?_eq_getElem (by omega)⟩
    have HU := hide (useC_some hx)
    have HR := hide (remove_any q (findC g.s.cac e) g)
    have hb16 := h.ok.cb x (List.mem_of_getElem? hx)
    have hlt : (findC g.s.cac e : Int) < g.s.cac.length := by omega
    have HX := hide hx
    have HEL : Hid ((g.s.cac.eraseIdx (findC g.s.cac e)).length < 257) := by
      show _ < _; rw [List.length_eraseIdx]; split <;> omega
    clear hx
    generalize findC g.s.cac e = i at *
    have hne : ((i : Int) == (g.s.cac.length : Int)) = false := by simp; omega
    clear hfe
    go_enter Tryz.func76, Tryz.ntmps76
    go_wp2_with fail
    refine hF.mono ?_
    rintro r w1 ⟨rfl, hE1⟩
    have hX1 := Ext.trans' hE0 hE1
    have h1 := h.ext hX1
    have hc := h1.cC
    have ho := h1.cs
    obtain ⟨a, cap, hC, hg⟩ := own_form ho
    obtain ⟨k, rfl⟩ := hg (by omega)
    rw [hC] at hc ho
    have hcx := ca_own ho rfl HX.out
    have x0 : w1.cell? ⟨k, i * 5, none⟩ = some (.int .i64 x.1.path) := hcx 0 (by omega)
    have x1 : w1.cell? ⟨k, i * 5 + 1, none⟩ = some (.int .i64 x.1.tag) := hcx 1 (by omega)
    have x2 : w1.cell? ⟨k, i * 5 + 2, none⟩ = some (.int .i64 x.1.tot) := hcx 2 (by omega)
    have x3 : w1.cell? ⟨k, i * 5 + 3, none⟩ = some (.int .i64 x.1.blk) := hcx 3 (by omega)
    have x4 : w1.cell? ⟨k, i * 5 + 4, none⟩ = some (.string x.2) := hcx 4 (by omega)
    have hE2 := Ext.new w1 (.cells #[.int .i64 x.1.path, .int .i64 x.1.tag, .int .i64 x.1.tot, .int .i64 x.1.blk, .string x.2] 167)
    have hB2 := Blk.new w1 167 #[.int .i64 x.1.path, .int .i64 x.1.tag, .int .i64 x.1.tot, .int .i64 x.1.blk, .string x.2]
    have hnf : ¬ PFoot q g w1.heap.size := fun hx => by have := h1.lt _ hx; omega
    clear hg hC hcx
    go_wp2_with fail
    refine (HR.out _ (h1.ext hE2)).mono ?_
    rintro r w3 ⟨rfl, c3, hP3, hM3⟩
    have hB3 := hB2.chg hM3.chg hnf
    have hcn : c3.ownBlock ≠ some w1.heap.size := fun hx => by
      rcases hM3.foot w1.heap.size (Or.inr (Or.inr hx)) with h5 | h5
      · exact hnf h5
      · simp at h5; omega
    have hX3 := (PMvs.of_ext (g := g) (q := q) (Ext.trans' hX1 hE2)).trans hM3
    clear x0 x1 x2 x3 x4 ho hc h1 hE2 hB2 HR hE1 hE0 hM3
    have y0 : w3.cell? ⟨w1.heap.size, 0, none⟩ = some (.int .i64 x.1.path) := hB3.cell 0
    have y1 : w3.cell? ⟨w1.heap.size, 1, none⟩ = some (.int .i64 x.1.tag) := hB3.cell 1
    have y2 : w3.cell? ⟨w1.heap.size, 2, none⟩ = some (.int .i64 x.1.tot) := hB3.cell 2
    have y3 : w3.cell? ⟨w1.heap.size, 3, none⟩ = some (.int .i64 x.1.blk) := hB3.cell 3
    have y4 : w3.cell? ⟨w1.heap.size, 4, none⟩ = some (.string x.2) := hB3.cell 4
    have hc3 : w3.cell? ⟨q, 30, none⟩ = some c3 := hP3.cC
    have ho3 : w3.ownsRow 0 167 5 c3 (g.s.cac.eraseIdx i).length ((g.s.cac.eraseIdx i).map caV).flatten := hP3.cs
    have hBq := hP3.blk
    have hncq : c3.ownBlock ≠ some q := hP3.nc
    have hB3l := hB3.lt
    have hql3 := hP3.blk.lt
    have hfq3 := hBq.frozen 30
    obtain ⟨a3, cap3, hC3, -⟩ := own_form ho3
    rw [hC3] at hc3 ho3 hncq hcn
    have HC3 := hide hC3
    have H3 := hide hP3
    have HXX := hide hX3
    clear hC3 hP3 hX3
    go_wp2_with fail
    go_cut [34] (fun v wx => True ∧ wx.cell? ⟨w1.heap.size, 4, none⟩ = some (.string x.2) ∧ CTo w wx q g (g.s.cac.eraseIdx i ++ [x]))
    case first =>
      go_region_law (
        refine step_app Tryz.underlying85 infoCached rfl (by decide) (by decide) rfl _ _ rfl (by rfl) (own_ext ho3 (Below.drew (Ext.new _ _))) (caV x) rfl rfl (news_new _ _ _) (ca_one _) (by have := HEL.out; omega) (Nat.zero_le _) ?_
        intro v6 w6 ho6 hg6 hw6
        have hB6 : Blk w6 q 97 _ := (hBq.ext (Below.drew (Ext.new _ _))).grown hg6 hncq
        have c6 : w6.cell? ⟨q, 30, none⟩ = some _ := (by rw [hB6.cell, ← hBq.cell]; exact hc3)
        have hbx : Blk w6 w1.heap.size 167 _ := (hB3.ext (Below.drew (Ext.new _ _))).grown hg6 hcn
        have f6 := hB6.frozen 30
        obtain ⟨a6, cap6, rfl, hgx⟩ := own_form ho6
        clear hgx)
      all_goals
        go_wp2_with fail
        go_meet
        have hnew := H3.out.addC (wx := _) x (Below.drew (Ext.new _ _)) ho6 (by show World.grownBy _ _ c3.ownBlock; rw [HC3.out]; exact hg6) (by show _ = c3.ownBlock ∨ _; rw [HC3.out]; exact hw6) HEL.out hb16
        refine ⟨trivial, ?_, _, hnew.1, HXX.out.trans hnew.2⟩
        rw [(hbx.setOther (p := ⟨q, 30, none⟩) (by show q ≠ w1.heap.size; exact fun e => hnf (Or.inl e.symm)) _).cell]; rfl
    case rest =>
      obtain ⟨-, hy4, hT⟩ := hcut
      clear y0 y1 y2 y3 y4
      go_wp2_with fail
      go_ret
      exact ⟨by rw [HU.out]; rfl, by rw [HU.out]; exact hT⟩

theorem evictC_le {cap : Int} {l : List (Er × ByteArray)} (h : ¬ cap < usedC l) : evictC cap l = l := by
  cases l with
  | nil => rfl
  | cons x l => simp only [evictC]; rw [if_neg h]
theorem evictC_gt {cap : Int} {l : List (Er × ByteArray)} (h0 : 0 ≤ cap) (h : cap < usedC l) : evictC cap l = evictC cap (l.eraseIdx 0) ∧ 0 < l.length := by
  cases l with
  | nil => simp [usedC] at h; omega
  | cons x l => simp only [evictC, List.eraseIdx_cons_zero, List.length_cons]; rw [if_pos h]; exact ⟨rfl, by omega⟩
theorem evictC_ok {cap : Int} (h0 : 0 ≤ cap) (l : List (Er × ByteArray)) : usedC (evictC cap l) ≤ cap ∧ ∀ x ∈ evictC cap l, x ∈ l := by
  induction l with
  | nil => simp [evictC, usedC]; omega
  | cons x l ih =>
    simp only [evictC]
    split
    · exact ⟨ih.1, fun y hy => List.mem_cons_of_mem _ (ih.2 y hy)⟩
    · rename_i h; exact ⟨by omega, fun y hy => hy⟩
theorem usedC_ge (l : List (Er × ByteArray)) (h : ∀ x ∈ l, 1 ≤ x.2.size) : (l.length : Int) ≤ usedC l := by
  have key : ∀ (l : List (Er × ByteArray)) (a : Int), (∀ x ∈ l, 1 ≤ x.2.size) → a + l.length ≤ l.foldl (fun n x => n + (x.2.size : Int)) a := by
    intro l
    induction l with
    | nil => intro a _; simp
    | cons x l ih =>
      intro a hx
      have h1 := hx x (List.mem_cons_self ..)
      have := ih (a + x.2.size) (fun y hy => hx y (List.mem_cons_of_mem _ hy))
      simp only [List.foldl_cons, List.length_cons]
      omega
  have := key l 0 h
  unfold usedC; omega
theorem PgAt.cl256 {w : World} {q : Nat} {g : Pg} (h : PgAt w q g) : g.s.cac.length ≤ 256 := by
  have h1 := usedC_ge g.s.cac h.cok.c1
  have h2 := h.cok.cu
  have h3 := h.ok.fair.c2
  omega
/-- The cache has come to be l, as it may be between two calls. -/
def CPo (w w' : World) (q : Nat) (g : Pg) (l : List (Er × ByteArray)) : Prop := ∃ c, PgAt w' q (withC g l c) ∧ PMvs w w' q g (withC g l c)

set_option maxRecDepth 100000 in
set_option maxHeartbeats 4000000 in
theorem put_any (q : Nat) (e : Er) (body : ByteArray) (g : Pg) (w : World) (h : PgAt w q g) (hb1 : 1 ≤ body.size) (hb16 : body.size ≤ 16) :
    Calls Tryz.prog 107 #[.pointer (some ⟨q, 29, none⟩), entAgg e, .string body] w fun r w' => r = .returned (.tuple #[]) ∧ CPo w w' q g (putC g.s.cap g.s.cac e body) := by
  have hn := h.cl256
  have hE0 := Ext.new w (.cells #[.int .i64 e.path, .int .i64 e.tag, .int .i64 e.tot, .int .i64 e.blk] 42)
  have hB0 := Blk.new w 42 #[.int .i64 e.path, .int .i64 e.tag, .int .i64 e.tot, .int .i64 e.blk]
  have hF := find_any q e g _ (h.toPgW.ext hE0)
  have hcap : w.cell? ⟨q, 29, none⟩ = some (.int .i64 g.s.cap) := h.cCap
  have hql := h.blk.lt
  have hc1 := h.ok.fair.c1
  have hc2 := h.ok.fair.c2
  rw [entAgg_eq] at *
  by_cases hbig : g.s.cap < (body.size : Int)
  · have HP : Hid (putC g.s.cap g.s.cac e body = g.s.cac) := by show _ = _; unfold putC; rw [if_pos hbig]
    go_enter Tryz.func107, Tryz.ntmps107
    go_wp2_with fail
    refine bodyPost_ret (v := .tuple #[]) (by simp [results, Tryz.results107, go_sem]) rfl ⟨rfl, by rw [HP.out]; exact ⟨g.v.c, h.ext hE0, PMvs.of_ext hE0⟩⟩
  · have HP : Hid (putC g.s.cap g.s.cac e body = evictC g.s.cap (g.s.cac.eraseIdx (findC g.s.cac e) ++ [(e, body)])) := by show _ = _; unfold putC; rw [if_neg hbig]
    have HR := hide (remove_any q (findC g.s.cac e) g)
    have HEL : Hid ((g.s.cac.eraseIdx (findC g.s.cac e)).length < 257) := by
      have := List.length_eraseIdx_le g.s.cac (findC g.s.cac e)
      show _ < _; omega
    have HCok : Hid (∀ (w' : World) (c : Value) (l : List (Er × ByteArray)), PgW w' q (withC g l c) → l = evictC g.s.cap (g.s.cac.eraseIdx (findC g.s.cac e) ++ [(e, body)]) → PgAt w' q (withC g l c)) := by
      intro w' c l hW hl
      have he := evictC_ok hc1 (g.s.cac.eraseIdx (findC g.s.cac e) ++ [(e, body)])
      rw [← hl] at he
      refine ⟨hW, ⟨fun x hx => ?_, he.1⟩⟩
      rcases List.mem_append.1 (he.2 x hx) with h1 | h1
      · exact h.cok.c1 x ((List.eraseIdx_sublist ..).subset h1)
      · simp at h1; subst h1; exact hb1
    generalize findC g.s.cac e = i at *
    generalize putC g.s.cap g.s.cac e body = res at *
    generalize hrm : g.s.cac.eraseIdx i = l1 at *
    clear hrm
    have hbig' : ¬ (g.s.cap < (body.size : Int)) := hbig
    go_enter Tryz.func107, Tryz.ntmps107
    go_wp2_with fail
    refine hF.mono ?_
    rintro r w1 ⟨rfl, hE1⟩
    have hX1 := Ext.trans' hE0 hE1
    have h1 := h.toPgW.ext hX1
    have hB1 := hB0.ext hE1
    have hnf : ¬ PFoot q g w.heap.size := fun hx => by have := h.lt _ hx; omega
    go_wp2_with fail
    refine (HR.out _ h1).mono ?_
    rintro r w3 ⟨rfl, c3, hP3, hM3⟩
    have hB3 := hB1.chg hM3.chg hnf
    have hcn : c3.ownBlock ≠ some w.heap.size := fun hx => by
      rcases hM3.foot w.heap.size (Or.inr (Or.inr hx)) with h5 | h5
      · exact hnf h5
      · have := hB1.lt; omega
    have hX3 := (PMvs.of_ext (g := g) (q := q) hX1).trans hM3
    clear hcap hF HR hE1 hE0 hM3 h1 hB1 hB0 hX1
    have y0 : w3.cell? ⟨w.heap.size, 0, none⟩ = some (.int .i64 e.path) := hB3.cell 0
    have y1 : w3.cell? ⟨w.heap.size, 1, none⟩ = some (.int .i64 e.tag) := hB3.cell 1
    have y2 : w3.cell? ⟨w.heap.size, 2, none⟩ = some (.int .i64 e.tot) := hB3.cell 2
    have y3 : w3.cell? ⟨w.heap.size, 3, none⟩ = some (.int .i64 e.blk) := hB3.cell 3
    have hc3 : w3.cell? ⟨q, 30, none⟩ = some c3 := hP3.cC
    have ho3 : w3.ownsRow 0 167 5 c3 l1.length (l1.map caV).flatten := hP3.cs
    have hBq := hP3.blk
    have hncq : c3.ownBlock ≠ some q := hP3.nc
    have hB3l := hB3.lt
    have hql3 := hP3.blk.lt
    have hfq3 := hBq.frozen 30
    obtain ⟨a3, cap3, hC3, -⟩ := own_form ho3
    rw [hC3] at hc3 ho3 hncq hcn
    have HC3 := hide hC3
    have H3 := hide hP3
    have HXX := hide hX3
    clear hC3 hP3 hX3
    go_wp2_with fail
    go_cut [6] (fun v wx => v = .int .i64 i ∧ CTo w wx q g (l1 ++ [(e, body)]))
    case first =>
      go_region_law (
        refine step_app Tryz.underlying85 infoCached rfl (by decide) (by decide) rfl _ _ rfl (by rfl) (own_ext ho3 (Below.drew (Ext.new _ _))) (caV (e, body)) rfl rfl (news_new _ _ _) (ca_one _) (by have := HEL.out; omega) (Nat.zero_le _) ?_
        intro v6 w6 ho6 hg6 hw6
        have hB6 : Blk w6 q 97 _ := (hBq.ext (Below.drew (Ext.new _ _))).grown hg6 hncq
        have c6 : w6.cell? ⟨q, 30, none⟩ = some _ := (by rw [hB6.cell, ← hBq.cell]; exact hc3)
        have f6 := hB6.frozen 30
        obtain ⟨a6, cap6, rfl, hgx⟩ := own_form ho6
        clear hgx)
      all_goals
        go_wp2_with fail
        go_meet
        have hnew := H3.out.addC (wx := _) (e, body) (Below.drew (Ext.new _ _)) ho6 (by show World.grownBy _ _ c3.ownBlock; rw [HC3.out]; exact hg6) (by show _ = c3.ownBlock ∨ _; rw [HC3.out]; exact hw6) HEL.out hb16
        exact ⟨rfl, _, hnew.1, HXX.out.trans hnew.2⟩
    case rest =>
      obtain ⟨rfl, hT⟩ := hcut
      clear y0 y1 y2 y3 hc3 ho3 hBq hncq hB3l hql3 hfq3 H3 HXX hB3 hcn HC3 HEL
      generalize wc = w4 at *
      go_wp2_with fail
      go_loopg [38] (l1 ++ [(e, body)]).length (fun m v wr => ∃ l : List (Er × ByteArray), m = l.length ∧ CTo w wr q g l ∧ Hid (evictC g.s.cap (l1 ++ [(e, body)]) = evictC g.s.cap l))
      case atStart => exact ⟨_, rfl, hT, rfl⟩
      case round =>
        obtain ⟨l, rfl, ⟨c, hP, hM⟩, HEv⟩ := hrel
        clear hT
        have HUs := hide (used_any q (withC g l c))
        have HRm := hide (remove_any q 0 (withC g l c))
        have hcap : wr.cell? ⟨q, 29, none⟩ = some (.int .i64 g.s.cap) := hP.cCap
        have hls : (withC g l c).s.cac = l := rfl
        rw [hls] at HUs HRm
        by_cases hgt : g.s.cap < usedC l
        · have HG := hide (evictC_gt hc1 hgt)
          go_wp2_with fail
          go_region_held3 (fun w' => w'.cell? ⟨q, 29, none⟩ = some (.int .i64 g.s.cap)) (go_keep)
            ((go_at_call 70
              refine (HUs.out _ (hP.ext (Below.drew (Below.refl _ _)))).mono ?_
              rintro r w5 ⟨rfl, rfl⟩))
          all_goals go_wp2_with fail
          all_goals refine (HRm.out _ (hP.ext (Below.drew (Below.refl _ _)))).mono ?_
          all_goals rintro r w6 ⟨rfl, c6, hP6, hM6⟩
          all_goals go_wp2_with fail
          all_goals go_roundg (l.eraseIdx 0).length
          case measure => rw [List.length_eraseIdx]; have := HG.out.2; split <;> omega
          case rel => exact ⟨_, rfl, ⟨c6, hP6, (hM.ext (Below.drew (Below.refl _ _))).trans hM6⟩, by show _ = _; rw [HEv.out, HG.out.1]⟩
        · have HG := hide (evictC_le hgt)
          go_wp2_with fail
          go_region_held3 (fun w' => w'.cell? ⟨q, 29, none⟩ = some (.int .i64 g.s.cap)) (go_keep)
            ((go_at_call 70
              refine (HUs.out _ (hP.ext (Below.drew (Below.refl _ _)))).mono ?_
              rintro r w5 ⟨rfl, rfl⟩))
          all_goals go_wp2_with fail
          all_goals go_end0
          all_goals
            have hl : l = evictC g.s.cap (l1 ++ [(e, body)]) := by rw [HEv.out, HG.out]
            refine ⟨rfl, ?_⟩
            rw [HP.out, ← hl]
            exact ⟨c, HCok.out _ _ _ (hP.ext (Below.drew (Below.refl _ _))) hl, hM.ext (Below.drew (Below.refl _ _))⟩
end Go.Proofs.YtjhihliciadipabGreat
