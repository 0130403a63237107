import Derived.Test.YtjhihliciadipabGreatRep
set_option linter.unusedVariables false
set_option linter.unusedSimpArgs false
set_option linter.unnecessarySimpa false
namespace Go.Proofs.YtjhihliciadipabGreat
open Go.RowKit

def isL (s : Pr) (id : Int) : Bool := decide (0 ≤ id) && decide (id < s.ts.length)
theorem isL_yes {s : Pr} {id : Int} (h : isL s id = true) : ∃ i : Nat, id = i ∧ i < s.ts.length := by
  unfold isL at h; simp at h; exact ⟨id.toNat, by omega, by omega⟩

theorem is_any (p : Nat) (id : Int) (s : Pr) (L : Lay) (w : World) (h : PrAt w p s L) (hn : s.ts.length ≤ 8) :
    Calls Tryz.prog 62 #[.pointer (some ⟨p, 0, none⟩), .int .i64 id] w fun e w' => e = .returned (.bool (isL s id)) ∧ w' = w := by
  have hc : w.cell? ⟨p, 5, none⟩ = some L.vT := h.blk.cell 5
  obtain ⟨a, cap, hT, hg⟩ := own_form h.ts
  rw [hT] at hc
  have HI : Hid (isL s id = (decide (0 ≤ id) && decide (id < s.ts.length))) := rfl
  clear hg hT
  by_cases h0 : 0 ≤ id
  · go_enter Tryz.func62, Tryz.ntmps62
    go_wp2
    go_ret
    exact ⟨ret_bool (by rw [HI.out]; simp [h0]), rfl⟩
  · have h1 : decide (0 ≤ id) = false := by simpa using h0
    go_enter Tryz.func62, Tryz.ntmps62
    go_wp2
    go_ret
    exact ⟨ret_bool (by rw [HI.out, h1]; rfl), rfl⟩

def stateT (t : Mv) : Int := if t.lost = true then 4 else if t.tag = 0 then 1 else if t.taken = lenL t then 3 else 2
def stateL (s : Pr) (id : Int) : Int × Int := if isL s id = true then (match s.ts[id.toNat]? with | some t => (stateT t, 0) | none => (0, 7)) else (0, 7)

theorem ret_tuple2 {a b c d : Int} (h : a = c) (h2 : b = d) : Ending.returned (.tuple #[.int .i64 a, .int .i64 b]) = .returned (.tuple #[.int .i64 c, .int .i64 d]) := by rw [h, h2]

set_option maxHeartbeats 1000000 in
theorem State_any (p : Nat) (id : Int) (s : Pr) (L : Lay) (C : Int) (w : World) (h : PrAt w p s L) (inv : Inv s C) :
    Calls Tryz.prog 27 #[.pointer (some ⟨p, 0, none⟩), .int .i64 id] w fun e w' => e = .returned (.tuple #[.int .i64 (stateL s id).1, .int .i64 (stateL s id).2]) ∧ Ext w w' := by
  have hnts := inv.nts
  have hc : w.cell? ⟨p, 5, none⟩ = some L.vT := h.blk.cell 5
  cases hI : isL s id
  · have HR : Hid (stateL s id = (0, 7)) := by show _ = _; unfold stateL; rw [hI]; rfl
    go_enter Tryz.func27, Tryz.ntmps27
    go_wp2_with fail
    refine (is_any p id s L w h hnts).mono ?_
    rintro e w' ⟨rfl, rfl⟩
    rw [hI]
    go_wp2
    go_ret2
    exact ⟨ret_tuple2 (by rw [HR.out]) (by rw [HR.out]), Below.refl _ _⟩
  · obtain ⟨i, rfl, hi⟩ := isL_yes hI
    have ht : s.ts[i]? = some s.ts[i] := by simp [hi]
    have HR : Hid (stateL s i = (stateT s.ts[i], 0)) := by show _ = _; unfold stateL; rw [hI, Int.toNat_natCast, ht]; rfl
    generalize s.ts[i] = t at *
    have hok := inv.ts t (List.mem_of_getElem? ht)
    obtain ⟨hv, hh⟩ := h.hv ht
    obtain ⟨g, cap, hT⟩ := h.tsBlk (by omega)
    obtain ⟨hm, hha⟩ := h.mv ht hh hT
    rw [hT] at hc
    have h4 := hm.tag
    have h7 := hm.lost
    have HS : Hid (stateT t = if t.lost = true then 4 else if t.tag = 0 then 1 else if t.taken = lenL t then 3 else 2) := rfl
    cases hlo : t.lost
    all_goals rw [hlo] at h7
    · by_cases h0 : (t.tag == 0) = true
      · go_enter Tryz.func27, Tryz.ntmps27
        go_wp2_with fail
        refine (is_any p i s L w h hnts).mono ?_
        rintro e w' ⟨rfl, rfl⟩
        rw [hI]
        go_wp2_with fail
        go_ret2
        exact ⟨ret_tuple2 (by rw [HR.out]; show _ = stateT t; rw [HS.out, hlo]; simp at h0; simp [h0]) (by rw [HR.out]), Below.refl _ _⟩
      · have h0' : (t.tag == 0) = false := by simpa using h0
        go_enter Tryz.func27, Tryz.ntmps27
        go_wp2_with fail
        refine (is_any p i s L w h hnts).mono ?_
        rintro e w' ⟨rfl, rfl⟩
        rw [hI]
        go_wp2_with fail
        refine (head_any g (i * 12) t _ hm hok.sp hok.t0 hok.t1).mono ?_
        rintro e w1 ⟨rfl, hE1⟩
        have h9 := (hm.ext hE1).taken
        have hgl : g < w1.heap.size := World.block_lt_of_cell? w1 _ h9
        go_wp2_with fail
        go_quiet (fail)
        by_cases hd : (t.taken == lenL t) = true
        all_goals (try have hd' : (t.taken == lenL t) = false := by simpa using hd)
        all_goals go_wp2_with fail
        all_goals go_ret2
        all_goals refine ⟨ret_tuple2 ?_ (by rw [HR.out]), Ext.drewN (Ext.trans' hE1 (Ext.new _ _)) _⟩
        all_goals (rw [HR.out]; show _ = stateT t; rw [HS.out, hlo]; simp at h0'; simp at hd; simp [h0', hd])
    · go_enter Tryz.func27, Tryz.ntmps27
      go_wp2_with fail
      refine (is_any p i s L w h hnts).mono ?_
      rintro e w' ⟨rfl, rfl⟩
      rw [hI]
      go_wp2_with fail
      go_ret2
      exact ⟨ret_tuple2 (by rw [HR.out]; show _ = stateT t; rw [HS.out, hlo]; rfl) (by rw [HR.out]), Below.refl _ _⟩

def sumSz (l : List ByteArray) : Int := (l.map (fun b => (b.size : Int))).sum
theorem sumSz_bd (l : List ByteArray) (h : ∀ b ∈ l, b.size ≤ 16) : 0 ≤ sumSz l ∧ sumSz l ≤ 16 * l.length := by
  induction l with
  | nil => simp [sumSz]
  | cons a l ih =>
    have h1 := ih (fun b hb => h b (List.mem_cons_of_mem _ hb))
    have h2 := h a (List.mem_cons_self ..)
    unfold sumSz at *
    simp only [List.map_cons, List.sum_cons, List.length_cons]
    omega
theorem sumSz_snoc (l : List ByteArray) (b : ByteArray) : sumSz (l ++ [b]) = sumSz l + b.size := by
  unfold sumSz; simp
def heldSum (s : Pr) (id : Int) : Int × Int := if isL s id = true then (match s.ts[id.toNat]? with | some t => (sumSz t.has, 0) | none => (0, 7)) else (0, 7)

set_option maxHeartbeats 1000000 in
theorem Held_any (p : Nat) (id : Int) (s : Pr) (L : Lay) (C : Int) (w : World) (h : PrAt w p s L) (inv : Inv s C) :
    Calls Tryz.prog 29 #[.pointer (some ⟨p, 0, none⟩), .int .i64 id] w fun e w' => e = .returned (.tuple #[.int .i64 (heldSum s id).1, .int .i64 (heldSum s id).2]) ∧ w' = w := by
  have hnts := inv.nts
  have hc : w.cell? ⟨p, 5, none⟩ = some L.vT := h.blk.cell 5
  cases hI : isL s id
  · have HR : Hid (heldSum s id = (0, 7)) := by show _ = _; unfold heldSum; rw [hI]; rfl
    go_enter Tryz.func29, Tryz.ntmps29
    go_wp2_with fail
    refine (is_any p id s L w h hnts).mono ?_
    rintro e w' ⟨rfl, rfl⟩
    rw [hI]
    go_wp2
    go_ret2
    exact ⟨ret_tuple2 (by rw [HR.out]) (by rw [HR.out]), rfl⟩
  · obtain ⟨i, rfl, hi⟩ := isL_yes hI
    have ht : s.ts[i]? = some s.ts[i] := by simp [hi]
    have HR : Hid (heldSum s i = (sumSz s.ts[i].has, 0)) := by show _ = _; unfold heldSum; rw [hI, Int.toNat_natCast, ht]; rfl
    generalize s.ts[i] = t at *
    have hok := inv.ts t (List.mem_of_getElem? ht)
    have hhl := hok.hl
    have HB := hide hok.hb
    obtain ⟨hv, hh⟩ := h.hv ht
    obtain ⟨g, cap, hT⟩ := h.tsBlk (by omega)
    obtain ⟨hm, hha⟩ := h.mv ht hh hT
    rw [hT] at hc
    obtain ⟨a, caph, rfl, hgh⟩ := own_form hha.own
    have h11 := hha.c
    go_enter Tryz.func29, Tryz.ntmps29
    go_wp2_with fail
    refine (is_any p i s L w h hnts).mono ?_
    rintro e w' ⟨rfl, rfl⟩
    rw [hI]
    go_wp2_with fail
    go_loop [7, 8] (fun n k => ∃ j : Nat, j ≤ t.has.length ∧ k = .int .i64 j ∧ n = .int .i64 (sumSz (t.has.take j))) (fun _ k => t.has.length - (intOf k).toNat)
    case atStart => exact ⟨0, Nat.zero_le _, rfl, rfl⟩
    case round =>
      obtain ⟨j, hj, rfl, rfl⟩ := hrel
      have hbd := sumSz_bd (t.has.take j) (fun b hb => HB.out b (List.mem_of_mem_take hb))
      have hlt0 := List.length_take_le j t.has
      by_cases hlt : j < t.has.length
      · obtain ⟨gh, rfl⟩ := hgh (by omega)
        have ck : w'.cell? ⟨gh, j, none⟩ = some (.string t.has[j]) := by
          rw [hha.own.cellAt j (by omega)]; simp [hlt]
        have hsz := HB.out t.has[j] (List.getElem_mem hlt)
        have HN : Hid (sumSz (t.has.take (j + 1)) = sumSz (t.has.take j) + t.has[j].size) := by
          show _ = _; rw [List.take_succ_eq_append_getElem hlt, sumSz_snoc]
        generalize sumSz (t.has.take j) = S at *
        clear hgh
        go_wp2_with fail
        exact ⟨⟨j + 1, by omega, by go_num, by rw [HN.out]⟩, by simp [intOf]; omega⟩
      · clear hgh
        go_wp2_with fail
        go_ret2
        exact ⟨ret_tuple2 (by rw [HR.out, List.take_of_length_le (by omega)]) (by rw [HR.out]), rfl⟩
end Go.Proofs.YtjhihliciadipabGreat

namespace Go.Proofs.YtjhihliciadipabGreat
open Go.RowKit

set_option maxHeartbeats 1000000 in
theorem Ask_no (p : Nat) (path : Int) (r : ByteArray) (w : World) (hp : path < 0 ∨ 4 ≤ path) :
    Calls Tryz.prog 19 #[.pointer (some ⟨p, 0, none⟩), .int .i64 path, .string r] w fun e w' => e = .returned (.tuple #[.int .i64 0, .int .i64 2]) ∧ w' = w := by
  have HP := hide hp
  clear hp
  by_cases h0 : path < 0
  · go_enter Tryz.func19, Tryz.ntmps19
    go_wp2_with fail
    go_ret2
    exact ⟨rfl, rfl⟩
  · have h1 : 4 ≤ path := by rcases HP.out with h | h; exact absurd h h0; exact h
    go_enter Tryz.func19, Tryz.ntmps19
    go_wp2_with fail
    go_ret2
    exact ⟨rfl, rfl⟩

set_option maxHeartbeats 1000000 in
theorem Ask_full (p : Nat) (s : Pr) (L : Lay) (path : Int) (r : ByteArray) (w : World) (h : PrAt w p s L) (hp0 : 0 ≤ path) (hp4 : path < 4) (h8 : s.ts.length = 8) :
    Calls Tryz.prog 19 #[.pointer (some ⟨p, 0, none⟩), .int .i64 path, .string r] w fun e w' => e = .returned (.tuple #[.int .i64 0, .int .i64 3]) ∧ w' = w := by
  have hvT : w.cell? ⟨p, 5, none⟩ = some L.vT := h.blk.cell 5
  obtain ⟨aT, capT, hT, -⟩ := own_form h.ts
  rw [hT, h8] at hvT
  clear h hT h8
  go_enter Tryz.func19, Tryz.ntmps19
  go_wp2_with fail
  go_ret2
  exact ⟨rfl, rfl⟩
end Go.Proofs.YtjhihliciadipabGreat

namespace Go.Proofs.YtjhihliciadipabGreat
open Go.RowKit

def usedL (l : List Kp) : Int := sumSz (l.map Kp.body)

set_option maxHeartbeats 1000000 in
theorem Used_any (p : Nat) (s : Pr) (L : Lay) (w : World) (hc : w.cell? ⟨p, 8, none⟩ = some L.vC) (ho : w.ownsRow 0 144 6 L.vC s.cache.length (s.cache.map kpV).flatten)
    (hk : ∀ x ∈ s.cache, KpOk x) (hn : s.cache.length ≤ 1000) :
    Calls Tryz.prog 35 #[.pointer (some ⟨p, 0, none⟩)] w fun e w' => e = .returned (.int .i64 (usedL s.cache)) ∧ w' = w := by
  obtain ⟨a, cap, hC, hg⟩ := own_form ho
  rw [hC] at hc ho
  have HK := hide hk
  clear hk hC
  go_enter Tryz.func35, Tryz.ntmps35
  go_wp2_with fail
  go_loop [3, 4] (fun n k => ∃ j : Nat, j ≤ s.cache.length ∧ k = .int .i64 j ∧ n = .int .i64 (usedL (s.cache.take j))) (fun _ k => s.cache.length - (intOf k).toNat)
  case atStart => exact ⟨0, Nat.zero_le _, rfl, rfl⟩
  case round =>
    obtain ⟨j, hj, rfl, rfl⟩ := hrel
    have hbd := sumSz_bd ((s.cache.take j).map Kp.body) (fun b hb => by
      rw [List.mem_map] at hb; obtain ⟨x, hx, rfl⟩ := hb; exact (HK.out x (List.mem_of_mem_take hx)).b1)
    have hl0 := List.length_take_le j s.cache
    rw [List.length_map] at hbd
    by_cases hlt : j < s.cache.length
    · obtain ⟨g, rfl⟩ := hg (by omega)
      have ck : w.cell? ⟨g, j * 6 + 4, none⟩ = some (.string s.cache[j].body) := by
        rw [ho.cellAt (j * 6 + 4) (by have : (j + 1) * 6 ≤ s.cache.length * 6 := Nat.mul_le_mul_right 6 hlt; omega), flat_get 6 _ (kps_len _) j 4 (by omega)]; simp [hlt, kpV]
      have hsz := (HK.out s.cache[j] (List.getElem_mem hlt)).b1
      have HN : Hid (usedL (s.cache.take (j + 1)) = usedL (s.cache.take j) + s.cache[j].body.size) := by
        show _ = _; unfold usedL; rw [List.take_succ_eq_append_getElem hlt, List.map_append, List.map_cons, List.map_nil, sumSz_snoc]
      have hbd2 : 0 ≤ usedL (s.cache.take j) ∧ usedL (s.cache.take j) ≤ 16000 := by unfold usedL; omega
      clear hbd
      generalize usedL (s.cache.take j) = S at *
      clear hg
      go_wp2_with fail
      exact ⟨⟨j + 1, by omega, by go_num, by rw [HN.out]⟩, by simp [intOf]; omega⟩
    · clear hg
      go_wp2_with fail
      go_ret
      exact ⟨ret_int (by rw [List.take_of_length_le (by omega)]), rfl⟩

def whenAt (l : List Kp) (i : Nat) : Int := (l[i]?.map Kp.when).getD 0
def oldTo (l : List Kp) : Nat → Nat
  | 0 => 0
  | k + 1 => if whenAt l k < whenAt l (oldTo l k) then k else oldTo l k
theorem oldTo_lt (l : List Kp) (k : Nat) : oldTo l k ≤ k ∧ (0 < k → oldTo l k < k) := by
  induction k with
  | zero => simp [oldTo]
  | succ k ih =>
    simp only [oldTo]; split
    · omega
    · rcases Nat.eq_zero_or_pos k with h | h
      · subst h; simp [oldTo]
      · have := ih.2 h; omega

set_option maxHeartbeats 1000000 in
theorem oldest_any (p : Nat) (s : Pr) (L : Lay) (w : World) (hc : w.cell? ⟨p, 8, none⟩ = some L.vC) (ho : w.ownsRow 0 144 6 L.vC s.cache.length (s.cache.map kpV).flatten) (hn : s.cache.length ≤ 1000) :
    Calls Tryz.prog 109 #[.pointer (some ⟨p, 0, none⟩)] w fun e w' => e = .returned (.int .i64 (oldTo s.cache s.cache.length)) ∧ Ext w w' := by
  obtain ⟨a, cap, hC, hg⟩ := own_form ho
  rw [hC] at hc ho
  clear hC
  go_enter Tryz.func109, Tryz.ntmps109
  go_wp2_with fail
  go_loopw [3, 4] (fun n k wr => ∃ j : Nat, j ≤ s.cache.length ∧ k = .int .i64 j ∧ n = .int .i64 (oldTo s.cache j : Nat) ∧ ∃ nq, wr = w.drewN nq) (fun _ k _ => s.cache.length - (intOf k).toNat)
  case atStart => exact ⟨0, Nat.zero_le _, rfl, rfl, 0, rfl⟩
  case round =>
    obtain ⟨j, hj, rfl, rfl, nq, rfl⟩ := hrel
    have hol := oldTo_lt s.cache j
    by_cases hlt : j < s.cache.length
    · obtain ⟨g, rfl⟩ := hg (by omega)
      have hcell : ∀ i, i < s.cache.length → w.cell? ⟨g, i * 6 + 5, none⟩ = some (.int .i64 (whenAt s.cache i)) := by
        intro i hi
        rw [ho.cellAt (i * 6 + 5) (by have : (i + 1) * 6 ≤ s.cache.length * 6 := Nat.mul_le_mul_right 6 hi; omega), flat_get 6 _ (kps_len _) i 5 (by omega)]; simp [hi, kpV, whenAt]
      have c1 := hcell j hlt
      have c2 := hcell (oldTo s.cache j) (by omega)
      have HN : Hid (oldTo s.cache (j + 1) = if whenAt s.cache j < whenAt s.cache (oldTo s.cache j) then j else oldTo s.cache j) := rfl
      have hol1 : oldTo s.cache j < s.cache.length := by omega
      clear hcell hg hol
      generalize oldTo s.cache j = A at *
      generalize whenAt s.cache j = u at *
      generalize whenAt s.cache A = v at *
      go_wp2_with fail
      go_quiet (fail)
      by_cases hu : u < v
      all_goals go_wp2_with fail
      all_goals refine ⟨⟨j + 1, by omega, by go_num, ?_, _, rfl⟩, by simp [intOf]; omega⟩
      · rw [HN.out, if_pos hu]
      · rw [HN.out, if_neg (by omega)]
    · clear hg
      go_wp2_with fail
      go_ret
      have : j = s.cache.length := by omega
      subst this
      exact ⟨rfl, Ext.drewN (Below.refl _ _) _⟩
end Go.Proofs.YtjhihliciadipabGreat
