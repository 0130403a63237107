import Derived.Test.YtpiopalfnjohfaaHead
set_option linter.unusedVariables false
set_option linter.unusedSimpArgs false
set_option linter.unnecessarySimpa false
namespace Go.Proofs.Ytpiopalfnjohfaa
open Go.RowKit

theorem news_new (w : World) (l : List Value) (T : TypeId) : ∀ j u, l[j]? = some u → (w.alloc (.cells l.toArray T)).cell? ((⟨w.heap.size, 0, none⟩ : Addr).add j) = some u := by
  intro j u h
  have hadd : (⟨w.heap.size, 0, none⟩ : Addr).add j = ⟨w.heap.size, j, none⟩ := by unfold Addr.add; split <;> simp_all
  rw [hadd, (Blk.new w T l.toArray).cell j]; simpa using h

/-- Where an append lays the slice: where it lay, or in a new block. -/
theorem append_where {P : Program} (w : World) (t ty e : TypeId) (i : TypeInfo) (z : Value) (ht : P.underlying t = some (.slice e)) (hi : P.info? e = some i) (hz : i.zero = some z)
    (v : Value) (n : Nat) (xs : List Value) (hown : w.ownsRow 0 e i.size v n xs)
    (a : Addr) (m c : Nat) (news : List Value) (hl : news.length = m * i.size) (hnews : ∀ j u, news[j]? = some u → w.cell? (a.add j) = some u) (h1 : ∀ u ∈ news, u.oneCell' = true) (hm : 0 < m)
    (h63 : n + m ≤ maxLen) (hbytes : (n + m) * i.bytes ≤ 140737488355328) {v' : Value} {w' : World} (hr' : (Builtin.append_ #[t, t] ty #[v, .slice (some a) m c]).run P w = .ok v' w') :
    v'.ownBlock = v.ownBlock ∨ v'.ownBlock = some w.heap.size := by
  have hsmall : n + m ≤ 9223372036854775807 := by simp only [maxLen] at h63; omega
  rcases hown.2 with ⟨rfl, rfl⟩ | ⟨g, cap, cur, rfl, hbg, hg, hnc, hcm, hcs, htake⟩
  · have hr := run_append_nil (P := P) w t ty e i z ht hi hz a m c news hl hnews (by omega) (by omega) (by have hb := hbytes; simp only [Nat.zero_add] at hb; omega)
    rw [hr] at hr'
    simp only [Result.ok.injEq] at hr'
    right; rw [← hr'.1]; rfl
  · by_cases hroom : n + m ≤ cap
    · have hfit : n * i.size + news.length ≤ cur.size := by rw [hl, hcs, ← Nat.add_mul]; exact Nat.mul_le_mul_right _ hroom
      have hr := run_append_room (P := P) w t ty e i ht hi g n cap cur hg a m c news hl hnews h1 hroom hfit
      rw [hr] at hr'
      simp only [Result.ok.injEq] at hr'
      left; rw [← hr'.1]; rfl
    · have holds : ∀ j u, xs[j]? = some u → w.cell? ((⟨g, 0, none⟩ : Addr).add j) = some u := hown.cells (g := g) rfl
      have hr := run_append_grow (P := P) w t ty e i z ht hi hz ⟨g, 0, none⟩ n cap xs hown.1 holds a m c news hl hnews (by omega) (by omega) (growslice_fits (by omega) hbytes)
      rw [hr] at hr'
      simp only [Result.ok.injEq] at hr'
      right; rw [← hr'.1]; rfl

/-- One more element behind an owned slice. -/
theorem app_one {t e : TypeId} {z : Value} {sz bytes : Nat} (ht : Try.prog.underlying t = some (.slice e))
    (hinfo : (Try.prog.info? e).map (fun i => (i.zero, i.size, i.bytes)) = some (some z, sz, bytes)) (hzs : z.cells.size = sz) (hsz : 0 < sz) (hby : bytes ≤ 112)
    (w : World) {ops : Array Oper} {rest : List Oper} {o : Oper} {a : Act} {Q : Exit → Act → World → Prop} (hgd : o.guard = none) (s x : Operand)
    (ho : o.op = .call { callee := .builtin .append, args := #[s, x], argTypes := #[t, t] })
    {base : Nat} {v : Value} {n : Nat} {xs : List Value} (hs : a.eval s = v) (hown : w.ownsRow base e sz v n xs)
    {g : Nat} (news : List Value) (hx : a.eval x = .slice (some ⟨g, 0, none⟩) 1 1) (hl : news.length = sz) (hnews : ∀ j u, news[j]? = some u → w.cell? ((⟨g, 0, none⟩ : Addr).add j) = some u)
    (h1 : ∀ u ∈ news, u.oneCell' = true) (hn : n ≤ 1000000000) (hbase : base ≤ w.heap.size)
    (h : ∀ v' w', w'.ownsRow base e sz v' (n + 1) (xs ++ news) → w.grownBy w' v.ownBlock → (v'.ownBlock = v.ownBlock ∨ v'.ownBlock = some w.heap.size) → wpList Try.prog ops Q rest (a.put o.dst v') w') :
    wpList Try.prog ops Q (o :: rest) a w := by
  obtain ⟨i, hi, hz0, hz1, hz2⟩ := info_parts hinfo
  have hb2 : (n + 1) * bytes ≤ 140737488355328 := by
    have : (n + 1) * bytes ≤ 1000000001 * 112 := Nat.mul_le_mul (by omega) hby
    omega
  refine wpList_plain hgd fun K hK => ?_
  obtain ⟨v', w', hr, h2, h3, h4⟩ := run_append_own (P := Try.prog) w base t o.type e i z sz bytes ht hi hz0 hz1 hz2 hzs hsz v n xs hown ⟨g, 0, none⟩ 1 1 news (by simpa using hl) hnews h1 (by unfold maxLen; omega) hb2 hbase
  have hw := append_where w t o.type e i z ht hi hz0 v n xs (by rw [hz1]; exact own_base hown (Nat.zero_le _)) ⟨g, 0, none⟩ 1 1 news (by rw [hz1]; simpa using hl) hnews h1 (by omega) (by unfold maxLen; omega) (by rw [hz2]; exact hb2) hr
  unfold Oper.wp execOp
  simp only [ho, resolve, invoke, builtin, Sem.run_bind, Sem.run_pure, Result.andThen_ok, List.map_toArray, List.map_cons, List.map_nil, hs, hx, hr]
  exact hK _ _ (h v' w' h2 h3 hw)

theorem infoInt : (Try.prog.info? 3).map (fun i => (i.zero, i.size, i.bytes)) = some (some (.int .i64 0), 1, 8) := by kernel_rfl

/-- How many bytes a block has. -/
def sizeL (B tot k : Int) : Int := if tot ≤ k * B then 0 else if k * B + B ≤ tot then B else tot - k * B
def sizeTo (B tot k i : Int) : Int := if i ≤ tot then i - k * B else if tot ≤ k * B then 0 else tot - k * B

set_option maxHeartbeats 400000 in
theorem size_any (p : Nat) (B tag tot k : Int) (w : World) (hB : 1 ≤ B) (hB2 : B ≤ 16) (hk : 0 ≤ k) (hk2 : k ≤ 100000000)
   (ht : 0 ≤ tot) (ht2 : tot ≤ 1000) (hc : w.cell? ⟨p, 1, none⟩ = some (.int .i64 B)) :
    Calls Try.prog 80 #[.pointer (some ⟨p, 0, none⟩), .agg #[.int .i64 tag, .int .i64 tot], .int .i64 k] w fun e w' => e = .returned (.int .i64 (sizeL B tot k)) ∧ Ext w w' := by
  have hp : p < w.heap.size := World.block_lt_of_cell? w _ hc
  have h0 : 0 ≤ k * B := Int.mul_nonneg hk (by omega)
  have h1 : k * B ≤ 1600000000 := by have := Int.mul_le_mul hk2 hB2 (by omega) (by omega); omega
  have HM : Hid ((k + 1) * B = k * B + B) := by show _ = _; rw [Int.add_mul, Int.one_mul]
  have h2 : 0 ≤ (k + 1) * B := by rw [HM.out]; omega
  have h3 : (k + 1) * B ≤ 1600000016 := by rw [HM.out]; omega
  have HZ : Hid (∀ i, sizeTo B tot k i = if i ≤ tot then i - k * B else if tot ≤ k * B then 0 else tot - k * B) := fun _ => rfl
  have HY : Hid (sizeL B tot k = if tot ≤ k * B then 0 else if k * B + B ≤ tot then B else tot - k * B) := rfl
  go_enter Try.func80, Try.ntmps80
  go_wp2
  go_loop [7, 8] (fun n i => ∃ j : Int, k * B ≤ j ∧ j ≤ (k + 1) * B ∧ i = .int .i64 j ∧ n = .int .i64 (sizeTo B tot k j)) (fun _ i => ((k + 1) * B - intOf i).toNat)
  case atStart => exact ⟨k * B, Int.le_refl _, by rw [HM.out]; omega, rfl, by rw [HZ.out]; congr 1; split <;> (try split) <;> omega⟩
  case round =>
    obtain ⟨j, hj1, hj2, rfl, rfl⟩ := hrel
    have hn : Hid (sizeTo B tot k (j + 1) = if j < tot then sizeTo B tot k j + 1 else sizeTo B tot k j) := by
      show _ = _
      rw [HZ.out, HZ.out]
      split <;> split <;> (try split) <;> (try split) <;> omega
    have hb : 0 ≤ sizeTo B tot k j ∧ sizeTo B tot k j ≤ 1000 := by
      rw [HZ.out]; split <;> (try split) <;> omega
    by_cases hlt : j < (k + 1) * B
    · by_cases hjt : j < tot
      · have hE : Hid (sizeTo B tot k (j + 1) = sizeTo B tot k j + 1) := by show _ = _; rw [hn.out, if_pos hjt]
        clear hn
        generalize sizeTo B tot k j = S at *
        go_wp2

        exact ⟨⟨j + 1, by omega, by omega, by go_num, by rw [hE.out]⟩, by simp [intOf]; omega⟩
      · have hE : Hid (sizeTo B tot k (j + 1) = sizeTo B tot k j) := by show _ = _; rw [hn.out, if_neg hjt]
        clear hn
        generalize sizeTo B tot k j = S at *
        go_wp2
        exact ⟨⟨j + 1, by omega, by omega, by go_num, by rw [hE.out]⟩, by simp [intOf]; omega⟩
    · go_wp2
      go_ret
      refine ⟨ret_int ?_, Ext.new w _⟩
      rw [HZ.out, HY.out]
      have := HM.out
      split <;> split <;> (try split) <;> omega

/-- What a transfer holds of block k. -/
def heldL (has : List ByteArray) (k : Int) : ByteArray := has.getD k.toNat ByteArray.empty
theorem ret_string {a b : ByteArray} (h : a = b) : Ending.returned (.string a) = .returned (.string b) := by rw [h]

set_option maxHeartbeats 400000 in
theorem held_any (b o : Nat) (has : List ByteArray) (hv : Value) (k : Int) (w : World) (base : Nat) (hh : w.cell? ⟨b, o + 11, none⟩ = some hv)
    (ho : w.ownsRow base 9 1 hv has.length (has.map .string)) (hk : 0 ≤ k) (hk2 : k ≤ 1000000000) (hl : has.length ≤ 1000000000) :
    Calls Try.prog 88 #[.pointer (some ⟨b, o, none⟩), .int .i64 k] w fun e w' => e = .returned (.string (heldL has k)) ∧ w' = w := by
  obtain ⟨a, cap, rfl, hg⟩ := own_form ho
  obtain ⟨K, rfl⟩ := Int.eq_ofNat_of_zero_le hk
  by_cases hlt : K < has.length
  · obtain ⟨g, rfl⟩ := hg (by omega)
    have hck : w.cell? ⟨g, K, none⟩ = some (.string has[K]) := by
      rw [ho.cellAt K (by omega)]; simp [hlt]
    clear hg
    go_enter Try.func88, Try.ntmps88
    go_wp2
    go_ret
    exact ⟨ret_string (by simp [heldL, List.getD, hlt]), rfl⟩
  · go_enter Try.func88, Try.ntmps88
    go_wp2
    go_ret
    exact ⟨ret_string (by simp [heldL, List.getD, hlt]; rfl), rfl⟩

/-- The blocks k0, k0 + 1, ..: c of them. -/
def seqL (k0 : Int) (c : Nat) : List Int := (List.range c).map (fun j : Nat => k0 + j)
theorem seq_len (k0 : Int) (c : Nat) : (seqL k0 c).length = c := by simp [seqL]
theorem seq_snoc (k0 : Int) (c : Nat) : seqL k0 (c + 1) = seqL k0 c ++ [k0 + c] := by simp [seqL, List.range_succ]
theorem seq_get (k0 : Int) (c j : Nat) (h : j < c) : (seqL k0 c)[j]'(by simpa [seqL] using h) = k0 + j := by simp [seqL]
theorem seq_mem (k0 x : Int) (c : Nat) : x ∈ seqL k0 c ↔ k0 ≤ x ∧ x < k0 + c := by
  simp only [seqL, List.mem_map, List.mem_range]
  constructor
  · rintro ⟨j, hj, rfl⟩; omega
  · intro h; exact ⟨(x - k0).toNat, by omega, by omega⟩

/-- How many blocks begin at or lie in [lo, i). -/
def cntB (B lo i : Int) : Int := if i ≤ lo then 0 else (i - 1) / B - lo / B + 1
theorem cntB_step (B lo i : Int) (hB : 1 ≤ B) (hB2 : B ≤ 16) (hl : 0 ≤ lo) (h : lo ≤ i) :
    0 ≤ cntB B lo i ∧ cntB B lo i ≤ i - lo ∧ i / B = lo / B + cntB B lo (i + 1) - 1 ∧ (cntB B lo (i + 1) = cntB B lo i ∧ 0 < cntB B lo i ∨ cntB B lo (i + 1) = cntB B lo i + 1) ∧ 0 ≤ lo / B ∧ lo / B ≤ lo ∧ 0 ≤ i / B ∧ i / B ≤ i := by
  unfold cntB
  have hc : B = 1 ∨ B = 2 ∨ B = 3 ∨ B = 4 ∨ B = 5 ∨ B = 6 ∨ B = 7 ∨ B = 8 ∨ B = 9 ∨ B = 10 ∨ B = 11 ∨ B = 12 ∨ B = 13 ∨ B = 14 ∨ B = 15 ∨ B = 16 := by omega
  rcases hc with rfl | rfl | rfl | rfl | rfl | rfl | rfl | rfl | rfl | rfl | rfl | rfl | rfl | rfl | rfl | rfl
  all_goals (rw [if_neg (show ¬ i + 1 ≤ lo by omega)]; split <;> omega)
theorem cntB_mono (B lo i j : Int) (hB : 1 ≤ B) (hB2 : B ≤ 16) (hl : 0 ≤ lo) (h : lo ≤ i) (hij : i ≤ j) : cntB B lo i ≤ cntB B lo j := by
  unfold cntB
  have hc : B = 1 ∨ B = 2 ∨ B = 3 ∨ B = 4 ∨ B = 5 ∨ B = 6 ∨ B = 7 ∨ B = 8 ∨ B = 9 ∨ B = 10 ∨ B = 11 ∨ B = 12 ∨ B = 13 ∨ B = 14 ∨ B = 15 ∨ B = 16 := by omega
  rcases hc with rfl | rfl | rfl | rfl | rfl | rfl | rfl | rfl | rfl | rfl | rfl | rfl | rfl | rfl | rfl | rfl
  all_goals (split <;> split <;> omega)

/-- The numbers of the blocks of a window. -/
def winN (B W lo hi : Int) : Nat := if W ≤ cntB B lo hi then W.toNat else (cntB B lo hi).toNat
def winL (B W : Int) (m : Mv) : List Int :=
  if m.tag = 0 ∨ m.lost = true then [] else seqL ((fromL m + m.taken) / B) (winN B W (fromL m + m.taken) (fromL m + lenL m))

theorem ints_one (k : Int) : ∀ u ∈ [Value.int .i64 k], u.oneCell' = true := by intro u hu; simp at hu; subst hu; rfl

end Go.Proofs.Ytpiopalfnjohfaa
