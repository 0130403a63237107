import Derived.Test.YtjhihliciadipabGreatNewv
set_option linter.unusedVariables false
set_option linter.unusedSimpArgs false
set_option linter.unnecessarySimpa false
namespace Go.Proofs.YtjhihliciadipabGreat
open Go.RowKit

theorem infoEntry : (Tryz.prog.info? 42).map (fun i => (i.zero, i.size, i.bytes)) = some (some (.agg #[.int .i64 0, .int .i64 0, .int .i64 0, .int .i64 0]), 4, 32) := by kernel_rfl
def entV (x : Kp) : List Value := [.int .i64 x.path, .int .i64 x.tag, .int .i64 x.tot, .int .i64 x.k]
theorem ent_one (x : Kp) : ∀ u ∈ entV x, u.oneCell' = true := by intro u hu; simp [entV] at hu; rcases hu with rfl | rfl | rfl | rfl <;> rfl
def atWhen (n : Nat) (x : Kp) : Bool := x.when == (n : Int) + 1
def entTo (c : List Kp) : Nat → List Kp
  | 0 => []
  | n + 1 => entTo c n ++ c.filter (atWhen n)
def entL (s : Pr) : List Kp := entTo s.cache s.clock.toNat
theorem entTo_count (c : List Kp) (n : Nat) : (entTo c n).length = c.countP (fun x => decide (1 ≤ x.when) && decide (x.when ≤ (n : Int))) := by
  induction n with
  | zero =>
    simp only [entTo, List.length_nil]
    symm; rw [List.countP_eq_zero]; intro x _; simp; omega
  | succ n ih =>
    rw [entTo, List.length_append, ih, ← List.countP_eq_length_filter]
    clear ih
    induction c with
    | nil => rfl
    | cons x c ih =>
      simp only [List.countP_cons]
      have : (if (decide (1 ≤ x.when) && decide (x.when ≤ (n : Int))) = true then 1 else 0) + (if atWhen n x = true then 1 else 0) = (if (decide (1 ≤ x.when) && decide (x.when ≤ ((n + 1 : Nat) : Int))) = true then 1 else 0) := by
        unfold atWhen
        simp only [Bool.and_eq_true, decide_eq_true_eq, beq_iff_eq]
        split <;> split <;> split <;> omega
      omega
theorem entTo_len (c : List Kp) (n : Nat) : (entTo c n).length ≤ c.length := by rw [entTo_count]; exact List.countP_le_length
theorem news_blk {w : World} {g : Nat} {T : TypeId} {l : List Value} (h : Blk w g T l.toArray) : ∀ j u, l[j]? = some u → w.cell? ((⟨g, 0, none⟩ : Addr).add j) = some u := by
  intro j u hu
  have hadd : (⟨g, 0, none⟩ : Addr).add j = ⟨g, j, none⟩ := by unfold Addr.add; split <;> simp_all
  rw [hadd, h.cell j]; simpa using hu
theorem filter_take_snoc (c : List Kp) (i : Nat) (h : i < c.length) (p : Kp → Bool) : (c.take (i + 1)).filter p = (c.take i).filter p ++ (if p c[i] = true then [c[i]] else []) := by
  rw [List.take_succ_eq_append_getElem h, List.filter_append]
  simp [List.filter_cons]

set_option maxRecDepth 100000 in
set_option maxHeartbeats 2000000 in
theorem Entries_any (p : Nat) (s : Pr) (L : Lay) (w : World) (h : PrAt w p s L) (hn : s.cache.length ≤ 1000) (hc0 : 0 ≤ s.clock) (hc1 : s.clock ≤ 100000000000000000) :
    Calls Tryz.prog 37 #[.pointer (some ⟨p, 0, none⟩)] w fun e w' => ∃ v, e = .returned v ∧ Ext w w' ∧ w'.ownsRow w.heap.size 42 4 v (entL s).length ((entL s).map entV).flatten := by
  have HE : Hid (entL s = entTo s.cache s.clock.toNat) := rfl
  have hk : w.cell? ⟨p, 9, none⟩ = some (.int .i64 s.clock) := h.blk.cell 9
  have hc : w.cell? ⟨p, 8, none⟩ = some L.vC := h.blk.cell 8
  have ho := h.cache
  obtain ⟨aC, cap, hC, hg⟩ := own_form ho
  rw [hC] at hc ho
  clear h hC
  go_enter Tryz.func37, Tryz.ntmps37
  go_wp2_with fail
  go_loopw [3, 4] (fun l i wr => ∃ n : Nat, (n : Int) ≤ s.clock ∧ i = .int .i64 ((n : Int) + 1) ∧ Ext w wr ∧ wr.ownsRow w.heap.size 42 4 l (entTo s.cache n).length ((entTo s.cache n).map entV).flatten) (fun _ i _ => (s.clock + 1 - intOf i).toNat)
  case atStart => exact ⟨0, by omega, rfl, Below.refl _ _, World.ownsRow_nil _ _ _ _⟩
  case round =>
    obtain ⟨n, hnc, rfl, hE, hown⟩ := hrel
    have hk1 := ext_cell hE hk
    by_cases hlt : (n : Int) < s.clock
    · have HN : Hid (entTo s.cache (n + 1) = entTo s.cache n ++ (s.cache.take s.cache.length).filter (atWhen n)) := by show _ = _; rw [List.take_length]; rfl
      have hel := entTo_len s.cache n
      generalize entTo s.cache n = fl at *
      have hdt : decide ((n : Int) + 1 ≤ s.clock) = true := by simp; omega
      go_wp2_with fail
      go_loopw [3, 5] (fun l i wr => ∃ k : Nat, k ≤ s.cache.length ∧ i = .int .i64 k ∧ Ext w wr ∧ wr.ownsRow w.heap.size 42 4 l (fl ++ (s.cache.take k).filter (atWhen n)).length ((fl ++ (s.cache.take k).filter (atWhen n)).map entV).flatten) (fun _ i _ => s.cache.length - (intOf i).toNat)
      case atStart => exact ⟨0, Nat.zero_le _, rfl, hE, by simpa using hown⟩
      case round =>
        obtain ⟨k, hkk, rfl, hE2, hown2⟩ := hrel
        have hc1 := ext_cell hE2 hc
        have ho1 := own_ext ho hE2
        by_cases hlt2 : k < s.cache.length
        · obtain ⟨gC, rfl⟩ := hg (by omega)
          have hcell : ∀ r, r < 6 → wr.cell? ⟨gC, k * 6 + r, none⟩ = (kpV s.cache[k])[r]? := by
            intro r hr
            rw [ho1.cellAt (k * 6 + r) (by have : (k + 1) * 6 ≤ s.cache.length * 6 := Nat.mul_le_mul_right 6 hlt2; omega), flat_get 6 _ (kps_len _) k r hr]; simp [hlt2]
          have HT : Hid ((s.cache.take (k + 1)).filter (atWhen n) = (s.cache.take k).filter (atWhen n) ++ (if atWhen n s.cache[k] = true then [s.cache[k]] else [])) := filter_take_snoc _ _ hlt2 _
          have hlen : (fl ++ (s.cache.take k).filter (atWhen n)).length ≤ 2000 := by
            have h1 := List.length_filter_le (atWhen n) (s.cache.take k)
            rw [List.length_append]; simp at h1; omega
          generalize s.cache[k] = x at *
          have q0 : wr.cell? ⟨gC, k * 6, none⟩ = some (.int .i64 x.path) := hcell 0 (by omega)
          have q1 : wr.cell? ⟨gC, k * 6 + 1, none⟩ = some (.int .i64 x.tag) := hcell 1 (by omega)
          have q2 : wr.cell? ⟨gC, k * 6 + 2, none⟩ = some (.int .i64 x.tot) := hcell 2 (by omega)
          have q3 : wr.cell? ⟨gC, k * 6 + 3, none⟩ = some (.int .i64 x.k) := hcell 3 (by omega)
          have q4 : wr.cell? ⟨gC, k * 6 + 4, none⟩ = some (.string x.body) := hcell 4 (by omega)
          have q5 : wr.cell? ⟨gC, k * 6 + 5, none⟩ = some (.int .i64 x.when) := hcell 5 (by omega)
          have HW : Hid (atWhen n x = (x.when == (n : Int) + 1)) := rfl
          generalize hf2 : fl ++ (s.cache.take k).filter (atWhen n) = f2 at *
          have HF2 := hide hf2
          clear hcell hg hf2
          cases hw : (x.when == (n : Int) + 1)
          · have HT2 : Hid (fl ++ (s.cache.take (k + 1)).filter (atWhen n) = f2) := by show _ = _; rw [HT.out, HW.out, hw, ← HF2.out]; simp
            clear HT
            go_wp2_with fail
            exact ⟨⟨k + 1, by omega, by go_num, Ext.trans' hE2 (Ext.new _ _), by rw [HT2.out]; exact hown2.alloc _⟩, by simp [intOf]; omega⟩
          · have HT2 : Hid (fl ++ (s.cache.take (k + 1)).filter (atWhen n) = f2 ++ [x]) := by show _ = _; rw [HT.out, HW.out, hw, ← HF2.out]; simp
            clear HT
            have hBn : Blk ((wr.alloc (.cells #[.int .i64 x.path, .int .i64 x.tag, .int .i64 x.tot, .int .i64 x.k, .string x.body, .int .i64 x.when] 144)).alloc (.cells #[.int .i64 x.path, .int .i64 x.tag, .int .i64 x.tot, .int .i64 x.k] 42)) (wr.heap.size + 1) 42 (entV x).toArray := by
              have h1 := Blk.new (wr.alloc (.cells #[.int .i64 x.path, .int .i64 x.tag, .int .i64 x.tot, .int .i64 x.k, .string x.body, .int .i64 x.when] 144)) 42 (entV x).toArray
              have h2 : (wr.alloc (.cells #[.int .i64 x.path, .int .i64 x.tag, .int .i64 x.tot, .int .i64 x.k, .string x.body, .int .i64 x.when] 144)).heap.size = wr.heap.size + 1 := by simp
              rw [h2] at h1; exact h1
            go_wp2_with (at_builtin; refine app_one Tryz.underlying40 infoEntry rfl (by decide) (by decide) _ rfl _ _ rfl (by rfl) ((hown2.alloc _).alloc _) (entV x) rfl rfl (news_blk hBn) (ent_one x) (by omega) (by have := hE2.size; simp; omega) ?_; intro v3 w3 hown3 hg3 hwh3)
            go_roundw
            case measure => simp [intOf]; omega
            case rel =>
              have hE3 := Ext.trans' hE2 (Ext.new wr (.cells #[.int .i64 x.path, .int .i64 x.tag, .int .i64 x.tot, .int .i64 x.k, .string x.body, .int .i64 x.when] 144))
              have ho4 : w3.ownsRow w.heap.size 42 4 v3 (fl ++ (s.cache.take (k + 1)).filter (atWhen n)).length ((fl ++ (s.cache.take (k + 1)).filter (atWhen n)).map entV).flatten := by
                rw [HT2.out, List.length_append, List.map_append, List.flatten_append]; simpa using hown3
              first
                | exact ⟨k + 1, by omega, by go_num, app_ext hE3 (hown2.alloc _) (by omega) hg3, ho4⟩
                | ((repeat apply Exists.intro); exact ⟨⟨k + 1, by omega, by go_num, app_ext hE3 (hown2.alloc _) (by omega) hg3, ho4⟩, rfl⟩)
        · clear hg
          have hkk2 : k = s.cache.length := by omega
          rw [hkk2] at hown2
          rw [← HN.out] at hown2
          go_wp2_with fail
          exact ⟨⟨n + 1, by omega, by go_num, hE2, hown2⟩, by simp [intOf]; omega⟩
    · clear hg
      have hnn : s.clock.toNat = n := by omega
      go_wp2_with fail
      go_ret
      exact ⟨_, rfl, hE, by rw [HE.out, hnn]; exact hown⟩
end Go.Proofs.YtjhihliciadipabGreat
