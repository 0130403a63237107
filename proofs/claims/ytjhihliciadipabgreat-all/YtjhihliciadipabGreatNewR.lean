import Derived.Test.YtjhihliciadipabGreatNewv
set_option linter.unusedVariables false
set_option linter.unusedSimpArgs false
set_option linter.unnecessarySimpa false
namespace Go.Proofs.YtjhihliciadipabGreat
open Go.RowKit

def fairB (m b wi c t : Int) : Bool := decide (1 ≤ m) && decide (m ≤ 3) && decide (1 ≤ b) && decide (b ≤ 16) && decide (1 ≤ wi) && decide (wi ≤ 4) && decide (0 ≤ c) && decide (c ≤ 256) && decide (1 ≤ t) && decide (t ≤ 4)
def newPr (m b wi c t : Int) : Pr := ⟨m, b, wi, c, t, [], List.replicate m.toNat ⟨false, 0, 0, 0, 0⟩, [(0, 0), (0, 0), (0, 0), (0, 0)], [], 0⟩

set_option maxRecDepth 100000 in
set_option maxHeartbeats 2000000 in
theorem New_no (m b wi c t : Int) (w : World) (hf : fairB m b wi c t = false) :
    Calls Tryz.prog 16 #[.agg #[.int .i64 m, .int .i64 b, .int .i64 wi, .int .i64 c, .int .i64 t]] w fun e w' => e = .returned (.tuple #[.pointer none, .int .i64 1]) ∧ Ext w w' := by
  have hor : m < 1 ∨ 3 < m ∨ b < 1 ∨ 16 < b ∨ wi < 1 ∨ 4 < wi ∨ c < 0 ∨ 256 < c ∨ t < 1 ∨ 4 < t := by
    unfold fairB at hf
    by_cases h1 : 1 ≤ m <;> by_cases h2 : m ≤ 3 <;> by_cases h3 : 1 ≤ b <;> by_cases h4 : b ≤ 16 <;> by_cases h5 : 1 ≤ wi <;> by_cases h6 : wi ≤ 4 <;> by_cases h7 : 0 ≤ c <;> by_cases h8 : c ≤ 256 <;> by_cases h9 : 1 ≤ t <;> by_cases h10 : t ≤ 4 <;> first | omega | simp [h1, h2, h3, h4, h5, h6, h7, h8, h9, h10] at hf
  have HO := hide hor
  clear hf hor
  by_cases d1 : m < 1
  · go_enter Tryz.func16, Tryz.ntmps16
    go_wp2_with fail
    go_ret2
    exact ⟨rfl, Ext.new w _⟩
  by_cases d2 : 3 < m
  · go_enter Tryz.func16, Tryz.ntmps16
    go_wp2_with fail
    go_ret2
    exact ⟨rfl, Ext.new w _⟩
  by_cases d3 : b < 1
  · go_enter Tryz.func16, Tryz.ntmps16
    go_wp2_with fail
    go_ret2
    exact ⟨rfl, Ext.new w _⟩
  by_cases d4 : 16 < b
  · go_enter Tryz.func16, Tryz.ntmps16
    go_wp2_with fail
    go_ret2
    exact ⟨rfl, Ext.new w _⟩
  by_cases d5 : wi < 1
  · go_enter Tryz.func16, Tryz.ntmps16
    go_wp2_with fail
    go_ret2
    exact ⟨rfl, Ext.new w _⟩
  by_cases d6 : 4 < wi
  · go_enter Tryz.func16, Tryz.ntmps16
    go_wp2_with fail
    go_ret2
    exact ⟨rfl, Ext.new w _⟩
  by_cases d7 : c < 0
  · go_enter Tryz.func16, Tryz.ntmps16
    go_wp2_with fail
    go_ret2
    exact ⟨rfl, Ext.new w _⟩
  by_cases d8 : 256 < c
  · go_enter Tryz.func16, Tryz.ntmps16
    go_wp2_with fail
    go_ret2
    exact ⟨rfl, Ext.new w _⟩
  by_cases d9 : t < 1
  · go_enter Tryz.func16, Tryz.ntmps16
    go_wp2_with fail
    go_ret2
    exact ⟨rfl, Ext.new w _⟩
  · have d10 : 4 < t := by have := HO.out; omega
    go_enter Tryz.func16, Tryz.ntmps16
    go_wp2_with fail
    go_ret2
    exact ⟨rfl, Ext.new w _⟩

theorem mkJobs1 (w : World) : (Instr.makeSlice 98 (.int .i64 1) (.int .i64 1)).run Tryz.prog w = .ok (.slice (some ⟨w.heap.size, 0, none⟩) 1 1) (w.alloc (.cells #[.bool false, .int .i64 0, .int .i64 0, .int .i64 0, .int .i64 0] 124)) := by kernel_rfl
theorem mkJobs2 (w : World) : (Instr.makeSlice 98 (.int .i64 2) (.int .i64 2)).run Tryz.prog w = .ok (.slice (some ⟨w.heap.size, 0, none⟩) 2 2) (w.alloc (.cells #[.bool false, .int .i64 0, .int .i64 0, .int .i64 0, .int .i64 0, .bool false, .int .i64 0, .int .i64 0, .int .i64 0, .int .i64 0] 124)) := by kernel_rfl
theorem mkJobs3 (w : World) : (Instr.makeSlice 98 (.int .i64 3) (.int .i64 3)).run Tryz.prog w = .ok (.slice (some ⟨w.heap.size, 0, none⟩) 3 3) (w.alloc (.cells #[.bool false, .int .i64 0, .int .i64 0, .int .i64 0, .int .i64 0, .bool false, .int .i64 0, .int .i64 0, .int .i64 0, .int .i64 0, .bool false, .int .i64 0, .int .i64 0, .int .i64 0, .int .i64 0] 124)) := by kernel_rfl
theorem mkLatest (w : World) : (Instr.makeSlice 99 (.int .i64 4) (.int .i64 4)).run Tryz.prog w = .ok (.slice (some ⟨w.heap.size, 0, none⟩) 4 4) (w.alloc (.cells #[.int .i64 0, .int .i64 0, .int .i64 0, .int .i64 0, .int .i64 0, .int .i64 0, .int .i64 0, .int .i64 0] 115)) := by kernel_rfl
theorem new_at {w : World} {p bJ bL : Nat} (n : Nat) {b wi c t : Int} {aJ : Array Value} (hn : n ≤ 3) (haJ : aJ.toList = ((List.replicate n ⟨false, 0, 0, 0, 0⟩ : List Jb).map jobV).flatten)
    (h1 : Blk w p 103 #[.int .i64 n, .int .i64 b, .int .i64 wi, .int .i64 c, .int .i64 t, .slice none 0 0, .slice (some ⟨bJ, 0, none⟩) n n, .slice (some ⟨bL, 0, none⟩) 4 4, .slice none 0 0, .int .i64 0])
    (h2 : Blk w bJ 124 aJ) (h3 : Blk w bL 115 #[.int .i64 0, .int .i64 0, .int .i64 0, .int .i64 0, .int .i64 0, .int .i64 0, .int .i64 0, .int .i64 0]) (e1 : p ≠ bJ) (e2 : p ≠ bL) (e3 : bJ ≠ bL) :
    PrAt w p (newPr n b wi c t) ⟨.slice none 0 0, .slice (some ⟨bJ, 0, none⟩) n n, .slice (some ⟨bL, 0, none⟩) 4 4, .slice none 0 0, []⟩ := by
  have hl : ((List.replicate n ⟨false, 0, 0, 0, 0⟩ : List Jb).map jobV).flatten.length = n * 5 := by
    rw [flat_len 5 _ (jobs_len _)]; simp
  refine ⟨h1, World.ownsRow_nil _ _ _ _, ?_, ?_, World.ownsRow_nil _ _ _ _, rfl, fun i m hv hm => by simp [newPr] at hm, ?_, ?_⟩
  · refine ⟨by simp only [newPr, Int.toNat_natCast, List.length_replicate]; exact hl, .inr ⟨bJ, n, aJ, by simp [newPr], Nat.zero_le _, h2, by simp [newPr], by unfold maxLen; omega, ?_, ?_⟩⟩
    · rw [← Array.length_toList, haJ, hl]
    · simp only [newPr, Int.toNat_natCast, List.length_replicate]; rw [haJ]; exact List.take_of_length_le (by rw [hl]; omega)
  · exact ⟨rfl, .inr ⟨bL, 4, #[.int .i64 0, .int .i64 0, .int .i64 0, .int .i64 0, .int .i64 0, .int .i64 0, .int .i64 0, .int .i64 0], rfl, Nat.zero_le _, h3, by simp [newPr], by unfold maxLen; omega, rfl, rfl⟩⟩
  · intro v hv
    simp [Lay.vs] at hv
    rcases hv with rfl | rfl | rfl | rfl
    · simp [Value.ownBlock]
    · simp [Value.ownBlock]; exact fun e => e1 e.symm
    · simp [Value.ownBlock]; exact fun e => e2 e.symm
    · simp [Value.ownBlock]
  · intro i j u v x hij hu hv hx hy
    have hc : ∀ (k : Nat) (z : Value), (Lay.vs ⟨.slice none 0 0, .slice (some ⟨bJ, 0, none⟩) n n, .slice (some ⟨bL, 0, none⟩) 4 4, .slice none 0 0, []⟩)[k]? = some z → z.ownBlock = some x → (k = 1 ∧ x = bJ) ∨ (k = 2 ∧ x = bL) := by
      intro k z hk hz
      match k, hk with
      | 0, hk => simp [Lay.vs] at hk; subst hk; simp [Value.ownBlock] at hz
      | 1, hk => simp [Lay.vs] at hk; subst hk; simp [Value.ownBlock] at hz; exact Or.inl ⟨rfl, hz.symm⟩
      | 2, hk => simp [Lay.vs] at hk; subst hk; simp [Value.ownBlock] at hz; exact Or.inr ⟨rfl, hz.symm⟩
      | 3, hk => simp [Lay.vs] at hk; subst hk; simp [Value.ownBlock] at hz
      | k + 4, hk => simp [Lay.vs] at hk
    rcases hc i u hu hx with ⟨a1, a2⟩ | ⟨a1, a2⟩ <;> rcases hc j v hv hy with ⟨b1, b2⟩ | ⟨b1, b2⟩
    · omega
    · exact e3 (a2.symm.trans b2)
    · exact e3 (b2.symm.trans a2)
    · omega

theorem four_at (w : World) (o : Obj) (a2 a3 a4 : Array Value) (T2 T3 T4 : TypeId) :
    Blk ((((w.alloc o).alloc (.cells a2 T2)).alloc (.cells a3 T3)).alloc (.cells a4 T4)).drew (w.heap.size + 1) T2 a2 ∧
    Blk ((((w.alloc o).alloc (.cells a2 T2)).alloc (.cells a3 T3)).alloc (.cells a4 T4)).drew (w.heap.size + 1 + 1) T3 a3 ∧
    Blk ((((w.alloc o).alloc (.cells a2 T2)).alloc (.cells a3 T3)).alloc (.cells a4 T4)).drew (w.heap.size + 1 + 1 + 1) T4 a4 ∧
    Ext w ((((w.alloc o).alloc (.cells a2 T2)).alloc (.cells a3 T3)).alloc (.cells a4 T4)).drew := by
  have e1 : (w.alloc o).heap.size = w.heap.size + 1 := by simp
  have e2 : ((w.alloc o).alloc (.cells a2 T2)).heap.size = w.heap.size + 1 + 1 := by simp
  have e3 : (((w.alloc o).alloc (.cells a2 T2)).alloc (.cells a3 T3)).heap.size = w.heap.size + 1 + 1 + 1 := by simp
  have b2 := Blk.new (w.alloc o) T2 a2
  have b3 := Blk.new ((w.alloc o).alloc (.cells a2 T2)) T3 a3
  have b4 := Blk.new (((w.alloc o).alloc (.cells a2 T2)).alloc (.cells a3 T3)) T4 a4
  rw [e1] at b2; rw [e2] at b3; rw [e3] at b4
  refine ⟨((b2.ext (Ext.new _ _)).ext (Ext.new _ _)).ext (Below.drew (Below.refl _ _)), (b3.ext (Ext.new _ _)).ext (Below.drew (Below.refl _ _)), b4.ext (Below.drew (Below.refl _ _)), ?_⟩
  exact Below.drew (Ext.trans' (Ext.trans' (Ext.trans' (Ext.new w o) (Ext.new _ _)) (Ext.new _ _)) (Ext.new _ _))

set_option maxRecDepth 100000 in
set_option maxHeartbeats 2000000 in
theorem New_yes (m b wi c t : Int) (w : World) (f1 : 1 ≤ m) (f2 : m ≤ 3) (f3 : 1 ≤ b) (f4 : b ≤ 16) (f5 : 1 ≤ wi) (f6 : wi ≤ 4) (f7 : 0 ≤ c) (f8 : c ≤ 256) (f9 : 1 ≤ t) (f10 : t ≤ 4) :
    Calls Tryz.prog 16 #[.agg #[.int .i64 m, .int .i64 b, .int .i64 wi, .int .i64 c, .int .i64 t]] w fun e w' => ∃ p L, e = .returned (.tuple #[.pointer (some ⟨p, 0, none⟩), .int .i64 0]) ∧ Ext w w' ∧ PrAt w' p (newPr m b wi c t) L ∧ (∀ x, Foot p L x → w.heap.size ≤ x) := by
  have hm : m = 1 ∨ m = 2 ∨ m = 3 := by omega
  rcases hm with rfl | rfl | rfl
  all_goals go_enter Tryz.func16, Tryz.ntmps16
  all_goals go_wp2_with fail
  all_goals have hj1 := mkJobs1
  all_goals have hj2 := mkJobs2
  all_goals have hj3 := mkJobs3
  all_goals have hj4 := mkLatest
  all_goals go_region
  all_goals go_wp2_with fail
  all_goals go_ret2
  all_goals first
    | (obtain ⟨h2, h3, h4, h5⟩ := four_at w (.cells #[.int .i64 1, .int .i64 b, .int .i64 wi, .int .i64 c, .int .i64 t] 45) #[.bool false, .int .i64 0, .int .i64 0, .int .i64 0, .int .i64 0] #[.int .i64 0, .int .i64 0, .int .i64 0, .int .i64 0, .int .i64 0, .int .i64 0, .int .i64 0, .int .i64 0] #[.int .i64 1, .int .i64 b, .int .i64 wi, .int .i64 c, .int .i64 t, .slice none 0 0, .slice (some ⟨w.heap.size + 1, 0, none⟩) 1 1, .slice (some ⟨w.heap.size + 1 + 1, 0, none⟩) 4 4, .slice none 0 0, .int .i64 0] 124 115 103
       refine ⟨w.heap.size + 1 + 1 + 1, _, rfl, h5, new_at 1 (by omega) rfl h4 h2 h3 (by omega) (by omega) (by omega), ?_⟩
       intro x hx
       rcases hx with rfl | ⟨v, hv, hb⟩
       · omega
       · simp [Lay.vs] at hv
         rcases hv with rfl | rfl | rfl | rfl <;> simp [Value.ownBlock] at hb <;> omega)
    | (obtain ⟨h2, h3, h4, h5⟩ := four_at w (.cells #[.int .i64 1, .int .i64 b, .int .i64 wi, .int .i64 c, .int .i64 t] 45) #[.int .i64 0, .int .i64 0, .int .i64 0, .int .i64 0, .int .i64 0, .int .i64 0, .int .i64 0, .int .i64 0] #[.bool false, .int .i64 0, .int .i64 0, .int .i64 0, .int .i64 0] #[.int .i64 1, .int .i64 b, .int .i64 wi, .int .i64 c, .int .i64 t, .slice none 0 0, .slice (some ⟨w.heap.size + 1 + 1, 0, none⟩) 1 1, .slice (some ⟨w.heap.size + 1, 0, none⟩) 4 4, .slice none 0 0, .int .i64 0] 115 124 103
       refine ⟨w.heap.size + 1 + 1 + 1, _, rfl, h5, new_at 1 (by omega) rfl h4 h3 h2 (by omega) (by omega) (by omega), ?_⟩
       intro x hx
       rcases hx with rfl | ⟨v, hv, hb⟩
       · omega
       · simp [Lay.vs] at hv
         rcases hv with rfl | rfl | rfl | rfl <;> simp [Value.ownBlock] at hb <;> omega)
    | (obtain ⟨h2, h3, h4, h5⟩ := four_at w (.cells #[.int .i64 2, .int .i64 b, .int .i64 wi, .int .i64 c, .int .i64 t] 45) #[.bool false, .int .i64 0, .int .i64 0, .int .i64 0, .int .i64 0, .bool false, .int .i64 0, .int .i64 0, .int .i64 0, .int .i64 0] #[.int .i64 0, .int .i64 0, .int .i64 0, .int .i64 0, .int .i64 0, .int .i64 0, .int .i64 0, .int .i64 0] #[.int .i64 2, .int .i64 b, .int .i64 wi, .int .i64 c, .int .i64 t, .slice none 0 0, .slice (some ⟨w.heap.size + 1, 0, none⟩) 2 2, .slice (some ⟨w.heap.size + 1 + 1, 0, none⟩) 4 4, .slice none 0 0, .int .i64 0] 124 115 103
       refine ⟨w.heap.size + 1 + 1 + 1, _, rfl, h5, new_at 2 (by omega) rfl h4 h2 h3 (by omega) (by omega) (by omega), ?_⟩
       intro x hx
       rcases hx with rfl | ⟨v, hv, hb⟩
       · omega
       · simp [Lay.vs] at hv
         rcases hv with rfl | rfl | rfl | rfl <;> simp [Value.ownBlock] at hb <;> omega)
    | (obtain ⟨h2, h3, h4, h5⟩ := four_at w (.cells #[.int .i64 2, .int .i64 b, .int .i64 wi, .int .i64 c, .int .i64 t] 45) #[.int .i64 0, .int .i64 0, .int .i64 0, .int .i64 0, .int .i64 0, .int .i64 0, .int .i64 0, .int .i64 0] #[.bool false, .int .i64 0, .int .i64 0, .int .i64 0, .int .i64 0, .bool false, .int .i64 0, .int .i64 0, .int .i64 0, .int .i64 0] #[.int .i64 2, .int .i64 b, .int .i64 wi, .int .i64 c, .int .i64 t, .slice none 0 0, .slice (some ⟨w.heap.size + 1 + 1, 0, none⟩) 2 2, .slice (some ⟨w.heap.size + 1, 0, none⟩) 4 4, .slice none 0 0, .int .i64 0] 115 124 103
       refine ⟨w.heap.size + 1 + 1 + 1, _, rfl, h5, new_at 2 (by omega) rfl h4 h3 h2 (by omega) (by omega) (by omega), ?_⟩
       intro x hx
       rcases hx with rfl | ⟨v, hv, hb⟩
       · omega
       · simp [Lay.vs] at hv
         rcases hv with rfl | rfl | rfl | rfl <;> simp [Value.ownBlock] at hb <;> omega)
    | (obtain ⟨h2, h3, h4, h5⟩ := four_at w (.cells #[.int .i64 3, .int .i64 b, .int .i64 wi, .int .i64 c, .int .i64 t] 45) #[.bool false, .int .i64 0, .int .i64 0, .int .i64 0, .int .i64 0, .bool false, .int .i64 0, .int .i64 0, .int .i64 0, .int .i64 0, .bool false, .int .i64 0, .int .i64 0, .int .i64 0, .int .i64 0] #[.int .i64 0, .int .i64 0, .int .i64 0, .int .i64 0, .int .i64 0, .int .i64 0, .int .i64 0, .int .i64 0] #[.int .i64 3, .int .i64 b, .int .i64 wi, .int .i64 c, .int .i64 t, .slice none 0 0, .slice (some ⟨w.heap.size + 1, 0, none⟩) 3 3, .slice (some ⟨w.heap.size + 1 + 1, 0, none⟩) 4 4, .slice none 0 0, .int .i64 0] 124 115 103
       refine ⟨w.heap.size + 1 + 1 + 1, _, rfl, h5, new_at 3 (by omega) rfl h4 h2 h3 (by omega) (by omega) (by omega), ?_⟩
       intro x hx
       rcases hx with rfl | ⟨v, hv, hb⟩
       · omega
       · simp [Lay.vs] at hv
         rcases hv with rfl | rfl | rfl | rfl <;> simp [Value.ownBlock] at hb <;> omega)
    | (obtain ⟨h2, h3, h4, h5⟩ := four_at w (.cells #[.int .i64 3, .int .i64 b, .int .i64 wi, .int .i64 c, .int .i64 t] 45) #[.int .i64 0, .int .i64 0, .int .i64 0, .int .i64 0, .int .i64 0, .int .i64 0, .int .i64 0, .int .i64 0] #[.bool false, .int .i64 0, .int .i64 0, .int .i64 0, .int .i64 0, .bool false, .int .i64 0, .int .i64 0, .int .i64 0, .int .i64 0, .bool false, .int .i64 0, .int .i64 0, .int .i64 0, .int .i64 0] #[.int .i64 3, .int .i64 b, .int .i64 wi, .int .i64 c, .int .i64 t, .slice none 0 0, .slice (some ⟨w.heap.size + 1 + 1, 0, none⟩) 3 3, .slice (some ⟨w.heap.size + 1, 0, none⟩) 4 4, .slice none 0 0, .int .i64 0] 115 124 103
       refine ⟨w.heap.size + 1 + 1 + 1, _, rfl, h5, new_at 3 (by omega) rfl h4 h3 h2 (by omega) (by omega) (by omega), ?_⟩
       intro x hx
       rcases hx with rfl | ⟨v, hv, hb⟩
       · omega
       · simp [Lay.vs] at hv
         rcases hv with rfl | rfl | rfl | rfl <;> simp [Value.ownBlock] at hb <;> omega)
end Go.Proofs.YtjhihliciadipabGreat
