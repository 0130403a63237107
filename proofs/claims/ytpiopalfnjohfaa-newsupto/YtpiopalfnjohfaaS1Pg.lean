import Derived.Test.YtpiopalfnjohfaaS1Read
import Derived.Test.YtpiopalfnjohfaaS1New
import Derived.Test.YtpiopalfnjohfaaAsk
import Derived.Test.YtpiopalfnjohfaaStepD
import Derived.Test.YtpiopalfnjohfaaRefS
set_option linter.unusedVariables false
set_option linter.unusedSimpArgs false
set_option linter.unnecessarySimpa false
namespace Go.Proofs.Ytpiopalfnjohfaa
open Go.RowKit

theorem infoTransfer : (Try.prog.info? 77).map (fun i => (i.zero, i.size, i.bytes)) = some (some (.agg #[.int .i64 0, .int .i64 0, .int .i64 0, .int .i64 0, .bool false, .bool false, .int .i64 0, .int .i64 0, .int .i64 0, .int .i64 0, .int .i64 0]), 11, 80) := by kernel_rfl
theorem tr_one (x : Int × Int × Int × Int) : ∀ u ∈ trV x, u.oneCell' = true := by
  intro u hu; simp [trV] at hu; rcases hu with rfl | rfl | rfl | rfl | rfl | rfl <;> rfl

set_option maxHeartbeats 1000000 in
theorem AskP_no (q : Nat) (path : Int) (r : ByteArray) (w : World) (hp : path < 0 ∨ 4 ≤ path) :
    Calls Try.prog 53 #[.pointer (some ⟨q, 0, none⟩), .int .i64 path, .string r] w fun e w' => e = .returned (.tuple #[.int .i64 0, .int .i64 2]) ∧ w' = w := by
  have HP := hide hp
  clear hp
  by_cases h0 : path < 0
  · go_enter Try.func53, Try.ntmps53
    go_wp2_with fail
    go_ret2
    exact ⟨rfl, rfl⟩
  · have h1 : 4 ≤ path := by rcases HP.out with h | h; exact absurd h h0; exact h
    go_enter Try.func53, Try.ntmps53
    go_wp2_with fail
    go_ret2
    exact ⟨rfl, rfl⟩

set_option maxHeartbeats 1000000 in
theorem AskP_full (q : Nat) (g : Pg) (path : Int) (r : ByteArray) (w : World) (h : PgAt w q g) (hp0 : 0 ≤ path) (hp4 : path < 4) (h8 : g.trs.length = 8) :
    Calls Try.prog 53 #[.pointer (some ⟨q, 0, none⟩), .int .i64 path, .string r] w fun e w' => e = .returned (.tuple #[.int .i64 0, .int .i64 3]) ∧ w' = w := by
  have hvT : w.cell? ⟨q, 13, none⟩ = some g.v := h.blk.cell 13
  obtain ⟨aT, capT, hT, -⟩ := own_form h.ts
  rw [hT, h8] at hvT
  clear h hT h8
  go_enter Try.func53, Try.ntmps53
  go_wp2_with fail
  go_ret2
  exact ⟨rfl, rfl⟩

def pgAdd (g : Pg) (x : Int × Int × Int × Int) (v : Value) : Pg := { g with trs := g.trs ++ [x], v := v }
theorem PgAt.add {w w1 : World} {q : Nat} {g : Pg} (h : PgAt w q g) (hc : Chg (fun x => g.v.ownBlock = some x) w w1) (v : Value) (x : Int × Int × Int × Int)
    (ho : w1.ownsRow 0 77 11 v (g.trs.length + 1) ((g.trs.map trV).flatten ++ trV x)) (hv : ∀ b, v.ownBlock = some b → g.v.ownBlock = some b ∨ w.heap.size ≤ b) :
    PgAt (w1.setCell ⟨q, 13, none⟩ v) q (pgAdd g x v) ∧ PMvs w (w1.setCell ⟨q, 13, none⟩ v) q g (pgAdd g x v) := by
  have hB1 := h.blk.chg hc h.np
  have hnp : v.ownBlock ≠ some q := fun e => by
    rcases hv q e with h1 | h1
    · exact h.np h1
    · have := h.blk.lt; omega
  have hC : Chg (fun b => b = q) w1 (w1.setCell ⟨q, 13, none⟩ v) := Chg.setCell (S := fun b => b = q) (Chg.refl _ _) (p := ⟨q, 13, none⟩) (Or.inl rfl) _
  refine ⟨⟨?_, ?_, hnp⟩, ?_, ?_⟩
  · have := hB1.set 13 v
    exact this
  · have := own_chg ho hC (fun k hk e => hnp (e ▸ hk))
    simpa [pgAdd] using this
  · exact (hc.mono (fun b _ hb => Or.inr hb)).trans' (hC.mono (fun b _ hb => Or.inl (Or.inl hb)))
  · rintro b (rfl | hb)
    · exact Or.inl (Or.inl rfl)
    · rcases hv b hb with h1 | h1
      · exact Or.inl (Or.inr h1)
      · exact Or.inr h1

set_option maxRecDepth 100000 in
set_option maxHeartbeats 2000000 in
theorem AskP_new (q : Nat) (g : Pg) (path : Nat) (r : ByteArray) (w : World) (h : PgAt w q g) (hr : r.size ≤ 1000000000) (hp4 : path < 4) (hn8 : g.trs.length < 8) :
    Calls Try.prog 53 #[.pointer (some ⟨q, 0, none⟩), .int .i64 path, .string r] w fun e w' =>
      e = .returned (.tuple #[.int .i64 g.trs.length, .int .i64 0]) ∧ ∃ g', g'.trs.length = g.trs.length + 1 ∧ PgAt w' q g' ∧ PMvs w w' q g g' := by
  have hvT : w.cell? ⟨q, 13, none⟩ = some g.v := h.blk.cell 13
  obtain ⟨aT, capT, hT, -⟩ := own_form h.ts
  rw [hT] at hvT
  have hp4' : (path : Int) < 4 := by omega
  have hn8' : (g.trs.length : Int) < 8 := by omega
  go_enter Try.func53, Try.ntmps53
  go_wp2_with fail
  refine (Read_some r _ hr).mono ?_
  rintro e w1 ⟨⟨ra, rb, rc, rfl⟩, hE1⟩
  have h1 := h.ext hE1
  have v13 : w1.cell? ⟨q, 13, none⟩ = some (.slice aT g.trs.length capT) := by rw [← hT]; exact h1.blk.cell 13
  have hl : w1.cell? ⟨q, 5 + path * 2, none⟩ = some (.int .i64 0) := by
    rw [h1.blk.cell]
    have : path = 0 ∨ path = 1 ∨ path = 2 ∨ path = 3 := by omega
    rcases this with rfl | rfl | rfl | rfl <;> rfl
  have hfp := h1.blk.frozen
  have hpl := h1.blk.lt
  clear hvT
  go_wp2_with fail
  have hE2 := Ext.new w1 (.cells #[.int .i64 path, .int .i64 ra, .int .i64 rb, .int .i64 rc, .bool false, .bool false, .int .i64 0, .int .i64 0, .int .i64 0, .int .i64 0, .int .i64 0] 77)
  have hBx := Blk.new w1 77 #[.int .i64 path, .int .i64 ra, .int .i64 rb, .int .i64 rc, .bool false, .bool false, .int .i64 0, .int .i64 0, .int .i64 0, .int .i64 0, .int .i64 0]
  generalize w1.alloc (.cells #[.int .i64 path, .int .i64 ra, .int .i64 rb, .int .i64 rc, .bool false, .bool false, .int .i64 0, .int .i64 0, .int .i64 0, .int .i64 0, .int .i64 0] 77) = w2 at *
  have h2 := h1.ext hE2
  have hM2 : PMvs w w2 q g g := PMvs.of_ext (Ext.trans' hE1 hE2)
  have x0 : w2.cell? ⟨w1.heap.size, 0, none⟩ = some (.int .i64 path) := hBx.cell 0
  have x1 : w2.cell? ⟨w1.heap.size, 1, none⟩ = some (.int .i64 ra) := hBx.cell 1
  have x2 : w2.cell? ⟨w1.heap.size, 2, none⟩ = some (.int .i64 rb) := hBx.cell 2
  have x3 : w2.cell? ⟨w1.heap.size, 3, none⟩ = some (.int .i64 rc) := hBx.cell 3
  have x4 : w2.cell? ⟨w1.heap.size, 4, none⟩ = some (.bool false) := hBx.cell 4
  have x5 : w2.cell? ⟨w1.heap.size, 5, none⟩ = some (.bool false) := hBx.cell 5
  have x6 : w2.cell? ⟨w1.heap.size, 6, none⟩ = some (.int .i64 0) := hBx.cell 6
  have x7 : w2.cell? ⟨w1.heap.size, 7, none⟩ = some (.int .i64 0) := hBx.cell 7
  have x8 : w2.cell? ⟨w1.heap.size, 8, none⟩ = some (.int .i64 0) := hBx.cell 8
  have x9 : w2.cell? ⟨w1.heap.size, 9, none⟩ = some (.int .i64 0) := hBx.cell 9
  have x10 : w2.cell? ⟨w1.heap.size, 10, none⟩ = some (.int .i64 0) := hBx.cell 10
  have hxl := hBx.lt
  clear v13 hl hfp hpl hE1 hE2 h1 h
  have v13 : w2.cell? ⟨q, 13, none⟩ = some (.slice aT g.trs.length capT) := by rw [← hT]; exact h2.blk.cell 13
  have hfp := h2.blk.frozen
  have hpl := h2.blk.lt
  have hots := h2.ts
  rw [hT] at hots
  have hBp := h2.blk
  have hnpT : (Value.slice aT g.trs.length capT).ownBlock ≠ some q := by rw [← hT]; exact h2.np
  have H2 := hide h2
  clear h2
  go_cut [49] (fun a wx => True ∧ ∃ g', g'.trs.length = g.trs.length + 1 ∧ PgAt wx q g' ∧ PMvs w wx q g g')
  case first =>
    go_region_law (
      refine step_app Try.underlying81 infoTransfer rfl (by decide) (by decide) rfl _ _ rfl (by rfl) (own_ext hots (Below.drew (Ext.new _ _))) (trV (path, ra, rb, rc)) rfl rfl (news_new _ _ _) (tr_one _) (by omega) (Nat.zero_le _) ?_
      intro v6 w6 ho6 hg6 hw6
      have hB6 : Blk w6 q 83 _ := (hBp.ext (Below.drew (Ext.new _ _))).grown hg6 hnpT
      have c6 : w6.cell? ⟨q, 13, none⟩ = some g.v := hB6.cell 13
      rw [hT] at c6
      have f6 := hB6.frozen 13
      obtain ⟨a6, cap6, rfl, hgx⟩ := own_form ho6
      clear hgx)
    all_goals
      go_wp2_with fail
      go_meet
      have hnew := H2.out.add (w1 := w6) ((Chg.of_ext (Below.drew (Ext.new _ _))).trans (Chg.of_grown hg6 (fun x hx => by rw [hT]; exact hx))) (.slice a6 (g.trs.length + 1) cap6) (path, ra, rb, rc) ho6
        (fun x hx => by
          rcases hw6 with h1 | h1
          · exact Or.inl (by rw [hT]; exact h1.symm.trans hx)
          · right; rw [h1] at hx; simp at hx; omega)
      exact ⟨trivial, _, by simp [pgAdd], hnew.1, hM2.trans hnew.2⟩
  case rest =>
    obtain ⟨-, g', hl', hP6, hM6⟩ := hcut
    clear x0 x1 x2 x3 x4 x5 x6 x7 x8 x9 x10 v13 hfp hots hBp H2 hBx
    go_wp2_with fail
    go_ret2
    exact ⟨rfl, g', hl', hP6, hM6⟩
end Go.Proofs.Ytpiopalfnjohfaa

namespace Go.Proofs.Ytpiopalfnjohfaa
open Go.RowKit

theorem AskP_any (q : Nat) (g : Pg) (path : Int) (r : ByteArray) (w : World) (h : PgAt w q g) (hn : g.trs.length ≤ 8) (hr : r.size ≤ 1000000000) :
    Calls Try.prog 53 #[.pointer (some ⟨q, 0, none⟩), .int .i64 path, .string r] w fun e w' =>
      e = .returned (.tuple #[.int .i64 (ansA g.trs.length path).1, .int .i64 (ansA g.trs.length path).2]) ∧ PStep w w' q g (cntA g.trs.length path) := by
  unfold ansA cntA
  by_cases hp : path < 0 ∨ 4 ≤ path
  · rw [if_pos hp, if_pos hp]
    refine (AskP_no q path r w hp).mono ?_
    rintro e w' ⟨rfl, rfl⟩
    exact ⟨rfl, PStep.ext h (Below.refl _ _)⟩
  · rw [if_neg hp, if_neg hp]
    by_cases h8 : g.trs.length = 8
    · rw [if_pos h8, if_pos h8]
      refine (AskP_full q g path r w h (by omega) (by omega) h8).mono ?_
      rintro e w' ⟨rfl, rfl⟩
      exact ⟨rfl, PStep.ext h (Below.refl _ _)⟩
    · rw [if_neg h8, if_neg h8]
      obtain ⟨k, rfl⟩ := Int.eq_ofNat_of_zero_le (show 0 ≤ path by omega)
      refine (AskP_new q g k r w h hr (by omega) (by omega)).mono ?_
      rintro e w' ⟨rfl, g', hl, hP, hM⟩
      exact ⟨rfl, g', hl, hP, hM⟩

def isP (g : Pg) (id : Int) : Bool := decide (0 ≤ id) && decide (id < g.trs.length)
theorem isP_yes {g : Pg} {id : Int} (h : isP g id = true) : ∃ i : Nat, id = i ∧ i < g.trs.length := by
  unfold isP at h; simp at h; exact ⟨id.toNat, by omega, by omega⟩
theorem hasP_any (q : Nat) (id : Int) (g : Pg) (w : World) (h : PgAt w q g) (hn : g.trs.length ≤ 8) :
    Calls Try.prog 31 #[.pointer (some ⟨q, 0, none⟩), .int .i64 id] w fun e w' => e = .returned (.bool (isP g id)) ∧ w' = w := by
  have hvT : w.cell? ⟨q, 13, none⟩ = some g.v := h.blk.cell 13
  obtain ⟨aT, capT, hT, -⟩ := own_form h.ts
  rw [hT] at hvT
  unfold isP
  clear h hT
  go_enter Try.func31, Try.ntmps31
  go_wp2_with fail
  all_goals
    go_ret
    refine ⟨ret_bool ?_, rfl⟩
    simp <;> omega

theorem trState_any (b o : Nat) (x : Int × Int × Int × Int) (w : World) (h : w.cell? ⟨b, o + 4, none⟩ = some (.bool false)) :
    Calls Try.prog 32 #[.pointer (some ⟨b, o, none⟩)] w fun e w' => e = .returned (.int .i64 1) ∧ w' = w := by
  go_enter Try.func32, Try.ntmps32
  go_wp2_with fail
  go_ret
  exact ⟨rfl, rfl⟩

theorem StateP_any (q : Nat) (id : Int) (g : Pg) (w : World) (h : PgAt w q g) (hn : g.trs.length ≤ 8) :
    Calls Try.prog 18 #[.pointer (some ⟨q, 0, none⟩), .int .i64 id] w fun e w' => TwoRet e ∧ PStep w w' q g g.trs.length := by
  cases hI : isP g id
  · go_enter Try.func18, Try.ntmps18
    go_wp2_with fail
    refine (hasP_any q id g _ h hn).mono ?_
    rintro e w1 ⟨rfl, rfl⟩
    rw [hI]
    go_wp2_with fail
    go_ret2
    exact ⟨⟨_, _, rfl⟩, PStep.ext h (Below.refl _ _)⟩
  · obtain ⟨i, rfl, hi⟩ := isP_yes hI
    have hvT : w.cell? ⟨q, 13, none⟩ = some g.v := h.blk.cell 13
    obtain ⟨aT, capT, hT, ha⟩ := own_form h.ts
    obtain ⟨k, rfl⟩ := ha (by omega)
    rw [hT] at hvT
    have h4 : w.cell? ⟨k, i * 11 + 4, none⟩ = some (.bool false) := h.cellT hi hT 4 (by omega)
    have hii : (i : Int) < g.trs.length := by omega
    go_enter Try.func18, Try.ntmps18
    go_wp2_with fail
    refine (hasP_any q i g _ h hn).mono ?_
    rintro e w1 ⟨rfl, rfl⟩
    rw [hI]
    go_wp2_with fail
    refine (trState_any k (i * 11) (0, 0, 0, 0) _ h4).mono ?_
    rintro e w1 ⟨rfl, rfl⟩
    go_wp2_with fail
    go_ret2
    exact ⟨⟨_, _, rfl⟩, PStep.ext h (Below.refl _ _)⟩

theorem HeldP_any (q : Nat) (id : Int) (g : Pg) (w : World) (h : PgAt w q g) (hn : g.trs.length ≤ 8) :
    Calls Try.prog 62 #[.pointer (some ⟨q, 0, none⟩), .int .i64 id] w fun e w' => TwoRet e ∧ PStep w w' q g g.trs.length := by
  cases hI : isP g id
  all_goals
    go_enter Try.func62, Try.ntmps62
    go_wp2_with fail
    refine (hasP_any q id g _ h hn).mono ?_
    rintro e w1 ⟨rfl, rfl⟩
    rw [hI]
    go_wp2_with fail
    go_ret2
    exact ⟨⟨_, _, rfl⟩, PStep.ext h (Below.refl _ _)⟩

set_option maxHeartbeats 1000000 in
theorem HeadPr_any (q : Nat) (id : Int) (g : Pg) (w : World) (h : PgAt w q g) (hn : g.trs.length ≤ 8) :
    Calls Try.prog 29 #[.pointer (some ⟨q, 0, none⟩), .int .i64 id] w fun e w' => HeadRet e ∧ PStep w w' q g g.trs.length := by
  cases hI : isP g id
  · go_enter Try.func29, Try.ntmps29
    go_wp2_with fail
    refine (hasP_any q id g _ (h.ext (Ext.new _ _)) hn).mono ?_
    rintro e w1 ⟨rfl, rfl⟩
    rw [hI]
    go_wp2_with fail
    refine bodyPost_ret (v := .tuple #[headAgg 0 0 0 0 0, .int .i64 7]) (by simp [results, Try.results29, go_sem, headAgg]) rfl ⟨⟨0, 0, 0, 0, 0, 7, rfl⟩, PStep.ext h ?_⟩
    (with_reducible repeat (first | refine Below.drew ?_ | refine Below.alloc ?_ ?_ _ | refine Below.setCell ?_ ?_ _ | exact Below.refl _ _)) <;> simp
  · obtain ⟨i, rfl, hi⟩ := isP_yes hI
    have hvT : w.cell? ⟨q, 13, none⟩ = some g.v := h.blk.cell 13
    obtain ⟨aT, capT, hT, ha⟩ := own_form h.ts
    obtain ⟨k, rfl⟩ := ha (by omega)
    rw [hT] at hvT
    have h4 : w.cell? ⟨k, i * 11 + 4, none⟩ = some (.bool false) := h.cellT hi hT 4 (by omega)
    have hii : (i : Int) < g.trs.length := by omega
    have hgl := World.block_lt_of_cell? w _ h4
    have hpl := h.blk.lt
    clear ha
    go_enter Try.func29, Try.ntmps29
    go_wp2_with fail
    refine (hasP_any q i g _ (h.ext (Ext.new _ _)) hn).mono ?_
    rintro e w1 ⟨rfl, rfl⟩
    rw [hI]
    go_wp2_with fail
    refine bodyPost_ret (v := .tuple #[headAgg 0 0 0 0 0, .int .i64 8]) (by simp [results, Try.results29, go_sem, headAgg]) rfl ⟨⟨0, 0, 0, 0, 0, 8, rfl⟩, PStep.ext h ?_⟩
    (with_reducible repeat (first | refine Below.drew ?_ | refine Below.alloc ?_ ?_ _ | refine Below.setCell ?_ ?_ _ | exact Below.refl _ _)) <;> simp

theorem NextP_any (q : Nat) (mr : Int) (w : World) :
    Calls Try.prog 55 #[.pointer (some ⟨q, 0, none⟩), .int .i64 mr] w fun e w' => e = .returned (.tuple #[fetAgg 0 0 0 0 0, .bool false, .int .i64 0]) ∧ Ext w w' := by
  go_enter Try.func55, Try.ntmps55
  go_wp2_with fail
  refine bodyPost_ret (v := .tuple #[fetAgg 0 0 0 0 0, .bool false, .int .i64 0]) (by simp [results, Try.results55, go_sem, fetAgg]) rfl ⟨rfl, ?_⟩
  (with_reducible repeat (first | refine Below.drew ?_ | refine Below.alloc ?_ ?_ _ | refine Below.setCell ?_ ?_ _ | exact Below.refl _ _)) <;> simp
theorem ReplyP_any (q : Nat) (mr tag tot off : Int) (body : ByteArray) (w : World) :
    Calls Try.prog 57 #[.pointer (some ⟨q, 0, none⟩), .int .i64 mr, repAgg tag tot off body] w fun e w' => e = .returned (.int .i64 0) ∧ Ext w w' := by
  unfold repAgg
  go_enter Try.func57, Try.ntmps57
  go_wp2_with fail
  go_ret
  exact ⟨rfl, Ext.new _ _⟩
theorem FailP_any (q : Nat) (mr : Int) (w : World) :
    Calls Try.prog 59 #[.pointer (some ⟨q, 0, none⟩), .int .i64 mr] w fun e w' => e = .returned (.int .i64 0) ∧ Ext w w' := by
  go_enter Try.func59, Try.ntmps59
  go_wp2_with fail
  go_ret
  exact ⟨rfl, Below.refl _ _⟩
theorem TakeP_any (q : Nat) (id n : Int) (w : World) :
    Calls Try.prog 65 #[.pointer (some ⟨q, 0, none⟩), .int .i64 id, .int .i64 n] w fun e w' => e = .returned (.tuple #[.string ByteArray.empty, .int .i64 0]) ∧ Ext w w' := by
  go_enter Try.func65, Try.ntmps65
  go_wp2_with fail
  go_ret2
  exact ⟨rfl, Below.refl _ _⟩
theorem UsedP_any (q : Nat) (w : World) :
    Calls Try.prog 67 #[.pointer (some ⟨q, 0, none⟩)] w fun e w' => e = .returned (.int .i64 0) ∧ Ext w w' := by
  go_enter Try.func67, Try.ntmps67
  go_wp2_with fail
  go_ret
  exact ⟨rfl, Below.refl _ _⟩
theorem EntriesP_any (q : Nat) (w : World) :
    Calls Try.prog 69 #[.pointer (some ⟨q, 0, none⟩)] w fun e w' => e = .returned (.slice none 0 0) ∧ Ext w w' := by
  go_enter Try.func69, Try.ntmps69
  go_wp2_with fail
  go_ret
  exact ⟨rfl, Below.refl _ _⟩
end Go.Proofs.Ytpiopalfnjohfaa
