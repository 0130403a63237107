import Derived.Test.YtjhihliciadipabGreatNewsR
import Derived.Test.YtjhihliciadipabGreatDeliv
import Derived.Test.YtjhihliciadipabGreatOver
import Derived.Test.YtjhihliciadipabGreatHeadP
import Derived.Deep.RegionHeld3
set_option linter.unusedVariables false
set_option linter.unusedSimpArgs false
set_option linter.unnecessarySimpa false
namespace Go.Proofs.YtjhihliciadipabGreat
open Go.RowKit

def badR (B : Int) (j : Jb) (tag tot off : Int) (body : ByteArray) : Bool :=
  decide (tag < 1) || decide (99 < tag) || decide (tot < 0) || decide (1000 < tot) || (off != j.k * B) || ((body.size : Int) != sizeL B tot j.k)
def replyMid (s : Pr) (j : Jb) (pth : Nat) (tag tot : Int) : Pr :=
  if j.tag = tag ∧ j.tot = tot then s else if j.tag = 0 then newsL s pth tag tot else failsL (newsL s pth tag tot) j
def replyS (s : Pr) (j : Jb) (pth : Nat) (tag tot off : Int) (body : ByteArray) : Pr :=
  if badR s.blk j tag tot off body = true then lookL (failsL s j) else lookL (deliverL (replyMid s j pth tag tot) { j with tag := tag, tot := tot } body)

theorem newsT_ok (path tag tot : Int) (m : Mv) (h0 : 0 ≤ tot) (h1 : tot ≤ 1000) (h : MvOk m) : MvOk (newsT path tag tot m) := by
  unfold newsT
  split
  · exact ⟨h.sp, h0, h1, h.k0, h.k1, by simp, by simp⟩
  · exact h
theorem newsL_inv (s : Pr) (pth : Nat) (tag tot : Int) (C : Int) (h0 : 0 ≤ tot) (h1 : tot ≤ 1000) (h : Inv s C) : Inv (newsL s pth tag tot) C :=
  ⟨⟨h.fair.m1, h.fair.m2, h.fair.B1, h.fair.B2, h.fair.W1, h.fair.W2, h.fair.c1, h.fair.c2, h.fair.t1, h.fair.t2⟩, by simpa [newsL] using h.nts, fun m hm => by
    unfold newsL at hm; rw [List.mem_map] at hm; obtain ⟨x, hx, rfl⟩ := hm; exact newsT_ok _ _ _ _ h0 h1 (h.ts x hx), h.cache, h.nc, h.c0, h.c1⟩
theorem newsL_fl (s : Pr) (pth : Nat) (tag tot : Int) (h : ∀ m ∈ s.ts, 0 ≤ m.fails ∧ m.fails ≤ 1000) : ∀ m ∈ (newsL s pth tag tot).ts, 0 ≤ m.fails ∧ m.fails ≤ 1000 := by
  intro m hm
  unfold newsL at hm; rw [List.mem_map] at hm; obtain ⟨x, hx, rfl⟩ := hm
  unfold newsT
  split
  · simp
  · exact h x hx
theorem evict_sub (cap : Int) (n : Nat) (l : List Kp) : (∀ x ∈ evict cap n l, x ∈ l) ∧ (l.length ≤ n → usedL (evict cap n l) ≤ cap ∨ evict cap n l = []) := by
  induction n generalizing l with
  | zero => exact ⟨fun x h => h, fun h => Or.inr (show l = [] from List.eq_nil_of_length_eq_zero (by omega))⟩
  | succ n ih =>
    simp only [evict]
    split
    · have h1 := ih (l.eraseIdx (oldTo l l.length))
      refine ⟨fun x hx => List.mem_of_mem_eraseIdx (h1.1 x hx), fun h => h1.2 ?_⟩
      rcases Nat.eq_zero_or_pos l.length with h0 | h0
      · rw [List.eq_nil_of_length_eq_zero h0]; simp
      · rw [List.length_eraseIdx, if_pos ((oldTo_lt l l.length).2 h0)]; omega
    · rename_i hu
      exact ⟨fun x h => h, fun h => Or.inl (by omega)⟩
theorem len_le_used (l : List Kp) (h : ∀ x ∈ l, KpOk x) : (l.length : Int) ≤ usedL l := by
  induction l with
  | nil => simp [usedL, sumSz]
  | cons x l ih =>
    have h1 := ih (fun y hy => h y (List.mem_cons_of_mem _ hy))
    have h2 := (h x (List.mem_cons_self ..)).b0
    unfold usedL sumSz at *
    simp only [List.map_cons, List.sum_cons, List.length_cons] at *
    omega
theorem keepL_inv (s : Pr) (j : Jb) (body : ByteArray) (C : Int) (h : Inv s C) (hj0 : 0 ≤ j.k) (hj1 : j.k ≤ 100000) (hb0 : 1 ≤ body.size) (hb1 : body.size ≤ 16) : Inv (keepL s j body) (C + 1) := by
  unfold keepL
  split
  · exact h.mono (by omega)
  · have hall : ∀ x ∈ keepAll s j body, KpOk x := by
      intro x hx
      unfold keepAll at hx
      rcases List.mem_append.1 hx with h1 | h1
      · exact h.cache x ((rmTo_sub j s.cache 0).2 x h1)
      · simp at h1; subst h1; exact ⟨hj0, hj1, hb0, hb1⟩
    have he := evict_sub s.cap (keepAll s j body).length (keepAll s j body)
    have hok : ∀ x ∈ evict s.cap (keepAll s j body).length (keepAll s j body), KpOk x := fun x hx => hall x (he.1 x hx)
    refine ⟨⟨h.fair.m1, h.fair.m2, h.fair.B1, h.fair.B2, h.fair.W1, h.fair.W2, h.fair.c1, h.fair.c2, h.fair.t1, h.fair.t2⟩, h.nts, h.ts, hok, ?_, by have := h.c0; show 0 ≤ s.clock + 1; omega, by have := h.c1; show s.clock + 1 ≤ C + 1; omega⟩
    show (evict s.cap (keepAll s j body).length (keepAll s j body)).length ≤ 256
    have h2 := h.fair.c2
    rcases he.2 (Nat.le_refl _) with h1 | h1
    · have := len_le_used _ hok; omega
    · rw [h1]; simp
theorem deliverL_inv (s : Pr) (j : Jb) (body : ByteArray) (C : Int) (h : Inv s C) (hj0 : 0 ≤ j.k) (hj1 : j.k ≤ 100000) (hb1 : body.size ≤ 16) : Inv (deliverL s j body) (C + 1) := by
  unfold deliverL
  split
  · exact h.mono (by omega)
  · rename_i hem
    have hb0 : 1 ≤ body.size := by
      rcases Nat.eq_zero_or_pos body.size with h0 | h0
      · have : body = ByteArray.empty := by
          cases body with | mk d => cases d with | mk l => cases l with
            | nil => rfl
            | cons a l => simp [ByteArray.size] at h0
        rw [this, ByteArray.toList_eq] at hem; exact absurd rfl hem
      · exact h0
    exact keepL_inv _ _ _ _ (delTs_inv s j body C hj1 hb1 h) hj0 hj1 hb0 hb1
theorem sizeL_le (B tot k : Int) (hB : 1 ≤ B) (hB2 : B ≤ 16) : sizeL B tot k ≤ 16 ∧ 0 ≤ sizeL B tot k := by
  unfold sizeL; split <;> (try split) <;> omega

set_option maxHeartbeats 1000000 in
theorem Reply_none (p : Nat) (s : Pr) (L : Lay) (mr tag tot off : Int) (body : ByteArray) (w : World) (h : PrAt w p s L) (hf : FairS s) (hm : mr < 0 ∨ s.mir ≤ mr) :
    Calls Tryz.prog 23 #[.pointer (some ⟨p, 0, none⟩), .int .i64 mr, repAgg tag tot off body] w fun e w' => e = .returned (.int .i64 4) ∧ Ext w w' := by
  have HM := hide hm
  clear hm
  unfold repAgg
  go_enter Tryz.func23, Tryz.ntmps23
  go_wp2_with fail
  refine (over_none p s L mr _ (h.ext (Ext.new _ _)) hf HM.out).mono ?_
  rintro e w1 ⟨rfl, hE1⟩
  unfold jobAgg
  go_wp2_with fail
  go_ret
  exact ⟨rfl, Ext.trans' (Ext.trans' (Ext.new _ _) hE1) (Ext.new _ _)⟩

theorem two_at {w X : World} {p : Nat} {s : Pr} {L L1 : Lay} {b : Nat} (h : PrAt X p s L1) (hM : Mvs w X p L L1) (hb : w.heap.size ≤ b) (hnf : ¬ Foot p L1 b) (u v : Value) :
    PrAt ((X.setCell ⟨b, 2, none⟩ u).setCell ⟨b, 3, none⟩ v) p s L1 ∧ Mvs w ((X.setCell ⟨b, 2, none⟩ u).setCell ⟨b, 3, none⟩ v) p L L1 := by
  have hc : Chg (fun x => x = b) X ((X.setCell ⟨b, 2, none⟩ u).setCell ⟨b, 3, none⟩ v) :=
    Chg.setCell (S := fun x => x = b) (Chg.setCell (S := fun x => x = b) (Chg.refl _ _) (p := ⟨b, 2, none⟩) (Or.inl rfl) _) (p := ⟨b, 3, none⟩) (Or.inl rfl) _
  exact ⟨h.chg hc (fun x hx e => hnf (e ▸ hx)), ⟨hM.chg.trans' (hc.mono (fun x _ hx => Or.inr (by omega))), hM.foot⟩⟩

set_option maxRecDepth 100000 in
set_option maxHeartbeats 4000000 in
theorem Reply_some (p : Nat) (s : Pr) (L : Lay) (C : Int) (mr pth : Nat) (j : Jb) (tag tot off : Int) (body : ByteArray) (w : World) (h : PrAt w p s L) (inv : Inv s C) (hC : C ≤ 20000000000000000) (hjl : s.jobs.length = s.mir.toNat) (hj : s.jobs[mr]? = some j)
    (hfl : ∀ m ∈ s.ts, 0 ≤ m.fails ∧ m.fails ≤ 1000) (hl4 : s.latest.length = 4) (hp4 : pth < 4) (hjp : j.path = pth) (hk0 : 0 ≤ j.k) (hk1 : j.k ≤ 100000) (hbs : body.size ≤ 9223372036854775807) :
    Calls Tryz.prog 23 #[.pointer (some ⟨p, 0, none⟩), .int .i64 mr, repAgg tag tot off body] w fun e w' =>
      (j.on = false ∧ e = .returned (.int .i64 6) ∧ Ext w w') ∨
      (j.on = true ∧ e = .returned (.int .i64 0) ∧ ∃ L', PrAt w' p (replyS { s with jobs := s.jobs.set mr noJob } j pth tag tot off body) L' ∧ Mvs w w' p L L') := by
  have HJ := hide hj
  have HFL := hide hfl
  have HJP := hide hjp
  clear hj hfl hjp
  have hB1 := inv.fair.B1
  have hB2 := inv.fair.B2
  unfold repAgg
  go_enter Tryz.func23, Tryz.ntmps23
  go_wp2_with fail
  have hE0 := Ext.new w (.cells #[.int .i64 tag, .int .i64 tot, .int .i64 off, .string body] 63)
  have hB0 := Blk.new w 63 #[.int .i64 tag, .int .i64 tot, .int .i64 off, .string body]
  refine (over_some p s L mr j _ (h.ext hE0) inv.fair hjl HJ.out).mono ?_
  rintro e w1 (⟨hon, rfl, hE1⟩ | ⟨hon, rfl, hP1, hM1⟩)
  · unfold jobAgg
    have HON := hide hon
    clear hon
    go_wp2_with fail
    go_ret
    exact Or.inl ⟨HON.out, rfl, Ext.trans' (Ext.trans' hE0 hE1) (Ext.new _ _)⟩
  · unfold jobAgg
    have HON := hide hon
    clear hon
    have hNF0 : ¬ Foot p L w.heap.size := fun hf => by have := h.lt _ hf; omega
    have hBr1 := hB0.chg hM1.chg hNF0
    have hMw := (Mvs.of_ext (p := p) (L := L) hE0).trans hM1
    have s0 : w1.cell? ⟨w.heap.size, 0, none⟩ = some (.int .i64 tag) := hBr1.cell 0
    have s1 : w1.cell? ⟨w.heap.size, 1, none⟩ = some (.int .i64 tot) := hBr1.cell 1
    have s2 : w1.cell? ⟨w.heap.size, 2, none⟩ = some (.int .i64 off) := hBr1.cell 2
    have s3 : w1.cell? ⟨w.heap.size, 3, none⟩ = some (.string body) := hBr1.cell 3
    have hrl := hBr1.lt
    clear hB0
    generalize w.alloc (.cells #[.int .i64 tag, .int .i64 tot, .int .i64 off, .string body] 63) = wA at *
    go_wp2_with fail
    have hE2 : Ext w1 ((w1.alloc (.cells #[.bool j.on, .int .i64 j.path, .int .i64 j.tag, .int .i64 j.tot, .int .i64 j.k] 124)).alloc (.cells #[.int .i64 tag, .int .i64 tot] 115)) := Ext.trans' (Ext.new _ _) (Ext.new _ _)
    have hBj : Blk ((w1.alloc (.cells #[.bool j.on, .int .i64 j.path, .int .i64 j.tag, .int .i64 j.tot, .int .i64 j.k] 124)).alloc (.cells #[.int .i64 tag, .int .i64 tot] 115)) w1.heap.size 124 #[.bool j.on, .int .i64 j.path, .int .i64 j.tag, .int .i64 j.tot, .int .i64 j.k] := (Blk.new w1 _ _).ext (Ext.new _ _)
    have hBv : Blk ((w1.alloc (.cells #[.bool j.on, .int .i64 j.path, .int .i64 j.tag, .int .i64 j.tot, .int .i64 j.k] 124)).alloc (.cells #[.int .i64 tag, .int .i64 tot] 115)) (w1.heap.size + 1) 115 #[.int .i64 tag, .int .i64 tot] := by
      have h1 := Blk.new (w1.alloc (.cells #[.bool j.on, .int .i64 j.path, .int .i64 j.tag, .int .i64 j.tot, .int .i64 j.k] 124)) 115 #[.int .i64 tag, .int .i64 tot]
      have h2 : (w1.alloc (.cells #[.bool j.on, .int .i64 j.path, .int .i64 j.tag, .int .i64 j.tot, .int .i64 j.k] 124)).heap.size = w1.heap.size + 1 := by simp
      rw [h2] at h1; exact h1
    have hP2 := hP1.ext hE2
    have hM2 := hMw.ext hE2
    have hBr2 := hBr1.ext hE2
    clear s0 s1 s2 s3 hBr1 hP1 hM1 hMw
    generalize (w1.alloc (.cells #[.bool j.on, .int .i64 j.path, .int .i64 j.tag, .int .i64 j.tot, .int .i64 j.k] 124)).alloc (.cells #[.int .i64 tag, .int .i64 tot] 115) = w2 at *
    have s0 : w2.cell? ⟨w.heap.size, 0, none⟩ = some (.int .i64 tag) := hBr2.cell 0
    have s1 : w2.cell? ⟨w.heap.size, 1, none⟩ = some (.int .i64 tot) := hBr2.cell 1
    have s2 : w2.cell? ⟨w.heap.size, 2, none⟩ = some (.int .i64 off) := hBr2.cell 2
    have s3 : w2.cell? ⟨w.heap.size, 3, none⟩ = some (.string body) := hBr2.cell 3
    have j4 : w2.cell? ⟨w1.heap.size, 4, none⟩ = some (.int .i64 j.k) := hBj.cell 4
    have v0 : w2.cell? ⟨w1.heap.size + 1, 0, none⟩ = some (.int .i64 tag) := hBv.cell 0
    have v1 : w2.cell? ⟨w1.heap.size + 1, 1, none⟩ = some (.int .i64 tot) := hBv.cell 1
    have hcB : w2.cell? ⟨p, 1, none⟩ = some (.int .i64 s.blk) := hP2.blk.cell 1
    have hkB0 : 0 ≤ j.k * s.blk := Int.mul_nonneg hk0 (by omega)
    have hkB1 : j.k * s.blk ≤ 1600000 := by have := Int.mul_le_mul hk1 hB2 (by omega) (by omega); omega
    have HBD : Hid (badR s.blk j tag tot off body = (decide (tag < 1) || decide (99 < tag) || decide (tot < 0) || decide (1000 < tot) || (off != j.k * s.blk) || ((body.size : Int) != sizeL s.blk tot j.k))) := rfl
    go_cut [65] (fun b wx => b = .bool (badR s.blk j tag tot off body) ∧ Ext w2 wx)
    case first =>
      by_cases d1 : tag < 1
      · go_quiet (fail)
        go_wp2_with fail
        go_meet
        exact ⟨by rw [HBD.out]; simp [d1], Ext.drewN (Below.refl _ _) _⟩
      have e1 : decide (tag < 1) = false := by simpa using d1
      by_cases d2 : 99 < tag
      · go_quiet (fail)
        go_wp2_with fail
        go_meet
        exact ⟨by rw [HBD.out]; simp [d2], Ext.drewN (Below.refl _ _) _⟩
      have e2 : decide (99 < tag) = false := by simpa using d2
      by_cases d3 : tot < 0
      · go_quiet (fail)
        go_wp2_with fail
        go_meet
        exact ⟨by rw [HBD.out]; simp [d3], Ext.drewN (Below.refl _ _) _⟩
      have e3 : decide (tot < 0) = false := by simpa using d3
      by_cases d4 : 1000 < tot
      · go_quiet (fail)
        go_wp2_with fail
        go_meet
        exact ⟨by rw [HBD.out]; simp [d4], Ext.drewN (Below.refl _ _) _⟩
      have e4 : decide (1000 < tot) = false := by simpa using d4
      cases d5 : (off != j.k * s.blk)
      · have hszl := sizeL_le s.blk tot j.k hB1 hB2
        obtain rfl : off = j.k * s.blk := by simpa using d5
        clear d5
        have hwr : IntKind.i64.wrap (j.k * s.blk) = j.k * s.blk := (Go.IntWalk.i64_left _).trans (Go.IntWalk.wrap64_in _ (by omega))
        go_region_held3 (fun w' => w'.cell? ⟨w.heap.size, 0, none⟩ = some (.int .i64 tag) ∧ w'.cell? ⟨w.heap.size, 1, none⟩ = some (.int .i64 tot) ∧ w'.cell? ⟨w.heap.size, 2, none⟩ = some (.int .i64 (j.k * s.blk)) ∧ w'.cell? ⟨w.heap.size, 3, none⟩ = some (.string body) ∧ w'.cell? ⟨w1.heap.size, 4, none⟩ = some (.int .i64 j.k) ∧ w'.cell? ⟨w1.heap.size + 1, 0, none⟩ = some (.int .i64 tag) ∧ w'.cell? ⟨w1.heap.size + 1, 1, none⟩ = some (.int .i64 tot) ∧ w'.cell? ⟨p, 1, none⟩ = some (.int .i64 s.blk)) (go_keep)
          ((go_at_call 52
            refine (size_any p s.blk tag tot j.k _ hB1 hB2 hk0 (by omega) (by omega) (by omega) (by exact hcB)).mono ?_
            rintro e w3 ⟨rfl, hE3⟩
            have z0 : w3.cell? ⟨w.heap.size, 0, none⟩ = some (.int .i64 tag) := ext_cell hE3 s0
            have z1 : w3.cell? ⟨w.heap.size, 1, none⟩ = some (.int .i64 tot) := ext_cell hE3 s1
            have z2 : w3.cell? ⟨w.heap.size, 2, none⟩ = some (.int .i64 (j.k * s.blk)) := ext_cell hE3 s2
            have z3 : w3.cell? ⟨w.heap.size, 3, none⟩ = some (.string body) := ext_cell hE3 s3
            have z4 : w3.cell? ⟨w1.heap.size, 4, none⟩ = some (.int .i64 j.k) := ext_cell hE3 j4
            have z5 : w3.cell? ⟨w1.heap.size + 1, 0, none⟩ = some (.int .i64 tag) := ext_cell hE3 v0
            have z6 : w3.cell? ⟨w1.heap.size + 1, 1, none⟩ = some (.int .i64 tot) := ext_cell hE3 v1
            have z7 : w3.cell? ⟨p, 1, none⟩ = some (.int .i64 s.blk) := ext_cell hE3 hcB))
        all_goals go_wp2_with fail
        all_goals go_meet
        all_goals refine ⟨?_, hE3.undrew⟩
        all_goals (rw [HBD.out, e1, e2, e3, e4]; simp)
      · go_quiet (fail)
        go_wp2_with fail
        go_meet
        exact ⟨by rw [HBD.out, d5]; simp, Ext.drewN (Below.refl _ _) _⟩
    case rest =>
      obtain ⟨rfl, hE3⟩ := hcut
      have hP3 := hP2.ext hE3
      have hM3 := hM2.ext hE3
      have hBr3 := hBr2.ext hE3
      have hBj3 := hBj.ext hE3
      have hBv3 := hBv.ext hE3
      have hz0 := hE0.size
      have hl3 := hBv3.lt
      clear s0 s1 s2 s3 j4 v0 v1 hcB hP2 hM2 hBr2 hBj hBv hE2
      generalize hs' : ({ s with jobs := s.jobs.set mr noJob } : Pr) = s' at *
      have hinv' : Inv s' C := by rw [← hs']; exact jobs_inv _ _ _ inv
      have hfl' : ∀ m ∈ s'.ts, 0 ≤ m.fails ∧ m.fails ≤ 1000 := by rw [← hs']; exact HFL.out
      have hlat' : s'.latest.length = 4 := by rw [← hs']; exact hl4
      have hblk' : s'.blk = s.blk := by rw [← hs']
      have HB' : Hid (badR s'.blk j tag tot off body = badR s.blk j tag tot off body) := by show _ = _; rw [hblk']
      have HFL' := hide hfl'
      have HS' := hide hs'
      clear hs' hfl' hblk'
      have s33 : wc.cell? ⟨w.heap.size, 3, none⟩ = some (.string body) := hBr3.cell 3
      have j03 : wc.cell? ⟨w1.heap.size, 0, none⟩ = some (.bool j.on) := hBj3.cell 0
      have j13 : wc.cell? ⟨w1.heap.size, 1, none⟩ = some (.int .i64 j.path) := hBj3.cell 1
      have j23 : wc.cell? ⟨w1.heap.size, 2, none⟩ = some (.int .i64 j.tag) := hBj3.cell 2
      have j33 : wc.cell? ⟨w1.heap.size, 3, none⟩ = some (.int .i64 j.tot) := hBj3.cell 3
      have j43 : wc.cell? ⟨w1.heap.size, 4, none⟩ = some (.int .i64 j.k) := hBj3.cell 4
      have v03 : wc.cell? ⟨w1.heap.size + 1, 0, none⟩ = some (.int .i64 tag) := hBv3.cell 0
      have v13 : wc.cell? ⟨w1.heap.size + 1, 1, none⟩ = some (.int .i64 tot) := hBv3.cell 1
      have jf3 := hBj3.frozen
      cases hbad : badR s.blk j tag tot off body
      · have hbn := hbad
        rw [HBD.out] at hbn
        simp only [Bool.or_eq_false_iff, decide_eq_false_iff_not, bne_eq_false_iff_eq] at hbn
        obtain ⟨⟨⟨⟨⟨g1, g2⟩, g3⟩, g4⟩, g5⟩, g6⟩ := hbn
        have hszl := sizeL_le s.blk tot j.k hB1 hB2
        have hbs16 : body.size ≤ 16 := by omega
        have HG5 := hide g5
        have HG6 := hide g6
        clear g5 g6
        have HRS0 : Hid (replyS s' j pth tag tot off body = lookL (deliverL (replyMid s' j pth tag tot) { j with tag := tag, tot := tot } body)) := by
          show _ = _; unfold replyS; rw [HB'.out, hbad]; rfl
        have hNF1 : ¬ Foot p L w1.heap.size := fun hf => by have := h.lt _ hf; omega
        have hNF2 : ¬ Foot p L (w1.heap.size + 1) := fun hf => by have := h.lt _ hf; omega
        by_cases hv : j.tag = tag ∧ j.tot = tot
        · have HMID : Hid (replyMid s' j pth tag tot = s') := if_pos hv
          have x1 : (tag = j.tag) = True := eq_true hv.1.symm
          have x2 : (tot = j.tot) = True := eq_true hv.2.symm
          clear hv
          go_wp2_with fail
          obtain ⟨hPt, hMt⟩ := two_at hP3 hM3 (show w.heap.size ≤ w1.heap.size by omega) hNF1 (.int .i64 tag) (.int .i64 tot)
          refine (delivers_any p _ _ C { j with tag := tag, tot := tot } body _ hPt hinv' (by omega) hk0 hk1 hbs16).mono ?_
          rintro e w8 ⟨rfl, L8, hP8, hM8⟩
          go_wp2_with fail
          refine (look_any p _ L8 (C + 1) _ hP8 (deliverL_inv _ _ _ _ hinv' hk0 hk1 hbs16) (by omega)).mono ?_
          rintro e w9 ⟨rfl, L9, hA9⟩
          go_wp2_with fail
          go_ret
          refine Or.inr ⟨HON.out, rfl, L9, ?_, (hMt.trans hM8).trans hA9.mvs⟩
          rw [HS'.out, HRS0.out, HMID.out]; exact hA9.at_
        · have hnews := news_any p s' L pth tag tot wc hP3 hinv'.nts (by omega) hlat'
          rw [← HJP.out] at hnews
          have hne : ∃ x y : Bool, (tag == j.tag) = x ∧ (tot == j.tot) = y ∧ (x && y) = false := ⟨_, _, rfl, rfl, by
            cases h1 : (tag == j.tag)
            · rfl
            · cases h2 : (tot == j.tot)
              · rfl
              · exact absurd ⟨(by simpa using h1 : tag = j.tag).symm, (by simpa using h2 : tot = j.tot).symm⟩ hv⟩
          have HV := hide hv
          have HNE := hide hne
          clear hv hne
          by_cases hx1 : tag = j.tag
          all_goals first
            | (have x1 : (tag = j.tag) = True := eq_true hx1; have x2 : (tot = j.tot) = False := eq_false (fun e => HV.out ⟨hx1.symm, e.symm⟩))
            | (have x1 : (tag = j.tag) = False := eq_false hx1)
          all_goals clear hx1
          all_goals go_wp2_with fail
          all_goals refine hnews.mono ?_
          all_goals rintro e w4 ⟨rfl, L4, hP4, hM4⟩
          all_goals clear hnews
          all_goals have hBr4 := hBr3.chg hM4.chg hNF0
          all_goals have hBj4 := hBj3.chg hM4.chg hNF1
          all_goals have hBv4 := hBv3.chg hM4.chg hNF2
          all_goals have hM4' := hM3.trans hM4
          all_goals have hNF4 : ¬ Foot p L4 w1.heap.size := fun hf => (by rcases hM4.foot _ hf with h1 | h1; exact hNF1 h1; have := hBj3.lt; omega)
          all_goals have hNF5 : ¬ Foot p L4 (w1.heap.size + 1) := fun hf => (by rcases hM4.foot _ hf with h1 | h1; exact hNF2 h1; have := hBv3.lt; omega)
          all_goals have hNF6 : ¬ Foot p L4 w.heap.size := fun hf => (by rcases hM4.foot _ hf with h1 | h1; exact hNF0 h1; have := hBr3.lt; omega)
          all_goals have hinv4 : Inv (newsL s' pth tag tot) C := newsL_inv _ _ _ _ _ (by omega) (by omega) hinv'
          all_goals clear s33 j03 j13 j23 j33 j43 v03 v13 jf3
          all_goals have s34 : w4.cell? ⟨w.heap.size, 3, none⟩ = some (.string body) := hBr4.cell 3
          all_goals have j04 : w4.cell? ⟨w1.heap.size, 0, none⟩ = some (.bool j.on) := hBj4.cell 0
          all_goals have j14 : w4.cell? ⟨w1.heap.size, 1, none⟩ = some (.int .i64 j.path) := hBj4.cell 1
          all_goals have j24 : w4.cell? ⟨w1.heap.size, 2, none⟩ = some (.int .i64 j.tag) := hBj4.cell 2
          all_goals have j34 : w4.cell? ⟨w1.heap.size, 3, none⟩ = some (.int .i64 j.tot) := hBj4.cell 3
          all_goals have j44 : w4.cell? ⟨w1.heap.size, 4, none⟩ = some (.int .i64 j.k) := hBj4.cell 4
          all_goals have v04 : w4.cell? ⟨w1.heap.size + 1, 0, none⟩ = some (.int .i64 tag) := hBv4.cell 0
          all_goals have v14 : w4.cell? ⟨w1.heap.size + 1, 1, none⟩ = some (.int .i64 tot) := hBv4.cell 1
          all_goals have jf4 := hBj4.frozen
          all_goals cases hz : (j.tag == 0)
          all_goals try have hzb : (j.tag != 0) = true := by simpa using hz
          all_goals try have hzb : (j.tag != 0) = false := by simpa using hz
          all_goals go_wp2_with fail
          all_goals first
            | (
                go_at_call 58
                have HMID : Hid (replyMid s' j pth tag tot = newsL s' pth tag tot) := by
                  show _ = _; unfold replyMid; rw [if_neg HV.out, if_pos (by simpa using hz)]
                obtain ⟨hPt, hMt⟩ := two_at hP4 hM4' (show w.heap.size ≤ w1.heap.size by omega) hNF4 (.int .i64 tag) (.int .i64 tot)
                refine (delivers_any p _ _ C { j with tag := tag, tot := tot } body _ hPt hinv4 (by omega) hk0 hk1 hbs16).mono ?_
                rintro e w8 ⟨rfl, L8, hP8, hM8⟩
                go_wp2_with fail
                refine (look_any p _ L8 (C + 1) _ hP8 (deliverL_inv _ _ _ _ hinv4 hk0 hk1 hbs16) (by omega)).mono ?_
                rintro e w9 ⟨rfl, L9, hA9⟩
                go_wp2_with fail
                go_ret
                refine Or.inr ⟨HON.out, rfl, L9, ?_, (hMt.trans hM8).trans hA9.mvs⟩
                rw [HS'.out, HRS0.out, HMID.out]; exact hA9.at_
              )
            | (
                go_at_call 56
                have HMID : Hid (replyMid s' j pth tag tot = failsL (newsL s' pth tag tot) j) := by
                  show _ = _; unfold replyMid; rw [if_neg HV.out, if_neg (by simpa using hz)]
                refine (fails_any p _ L4 C j _ hP4 hinv4 (newsL_fl _ _ _ _ HFL'.out)).mono ?_
                rintro e w5 ⟨rfl, L5, hA5⟩
                have hBr5 := hBr4.chg hA5.mvs.chg hNF6
                have hBj5 := hBj4.chg hA5.mvs.chg hNF4
                have hBv5 := hBv4.chg hA5.mvs.chg hNF5
                have hNF7 : ¬ Foot p L5 w1.heap.size := fun hf => (by rcases hA5.mvs.foot _ hf with h1 | h1; exact hNF4 h1; have := hBj4.lt; omega)
                clear s34 j04 j14 j24 j34 j44 v04 v14 jf4
                have s35 : w5.cell? ⟨w.heap.size, 3, none⟩ = some (.string body) := hBr5.cell 3
                have j05 : w5.cell? ⟨w1.heap.size, 0, none⟩ = some (.bool j.on) := hBj5.cell 0
                have j15 : w5.cell? ⟨w1.heap.size, 1, none⟩ = some (.int .i64 j.path) := hBj5.cell 1
                have j25 : w5.cell? ⟨w1.heap.size, 2, none⟩ = some (.int .i64 j.tag) := hBj5.cell 2
                have j35 : w5.cell? ⟨w1.heap.size, 3, none⟩ = some (.int .i64 j.tot) := hBj5.cell 3
                have j45 : w5.cell? ⟨w1.heap.size, 4, none⟩ = some (.int .i64 j.k) := hBj5.cell 4
                have v05 : w5.cell? ⟨w1.heap.size + 1, 0, none⟩ = some (.int .i64 tag) := hBv5.cell 0
                have v15 : w5.cell? ⟨w1.heap.size + 1, 1, none⟩ = some (.int .i64 tot) := hBv5.cell 1
                have jf5 := hBj5.frozen
                go_wp2_with fail
                obtain ⟨hPt, hMt⟩ := two_at hA5.at_ (hM4'.trans hA5.mvs) (show w.heap.size ≤ w1.heap.size by omega) hNF7 (.int .i64 tag) (.int .i64 tot)
                refine (delivers_any p _ _ C { j with tag := tag, tot := tot } body _ hPt (failsL_inv _ _ _ hinv4) (by omega) hk0 hk1 hbs16).mono ?_
                rintro e w8 ⟨rfl, L8, hP8, hM8⟩
                go_wp2_with fail
                refine (look_any p _ L8 (C + 1) _ hP8 (deliverL_inv _ _ _ _ (failsL_inv _ _ _ hinv4) hk0 hk1 hbs16) (by omega)).mono ?_
                rintro e w9 ⟨rfl, L9, hA9⟩
                go_wp2_with fail
                go_ret
                refine Or.inr ⟨HON.out, rfl, L9, ?_, (hMt.trans hM8).trans hA9.mvs⟩
                rw [HS'.out, HRS0.out, HMID.out]; exact hA9.at_
              )
      · have HRS : Hid (replyS s' j pth tag tot off body = lookL (failsL s' j)) := by
          show _ = _; unfold replyS; rw [HB'.out, hbad]; rfl
        go_wp2_with fail
        refine (fails_any p s' L C j _ hP3 hinv' HFL'.out).mono ?_
        rintro e w4 ⟨rfl, L4, hA4⟩
        go_wp2_with fail
        refine (look_any p _ L4 C _ hA4.at_ (failsL_inv _ _ _ hinv') (by omega)).mono ?_
        rintro e w5 ⟨rfl, L5, hA5⟩
        go_wp2_with fail
        go_ret
        refine Or.inr ⟨HON.out, rfl, L5, ?_, (hM3.trans hA4.mvs).trans hA5.mvs⟩
        rw [HS'.out, HRS.out]; exact hA5.at_
end Go.Proofs.YtjhihliciadipabGreat
