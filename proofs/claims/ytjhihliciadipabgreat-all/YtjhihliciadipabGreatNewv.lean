import Derived.Test.YtjhihliciadipabGreatTell
import Derived.Test.YtjhihliciadipabGreatJobs
import Derived.Test.YtjhihliciadipabGreatLook
set_option linter.unusedVariables false
set_option linter.unusedSimpArgs false
set_option linter.unnecessarySimpa false
namespace Go.Proofs.YtjhihliciadipabGreat
open Go.RowKit

/-- A cell of the errands is stored. -/
theorem PrAt.storeJ {w : World} {p : Nat} {s : Pr} {L : Lay} (h : PrAt w p s L) {c : Nat} {x : Jb} (hx : s.jobs[c]? = some x) {g cap : Nat} (hC : L.vJ = .slice (some ⟨g, 0, none⟩) s.jobs.length cap)
    (r : Nat) (hr : r < 5) (u : Value) (x' : Jb) (hrow : (jobV x).set r u = jobV x') :
    PrAt (w.setCell ⟨g, c * 5 + r, none⟩ u) p { s with jobs := s.jobs.set c x' } L ∧ Mvs w (w.setCell ⟨g, c * 5 + r, none⟩ u) p L L := by
  have hgC : L.vJ.ownBlock = some g := by rw [hC]; rfl
  have hgF : Foot p L g := Or.inr ⟨L.vJ, by simp [Lay.vs], hgC⟩
  have hc1 : Chg (fun x => x = g) w (w.setCell ⟨g, c * 5 + r, none⟩ u) := Chg.setCell (S := fun x => x = g) (Chg.refl _ _) (p := ⟨g, c * 5 + r, none⟩) (Or.inl rfl) _
  have hoS : ∀ (j : Nat) v, j ≠ 1 → L.vs[j]? = some v → ∀ x, v.ownBlock = some x → ¬ (x = g) := by
    intro j v h0 hv1 y hy
    rintro rfl
    exact h.sep j 1 v L.vJ y h0 hv1 rfl hy hgC
  have hcc := h.jobs
  have e1 : (s.jobs.map jobV).flatten.set (c * 5 + r) u = ((s.jobs.set c x').map jobV).flatten := by
    rw [flat_set 5 _ (jobs_len _) c r hr u (jobV x) (by simp [hx]), hrow, List.map_set]
  have hnew : (w.setCell ⟨g, c * 5 + r, none⟩ u).ownsRow 0 124 5 L.vJ (s.jobs.set c x').length ((s.jobs.set c x').map jobV).flatten := by
    rw [hC] at hcc ⊢
    have := (hcc.stored (c * 5 + r) u).1
    rw [e1] at this
    simpa using this
  exact ⟨⟨h.blk.chg hc1 (fun e => h.np L.vJ (by simp [Lay.vs]) (by rw [hgC, e])), own_chg h.ts hc1 (hoS 0 _ (by omega) rfl), hnew, own_chg h.latest hc1 (hoS 2 _ (by omega) rfl), own_chg h.cache hc1 (hoS 3 _ (by omega) rfl), h.hl,
    fun i m hv hm hh => own_chg (h.has i m hv hm hh) hc1 (hoS (i + 4) hv (by omega) (by simpa [Lay.vs] using hh)), h.np, h.sep⟩, hc1.mono (fun x _ hx => by rw [hx]; exact hgF), fun b hb => Or.inl hb⟩
theorem PrAt.cellJ {w : World} {p : Nat} {s : Pr} {L : Lay} (h : PrAt w p s L) {c : Nat} {x : Jb} (hx : s.jobs[c]? = some x) {g cap : Nat} (hC : L.vJ = .slice (some ⟨g, 0, none⟩) s.jobs.length cap)
    (r : Nat) (hr : r < 5) : w.cell? ⟨g, c * 5 + r, none⟩ = (jobV x)[r]? := by
  have hcc := h.jobs
  rw [hC] at hcc
  have hi := (List.getElem?_eq_some_iff.1 hx).1
  rw [hcc.cellAt (c * 5 + r) (by have : (c + 1) * 5 ≤ s.jobs.length * 5 := Nat.mul_le_mul_right 5 hi; omega), flat_get 5 _ (jobs_len _) c r hr]; simp [hx]

/-- A cell of the latest versions is stored. -/
theorem PrAt.storeL {w : World} {p : Nat} {s : Pr} {L : Lay} (h : PrAt w p s L) {c : Nat} {x : (Int × Int)} (hx : s.latest[c]? = some x) {g cap : Nat} (hC : L.vL = .slice (some ⟨g, 0, none⟩) s.latest.length cap)
    (r : Nat) (hr : r < 2) (u : Value) (x' : (Int × Int)) (hrow : (verV x).set r u = verV x') :
    PrAt (w.setCell ⟨g, c * 2 + r, none⟩ u) p { s with latest := s.latest.set c x' } L ∧ Mvs w (w.setCell ⟨g, c * 2 + r, none⟩ u) p L L := by
  have hgC : L.vL.ownBlock = some g := by rw [hC]; rfl
  have hgF : Foot p L g := Or.inr ⟨L.vL, by simp [Lay.vs], hgC⟩
  have hc1 : Chg (fun x => x = g) w (w.setCell ⟨g, c * 2 + r, none⟩ u) := Chg.setCell (S := fun x => x = g) (Chg.refl _ _) (p := ⟨g, c * 2 + r, none⟩) (Or.inl rfl) _
  have hoS : ∀ (j : Nat) v, j ≠ 2 → L.vs[j]? = some v → ∀ x, v.ownBlock = some x → ¬ (x = g) := by
    intro j v h0 hv1 y hy
    rintro rfl
    exact h.sep j 2 v L.vL y h0 hv1 rfl hy hgC
  have hcc := h.latest
  have e1 : (s.latest.map verV).flatten.set (c * 2 + r) u = ((s.latest.set c x').map verV).flatten := by
    rw [flat_set 2 _ (vers_len _) c r hr u (verV x) (by simp [hx]), hrow, List.map_set]
  have hnew : (w.setCell ⟨g, c * 2 + r, none⟩ u).ownsRow 0 115 2 L.vL (s.latest.set c x').length ((s.latest.set c x').map verV).flatten := by
    rw [hC] at hcc ⊢
    have := (hcc.stored (c * 2 + r) u).1
    rw [e1] at this
    simpa using this
  exact ⟨⟨h.blk.chg hc1 (fun e => h.np L.vL (by simp [Lay.vs]) (by rw [hgC, e])), own_chg h.ts hc1 (hoS 0 _ (by omega) rfl), own_chg h.jobs hc1 (hoS 1 _ (by omega) rfl), hnew, own_chg h.cache hc1 (hoS 3 _ (by omega) rfl), h.hl,
    fun i m hv hm hh => own_chg (h.has i m hv hm hh) hc1 (hoS (i + 4) hv (by omega) (by simpa [Lay.vs] using hh)), h.np, h.sep⟩, hc1.mono (fun x _ hx => by rw [hx]; exact hgF), fun b hb => Or.inl hb⟩
theorem PrAt.cellL {w : World} {p : Nat} {s : Pr} {L : Lay} (h : PrAt w p s L) {c : Nat} {x : (Int × Int)} (hx : s.latest[c]? = some x) {g cap : Nat} (hC : L.vL = .slice (some ⟨g, 0, none⟩) s.latest.length cap)
    (r : Nat) (hr : r < 2) : w.cell? ⟨g, c * 2 + r, none⟩ = (verV x)[r]? := by
  have hcc := h.latest
  rw [hC] at hcc
  have hi := (List.getElem?_eq_some_iff.1 hx).1
  rw [hcc.cellAt (c * 2 + r) (by have : (c + 1) * 2 ≤ s.latest.length * 2 := Nat.mul_le_mul_right 2 hi; omega), flat_get 2 _ (vers_len _) c r hr]; simp [hx]

/-- Another slice for the cache. -/
theorem PrAt.newC {w w1 : World} {p : Nat} {s : Pr} {L : Lay} (h : PrAt w p s L) (hc : Chg (fun x => L.vC.ownBlock = some x) w w1) (v' : Value) (cache' : List Kp)
    (hown : w1.ownsRow 0 144 6 v' cache'.length (cache'.map kpV).flatten) (hor : ∀ x, v'.ownBlock = some x → L.vC.ownBlock = some x ∨ w.heap.size ≤ x) :
    PrAt (w1.setCell ⟨p, 8, none⟩ v') p { s with cache := cache' } { L with vC := v' } ∧ Mvs w (w1.setCell ⟨p, 8, none⟩ v') p L { L with vC := v' } := by
  have hlt := h.lt
  have hnp : L.vC.ownBlock ≠ some p := h.np L.vC (by simp [Lay.vs])
  have hnp' : v'.ownBlock ≠ some p := fun e => by
    rcases hor p e with h1 | h1
    · exact hnp h1
    · have := hlt p (Or.inl rfl); omega
  have hc2 : Chg (fun x => x = p ∨ L.vC.ownBlock = some x) w (w1.setCell ⟨p, 8, none⟩ v') :=
    Chg.setCell (S := fun x => x = p ∨ L.vC.ownBlock = some x) (hc.mono (fun x _ hx => Or.inr hx)) (p := ⟨p, 8, none⟩) (Or.inl (Or.inl rfl)) _
  have hoS : ∀ (j : Nat) v, j ≠ 3 → L.vs[j]? = some v → ∀ x, v.ownBlock = some x → ¬ (x = p ∨ L.vC.ownBlock = some x) := by
    intro j v h0 hv1 y hy
    rintro (rfl | h1)
    · exact h.np v (List.mem_of_getElem? hv1) hy
    · exact h.sep j 3 v L.vC y h0 hv1 rfl hy h1
  refine ⟨⟨?_, own_chg h.ts hc2 (hoS 0 _ (by omega) rfl), own_chg h.jobs hc2 (hoS 1 _ (by omega) rfl), own_chg h.latest hc2 (hoS 2 _ (by omega) rfl), own_setOther hown (by simpa using hnp') _, h.hl,
    fun i m hv hm hh => own_chg (h.has i m hv hm hh) hc2 (hoS (i + 4) hv (by omega) (by simpa [Lay.vs] using hh)), ?_, ?_⟩, ?_, ?_⟩
  · have hB := (h.blk.chg hc (by simpa using hnp)).set 8 v'
    rw [List.setIfInBounds_toArray] at hB
    exact hB
  · intro v hv
    simp only [Lay.vs, List.mem_cons] at hv
    rcases hv with rfl | rfl | rfl | rfl | hv
    · exact h.np _ (by simp [Lay.vs])
    · exact h.np _ (by simp [Lay.vs])
    · exact h.np _ (by simp [Lay.vs])
    · exact hnp'
    · exact h.np _ (by simp [Lay.vs, hv])
  · exact sep_set h.sep (fun v hv1 x hx => hlt x (Or.inr ⟨v, hv1, hx⟩)) 3 L.vC v' rfl hor
  · exact hc2.mono (fun x _ hx => by
      rcases hx with rfl | hx
      · exact Or.inl rfl
      · exact Or.inr ⟨L.vC, by simp [Lay.vs], hx⟩)
  · rintro b (rfl | ⟨v, hv, hb⟩)
    · exact Or.inl (Or.inl rfl)
    · simp only [Lay.vs, List.mem_cons] at hv
      rcases hv with rfl | rfl | rfl | rfl | hv
      · exact Or.inl (Or.inr ⟨_, by simp [Lay.vs], hb⟩)
      · exact Or.inl (Or.inr ⟨_, by simp [Lay.vs], hb⟩)
      · exact Or.inl (Or.inr ⟨_, by simp [Lay.vs], hb⟩)
      · rcases hor b hb with h1 | h1
        · exact Or.inl (Or.inr ⟨L.vC, by simp [Lay.vs], h1⟩)
        · exact Or.inr h1
      · exact Or.inl (Or.inr ⟨v, by simp [Lay.vs, hv], hb⟩)

/-- One transfer more, open or bound, holding nothing. -/
theorem PrAt.newT {w w1 : World} {p : Nat} {s : Pr} {L : Lay} (h : PrAt w p s L) (hc : Chg (fun x => L.vT.ownBlock = some x) w w1) (v' : Value) (m : Mv) (hm0 : m.has = [])
    (hown : w1.ownsRow 0 118 12 v' (s.ts.length + 1) ((tsR s.ts L.hs).flatten ++ mvV m (.slice none 0 0))) (hor : ∀ x, v'.ownBlock = some x → L.vT.ownBlock = some x ∨ w.heap.size ≤ x) :
    PrAt (w1.setCell ⟨p, 5, none⟩ v') p { s with ts := s.ts ++ [m] } { L with vT := v', hs := L.hs ++ [.slice none 0 0] } ∧
      Mvs w (w1.setCell ⟨p, 5, none⟩ v') p L { L with vT := v', hs := L.hs ++ [.slice none 0 0] } := by
  have hlt := h.lt
  have hnp : L.vT.ownBlock ≠ some p := h.np L.vT (by simp [Lay.vs])
  have hnp' : v'.ownBlock ≠ some p := fun e => by
    rcases hor p e with h1 | h1
    · exact hnp h1
    · have := hlt p (Or.inl rfl); omega
  have hc2 : Chg (fun x => x = p ∨ L.vT.ownBlock = some x) w (w1.setCell ⟨p, 5, none⟩ v') :=
    Chg.setCell (S := fun x => x = p ∨ L.vT.ownBlock = some x) (hc.mono (fun x _ hx => Or.inr hx)) (p := ⟨p, 5, none⟩) (Or.inl (Or.inl rfl)) _
  have hoS : ∀ (j : Nat) v, j ≠ 0 → L.vs[j]? = some v → ∀ x, v.ownBlock = some x → ¬ (x = p ∨ L.vT.ownBlock = some x) := by
    intro j v h0 hv1 y hy
    rintro (rfl | h1)
    · exact h.np v (List.mem_of_getElem? hv1) hy
    · exact h.sep j 0 v L.vT y h0 hv1 rfl hy h1
  have hvs : ∀ v ∈ ({ L with vT := v', hs := L.hs ++ [.slice none 0 0] } : Lay).vs, v ∈ L.vs ∨ v = v' ∨ v = .slice none 0 0 := by
    intro v hv
    simp only [Lay.vs, List.mem_cons, List.mem_append, List.not_mem_nil, or_false] at hv ⊢
    rcases hv with h | h | h | h | h | h
    · exact Or.inr (Or.inl h)
    · simp [h]
    · simp [h]
    · simp [h]
    · simp [h]
    · exact Or.inr (Or.inr h)
  have hrows : (tsR (s.ts ++ [m]) (L.hs ++ [.slice none 0 0])).flatten = (tsR s.ts L.hs).flatten ++ mvV m (.slice none 0 0) := by
    unfold tsR
    rw [List.zipWith_append h.hl.symm]; simp
  refine ⟨⟨?_, ?_, own_chg h.jobs hc2 (hoS 1 _ (by omega) rfl), own_chg h.latest hc2 (hoS 2 _ (by omega) rfl), own_chg h.cache hc2 (hoS 3 _ (by omega) rfl), by simp [h.hl], ?_, ?_, ?_⟩, ?_, ?_⟩
  · have hB := (h.blk.chg hc (by simpa using hnp)).set 5 v'
    rw [List.setIfInBounds_toArray] at hB
    exact hB
  · rw [show ({ s with ts := s.ts ++ [m] } : Pr).ts.length = s.ts.length + 1 from by simp]
    show (w1.setCell ⟨p, 5, none⟩ v').ownsRow 0 118 12 v' _ (tsR (s.ts ++ [m]) (L.hs ++ [.slice none 0 0])).flatten
    rw [hrows]; exact own_setOther hown (by simpa using hnp') _
  · intro i m2 hv hm hh
    simp only [List.getElem?_append] at hm hh
    rw [h.hl] at hh
    split at hm
    · rename_i hi
      rw [if_pos hi] at hh
      exact own_chg (h.has i m2 hv hm hh) hc2 (hoS (i + 4) hv (by omega) (by simpa [Lay.vs] using hh))
    · rename_i hi
      rw [if_neg hi] at hh
      obtain ⟨k, hk⟩ : ∃ k, i - s.ts.length = k := ⟨_, rfl⟩
      rw [hk] at hm hh
      cases k with
      | zero => simp at hm hh; subst hm; subst hh; rw [hm0]; exact World.ownsRow_nil _ _ _ _
      | succ k => simp at hm
  · intro v hv
    rcases hvs v hv with h1 | rfl | rfl
    · exact h.np v h1
    · exact hnp'
    · simp [Value.ownBlock]
  · have h1 := sep_set h.sep (fun v hv1 x hx => hlt x (Or.inr ⟨v, hv1, hx⟩)) 0 L.vT v' rfl hor
    intro a b u1 u2 x hab ha hb hx hx2
    have e : ({ L with vT := v', hs := L.hs ++ [.slice none 0 0] } : Lay).vs = L.vs.set 0 v' ++ [.slice none 0 0] := rfl
    rw [e, List.getElem?_append] at ha hb
    have hz : ∀ k u, (if k < (L.vs.set 0 v').length then (L.vs.set 0 v')[k]? else [Value.slice none 0 0][k - (L.vs.set 0 v').length]?) = some u → u.ownBlock = some x → (L.vs.set 0 v')[k]? = some u := by
      intro k u hk hu
      split at hk
      · exact hk
      · have := List.mem_of_getElem? hk
        simp at this; subst this; simp [Value.ownBlock] at hu
    exact h1 a b u1 u2 x hab (hz a u1 ha hx) (hz b u2 hb hx2) hx hx2
  · exact hc2.mono (fun x _ hx => by
      rcases hx with rfl | hx
      · exact Or.inl rfl
      · exact Or.inr ⟨L.vT, by simp [Lay.vs], hx⟩)
  · rintro b (rfl | ⟨v, hv, hb⟩)
    · exact Or.inl (Or.inl rfl)
    · rcases hvs v hv with h1 | rfl | rfl
      · exact Or.inl (Or.inr ⟨v, h1, hb⟩)
      · rcases hor b hb with h1 | h1
        · exact Or.inl (Or.inr ⟨L.vT, by simp [Lay.vs], h1⟩)
        · exact Or.inr h1
      · simp [Value.ownBlock] at hb
end Go.Proofs.YtjhihliciadipabGreat
