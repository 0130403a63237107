import Derived.Test.YtjhihliciadipabK20
set_option linter.unusedVariables false
set_option linter.unusedSimpArgs false
set_option linter.unnecessarySimpa false
namespace Go.Proofs.Ytjhihliciadipab
open Go.RowKit

/-! What is held is bounded. -/
theorem list4 {α : Type} (l : List α) (h : l.length = 4) : ∃ a b c d, l = [a, b, c, d] := by
  rcases l with _ | ⟨a, _ | ⟨b, _ | ⟨c, _ | ⟨d, _ | ⟨e, l⟩⟩⟩⟩⟩ <;> simp at h
  exact ⟨a, b, c, d, rfl⟩
theorem slot_bd {B W : Int} {t : Tr} {T : ByteArray} (hB : 1 ≤ B) (h : TI (KnW B) B W t T) (j : Nat) (hj : j < 4) :
    ((t.held.getD j ByteArray.empty).size : Int) ≤ B ∧ (¬ ((j : Int) - (winT B W t).1) % 4 < (winT B W t).2 - (winT B W t).1 → (t.held.getD j ByteArray.empty).size = 0) := by
  have hn := win_nn (W := W) hB h.ok
  by_cases hc : ((j : Int) - (winT B W t).1) % 4 < (winT B W t).2 - (winT B W t).1
  · refine ⟨?_, fun x => absurd hc x⟩
    obtain ⟨k, hk⟩ : ∃ k : Int, k = (winT B W t).1 + ((j : Int) - (winT B W t).1) % 4 := ⟨_, rfl⟩
    have hkj : (k % 4).toNat = j := by omega
    have hhe : heldAt t k = t.held.getD j ByteArray.empty := by unfold heldAt; rw [hkj]
    cases he : (heldAt t k).toList.isEmpty
    · have hD := h.hi.a k (by omega) (by omega) he
      have := (blkLen_le (ofT t k).tot (ofT t k).blk B (by omega)).2
      rw [← hhe, hD.1.1]; exact this
    · rw [← hhe, ba_nil _ he]; simp; omega
  · have hz := h.hi.c j hj (fun k h1 h2 he => hc (by omega))
    rw [hz]
    refine ⟨by simp; omega, fun _ => rfl⟩
theorem held_le {B W : Int} {t : Tr} {T : ByteArray} (hB : 1 ≤ B) (hW1 : 1 ≤ W) (hW : W ≤ 4) (h : TI (KnW B) B W t T) : 0 ≤ pheldSum t.held ∧ pheldSum t.held ≤ W * B := by
  obtain ⟨h0, h1, h2, h3, hh⟩ := list4 _ h.ok.hl
  have hw := winW (B := B) hW1 t
  have a0 := slot_bd hB h 0 (by omega)
  have a1 := slot_bd hB h 1 (by omega)
  have a2 := slot_bd hB h 2 (by omega)
  have a3 := slot_bd hB h 3 (by omega)
  rw [hh] at a0 a1 a2 a3 ⊢
  have b0 : (h0.size : Int) ≤ B ∧ (¬ (((0 : Nat) : Int) - (winT B W t).1) % 4 < (winT B W t).2 - (winT B W t).1 → h0.size = 0) := a0
  have b1 : (h1.size : Int) ≤ B ∧ (¬ (((1 : Nat) : Int) - (winT B W t).1) % 4 < (winT B W t).2 - (winT B W t).1 → h1.size = 0) := a1
  have b2 : (h2.size : Int) ≤ B ∧ (¬ (((2 : Nat) : Int) - (winT B W t).1) % 4 < (winT B W t).2 - (winT B W t).1 → h2.size = 0) := a2
  have b3 : (h3.size : Int) ≤ B ∧ (¬ (((3 : Nat) : Int) - (winT B W t).1) % 4 < (winT B W t).2 - (winT B W t).1 → h3.size = 0) := a3
  have hs : pheldSum [h0, h1, h2, h3] = (h0.size : Int) + h1.size + h2.size + h3.size := by simp [pheldSum]
  rw [hs]
  clear a0 a1 a2 a3 hs hh h
  generalize h0.size = s0 at *
  generalize h1.size = s1 at *
  generalize h2.size = s2 at *
  generalize h3.size = s3 at *
  generalize (winT B W t).1 = wa at *
  generalize (winT B W t).2 = wb at *
  have hWc : W = 1 ∨ W = 2 ∨ W = 3 ∨ W = 4 := by omega
  refine ⟨by omega, ?_⟩
  rcases hWc with rfl | rfl | rfl | rfl <;> omega

/-! No block lies twice in the cache. -/
structure CN (c : List (Er × ByteArray)) : Prop where
  nd : (c.map Prod.fst).Nodup
  tt : ∀ x ∈ c, x.1.tot ≤ 1000
theorem CN_sub {c d : List (Er × ByteArray)} (h : CN c) (hs : List.Sublist d c) : CN d := ⟨List.Nodup.sublist (hs.map _) h.nd, fun x hx => h.tt x (hs.subset hx)⟩
theorem evict_sub (cap : Int) (l : List (Er × ByteArray)) : List.Sublist (evictC cap l) l := by
  induction l with
  | nil => exact List.Sublist.refl _
  | cons x l ih =>
    rw [evictC]
    split
    · exact ih.trans (List.sublist_cons_self _ _)
    · exact List.Sublist.refl _
theorem erase_key {l : List (Er × ByteArray)} (h : (l.map Prod.fst).Nodup) (e : Er) : e ∉ (l.eraseIdx (findC l e)).map Prod.fst := by
  induction l with
  | nil => simp
  | cons a l ih =>
    rw [List.map_cons, List.nodup_cons] at h
    unfold findC
    rw [List.findIdx_cons]
    cases hb : (a.1 == e)
    · simp only [cond_false, List.eraseIdx_cons_succ, List.map_cons, List.mem_cons, not_or]
      exact ⟨fun he => by simp [he] at hb, ih h.2⟩
    · simp only [cond_true, List.eraseIdx_cons_zero]
      have : a.1 = e := by simpa using hb
      rw [← this]; exact h.1
theorem CN_put {cap : Int} {l : List (Er × ByteArray)} (h : CN l) (e : Er) (b : ByteArray) (ht : e.tot ≤ 1000) : CN (putC cap l e b) := by
  unfold putC
  split
  · exact h
  · refine CN_sub ⟨?_, fun x hx => ?_⟩ (evict_sub _ _)
    · rw [List.map_append, List.nodup_append]
      refine ⟨(CN_sub h (List.eraseIdx_sublist ..)).nd, by simp, ?_⟩
      intro x hx y hy hxy
      simp at hy
      subst hy hxy
      exact erase_key h.nd _ hx
    · rcases List.mem_append.1 hx with h1 | h1
      · exact h.tt x ((List.eraseIdx_sublist ..).subset h1)
      · simp at h1; subst h1; exact ht
theorem CN_use {l : List (Er × ByteArray)} (h : CN l) (e : Er) : CN (useC l e).2 := by
  unfold useC
  cases hf : l[findC l e]? with
  | none => exact h
  | some x =>
    simp only
    refine ⟨?_, fun z hz => ?_⟩
    · rw [List.map_append, List.nodup_append]
      refine ⟨(CN_sub h (List.eraseIdx_sublist ..)).nd, by simp, ?_⟩
      intro a ha y hy hxy
      simp at hy
      subst hy hxy
      rw [findC_eq hf] at ha
      exact erase_key h.nd _ ha
    · rcases List.mem_append.1 hz with h1 | h1
      · exact h.tt z ((List.eraseIdx_sublist ..).subset h1)
      · simp at h1; subst h1; exact h.tt _ (List.mem_of_getElem? hf)
theorem CN_lookE (es : List Er) : ∀ (c : List (Er × ByteArray)) (t : Tr), CN c → CN (es.foldl plookE (c, t)).1 := by
  induction es with
  | nil => intro c t h; exact h
  | cons e es ih =>
    intro c t h
    rw [List.foldl_cons]
    exact ih _ _ (CN_use h e)
theorem CN_look {s : Px} (h : CN s.cac) : CN (plookS s).cac := by
  suffices hh : ∀ n, CN (plookTo s n).cac from hh _
  intro n
  induction n with
  | zero => exact h
  | succ n ih =>
    cases ht : (plookTo s n).trs[n]? with
    | none => rw [plookTo, ht]; exact ih
    | some t => rw [plookTo, ht]; exact CN_lookE _ _ _ ih
theorem CN_deliv {s : Px} (h : CN s.cac) (e : Er) (b : ByteArray) (ht : e.tot ≤ 1000) : CN (delivS s e b).cac := by
  unfold delivS
  split
  · exact h
  · exact CN_put h e b ht
theorem CN_answ {s : Px} (h : CN s.cac) (e : Er) (tag tot off : Int) (b : ByteArray) : CN (answS s e tag tot off b).cac := by
  unfold answS
  split
  · rename_i hs
    refine CN_deliv ?_ _ _ (by unfold sensible fairV at hs; simp at hs; exact hs.1.2)
    split
    · exact h
    · exact h
  · exact h
theorem CN_rp {P : Pl} (h : CN P.g.s.cac) (m : Nat) (r : Rp) : CN (rpPl P m r).g.s.cac := by
  unfold rpPl
  split
  · show CN (replyP P.g.s m r.tag r.tot r.off r.body).cac
    unfold replyP
    split
    · exact CN_look (CN_answ (s := freeS P.g.s _) h _ _ _ _ _)
    · exact h
  · exact h
theorem CN_step {P : Pl} (h : CN P.g.s.cac) (l : List Int) (r : Rp) : CN (stepPl P l r).g.s.cac := by
  unfold stepPl
  split
  · unfold askPl
    split
    · exact CN_look (s := { P.g.s with trs := P.g.s.trs ++ [askT _ _ _] }) h
    · exact h
  · split
    · unfold nextPl
      split
      · exact h
      · cases nextE P.g.s <;> exact h
    · split
      · exact CN_rp h _ _
      · split
        · split
          · unfold flPl
            split
            · show CN (failP P.g.s _).cac
              unfold failP
              split
              · exact CN_look (s := failedS (freeS P.g.s _) _) h
              · exact h
            · exact h
          · exact CN_rp h _ _
        · unfold takePl
          split
          · exact h
          · split
            · split
              · exact h
              · show CN (ptakeS P.g.s _ _).cac
                unfold ptakeS
                split
                · split
                  · exact h
                  · split
                    · exact h
                    · split
                      · exact h
                      · exact CN_look (s := setT P.g.s _ _) h
                · exact h
            · exact h
/-- How many bytes an entry has. -/
theorem entry_size {B : Int} {e : Er} {b : ByteArray} (h : (KnW B).D e b) : (b.size : Int) = (if B < e.tot - e.blk * B then B else e.tot - e.blk * B) ∧ 1 ≤ b.size ∧ 0 ≤ e.blk := by
  obtain ⟨⟨h1, h2, h3⟩, h4⟩ := h
  refine ⟨?_, h2, h4⟩
  unfold blkLen atM at h1
  split at h1
  · omega
  · exact h1
theorem used_take {l : List (Er × ByteArray)} {n : Nat} {x : Er × ByteArray} (h : l[n]? = some x) : usedC (l.take (n + 1)) = usedC (l.take n) + (x.2.size : Int) := by
  obtain ⟨hn, e⟩ := List.getElem?_eq_some_iff.1 h
  unfold usedC
  rw [List.take_succ_eq_append_getElem hn, List.foldl_append, e]; rfl
end Go.Proofs.Ytjhihliciadipab
