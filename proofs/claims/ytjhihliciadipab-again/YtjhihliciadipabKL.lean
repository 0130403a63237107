import Derived.Test.YtjhihliciadipabKY
set_option linter.unusedVariables false
set_option linter.unusedSimpArgs false
set_option linter.unnecessarySimpa false
namespace Go.Proofs.Ytjhihliciadipab
open Go.RowKit

/-! What is in the cache, and what is found there. -/
def inC (c : List (Er × ByteArray)) (e : Er) : Prop := ∃ x ∈ c, x.1 = e
theorem ba_ne (a : ByteArray) (h : 1 ≤ a.size) : a.toList.isEmpty = false := by
  cases he : a.toList.isEmpty
  · rfl
  · rw [ba_nil _ he] at h; simp at h
theorem find_in {c : List (Er × ByteArray)} {e : Er} (h : inC c e) : ∃ x, c[findC c e]? = some x ∧ x.1 = e := by
  obtain ⟨x, hx, he⟩ := h
  have hlt : findC c e < c.length := by
    unfold findC
    rw [List.findIdx_lt_length]
    exact ⟨x, hx, by simp [he]⟩
  exact ⟨_, List.getElem?_eq_getElem hlt, findC_eq (List.getElem?_eq_getElem hlt)⟩
theorem find_out {c : List (Er × ByteArray)} {e : Er} (h : ¬ inC c e) : c[findC c e]? = none := by
  cases hf : c[findC c e]? with
  | none => rfl
  | some x => exact absurd ⟨x, List.mem_of_getElem? hf, findC_eq hf⟩ h
theorem use_ne {c : List (Er × ByteArray)} {e : Er} (hc : ∀ x ∈ c, 1 ≤ x.2.size) (h : inC c e) : (useC c e).1.toList.isEmpty = false := by
  obtain ⟨x, hx, -⟩ := find_in h
  rw [useC_some hx]
  exact ba_ne _ (hc x (List.mem_of_getElem? hx))
theorem use_out {c : List (Er × ByteArray)} {e : Er} (h : ¬ inC c e) : useC c e = (ByteArray.empty, c) := by
  unfold useC; rw [find_out h]
theorem use_in {c : List (Er × ByteArray)} (e e' : Er) : inC (useC c e).2 e' ↔ inC c e' := by
  constructor
  · rintro ⟨x, hx, he⟩; exact ⟨x, (useC_mem (l := c) (e := e)).2.1 x hx, he⟩
  · rintro ⟨x, hx, he⟩
    cases hf : c[findC c e]? with
    | none => unfold useC; rw [hf]; exact ⟨x, hx, he⟩
    | some z =>
      rw [useC_some hf]
      obtain ⟨i, hi⟩ := List.getElem?_of_mem hx
      by_cases hie : i = findC c e
      · subst hie
        rw [hi] at hf; simp at hf; subst hf
        exact ⟨x, by simp, he⟩
      · refine ⟨x, List.mem_append_left _ ?_, he⟩
        rw [List.mem_eraseIdx_iff_getElem?]
        exact ⟨i, hie, hi⟩
theorem lookE_in (es : List Er) : ∀ (c : List (Er × ByteArray)) (t : Tr) (e' : Er), inC (es.foldl plookE (c, t)).1 e' ↔ inC c e' := by
  induction es with
  | nil => intro c t e'; exact Iff.rfl
  | cons e es ih =>
    intro c t e'
    rw [List.foldl_cons]
    unfold plookE
    simp only
    exact (ih _ _ e').trans (use_in e e')
theorem lookE_sub (es : List Er) : ∀ (c : List (Er × ByteArray)) (t : Tr), ∀ x ∈ (es.foldl plookE (c, t)).1, x ∈ c := by
  induction es with
  | nil => intro c t x hx; exact hx
  | cons e es ih =>
    intro c t x hx
    rw [List.foldl_cons] at hx
    unfold plookE at hx
    simp only at hx
    exact (useC_mem (l := c) (e := e)).2.1 x (ih _ _ x hx)
theorem lookE_full (es : List Er) : ∀ (c : List (Er × ByteArray)) (t : Tr) (e : Er), t.held.length = 4 → (∀ x ∈ c, 1 ≤ x.2.size) → e ∈ es → inC c e → (heldAt (es.foldl plookE (c, t)).2 e.blk).toList.isEmpty = false := by
  induction es with
  | nil => intro c t e _ _ he; simp at he
  | cons a es ih =>
    intro c t e hl hc he hi
    rw [List.foldl_cons]
    have hc' : ∀ x ∈ (useC c a).2, 1 ≤ x.2.size := fun x hx => hc x ((useC_mem (l := c) (e := a)).2.1 x hx)
    have hl' : (plookE (c, t) a).2.held.length = 4 := by
      unfold plookE; simp only
      split
      · exact hl
      · show (t.held.set _ _).length = 4
        rw [List.length_set]; exact hl
    rcases List.mem_cons.1 he with rfl | he
    · have hne := use_ne hc hi
      have h1 : (heldAt (plookE (c, t) e).2 e.blk).toList.isEmpty = false := by
        unfold plookE; simp only
        rw [hne]
        simp only [Bool.false_eq_true, if_false]
        unfold heldAt holdT
        simp only
        rw [held_get _ hl _ (by omega), if_pos rfl]; exact hne
      exact (lookE_hm es (plookE (c, t) e).1 (plookE (c, t) e).2).at _ h1
    · exact ih (plookE (c, t) a).1 (plookE (c, t) a).2 e hl' hc' he ((use_in a e).2 hi)
theorem lookE_noop (es : List Er) : ∀ (c : List (Er × ByteArray)) (t : Tr), (∀ e ∈ es, ¬ inC c e) → es.foldl plookE (c, t) = (c, t) := by
  induction es with
  | nil => intro c t _; rfl
  | cons a es ih =>
    intro c t h
    rw [List.foldl_cons]
    have h1 : plookE (c, t) a = (c, t) := by
      unfold plookE
      rw [use_out (h a (List.mem_cons_self ..))]
      simp only
      rw [empty_isEmpty]; rfl
    rw [h1]
    exact ih c t (fun e he => h e (List.mem_cons_of_mem _ he))
theorem wanted_mem {B W : Int} {t : Tr} {k : Int} (h1 : (winT B W t).1 ≤ k) (h2 : k < (winT B W t).2) (he : (heldAt t k).toList.isEmpty = true) : ofT t k ∈ wantedL B W t := by
  unfold wantedL
  rw [List.mem_map]
  refine ⟨(k - (winT B W t).1).toNat, ?_, ?_⟩
  · rw [List.mem_filter, List.mem_range]
    refine ⟨by omega, ?_⟩
    rw [show (winT B W t).1 + ((k - (winT B W t).1).toNat : Int) = k by omega]; exact he
  · rw [show (winT B W t).1 + ((k - (winT B W t).1).toNat : Int) = k by omega]
theorem wanted_held {B W : Int} {t : Tr} {e : Er} (h : e ∈ wantedL B W t) : (heldAt t e.blk).toList.isEmpty = true := by
  unfold wantedL at h
  rw [List.mem_map] at h
  obtain ⟨j, hj, rfl⟩ := h
  rw [List.mem_filter] at hj
  exact hj.2
theorem Hm.wanted {B W : Int} {t t' : Tr} (h : Hm t t') {e : Er} (he : e ∈ wantedL B W t') : e ∈ wantedL B W t := by
  obtain ⟨h1, h2, h3⟩ := wanted_in e he
  have h4 := wanted_held he
  rw [h.win] at h2 h3
  have h5 : (heldAt t e.blk).toList.isEmpty = true := by
    cases hx : (heldAt t e.blk).toList.isEmpty
    · have := h.at _ hx; rw [h4] at this; simp at this
    · rfl
  have := wanted_mem h2 h3 h5
  have e1 : ofT t e.blk = e := by rw [h1]; obtain ⟨x, y, e⟩ := h.e; rw [e]; rfl
  rw [e1] at this; exact this
/-- No transfer wants what is in the cache. -/
def NW (s : Px) : Prop := ∀ t ∈ s.trs, ∀ e ∈ wantedL s.blk s.win t, ¬ inC s.cac e
theorem lookTo_in (s : Px) (n : Nat) (e : Er) : inC (plookTo s n).cac e ↔ inC s.cac e := by
  induction n with
  | zero => exact Iff.rfl
  | succ n ih =>
    cases ht : (plookTo s n).trs[n]? with
    | none => rw [plookTo, ht]; exact ih
    | some t => rw [plookTo, ht]; exact (lookE_in _ _ _ e).trans ih
theorem look_in (s : Px) (e : Er) : inC (plookS s).cac e ↔ inC s.cac e := lookTo_in s _ e
theorem lookTo_sub (s : Px) (n : Nat) : ∀ x ∈ (plookTo s n).cac, x ∈ s.cac := by
  induction n with
  | zero => intro x hx; exact hx
  | succ n ih =>
    intro x hx
    cases ht : (plookTo s n).trs[n]? with
    | none => rw [plookTo, ht] at hx; exact ih x hx
    | some t => rw [plookTo, ht] at hx; exact ih x (lookE_sub _ _ _ x hx)
theorem look_NW (s : Px) (hc : ∀ x ∈ s.cac, 1 ≤ x.2.size) (hl : ∀ t ∈ s.trs, t.held.length = 4) : NW (plookS s) := by
  have key : ∀ n, (∀ t ∈ (plookTo s n).trs, t.held.length = 4) ∧ ∀ (i : Nat) t, i < n → (plookTo s n).trs[i]? = some t → ∀ e ∈ wantedL s.blk s.win t, ¬ inC s.cac e := by
    intro n
    induction n with
    | zero => exact ⟨hl, fun i t hi => by omega⟩
    | succ n ih =>
      cases ht : (plookTo s n).trs[n]? with
      | none =>
        rw [plookTo, ht]
        refine ⟨ih.1, fun i t hi h1 => ?_⟩
        by_cases hin : i = n
        · subst hin
          have h2 : (plookTo s i).trs[i]? = some t := h1
          rw [ht] at h2; simp at h2
        · exact ih.2 i t (by omega) h1
      | some t0 =>
        rw [plookTo, ht]
        obtain ⟨hh, eh⟩ := plookT_tr s.blk s.win (plookTo s n).cac t0
        have hl0 := ih.1 t0 (List.mem_of_getElem? ht)
        have hhm : Hm t0 (plookT s.blk s.win (plookTo s n).cac t0).2 := lookE_hm _ _ _
        have hll : (plookT s.blk s.win (plookTo s n).cac t0).2.held.length = 4 := by
          have : ∀ (es : List Er) (c : List (Er × ByteArray)) (t : Tr), t.held.length = 4 → (es.foldl plookE (c, t)).2.held.length = 4 := by
            intro es
            induction es with
            | nil => intro c t h; exact h
            | cons a es ih2 =>
              intro c t h
              rw [List.foldl_cons]
              refine ih2 _ _ ?_
              split
              · exact h
              · show (t.held.set _ _).length = 4
                rw [List.length_set]; exact h
          exact this _ _ _ hl0
        refine ⟨fun t h1 => ?_, fun i t hi h1 => ?_⟩
        · have h2 : t ∈ (plookTo s n).trs.set n (plookT s.blk s.win (plookTo s n).cac t0).2 := h1
          rcases List.mem_or_eq_of_mem_set h2 with h3 | rfl
          · exact ih.1 t h3
          · exact hll
        · have h2 : ((plookTo s n).trs.set n (plookT s.blk s.win (plookTo s n).cac t0).2)[i]? = some t := h1
          rw [List.getElem?_set] at h2
          by_cases hin : n = i
          · subst hin
            rw [if_pos rfl, if_pos (List.getElem?_eq_some_iff.1 ht).1] at h2
            simp at h2; subst h2
            intro e he hin
            have hw := hhm.wanted he
            have := lookE_full (wantedL s.blk s.win t0) (plookTo s n).cac t0 e hl0 (fun x hx => hc x (lookTo_sub s n x hx)) hw ((lookTo_in s n e).2 hin)
            have h4 := wanted_held he
            have h5 : (heldAt (plookT s.blk s.win (plookTo s n).cac t0).2 e.blk).toList.isEmpty = false := this
            rw [h4] at h5; simp at h5
          · rw [if_neg hin] at h2
            exact ih.2 i t (by omega) h2
  intro t ht e he hin
  obtain ⟨i, hi⟩ := List.getElem?_of_mem ht
  obtain ⟨-, eB, eW, -, -, -, -, -, eL⟩ := plookTo_same s s.trs.length
  have hil := (List.getElem?_eq_some_iff.1 hi).1
  have hil2 : i < s.trs.length := by
    have : (plookS s).trs.length = s.trs.length := eL
    omega
  have he2 : e ∈ wantedL s.blk s.win t := by
    have h1 : (plookS s).blk = s.blk := eB
    have h2 : (plookS s).win = s.win := eW
    rw [h1, h2] at he; exact he
  exact (key s.trs.length).2 i t hil2 hi e he2 ((look_in s e).1 hin)
/-- One transfer that wants nothing of the cache looks: nothing happens. -/
theorem look_one {s : Px} {t : Tr} (ht : s.trs = [t]) (h : ∀ e ∈ wantedL s.blk s.win t, ¬ inC s.cac e) : plookS s = s := by
  unfold plookS
  rw [ht]
  show plookTo s 1 = s
  have h0 : (plookTo s 0).trs[0]? = some t := by show s.trs[0]? = some t; rw [ht]; rfl
  rw [plookTo, h0]
  show ({ plookTo s 0 with cac := (plookT s.blk s.win s.cac t).1, trs := s.trs.set 0 (plookT s.blk s.win s.cac t).2 } : Px) = s
  have h1 : plookT s.blk s.win s.cac t = (s.cac, t) := lookE_noop _ _ _ h
  rw [h1, ht]
  show ({ s with cac := s.cac, trs := [t] } : Px) = s
  rw [← ht]
theorem PI.cac1 {K : Kn} {n : Nat} {P : Pl} (h : PI K n P) (hK : KnOk K P.g.s.blk) : ∀ x ∈ P.g.s.cac, 1 ≤ x.2.size := fun x hx => (hK.d _ _ (h.si.cac x hx).1).2.1
theorem SI.held4 {K : Kn} {s : Px} {Ts : List ByteArray} (h : SI K s Ts) : ∀ t ∈ s.trs, t.held.length = 4 := fun t ht => by
  obtain ⟨i, hi⟩ := List.getElem?_of_mem ht
  obtain ⟨T, hT⟩ : ∃ T, Ts[i]? = some T := ⟨_, List.getElem?_eq_getElem (by rw [h.n]; exact (List.getElem?_eq_some_iff.1 hi).1)⟩
  exact (h.ts i t T hi hT).ok.hl
end Go.Proofs.Ytjhihliciadipab
