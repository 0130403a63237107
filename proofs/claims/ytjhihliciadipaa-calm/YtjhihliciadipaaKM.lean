import Derived.Test.YtjhihliciadipaaKH
set_option linter.unusedVariables false
set_option linter.unusedSimpArgs false
set_option linter.unnecessarySimpa false
namespace Go.Proofs.Ytjhihliciadipaa
open Go.RowKit

/-! How far each transfer has come. -/
/-- What is held stays held; the rest, but for the failures, stays. -/
structure Hm (t t' : Tr) : Prop where
  e : ∃ h f, t' = { t with held := h, fails := f }
  m : ∀ j : Nat, (t.held.getD j ByteArray.empty).toList.isEmpty = false → (t'.held.getD j ByteArray.empty).toList.isEmpty = false
theorem Hm.refl (t : Tr) : Hm t t := ⟨⟨t.held, t.fails, rfl⟩, fun _ h => h⟩
theorem Hm.trans {t t1 t2 : Tr} (h : Hm t t1) (k : Hm t1 t2) : Hm t t2 := by
  obtain ⟨a, b, rfl⟩ := h.e
  obtain ⟨c, d, rfl⟩ := k.e
  exact ⟨⟨c, d, rfl⟩, fun j hj => k.m j (h.m j hj)⟩
theorem Hm.hold (t : Tr) (k : Int) (body : ByteArray) (f : Int) (hne : body.toList.isEmpty = false) : Hm t { holdT t k body with fails := f } := by
  refine ⟨⟨_, _, rfl⟩, fun j hj => ?_⟩
  show ((t.held.set (k % 4).toNat body).getD j ByteArray.empty).toList.isEmpty = false
  rw [List.getD_eq_getElem?_getD, List.getElem?_set]
  by_cases hk : (k % 4).toNat = j
  · rw [if_pos hk]
    by_cases hl : (k % 4).toNat < t.held.length
    · rw [if_pos hl]; exact hne
    · exfalso
      rw [List.getD_eq_getElem?_getD, List.getElem?_eq_none (by omega)] at hj
      rw [show (none : Option ByteArray).getD ByteArray.empty = ByteArray.empty from rfl, empty_isEmpty] at hj
      simp at hj
  · rw [if_neg hk, ← List.getD_eq_getElem?_getD]; exact hj
theorem Hm.at {t t' : Tr} (h : Hm t t') (k : Int) (he : (heldAt t k).toList.isEmpty = false) : (heldAt t' k).toList.isEmpty = false := h.m _ he
theorem Hm.win {t t' : Tr} (h : Hm t t') (B W : Int) : winT B W t' = winT B W t := by obtain ⟨a, b, rfl⟩ := h.e; rfl
theorem lookE_hm (es : List Er) : ∀ (c : List (Er × ByteArray)) (t : Tr), Hm t (es.foldl plookE (c, t)).2 := by
  induction es with
  | nil => intro c t; exact Hm.refl t
  | cons e es ih =>
    intro c t
    rw [List.foldl_cons]
    unfold plookE
    simp only
    cases hem : (useC c e).1.toList.isEmpty
    · simp only [Bool.false_eq_true, if_false]
      exact (Hm.hold t e.blk _ t.fails hem).trans (ih _ _)
    · simp only [if_true]
      exact ih _ _

/-- Two lists of transfers, one by one. -/
structure Pw (R : Tr → Tr → Prop) (l l' : List Tr) : Prop where
  n : l'.length = l.length
  a : ∀ (i : Nat) t t', l[i]? = some t → l'[i]? = some t' → R t t'
theorem Pw.get {R : Tr → Tr → Prop} {l l' : List Tr} (h : Pw R l l') {i : Nat} {t : Tr} (ht : l[i]? = some t) : ∃ t', l'[i]? = some t' ∧ R t t' := by
  have hi := (List.getElem?_eq_some_iff.1 ht).1
  have e : l'[i]? = some (l'[i]'(by rw [h.n]; exact hi)) := List.getElem?_eq_getElem _
  exact ⟨_, e, h.a i t _ ht e⟩
theorem Pw.old {R : Tr → Tr → Prop} {l l' : List Tr} (h : Pw R l l') {i : Nat} {t' : Tr} (ht : l'[i]? = some t') : ∃ t, l[i]? = some t ∧ R t t' := by
  have hi := (List.getElem?_eq_some_iff.1 ht).1
  have e : l[i]? = some (l[i]'(by rw [← h.n]; exact hi)) := List.getElem?_eq_getElem _
  exact ⟨_, e, h.a i _ t' e ht⟩
theorem Pw.refl {R : Tr → Tr → Prop} (hR : ∀ t, R t t) (l : List Tr) : Pw R l l := ⟨rfl, fun i t t' h1 h2 => by rw [h1] at h2; simp at h2; subst h2; exact hR t⟩
theorem Pw.trans {R S Q : Tr → Tr → Prop} {l l1 l2 : List Tr} (h : Pw R l l1) (k : Pw S l1 l2) (hq : ∀ a b c, R a b → S b c → Q a c) : Pw Q l l2 :=
  ⟨k.n.trans h.n, fun i t t' h1 h2 => by
    obtain ⟨t1, e1, r1⟩ := h.get h1
    exact hq _ _ _ r1 (k.a i t1 t' e1 h2)⟩
theorem Pw.map {R : Tr → Tr → Prop} (l : List Tr) (f : Tr → Tr) (h : ∀ t ∈ l, R t (f t)) : Pw R l (l.map f) :=
  ⟨by simp, fun i t t' h1 h2 => by
    rw [List.getElem?_map, h1] at h2
    simp at h2; subst h2
    exact h t (List.mem_of_getElem? h1)⟩
/-- The same, and the failures stay too. -/
def Hl (t t' : Tr) : Prop := Hm t t' ∧ t'.fails = t.fails
theorem Hl.refl (t : Tr) : Hl t t := ⟨Hm.refl t, rfl⟩
theorem Hl.trans {t t1 t2 : Tr} (h : Hl t t1) (k : Hl t1 t2) : Hl t t2 := ⟨h.1.trans k.1, k.2.trans h.2⟩
theorem look_hmN (s : Px) (n : Nat) : Pw Hl s.trs (plookTo s n).trs := by
  induction n with
  | zero => exact Pw.refl Hl.refl _
  | succ n ih =>
    cases ht : (plookTo s n).trs[n]? with
    | none => rw [plookTo, ht]; exact ih
    | some t =>
      rw [plookTo, ht]
      refine ⟨by simp only [List.length_set]; exact ih.n, fun i u u' h1 h2 => ?_⟩
      have h3 : ((plookTo s n).trs.set n (plookT s.blk s.win (plookTo s n).cac t).2)[i]? = some u' := h2
      rw [List.getElem?_set] at h3
      obtain ⟨v, hv, r⟩ := ih.get h1
      by_cases hi : n = i
      · subst hi
        rw [if_pos rfl, if_pos (List.getElem?_eq_some_iff.1 ht).1] at h3
        simp at h3; subst h3
        rw [ht] at hv; simp at hv; subst hv
        refine r.trans ⟨lookE_hm _ _ _, ?_⟩
        obtain ⟨h, e⟩ := plookT_tr s.blk s.win (plookTo s n).cac t
        rw [e]
      · rw [if_neg hi, hv] at h3
        simp at h3; subst h3; exact r
theorem look_hm (s : Px) : Pw Hl s.trs (plookS s).trs := look_hmN s _

/-! What is taken. -/
theorem run_low {B tot : Int} {t : Tr} (hB : 1 ≤ B) (j : Nat) : ∀ (c : Nat) (k : Int), j < c → (∀ i : Nat, i ≤ j → (heldAt t (k + i)).toList.isEmpty = false ∧ ((heldAt t (k + i)).size : Int) = blkLen tot (k + i) B) →
    tot - k * B ≤ (runT t k c).size ∨ ((j : Int) + 1) * B ≤ (runT t k c).size := by
  induction j with
  | zero =>
    intro c k hc h
    obtain ⟨c, rfl⟩ : ∃ d, c = d + 1 := ⟨c - 1, by omega⟩
    obtain ⟨h1, h2⟩ := h 0 (Nat.le_refl _)
    simp only [Int.natCast_zero, Int.add_zero] at h1 h2
    rw [show runT t k (c + 1) = if (heldAt t k).toList.isEmpty then ByteArray.empty else heldAt t k ++ runT t (k + 1) c from rfl, h1]
    simp only [Bool.false_eq_true, if_false, app_size]
    have := ba_pos _ h1
    unfold blkLen atM at h2
    simp only [Int.natCast_zero, Int.zero_add, Int.one_mul]
    split at h2
    · omega
    · split at h2 <;> omega
  | succ j ih =>
    intro c k hc h
    obtain ⟨c, rfl⟩ : ∃ d, c = d + 1 := ⟨c - 1, by omega⟩
    obtain ⟨h1, h2⟩ := h 0 (Nat.zero_le _)
    simp only [Int.natCast_zero, Int.add_zero] at h1 h2
    rw [show runT t k (c + 1) = if (heldAt t k).toList.isEmpty then ByteArray.empty else heldAt t k ++ runT t (k + 1) c from rfl, h1]
    simp only [Bool.false_eq_true, if_false, app_size]
    have hp := ba_pos _ h1
    have := ih c (k + 1) (by omega) (fun i hi => by
      have := h (i + 1) (by omega)
      rw [show k + 1 + (i : Int) = k + ((i + 1 : Nat) : Int) by push_cast; omega]; exact this)
    have e1 : (k + 1) * B = k * B + B := by rw [Int.add_mul, Int.one_mul]
    have e2 : (((j + 1 : Nat) : Int) + 1) * B = ((j : Int) + 1) * B + B := by push_cast; rw [Int.add_mul ((j : Int) + 1), Int.one_mul]
    rw [e1] at this
    rw [e2]
    unfold blkLen atM at h2
    push_cast
    generalize ((j : Int) + 1) * B = J at *
    generalize k * B = kB at *
    split at h2
    · omega
    · split at h2 <;> omega

theorem take_form {s : Px} {t : Tr} (ok : TrOk t) (hf : Fair s) (n : Int) (hn : 0 ≤ n) : ∃ tk h, (takeT s.blk s.win n t).2 = { t with taken := tk, held := h } ∧ t.taken ≤ tk ∧ tk ≤ t.hd.len := by
  by_cases hle : ((runT t (winT s.blk s.win t).1 ((winT s.blk s.win t).2 - (winT s.blk s.win t).1).toNat).size : Int) ≤ t.hd.frm + t.taken - (winT s.blk s.win t).1 * s.blk
  · rw [take_none' hle]
    exact ⟨t.taken, t.held, rfl, Int.le_refl _, ok.k1⟩
  · rw [take_some' rfl rfl rfl hle]
    obtain ⟨h, e, -⟩ := goT_held (winT s.blk s.win { t with taken := t.taken + takeN t (runT t (winT s.blk s.win t).1 ((winT s.blk s.win t).2 - (winT s.blk s.win t).1).toNat).size (t.hd.frm + t.taken - (winT s.blk s.win t).1 * s.blk) n }).1 (winT s.blk s.win { t with taken := t.taken + takeN t (runT t (winT s.blk s.win t).1 ((winT s.blk s.win t).2 - (winT s.blk s.win t).1).toNat).size (t.hd.frm + t.taken - (winT s.blk s.win t).1 * s.blk) n }).2 { t with taken := t.taken + takeN t (runT t (winT s.blk s.win t).1 ((winT s.blk s.win t).2 - (winT s.blk s.win t).1).toNat).size (t.hd.frm + t.taken - (winT s.blk s.win t).1 * s.blk) n } (winT s.blk s.win t).1 ((winT s.blk s.win t).2 - (winT s.blk s.win t).1).toNat
    have hb := takeN_bd ok (runT t (winT s.blk s.win t).1 ((winT s.blk s.win t).2 - (winT s.blk s.win t).1).toNat).size (t.hd.frm + t.taken - (winT s.blk s.win t).1 * s.blk) n (by omega) hn
    rw [e]
    exact ⟨t.taken + takeN t (runT t (winT s.blk s.win t).1 ((winT s.blk s.win t).2 - (winT s.blk s.win t).1).toNat).size (t.hd.frm + t.taken - (winT s.blk s.win t).1 * s.blk) n, h, rfl, by omega, by omega⟩
/-- A transfer that is bound and not done: its window. -/
structure Run (t : Tr) : Prop where
  l : t.lost = false
  b : t.bound = true
  k : t.taken < t.hd.len
theorem Run.win {t : Tr} (h : Run t) (B W : Int) : winT B W t = ((t.hd.frm + t.taken) / B, atM ((t.hd.frm + t.hd.len - 1) / B + 1) ((t.hd.frm + t.taken) / B + W)) := by
  unfold winT
  rw [h.l, h.b, if_neg (by simp), if_neg (by simp), if_neg (by have := h.k; omega)]
theorem Run.lt {t : Tr} (h : Run t) {B W : Int} (hB : 1 ≤ B) (hW : 1 ≤ W) : (winT B W t).1 < (winT B W t).2 := by
  rw [h.win]
  have hk := h.k
  have : (t.hd.frm + t.taken) / B ≤ (t.hd.frm + t.hd.len - 1) / B := Int.ediv_le_ediv (by omega) (by omega)
  unfold atM
  simp only
  split <;> omega
theorem Run.pos {t : Tr} (h : Run t) {B W : Int} (hB : 1 ≤ B) : (winT B W t).1 * B ≤ t.hd.frm + t.taken ∧ t.hd.frm + t.taken < (winT B W t).1 * B + B := by
  rw [h.win]
  simp only
  have h1 := Int.mul_ediv_add_emod (t.hd.frm + t.taken) B
  rw [Int.mul_comm] at h1
  have h2 := Int.emod_nonneg (t.hd.frm + t.taken) (show B ≠ 0 by omega)
  have h3 := Int.emod_lt_of_pos (t.hd.frm + t.taken) (show 0 < B by omega)
  omega
/-- All that is held up to block k is taken. -/
theorem take_more {K : Kn} {s : Px} {t : Tr} {T : ByteArray} (hf : Fair s) (hK : KnOk K s.blk) (h : TI K s.blk s.win t T) (hr : Run t) (hlen : t.hd.len ≤ 99) (j : Nat) (hj : (winT s.blk s.win t).1 + j < (winT s.blk s.win t).2)
    (hh : ∀ i : Nat, i ≤ j → (heldAt t ((winT s.blk s.win t).1 + i)).toList.isEmpty = false) :
    t.hd.len ≤ (takeT s.blk s.win 99 t).2.taken ∨ ((winT s.blk s.win t).1 + j + 1) * s.blk ≤ t.hd.frm + (takeT s.blk s.win 99 t).2.taken := by
  have hB := hf.B1
  have ok := h.ok
  have hp := hr.pos (W := s.win) hB
  have hk := hr.k
  have hhd := h.head hK hr.l hr.b
  obtain ⟨c, hc⟩ : ∃ c, c = ((winT s.blk s.win t).2 - (winT s.blk s.win t).1).toNat := ⟨_, rfl⟩
  have hlow := run_low (tot := t.hd.tot) hB j c (winT s.blk s.win t).1 (by omega) (fun i hi => ⟨hh i hi, (hK.d _ _ (h.hi.a _ (by omega) (by omega) (hh i hi))).1⟩)
  have e1 : ((winT s.blk s.win t).1 + j + 1) * s.blk = (winT s.blk s.win t).1 * s.blk + ((j : Int) + 1) * s.blk := by rw [Int.add_assoc, Int.add_mul]
  have hj1 : s.blk ≤ ((j : Int) + 1) * s.blk := by
    have : 0 ≤ (j : Int) * s.blk := Int.mul_nonneg (by omega) (by omega)
    rw [Int.add_mul, Int.one_mul]; omega
  rw [e1]
  obtain ⟨r, hr'⟩ : ∃ r, r = runT t (winT s.blk s.win t).1 c := ⟨_, rfl⟩
  obtain ⟨f, hff⟩ : ∃ f, f = t.hd.frm + t.taken - (winT s.blk s.win t).1 * s.blk := ⟨_, rfl⟩
  rw [← hr'] at hlow
  have hle : ¬ (r.size : Int) ≤ f := by omega
  rw [hc] at hr'
  rw [take_some' hr' hff rfl hle]
  obtain ⟨hd, hg, -⟩ := goT_held (winT s.blk s.win { t with taken := t.taken + takeN t r.size f 99 }).1 (winT s.blk s.win { t with taken := t.taken + takeN t r.size f 99 }).2 { t with taken := t.taken + takeN t r.size f 99 } (winT s.blk s.win t).1 ((winT s.blk s.win t).2 - (winT s.blk s.win t).1).toNat
  simp only
  rw [hg]
  show t.hd.len ≤ t.taken + takeN t r.size f 99 ∨ _ ≤ t.hd.frm + (t.taken + takeN t r.size f 99)
  have hN : takeN t r.size f 99 = t.hd.len - t.taken ∨ takeN t r.size f 99 = r.size - f := by
    unfold takeN atM
    have := ok.k0
    split
    · split <;> omega
    · split <;> omega
  generalize ((j : Int) + 1) * s.blk = J at *
  generalize (winT s.blk s.win t).1 * s.blk = A at *
  omega
end Go.Proofs.Ytjhihliciadipaa
