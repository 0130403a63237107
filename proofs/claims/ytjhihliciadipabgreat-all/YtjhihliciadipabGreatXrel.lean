import Derived.Test.YtjhihliciadipabGreatRefS
import Derived.Test.YtjhihliciadipabGreatPread
import Derived.Test.YtjhihliciadipabGreatPcall
import Derived.Test.YtjhihliciadipabGreatPheld
import Derived.Test.YtjhihliciadipabGreatPask
import Derived.Test.YtjhihliciadipabGreatPnew
set_option linter.unusedVariables false
set_option linter.unusedSimpArgs false
set_option linter.unnecessarySimpa false
namespace Go.Proofs.YtjhihliciadipabGreat
open Go.RowKit

/-! The cache: the document's, with the times of use, and the program's, in the order of use. -/
def kpE (x : Kp) : Er := ⟨x.path, x.tag, x.tot, x.k⟩
def kpP (x : Kp) : Er × ByteArray := (kpE x, x.body)
structure CRel (cac : List (Er × ByteArray)) (c : List Kp) (clock : Int) : Prop where
  ex : ∃ L : List Kp, L.Perm c ∧ L.Pairwise (fun x y => x.when < y.when) ∧ (∀ x ∈ L, 1 ≤ x.when ∧ x.when ≤ clock) ∧ cac = L.map kpP
  un : c.Pairwise (fun x y => kpE x ≠ kpE y)

theorem perm_erase (l : List Kp) (i : Nat) (x : Kp) (h : l[i]? = some x) : (x :: l.eraseIdx i).Perm l := by
  induction l generalizing i with
  | nil => simp at h
  | cons a l ih =>
    cases i with
    | zero => simp at h; subst h; simp
    | succ i =>
      simp only [List.getElem?_cons_succ] at h
      simp only [List.eraseIdx_cons_succ]
      exact (List.Perm.swap a x _).trans (List.Perm.cons a (ih i h))
theorem perm_erase2 {l m : List Kp} (hp : l.Perm m) {i j : Nat} {x : Kp} (hi : l[i]? = some x) (hj : m[j]? = some x) : (l.eraseIdx i).Perm (m.eraseIdx j) :=
  ((perm_erase l i x hi).trans (hp.trans (perm_erase m j x hj).symm)).cons_inv
theorem perm_set (l : List Kp) (i : Nat) (x y : Kp) (h : l[i]? = some x) : (l.set i y).Perm (l.eraseIdx i ++ [y]) := by
  induction l generalizing i with
  | nil => simp at h
  | cons a l ih =>
    cases i with
    | zero => simp only [List.set_cons_zero, List.eraseIdx_cons_zero]; exact (List.perm_append_singleton y l).symm
    | succ i =>
      simp only [List.getElem?_cons_succ] at h
      simp only [List.set_cons_succ, List.eraseIdx_cons_succ, List.cons_append]
      exact List.Perm.cons a (ih i h)
theorem un_perm {l m : List Kp} (hp : l.Perm m) (h : l.Pairwise (fun x y => kpE x ≠ kpE y)) : m.Pairwise (fun x y => kpE x ≠ kpE y) :=
  (hp.pairwise_iff (fun h => Ne.symm h)).1 h
theorem pw_sub {l m : List Kp} {R : Kp → Kp → Prop} (hs : m.Sublist l) (h : l.Pairwise R) : m.Pairwise R := List.Pairwise.sublist hs h

theorem usedC_eq (l : List Kp) : usedC (l.map kpP) = usedL l := by
  unfold usedC usedL sumSz
  have : ∀ (l : List Kp) (a : Int), (l.map kpP).foldl (fun n x => n + (x.2.size : Int)) a = a + ((l.map Kp.body).map (fun b => (b.size : Int))).sum := by
    intro l
    induction l with
    | nil => intro a; simp
    | cons x l ih => intro a; simp only [List.map_cons, List.foldl_cons, List.sum_cons]; rw [ih]; simp only [kpP]; omega
  rw [this]; omega
theorem usedL_perm {l m : List Kp} (h : l.Perm m) : usedL l = usedL m := by
  unfold usedL sumSz
  induction h with
  | nil => rfl
  | cons x _ ih => simp only [List.map_cons, List.sum_cons]; omega
  | swap x y l => simp only [List.map_cons, List.sum_cons]; omega
  | trans _ _ h1 h2 => omega

/-- Where the block with a name is. -/
theorem findC_map (L : List Kp) (e : Er) : findC (L.map kpP) e = L.findIdx (fun x => kpE x == e) := by
  unfold findC
  induction L with
  | nil => rfl
  | cons x L ih => simp only [List.map_cons, List.findIdx_cons]; rw [ih]; rfl
theorem map_eraseIdx (L : List Kp) (i : Nat) : (L.map kpP).eraseIdx i = (L.eraseIdx i).map kpP := by
  induction L generalizing i with
  | nil => rfl
  | cons x L ih => cases i <;> simp [ih]

/-- A sorted list is read by its times. -/
theorem ent_sorted (L c : List Kp) (n : Nat) (hp : L.Perm c) (hs : L.Pairwise (fun x y => x.when < y.when)) (h1 : ∀ x ∈ L, 1 ≤ x.when) : entTo c n = L.filter (fun x => decide (x.when ≤ (n : Int))) := by
  induction n with
  | zero =>
    simp only [entTo]
    symm; rw [List.filter_eq_nil_iff]; intro x hx; have := h1 x hx; simp; omega
  | succ n ih =>
    rw [entTo, ih]
    have hone : c.filter (atWhen n) = L.filter (atWhen n) := by
      have hpf : (L.filter (atWhen n)).Perm (c.filter (atWhen n)) := hp.filter _
      have hlen : (L.filter (atWhen n)).length ≤ 1 := by
        clear ih hpf hp h1
        induction L with
        | nil => simp
        | cons x L ihL =>
          rw [List.pairwise_cons] at hs
          by_cases hx : atWhen n x = true
          · have : L.filter (atWhen n) = [] := by
              rw [List.filter_eq_nil_iff]; intro y hy hn
              have h2 := hs.1 y hy
              unfold atWhen at hx hn; simp at hx hn; omega
            rw [List.filter_cons_of_pos hx, this]; simp
          · rw [List.filter_cons_of_neg hx]; exact ihL hs.2
      match hL : L.filter (atWhen n), hlen with
      | [], _ => rw [hL] at hpf; exact hpf.nil_eq.symm
      | [a], _ => rw [hL] at hpf; exact List.perm_singleton.1 hpf.symm
      | a :: b :: t, hle => simp at hle
    rw [hone]
    clear ih hone hp
    induction L with
    | nil => rfl
    | cons x L ihL =>
      rw [List.pairwise_cons] at hs
      have h1x := h1 x (List.mem_cons_self ..)
      have ihL := ihL hs.2 (fun y hy => h1 y (List.mem_cons_of_mem _ hy))
      by_cases ha : x.when ≤ (n : Int)
      · have hb : atWhen n x = false := by unfold atWhen; simp; omega
        have hc : x.when ≤ ((n + 1 : Nat) : Int) := by omega
        rw [List.filter_cons_of_pos (by simpa using ha), List.filter_cons_of_neg (by simp [hb]), List.filter_cons_of_pos (by simpa using hc), List.cons_append, ihL]
      · have h0 : L.filter (fun x => decide (x.when ≤ (n : Int))) = [] := by
          rw [List.filter_eq_nil_iff]; intro y hy; have := hs.1 y hy; simp; omega
        by_cases hb : atWhen n x = true
        · have hc : x.when ≤ ((n + 1 : Nat) : Int) := by unfold atWhen at hb; simp at hb; omega
          rw [List.filter_cons_of_neg (by simpa using ha), h0, List.filter_cons_of_pos hb, List.filter_cons_of_pos (by simpa using hc), ← ihL, h0]; rfl
        · have hc : ¬ x.when ≤ ((n + 1 : Nat) : Int) := by unfold atWhen at hb; simp at hb; omega
          rw [List.filter_cons_of_neg (by simpa using ha), List.filter_cons_of_neg hb, List.filter_cons_of_neg (by simpa using hc), ihL]
theorem CRel.ent {cac : List (Er × ByteArray)} {c : List Kp} {clock : Int} (h : CRel cac c clock) (h0 : 0 ≤ clock) : (entTo c clock.toNat).map kpP = cac := by
  obtain ⟨L, hp, hs, hw, rfl⟩ := h.ex
  rw [ent_sorted L c _ hp hs (fun x hx => (hw x hx).1), List.filter_eq_self.2 (fun x hx => by have := (hw x hx).2; simp; omega)]
theorem CRel.used {cac : List (Er × ByteArray)} {c : List Kp} {clock : Int} (h : CRel cac c clock) : usedC cac = usedL c := by
  obtain ⟨L, hp, hs, hw, rfl⟩ := h.ex
  rw [usedC_eq, usedL_perm hp]
theorem CRel.nil (clock : Int) : CRel [] [] clock := ⟨⟨[], List.Perm.refl _, List.Pairwise.nil, by simp, rfl⟩, List.Pairwise.nil⟩

theorem idx_of_mem {L : List Kp} {x : Kp} (h : x ∈ L) : ∃ i : Nat, L[i]? = some x := List.mem_iff_getElem?.1 h
theorem find_uniq {L : List Kp} (hu : L.Pairwise (fun x y => kpE x ≠ kpE y)) {i : Nat} {x : Kp} (h : L[i]? = some x) {e : Er} (he : kpE x = e) : L.findIdx (fun x => kpE x == e) = i := by
  induction L generalizing i with
  | nil => simp at h
  | cons a L ih =>
    rw [List.pairwise_cons] at hu
    rw [List.findIdx_cons]
    cases i with
    | zero => simp at h; subst h; simp [he]
    | succ i =>
      simp only [List.getElem?_cons_succ] at h
      have hne : (kpE a == e) = false := by simp; rw [← he]; exact hu.1 x (List.mem_of_getElem? h)
      rw [hne, ih hu.2 h]; rfl

/-- A block that is there is used. -/
theorem CRel.use {cac : List (Er × ByteArray)} {c : List Kp} {clock : Int} (h : CRel cac c clock) {j : Nat} {x : Kp} (hj : c[j]? = some x) :
    useC cac (kpE x) = (x.body, (useC cac (kpE x)).2) ∧ CRel (useC cac (kpE x)).2 (c.set j { x with when := clock + 1 }) (clock + 1) := by
  obtain ⟨L, hp, hs, hw, rfl⟩ := h.ex
  obtain ⟨i, hi⟩ := idx_of_mem (hp.mem_iff.2 (List.mem_of_getElem? hj))
  have huL : L.Pairwise (fun x y => kpE x ≠ kpE y) := un_perm hp.symm h.un
  have hf : findC (L.map kpP) (kpE x) = i := by rw [findC_map]; exact find_uniq huL hi rfl
  have hu : useC (L.map kpP) (kpE x) = (x.body, (L.eraseIdx i ++ [{ x with when := clock + 1 }]).map kpP) := by
    unfold useC
    rw [hf, List.getElem?_map, hi, map_eraseIdx, List.map_append]
    rfl
  rw [hu]
  refine ⟨rfl, ⟨L.eraseIdx i ++ [{ x with when := clock + 1 }], ?_, ?_, ?_, rfl⟩, ?_⟩
  · exact (List.Perm.append_right _ (perm_erase2 hp hi hj)).trans (perm_set c j x _ hj).symm
  · rw [List.pairwise_append]
    refine ⟨pw_sub (List.eraseIdx_sublist ..) hs, by simp, ?_⟩
    intro a ha b hb
    simp at hb; subst hb
    have := (hw a ((List.eraseIdx_sublist ..).subset ha)).2
    simp; omega
  · intro a ha
    rcases List.mem_append.1 ha with h1 | h1
    · have := hw a ((List.eraseIdx_sublist ..).subset h1); omega
    · simp at h1; subst h1
      have := hw x (List.mem_of_getElem? hi)
      simp; omega
  · refine un_perm (perm_set c j x _ hj).symm ?_
    rw [List.pairwise_append]
    refine ⟨pw_sub (List.eraseIdx_sublist ..) h.un, by simp, ?_⟩
    intro a ha b hb
    simp at hb; subst hb
    have hpx := un_perm (perm_erase c j x hj).symm h.un
    rw [List.pairwise_cons] at hpx
    exact (hpx.1 a ha).symm
/-- A block that is not there. -/
theorem CRel.miss {cac : List (Er × ByteArray)} {c : List Kp} {clock : Int} (h : CRel cac c clock) {e : Er} (hn : ∀ x ∈ c, kpE x ≠ e) : useC cac e = (ByteArray.empty, cac) := by
  obtain ⟨L, hp, hs, hw, rfl⟩ := h.ex
  have hf : findC (L.map kpP) e = L.length := by
    rw [findC_map, List.findIdx_eq_length]
    intro x hx; simp; exact hn x (hp.mem_iff.1 hx)
  unfold useC
  rw [hf, List.getElem?_eq_none (by simp)]

/-- The block that was not used for the longest time. -/
theorem old_min (c : List Kp) (n : Nat) (hn : n ≤ c.length) (x : Kp) (j : Nat) (hj : j < n) (hx : c[j]? = some x) (hmin : ∀ (i : Nat) (y : Kp), c[i]? = some y → i ≠ j → x.when < y.when) : oldTo c n = j := by
  induction n with
  | zero => omega
  | succ n ih =>
    simp only [oldTo]
    have hwx : whenAt c j = x.when := by unfold whenAt; rw [hx]; rfl
    have hwi : ∀ i, i < c.length → i ≠ j → x.when < whenAt c i := by
      intro i hi hne
      have : c[i]? = some c[i] := by simp [hi]
      have := hmin i _ this hne
      unfold whenAt; simp [hi]; exact this
    by_cases hjn : j = n
    · subst hjn
      rcases Nat.eq_zero_or_pos j with h0 | h0
      · subst h0; simp [oldTo]
      · have h1 := (oldTo_lt c j).2 h0
        rw [if_pos]
        rw [hwx]; exact hwi _ (by omega) (by omega)
    · rw [ih (by omega) (by omega), if_neg]
      have := hwi n (by omega) (by omega)
      rw [hwx]; omega
theorem old_head {L c : List Kp} {x : Kp} (hp : (x :: L).Perm c) (hs : (x :: L).Pairwise (fun x y => x.when < y.when)) : c[oldTo c c.length]? = some x := by
  obtain ⟨j, hj⟩ := idx_of_mem (hp.mem_iff.1 (List.mem_cons_self ..))
  have hjl := (List.getElem?_eq_some_iff.1 hj).1
  rw [List.pairwise_cons] at hs
  rw [old_min c c.length (Nat.le_refl _) x j hjl hj]
  · exact hj
  · intro i y hy hne
    have h1 : L.Perm (c.eraseIdx j) := (hp.trans (perm_erase c j x hj).symm).cons_inv
    have h2 : y ∈ c.eraseIdx j := by
      rw [List.mem_eraseIdx_iff_getElem?]
      exact ⟨i, hne, hy⟩
    exact hs.1 y (h1.mem_iff.2 h2)
theorem evict_rel (cap : Int) (h0 : 0 ≤ cap) (n : Nat) (L c : List Kp) (clock : Int) (hp : L.Perm c) (hs : L.Pairwise (fun x y => x.when < y.when)) (hw : ∀ x ∈ L, 1 ≤ x.when ∧ x.when ≤ clock) (hu : c.Pairwise (fun x y => kpE x ≠ kpE y)) (hn : c.length ≤ n) :
    CRel (evictC cap (L.map kpP)) (evict cap n c) clock := by
  induction n generalizing L c with
  | zero =>
    have hc : c = [] := by cases c <;> simp_all
    subst hc
    have : L = [] := hp.eq_nil
    subst this
    exact CRel.nil _
  | succ n ih =>
    cases L with
    | nil =>
      have hc : c = [] := hp.symm.eq_nil
      subst hc
      have : evict cap (n + 1) [] = [] := by
        simp only [evict]
        rw [if_neg]; unfold usedL sumSz; simp; omega
      rw [this]; exact CRel.nil _
    | cons x L =>
      have hus : usedC ((x :: L).map kpP) = usedL c := by rw [usedC_eq, usedL_perm hp]
      simp only [List.map_cons] at hus
      simp only [List.map_cons, evictC, evict, hus]
      split
      · have ho := old_head hp hs
        have hpe : L.Perm (c.eraseIdx (oldTo c c.length)) := (hp.trans (perm_erase c _ x ho).symm).cons_inv
        refine ih L _ hpe (List.pairwise_cons.1 hs).2 (fun y hy => hw y (List.mem_cons_of_mem _ hy)) (pw_sub (List.eraseIdx_sublist ..) hu) ?_
        have := (List.getElem?_eq_some_iff.1 ho).1
        rw [List.length_eraseIdx]; split <;> omega
      · exact ⟨⟨x :: L, hp, hs, hw, rfl⟩, hu⟩

theorem filter_uniq {L : List Kp} (hu : L.Pairwise (fun x y => kpE x ≠ kpE y)) (e : Er) : L.filter (fun x => !(kpE x == e)) = L.eraseIdx (L.findIdx (fun x => kpE x == e)) := by
  induction L with
  | nil => rfl
  | cons a L ih =>
    rw [List.pairwise_cons] at hu
    rw [List.findIdx_cons]
    by_cases h : kpE a = e
    · have h1 : (kpE a == e) = true := by simpa using h
      have h2 : L.filter (fun x => !(kpE x == e)) = L := List.filter_eq_self.2 (fun y hy => by simp; rw [← h]; exact (hu.1 y hy).symm)
      rw [List.filter_cons_of_neg (by simp [h]), h2, h1]; rfl
    · have h1 : (kpE a == e) = false := by simpa using h
      rw [List.filter_cons_of_pos (by simp [h]), h1, ih hu.2]; rfl
/-- A block is laid into the cache. -/
theorem CRel.put {cac : List (Er × ByteArray)} {c : List Kp} {clock : Int} (h : CRel cac c clock) (cap : Int) (h0 : 0 ≤ cap) (hc0 : 0 ≤ clock) (y : Kp) (hy : y.when = clock + 1) (n : Nat) (hn : n = (c.filter (fun x => !(kpE x == kpE y)) ++ [y]).length) :
    CRel (evictC cap (cac.eraseIdx (findC cac (kpE y)) ++ [(kpE y, y.body)])) (evict cap n (c.filter (fun x => !(kpE x == kpE y)) ++ [y])) (clock + 1) := by
  obtain ⟨L, hp, hs, hw, rfl⟩ := h.ex
  have huL : L.Pairwise (fun x y => kpE x ≠ kpE y) := un_perm hp.symm h.un
  have e1 : (L.map kpP).eraseIdx (findC (L.map kpP) (kpE y)) ++ [(kpE y, y.body)] = (L.filter (fun x => !(kpE x == kpE y)) ++ [y]).map kpP := by
    rw [findC_map, map_eraseIdx, filter_uniq huL, List.map_append]; rfl
  rw [e1]
  refine evict_rel cap h0 n _ _ _ (List.Perm.append_right _ (hp.filter _)) ?_ ?_ ?_ (by omega)
  · rw [List.pairwise_append]
    refine ⟨pw_sub List.filter_sublist hs, by simp, ?_⟩
    intro a ha b hb
    simp at hb; subst hb
    have := (hw a (List.filter_sublist.subset ha)).2
    omega
  · intro a ha
    rcases List.mem_append.1 ha with h1 | h1
    · have := hw a (List.filter_sublist.subset h1); omega
    · simp at h1; subst h1; omega
  · rw [List.pairwise_append]
    refine ⟨pw_sub List.filter_sublist h.un, by simp, ?_⟩
    intro a ha b hb
    simp at hb; subst hb
    have := (List.mem_filter.1 ha).2
    simpa using this

/-! A range, as the document reads it and as the program does. -/
theorem cnt_iv (x : Spn) (total a b : Int) (ha : 0 ≤ a) (k : Nat) (h : ∀ i : Nat, i < k → takesL x i total = (decide (a ≤ (i : Int)) && decide ((i : Int) < b))) :
    cntTo x total k = if atM b k ≤ a then (0, 0) else (a, atM b k - a) := by
  induction k with
  | zero =>
    have : atM b ((0 : Nat) : Int) ≤ a := by unfold atM; split <;> omega
    rw [if_pos this]; rfl
  | succ k ih =>
    have ih := ih (fun i hi => h i (by omega))
    have hk := h k (by omega)
    simp only [cntTo]
    rw [hk, ih]
    unfold atM
    by_cases h1 : a ≤ (k : Int)
    · by_cases h2 : (k : Int) < b
      · have e1 : ((k : Int) < b) = True := by simpa using h2
        simp only [h1, h2, decide_true, Bool.and_self, if_true]
        by_cases h3 : (k : Int) ≤ a
        · have e4 : ¬ (((k + 1 : Nat) : Int) ≤ a) := by omega
          have hka : (k : Int) = a := by omega
          by_cases h5 : ((k + 1 : Nat) : Int) < b
          · simp only [h3, h5, e4, if_true, if_false]; simp; omega
          · have hb : b = a + 1 := by omega
            have e6 : ¬ (b ≤ a) := by omega
            simp only [h3, h5, e6, if_true, if_false]; simp; omega
        · have e4 : ¬ (((k + 1 : Nat) : Int) ≤ a) := by omega
          have e5 : ¬ ((k : Int) - a = 0) := by omega
          by_cases h5 : ((k + 1 : Nat) : Int) < b
          · simp only [h3, h5, e4, e5, if_true, if_false]; simp; omega
          · have e6 : ¬ (b ≤ a) := by omega
            have hb : b = (k : Int) + 1 := by omega
            simp only [h3, h5, e6, e5, if_true, if_false]; simp; omega
      · have e5 : ¬ (((k + 1 : Nat) : Int) < b) := by omega
        simp only [h1, h2, e5, decide_true, decide_false, Bool.and_false, if_false]
        simp
    · simp only [h1, decide_false, Bool.false_and]
      have e1 : (if (k : Int) < b then (k : Int) else b) ≤ a := by split <;> omega
      have e2 : (if ((k + 1 : Nat) : Int) < b then ((k + 1 : Nat) : Int) else b) ≤ a := by split <;> omega
      rw [if_pos e1, if_pos e2]; simp
def statS (sp : Spn) (n : Int) : Int := if sp.counts = false then 200 else if n = 0 then 416 else 206
def RngRel (k f l : Int) (sp : Spn) : Prop := ∀ tag tot : Int, 0 ≤ tot → tot ≤ 1000 → headR k f l tag tot = ⟨statS sp (cntTo sp tot tot.toNat).2, tag, tot, (cntTo sp tot tot.toNat).1, (cntTo sp tot tot.toNat).2⟩

theorem rng_all (sp : Spn) (h : sp.counts = false) (f l : Int) : RngRel 0 f l sp := by
  intro tag tot h0 h1
  have hc := cnt_iv sp tot 0 tot (by omega) tot.toNat (fun i hi => by
    have : takesL sp i tot = true := by unfold takesL; rw [if_pos h]
    rw [this]; symm; simp; omega)
  have hat : atM tot (tot.toNat : Int) = tot := by unfold atM; split <;> omega
  rw [hat] at hc
  have hh : headR 0 f l tag tot = ⟨200, tag, tot, 0, tot⟩ := by unfold headR; simp
  rw [hh, hc]
  unfold statS
  by_cases hz : tot ≤ 0
  · have : tot = 0 := by omega
    subst this
    simp [h]
  · rw [if_neg hz]; simp [h]
theorem rng_part (sp : Spn) (h : sp.counts = true) (kind f l a b : Int) (ha : 0 ≤ a) (tag tot : Int) (h0 : 0 ≤ tot) (hh : headR kind f l tag tot = partH tag tot a b)
    (ht : ∀ i : Nat, i < tot.toNat → takesL sp i tot = (decide (a ≤ (i : Int)) && decide ((i : Int) < b))) :
    headR kind f l tag tot = ⟨statS sp (cntTo sp tot tot.toNat).2, tag, tot, (cntTo sp tot tot.toNat).1, (cntTo sp tot tot.toNat).2⟩ := by
  have hc := cnt_iv sp tot a b ha tot.toNat ht
  have hat : atM b (tot.toNat : Int) = atM b tot := by unfold atM; rw [Int.toNat_of_nonneg h0]
  rw [hat] at hc
  rw [hh, hc]
  unfold partH statS
  by_cases hz : atM b tot ≤ a
  · rw [if_pos hz, if_pos hz]; simp [h]
  · rw [if_neg hz, if_neg hz]
    have : ¬ (atM b tot - a = 0) := by omega
    simp [h, this]

theorem isDig_eq (c : UInt8) : isDig c = digP c := by unfold isDig digP; congr 1 <;> simp <;> omega
theorem all_dig (l : List UInt8) : l.all isDig = l.all digP := by congr 1; funext c; exact isDig_eq c
theorem val_eq (s : ByteArray) (h : digitsL s = true) : valueL s = valP s.data.toList := by
  unfold digitsL at h
  simp only [Bool.and_eq_true, decide_eq_true_eq] at h
  unfold valueL valP
  have hl : s.data.toList.length ≤ 6 := by simp; have := h.2; omega
  have hd := h.1
  generalize s.data.toList = l at *
  have key : ∀ (l : List UInt8) (v : Int) (k : Nat), 0 ≤ v → v < 10 ^ k → k + l.length ≤ 6 → l.all isDig = true → l.foldl valStep v = l.foldl (fun n c => n * 10 + ((c.toNat : Int) - 48)) v := by
    intro l
    induction l with
    | nil => intro v k _ _ _ _; rfl
    | cons c l ih =>
      intro v k h0 h1 hk ha
      simp only [List.all_cons, Bool.and_eq_true] at ha
      simp only [List.length_cons] at hk
      have hc : 48 ≤ c.toNat ∧ c.toNat ≤ 57 := by have := ha.1; unfold isDig at this; simp at this; omega
      have h10 : (10 : Int) ^ k ≤ 1000000 := by
        have : k = 0 ∨ k = 1 ∨ k = 2 ∨ k = 3 ∨ k = 4 ∨ k = 5 ∨ k = 6 := by omega
        rcases this with rfl | rfl | rfl | rfl | rfl | rfl | rfl <;> decide
      have hs : valStep v c = v * 10 + ((c.toNat : Int) - 48) := by
        unfold valStep
        rw [Go.IntWalk.wrap64_in (10 * v) (by omega), Go.IntWalk.wrap64_in (10 * v + c.toNat) (by omega), Go.IntWalk.wrap64_in _ (by omega)]; omega
      simp only [List.foldl_cons]
      rw [hs]
      exact ih _ (k + 1) (by omega) (by rw [Int.pow_succ]; omega) (by omega) ha.2
  exact key l 0 0 (by omega) (by simp) (by omega) hd
theorem dig_ok (s : ByteArray) : digitsL s = (okP s.data.toList || s.toList.isEmpty) := by
  rw [emptyL]
  unfold digitsL okP
  rw [all_dig]
  have hs : s.size = s.data.toList.length := by simp
  rw [hs]
  cases hl : s.data.toList with
  | nil => simp
  | cons a l =>
    simp
    rw [Bool.eq_iff_iff]
    simp
    constructor
    · rintro ⟨h1, h2⟩; exact ⟨by omega, h1⟩
    · rintro ⟨h1, h2⟩; exact ⟨h2, by omega⟩
theorem ok_ne {s : ByteArray} (h : okP s.data.toList = true) : s.toList.isEmpty = false := by
  rw [emptyL]
  cases hl : s.data.toList with
  | nil => rw [hl] at h; simp [okP] at h
  | cons a l => simp
theorem val_num {s : ByteArray} (h : okP s.data.toList = true) : valueL s = numP s.data.toList := by
  rw [val_eq s (by rw [dig_ok, h]; rfl)]; unfold numP; rw [if_pos h]

/-- The two sides of the sign. -/
theorem betw_rel (f u : ByteArray) : RngRel (betwP f.data.toList u.data.toList).1 (betwP f.data.toList u.data.toList).2.1 (betwP f.data.toList u.data.toList).2.2 (if readBad f u = true then noSpn else ⟨true, f, u⟩) := by
  have hbf := numP_bd f.data.toList
  have hbu := numP_bd u.data.toList
  have hf := dig_ok f
  have hu := dig_ok u
  by_cases hof : okP f.data.toList = true
  · have hfe := ok_ne hof
    have hvf := val_num hof
    rw [hof] at hf
    by_cases hou : okP u.data.toList = true
    · have hue := ok_ne hou
      have hvu := val_num hou
      rw [hou] at hu
      by_cases hle : numP f.data.toList ≤ numP u.data.toList
      · have hb : readBad f u = false := by unfold readBad; rw [hf, hu, hfe, hue, hvf, hvu]; simp; omega
        have hp : betwP f.data.toList u.data.toList = (1, numP f.data.toList, numP u.data.toList) := by unfold betwP; rw [if_pos ⟨hof, hou, hle⟩]
        rw [hb, hp, if_neg (by simp)]
        intro tag tot h0 h1
        refine rng_part _ rfl _ _ _ (numP f.data.toList) (numP u.data.toList + 1) hbf.1 tag tot h0 rfl (fun i hi => ?_)
        unfold takesL
        simp only [hfe, hue, hvf, hvu]
        rw [Bool.eq_iff_iff]
        simp
        omega
      · have hb : readBad f u = true := by unfold readBad; rw [hf, hu, hfe, hue, hvf, hvu]; simp; omega
        have hune : ¬ (u.data.toList = []) := by rw [emptyL] at hue; simpa using hue
        have hfne : ¬ (f.data.toList = []) := by rw [emptyL] at hfe; simpa using hfe
        have hp : betwP f.data.toList u.data.toList = (0, 0, 0) := by unfold betwP; rw [if_neg (fun h => hle h.2.2), if_neg (fun h => hune h.2), if_neg (fun h => hfne h.1)]
        rw [hb, hp]
        exact rng_all _ rfl _ _
    · by_cases hue : u.toList.isEmpty = true
      · have hun : u.data.toList = [] := by rw [emptyL] at hue; simpa using hue
        have hb : readBad f u = false := by unfold readBad; rw [hf, hu, hfe, hue]; simp
        have hp : betwP f.data.toList u.data.toList = (2, numP f.data.toList, 0) := by unfold betwP; rw [if_neg (fun h => hou h.2.1), if_pos ⟨hof, hun⟩]
        rw [hb, hp, if_neg (by simp)]
        intro tag tot h0 h1
        refine rng_part _ rfl _ _ _ (numP f.data.toList) tot hbf.1 tag tot h0 rfl (fun i hi => ?_)
        unfold takesL
        simp only [hfe, hue, hvf]
        simp
        omega
      · have hb : readBad f u = true := by unfold readBad; rw [hu]; simp [hue, hou]
        have hune : ¬ (u.data.toList = []) := by rw [emptyL] at hue; simpa using hue
        have hfne : ¬ (f.data.toList = []) := by rw [emptyL] at hfe; simpa using hfe
        have hp : betwP f.data.toList u.data.toList = (0, 0, 0) := by unfold betwP; rw [if_neg (fun h => hou h.2.1), if_neg (fun h => hune h.2), if_neg (fun h => hfne h.1)]
        rw [hb, hp]
        exact rng_all _ rfl _ _
  · by_cases hfe : f.toList.isEmpty = true
    · have hfn : f.data.toList = [] := by rw [emptyL] at hfe; simpa using hfe
      by_cases hou : okP u.data.toList = true
      · have hue := ok_ne hou
        have hvu := val_num hou
        have hb : readBad f u = false := by unfold readBad; rw [hf, hu, hfe, hue, hou]; simp
        have hp : betwP f.data.toList u.data.toList = (3, 0, numP u.data.toList) := by unfold betwP; rw [if_neg (fun h => hof h.1), if_neg (fun h => hof h.1), if_pos ⟨hfn, hou⟩]
        rw [hb, hp, if_neg (by simp)]
        intro tag tot h0 h1
        refine rng_part _ rfl _ _ _ (tot - atM (numP u.data.toList) tot) tot (by unfold atM; split <;> omega) tag tot h0 rfl (fun i hi => ?_)
        unfold takesL
        simp only [hfe, hvu]
        have hi' : (i : Int) < tot := by omega
        simp [hi']
        unfold atM; split <;> omega
      · have hb : readBad f u = true := by
          unfold readBad; rw [hu, hfe]
          cases hue : u.toList.isEmpty <;> simp [hou]
        have hp : betwP f.data.toList u.data.toList = (0, 0, 0) := by unfold betwP; rw [if_neg (fun h => hof h.1), if_neg (fun h => hof h.1), if_neg (fun h => hou h.2)]
        rw [hb, hp]
        exact rng_all _ rfl _ _
    · have hb : readBad f u = true := by unfold readBad; rw [hf]; simp [hof, hfe]
      have hfne : ¬ (f.data.toList = []) := by rw [emptyL] at hfe; simpa using hfe
      have hp : betwP f.data.toList u.data.toList = (0, 0, 0) := by unfold betwP; rw [if_neg (fun h => hof h.1), if_neg (fun h => hof h.1), if_neg (fun h => hfne h.1)]
      rw [hb, hp]
      exact rng_all _ rfl _ _

theorem findIdx?_take {α : Type} (p : α → Bool) (l : List α) (n : Nat) : (l.take n).findIdx? p = (l.findIdx? p).bind (fun i => if i < n then some i else none) := by
  induction l generalizing n with
  | nil => simp
  | cons a l ih =>
    cases n with
    | zero => simp
    | succ n =>
      rw [List.take_succ_cons, List.findIdx?_cons, List.findIdx?_cons]
      by_cases h : p a = true
      · simp [h]
      · simp only [h]
        simp only [Bool.false_eq_true, if_false]
        rw [ih n]
        cases hh : l.findIdx? p with
        | none => rfl
        | some i => simp
theorem read_rel (s : ByteArray) : RngRel (readP s).1 (readP s).2.1 (readP s).2.2 (readL s) := by
  by_cases h6 : s.size < 6
  · rw [readP_no (Or.inl h6)]; unfold readL; rw [if_pos h6]; exact rng_all _ rfl _ _
  · unfold readL
    rw [if_neg h6]
    cases hp : ((s.extract 0 6).toList == [98, 121, 116, 101, 115, 61])
    · rw [readP_no (Or.inr hp)]; simp only [Bool.false_eq_true, if_false]; exact rng_all _ rfl _ _
    · rw [readP_yes h6 hp, if_pos rfl]
      generalize s.extract 6 s.size = t
      have hd : dashP t = if 7 ≤ signL t then -1 else signL t := by
        unfold dashP signL
        rw [findIdx?_take]
        cases hf : t.data.toList.findIdx? (fun c => c.toNat == 45) with
        | none => simp
        | some i =>
          simp only [Option.bind_some]
          by_cases hi : i < 7
          · have : ¬ ((7 : Int) ≤ (i : Int)) := by omega
            rw [if_pos hi, if_neg this]
          · have : (7 : Int) ≤ (i : Int) := by omega
            rw [if_neg hi, if_pos this]
      unfold read2
      by_cases hn : signL t < 0
      · rw [if_pos hn]
        have : dashP t < 0 := by rw [hd]; split <;> omega
        rw [if_pos this]; exact rng_all _ rfl _ _
      · rw [if_neg hn]
        obtain ⟨k, hk⟩ := Int.eq_ofNat_of_zero_le (show 0 ≤ signL t by omega)
        have hkt : k < t.size := by
          unfold signL at hk
          split at hk
          · rename_i i hi
            have := (List.findIdx?_eq_some_iff_getElem.1 hi).1
            simp at this hk; omega
          · omega
        by_cases h7 : 7 ≤ signL t
        · have hdn : dashP t < 0 := by rw [hd, if_pos h7]; omega
          rw [if_pos hdn]
          have hbad : readBad (t.extract 0 (signL t).toNat) (t.extract ((signL t).toNat + 1) t.size) = true := by
            have : digitsL (t.extract 0 (signL t).toNat) = false := by
              unfold digitsL
              rw [Bool.and_eq_false_iff]; right
              rw [decide_eq_false_iff_not]
              have : (t.extract 0 (signL t).toNat).size = k := by rw [hk]; simp; omega
              rw [this]; omega
            unfold readBad; rw [this]; rfl
          rw [if_pos hbad]; exact rng_all _ rfl _ _
        · have hdn : dashP t = k := by rw [hd, if_neg h7, hk]
          have hge : ¬ ((k : Int) < 0) := by omega
          rw [hdn, if_neg hge, hk]
          have := betw_rel (t.extract 0 k) (t.extract (k + 1) t.size)
          rw [ext_list t 0 k (by omega), ext_list t (k + 1) t.size (Nat.le_refl _)] at this
          have e2 : t.data.toList.take t.size = t.data.toList := List.take_of_length_le (by simp)
          rw [e2] at this
          simpa using this

/-! One transfer: the document's and the program's. -/
def hdL (m : Mv) : Hd := ⟨statL m, m.tag, m.tot, fromL m, lenL m⟩
def hdOf (m : Mv) : Hd := if m.lost = true ∧ m.cut = false then ⟨502, 0, 0, 0, 0⟩ else if m.tag = 0 then ⟨0, 0, 0, 0, 0⟩ else hdL m
structure HRel (wl : List Int) (held has : List ByteArray) : Prop where
  a : ∀ k : Nat, (k : Int) ∈ wl → has.getD k ByteArray.empty = held.getD (k % 4) ByteArray.empty
  b : ∀ k : Nat, (k : Int) ∉ wl → has.getD k ByteArray.empty = ByteArray.empty
  c : ∀ j : Nat, j < 4 → (∀ k : Nat, (k : Int) ∈ wl → k % 4 ≠ j) → held.getD j ByteArray.empty = ByteArray.empty
structure TrB (t : Tr) (m : Mv) : Prop where
  path : t.path = m.path
  rng : RngRel t.kind t.fst t.lst m.sp
  shown : t.shown = m.shown
  lost : t.lost = m.lost
  taken : t.taken = m.taken
  fails : t.fails = m.fails
  bound : m.lost = false → t.bound = decide (m.tag ≠ 0)
  tag0 : m.tag = 0 → m.tot = 0
  cut : m.lost = true → m.cut = true → m.tag ≠ 0
  hd : t.hd = hdOf m
structure TrRel (B W : Int) (t : Tr) (m : Mv) : Prop extends TrB t m where
  held : HRel (winL B W m) t.held m.has

theorem empty_isEmpty : ByteArray.empty.toList.isEmpty = true := by rw [ByteArray.toList_eq]; rfl
theorem headR_hd {k f l : Int} {m : Mv} (h : RngRel k f l m.sp) (ok : MvOk m) : headR k f l m.tag m.tot = hdL m := by
  rw [h m.tag m.tot ok.t0 ok.t1]; rfl

theorem win_eq {B W : Int} {t : Tr} {m : Mv} (hB : 1 ≤ B) (hW : 1 ≤ W) (h : TrB t m) (ok : TrOk t) (ho : ¬ (m.tag = 0 ∧ m.lost = false)) : winL B W m = seqL (winT B W t).1 ((winT B W t).2 - (winT B W t).1).toNat := by
  unfold winL winT
  cases hl : m.lost
  · have ht : m.tag ≠ 0 := fun e => ho ⟨e, hl⟩
    have hb : t.bound = true := by rw [h.bound hl]; simpa using ht
    have hh : t.hd = hdL m := by rw [h.hd]; unfold hdOf; rw [if_neg (by simp [hl]), if_neg ht]
    have hf : t.hd.frm = fromL m := by rw [hh]; rfl
    have hn : t.hd.len = lenL m := by rw [hh]; rfl
    have htl : t.lost = false := by rw [h.lost, hl]
    rw [htl, hb]
    simp only [ht, false_or, Bool.false_eq_true, if_false, Bool.not_true]
    rw [h.taken, hf, hn]
    have hk1 := ok.k1
    rw [h.taken, hn] at hk1
    by_cases he : m.taken = lenL m
    · rw [if_pos he, he]
      have : winN B W (fromL m + lenL m) (fromL m + lenL m) = 0 := by unfold winN cntB; rw [if_pos (Int.le_refl _), if_neg (by omega)]; rfl
      rw [this]; rfl
    · rw [if_neg he]
      simp only
      congr 1
      unfold winN cntB atM
      rw [if_neg (show ¬ (fromL m + lenL m ≤ fromL m + m.taken) by omega)]
      generalize (fromL m + lenL m - 1) / B = q
      generalize (fromL m + m.taken) / B = p
      split <;> split <;> omega
  · have htl : t.lost = true := by rw [h.lost, hl]
    rw [htl]
    simp [seqL]

theorem win_mem {B W : Int} {t : Tr} {m : Mv} (hB : 1 ≤ B) (hW : 1 ≤ W) (h : TrB t m) (ok : TrOk t) (ho : ¬ (m.tag = 0 ∧ m.lost = false)) (k : Int) : k ∈ winL B W m ↔ (winT B W t).1 ≤ k ∧ k < (winT B W t).2 := by
  rw [win_eq hB hW h ok ho, seq_mem]
  constructor <;> intro ⟨h1, h2⟩ <;> exact ⟨h1, by omega⟩

theorem winT_open {B W : Int} {t : Tr} {m : Mv} (h : TrB t m) (ho : m.tag = 0 ∧ m.lost = false) : winT B W t = (0, 1) ∧ winL B W m = [] ∧ t.hd = ⟨0, 0, 0, 0, 0⟩ := by
  have hb : t.bound = false := by rw [h.bound ho.2]; simp [ho.1]
  have hl : t.lost = false := by rw [h.lost, ho.2]
  refine ⟨by unfold winT; simp [hb, hl], by unfold winL; simp [ho.1], ?_⟩
  rw [h.hd]; unfold hdOf; rw [if_neg (by simp [ho.2]), if_pos ho.1]
theorem held_none {B W : Int} {t : Tr} {m : Mv} (h : TrRel B W t m) (hw : winL B W m = []) (k : Int) : heldAt t k = ByteArray.empty := by
  unfold heldAt
  refine h.held.c _ (by omega) (fun k hk => by rw [hw] at hk; simp at hk)
theorem winT_nn {B W : Int} {t : Tr} (hB : 1 ≤ B) (ok : TrOk t) : 0 ≤ (winT B W t).1 := by
  have h1 := ok.r0
  have h2 := ok.k0
  unfold winT
  split
  · simp
  · split
    · simp
    · split
      · simp
      · exact Int.ediv_nonneg (by omega) (by omega)
theorem held_eq {B W : Int} {t : Tr} {m : Mv} (h : TrRel B W t m) (k : Int) (h0 : 0 ≤ k) (hk : k ∈ winL B W m) : heldL m.has k = heldAt t k := by
  obtain ⟨n, rfl⟩ := Int.eq_ofNat_of_zero_le h0
  have := h.held.a n hk
  unfold heldL heldAt
  rw [Int.toNat_natCast, this]
  congr 1

/-- What is wanted. -/
theorem wanted_eq {B W : Int} {t : Tr} {m : Mv} (hB : 1 ≤ B) (hW : 1 ≤ W) (h : TrRel B W t m) (ok : TrOk t) : wantedL B W t = (wantsL B W m).map (ofT t) := by
  unfold wantedL wantsL
  by_cases ho : m.tag = 0 ∧ m.lost = false
  · obtain ⟨h1, h2, h3⟩ := winT_open (B := B) (W := W) h.toTrB ho
    rw [if_pos ho, h1]
    have he : ∀ j : Nat, (heldAt t ((0 : Int) + (j : Nat))).toList.isEmpty = true := fun j => by rw [held_none h h2]; exact empty_isEmpty
    simp only [he]
    rfl
  · rw [if_neg ho, win_eq hB hW h.toTrB ok ho]
    have h0 := winT_nn (W := W) hB ok
    unfold seqL
    rw [List.filter_map, List.map_map]
    congr 1
    apply List.filter_congr
    intro j hj
    rw [List.mem_range] at hj
    simp only [Function.comp]
    rw [held_eq h _ (by omega) ((win_mem hB hW h.toTrB ok ho _).2 (by omega))]
theorem wantsT_mem {B W : Int} {t : Tr} (e : Er) : wantsT B W t e = true ↔ e ∈ wantedL B W t := by
  unfold wantsT wantedL
  simp only [Bool.and_eq_true, beq_iff_eq, decide_eq_true_eq, List.mem_map, List.mem_filter, List.mem_range]
  constructor
  · rintro ⟨⟨⟨⟨h1, h2, h3⟩, h4⟩, h5⟩, h6⟩
    refine ⟨(e.blk - (winT B W t).1).toNat, ⟨by omega, ?_⟩, ?_⟩
    · rw [show (winT B W t).1 + ((e.blk - (winT B W t).1).toNat : Int) = e.blk from by omega]; exact h6
    · unfold ofT; rw [show (winT B W t).1 + ((e.blk - (winT B W t).1).toNat : Int) = e.blk from by omega, h1, h2, h3]
  · rintro ⟨j, ⟨h1, h2⟩, rfl⟩
    refine ⟨⟨⟨⟨rfl, rfl, rfl⟩, ?_⟩, ?_⟩, h2⟩
    · show (winT B W t).1 ≤ (winT B W t).1 + (j : Int); omega
    · show (winT B W t).1 + (j : Int) < (winT B W t).2; omega
/-- The version by which the program asks: that of the document, where anything is wanted. -/
theorem ver_eq {t : Tr} {m : Mv} (h : TrB t m) (hl : m.lost = false) : t.hd.tag = m.tag ∧ t.hd.tot = m.tot := by
  rw [h.hd]; unfold hdOf
  rw [if_neg (by simp [hl])]
  split
  · rename_i h0; exact ⟨h0.symm, (h.tag0 h0).symm⟩
  · exact ⟨rfl, rfl⟩
theorem wants_lost {B W : Int} {m : Mv} (hl : m.lost = true) : wantsL B W m = [] := by
  unfold wantsL winL; simp [hl]
theorem wanting_eq {B W : Int} {t : Tr} {m : Mv} (hB : 1 ≤ B) (hW : 1 ≤ W) (h : TrRel B W t m) (ok : TrOk t) (j : Jb) (e : Er) (he : e = ⟨j.path, j.tag, j.tot, j.k⟩) : wantsT B W t e = wantingL B W m j := by
  rw [Bool.eq_iff_iff, wantsT_mem, wanted_eq hB hW h ok]
  unfold wantingL
  simp only [Bool.and_eq_true, decide_eq_true_eq, List.mem_map]
  cases hl : m.lost
  · obtain ⟨h1, h2⟩ := ver_eq h.toTrB hl
    subst he
    unfold ofT
    rw [h.path, h1, h2]
    constructor
    · rintro ⟨k, hk, hE⟩
      simp only [Er.mk.injEq] at hE
      obtain ⟨e1, e2, e3, e4⟩ := hE
      exact ⟨⟨⟨e1, e2⟩, e3⟩, e4 ▸ hk⟩
    · rintro ⟨⟨⟨e1, e2⟩, e3⟩, hk⟩
      exact ⟨j.k, hk, by rw [e1, e2, e3]⟩
  · rw [wants_lost hl]; simp

/-! What a transfer holds: one block more; all given away. -/
theorem giveL_get (has : List ByteArray) (k : Nat) (body : ByteArray) (j : Nat) : (giveL has k body).getD j ByteArray.empty = if j = k then body else has.getD j ByteArray.empty := by
  unfold giveL padL
  rw [List.getD_eq_getElem?_getD, List.getD_eq_getElem?_getD, List.getElem?_set]
  by_cases hjk : k = j
  · subst hjk
    have : k < (has ++ List.replicate (k + 1 - has.length) ByteArray.empty).length := by simp; omega
    rw [if_pos rfl, if_pos this, if_pos rfl]; rfl
  · rw [if_neg hjk, if_neg (fun e => hjk e.symm)]
    by_cases hj : j < has.length
    · rw [List.getElem?_append_left hj]
    · rw [List.getElem?_append_right (by omega), List.getElem?_replicate, List.getElem?_eq_none (by omega)]
      split <;> rfl
theorem held_get (l : List ByteArray) (hl : l.length = 4) (i : Nat) (hi : i < 4) (body : ByteArray) (j : Nat) : (l.set i body).getD j ByteArray.empty = if j = i then body else l.getD j ByteArray.empty := by
  rw [List.getD_eq_getElem?_getD, List.getD_eq_getElem?_getD, List.getElem?_set]
  by_cases h : i = j
  · subst h; rw [if_pos rfl, if_pos (by omega), if_pos rfl]; rfl
  · rw [if_neg h, if_neg (fun e => h e.symm)]
/-- Four blocks in a row lie at four places. -/
theorem seq_mod {x : Int} {c : Nat} (hc : c ≤ 4) {j k : Nat} (hj : (j : Int) ∈ seqL x c) (hk : (k : Int) ∈ seqL x c) (h : j % 4 = k % 4) : j = k := by
  rw [seq_mem] at hj hk; omega
theorem winL_seq {B W : Int} (hW : W ≤ 4) (m : Mv) : ∃ x c, winL B W m = seqL x c ∧ c ≤ 4 := by
  unfold winL
  split
  · exact ⟨0, 0, rfl, by omega⟩
  · refine ⟨_, _, rfl, ?_⟩
    unfold winN; split <;> omega
theorem HRel.nil (wl : List Int) : HRel wl noBytes [] := by
  have h0 : ∀ j, noBytes.getD j ByteArray.empty = ByteArray.empty := by
    intro j
    rcases j with _ | _ | _ | _ | j <;> rfl
  exact ⟨fun k _ => by rw [h0]; rfl, fun k _ => rfl, fun j _ _ => h0 j⟩
theorem HRel.give {x : Int} {c : Nat} {held has : List ByteArray} (hc : c ≤ 4) (hl : held.length = 4) (h : HRel (seqL x c) held has) (k : Nat) (hk : (k : Int) ∈ seqL x c) (body : ByteArray) : HRel (seqL x c) (held.set (k % 4) body) (giveL has k body) := by
  refine ⟨fun j hj => ?_, fun j hj => ?_, fun j hj hn => ?_⟩
  · rw [giveL_get, held_get held hl (k % 4) (by omega)]
    by_cases e : j = k
    · subst e; rw [if_pos rfl, if_pos rfl]
    · rw [if_neg e, if_neg (fun h => e (seq_mod hc hj hk h))]; exact h.a j hj
  · rw [giveL_get, if_neg (by rintro rfl; exact hj hk)]; exact h.b j hj
  · rw [held_get held hl (k % 4) (by omega), if_neg (fun e => hn k hk e.symm)]; exact h.c j hj hn
theorem noBytes_none {wl : List Int} {held : List ByteArray} (hl : held.length = 4) (h : HRel wl held []) (hw : wl = []) : held = noBytes := by
  obtain ⟨a, b, c, d, rfl⟩ : ∃ a b c d, held = [a, b, c, d] := by
    rcases held with _ | ⟨a, _ | ⟨b, _ | ⟨c, _ | ⟨d, _ | ⟨e, l⟩⟩⟩⟩⟩ <;> simp at hl
    exact ⟨a, b, c, d, rfl⟩
  subst hw
  have h0 := h.c 0 (by omega) (fun k hk => by simp at hk)
  have h1 := h.c 1 (by omega) (fun k hk => by simp at hk)
  have h2 := h.c 2 (by omega) (fun k hk => by simp at hk)
  have h3 := h.c 3 (by omega) (fun k hk => by simp at hk)
  simp at h0 h1 h2 h3
  rw [h0, h1, h2, h3]; rfl

/-- Held, in bytes. -/
theorem sum_range (f : Nat → Int) (l : List ByteArray) (hf : ∀ k, f k = ((l.getD k ByteArray.empty).size : Int)) (N : Nat) (hN : l.length ≤ N) : ((List.range N).map f).sum = sumSz l := by
  unfold sumSz
  induction l generalizing f N with
  | nil =>
    have : ∀ k, f k = 0 := fun k => by rw [hf]; rfl
    induction N with
    | zero => rfl
    | succ N ih => rw [List.range_succ, List.map_append, List.sum_append, ih (Nat.zero_le _)]; simp [this]
  | cons a l ih =>
    cases N with
    | zero => simp at hN
    | succ N =>
      rw [List.range_succ_eq_map, List.map_cons, List.sum_cons, List.map_map, List.map_cons, List.sum_cons]
      rw [ih (f ∘ Nat.succ) (fun k => by simp only [Function.comp]; rw [hf]; rfl) N (by simpa using hN)]
      rw [hf 0]; rfl
theorem sum_zero (f : Nat → Int) (a n : Nat) (h : ∀ k, k < n → f (a + k) = 0) : ((List.range n).map (fun k => f (a + k))).sum = 0 := by
  induction n with
  | zero => rfl
  | succ n ih => rw [List.range_succ, List.map_append, List.sum_append, ih (fun k hk => h k (by omega))]; simp [h n (by omega)]
theorem sum_split (f : Nat → Int) (a b : Nat) : ((List.range (a + b)).map f).sum = ((List.range a).map f).sum + ((List.range b).map (fun k => f (a + k))).sum := by
  induction b with
  | zero => simp
  | succ b ih => rw [← Nat.add_assoc, List.range_succ, List.map_append, List.sum_append, ih, List.range_succ, List.map_append, List.sum_append]; simp; omega
theorem pheld4 (a b c d : ByteArray) : pheldSum [a, b, c, d] = a.size + b.size + c.size + d.size := by unfold pheldSum; simp
theorem held_sum {x c : Nat} {held has : List ByteArray} (hc : c ≤ 4) (hl : held.length = 4) (h : HRel (seqL (x : Int) c) held has) : sumSz has = pheldSum held := by
  obtain ⟨h0, h1, h2, h3, rfl⟩ : ∃ a b c d, held = [a, b, c, d] := by
    rcases held with _ | ⟨a, _ | ⟨b, _ | ⟨c, _ | ⟨d, _ | ⟨e, l⟩⟩⟩⟩⟩ <;> simp at hl
    exact ⟨a, b, c, d, rfl⟩
  rw [pheld4]
  have hr := sum_range (fun k => ((has.getD k ByteArray.empty).size : Int)) has (fun _ => rfl) (x + c + has.length) (by omega)
  rw [← hr, sum_split, sum_split]
  have z1 : ((List.range x).map (fun k => ((has.getD k ByteArray.empty).size : Int))).sum = 0 := by
    have := sum_zero (fun k => ((has.getD k ByteArray.empty).size : Int)) 0 x (fun k hk => by
      simp only [Nat.zero_add]
      rw [h.b k (by rw [seq_mem]; omega)]; rfl)
    simpa using this
  have z2 : ((List.range has.length).map (fun k => ((has.getD (x + c + k) ByteArray.empty).size : Int))).sum = 0 :=
    sum_zero (fun k => ((has.getD k ByteArray.empty).size : Int)) (x + c) has.length (fun k hk => by
      show ((has.getD (x + c + k) ByteArray.empty).size : Int) = 0
      rw [h.b (x + c + k) (by rw [seq_mem]; omega)]; rfl)
  rw [z1, z2]
  have ga : ∀ i, i < c → has.getD (x + i) ByteArray.empty = [h0, h1, h2, h3].getD ((x + i) % 4) ByteArray.empty := fun i hi => h.a (x + i) (by rw [seq_mem]; omega)
  have gc : ∀ j, j < 4 → (∀ i, i < c → (x + i) % 4 ≠ j) → [h0, h1, h2, h3].getD j ByteArray.empty = ByteArray.empty := fun j hj hn => h.c j hj (fun k hk => by
    rw [seq_mem] at hk
    have := hn (k - x) (by omega)
    rwa [show x + (k - x) = k by omega] at this)
  have he : ByteArray.empty.size = 0 := rfl
  have hx4 : x % 4 = 0 ∨ x % 4 = 1 ∨ x % 4 = 2 ∨ x % 4 = 3 := by omega
  have hcc : c = 0 ∨ c = 1 ∨ c = 2 ∨ c = 3 ∨ c = 4 := by omega
  rcases hcc with rfl | rfl | rfl | rfl | rfl
  · have g0 := gc 0 (by omega) (fun i hi => by omega)
    have g1 := gc 1 (by omega) (fun i hi => by omega)
    have g2 := gc 2 (by omega) (fun i hi => by omega)
    have g3 := gc 3 (by omega) (fun i hi => by omega)
    simp at g0 g1 g2 g3
    subst g0 g1 g2 g3
    simp
  · have e0 := ga 0 (by omega)
    rcases hx4 with hx | hx | hx | hx
    all_goals
      simp only [Nat.add_zero] at e0
      rw [hx] at e0
      simp at e0
    · have g1 := gc 1 (by omega) (fun i hi => by omega); have g2 := gc 2 (by omega) (fun i hi => by omega); have g3 := gc 3 (by omega) (fun i hi => by omega)
      simp at g1 g2 g3; subst g1 g2 g3; simp [List.range_succ, e0]
    · have g1 := gc 0 (by omega) (fun i hi => by omega); have g2 := gc 2 (by omega) (fun i hi => by omega); have g3 := gc 3 (by omega) (fun i hi => by omega)
      simp at g1 g2 g3; subst g1 g2 g3; simp [List.range_succ, e0]
    · have g1 := gc 0 (by omega) (fun i hi => by omega); have g2 := gc 1 (by omega) (fun i hi => by omega); have g3 := gc 3 (by omega) (fun i hi => by omega)
      simp at g1 g2 g3; subst g1 g2 g3; simp [List.range_succ, e0]
    · have g1 := gc 0 (by omega) (fun i hi => by omega); have g2 := gc 1 (by omega) (fun i hi => by omega); have g3 := gc 2 (by omega) (fun i hi => by omega)
      simp at g1 g2 g3; subst g1 g2 g3; simp [List.range_succ, e0]
  · have e0 := ga 0 (by omega)
    have e1 := ga 1 (by omega)
    rcases hx4 with hx | hx | hx | hx
    all_goals
      simp only [Nat.add_zero] at e0
      rw [hx] at e0
      rw [Nat.add_mod, hx] at e1
      simp at e0 e1
    · have g2 := gc 2 (by omega) (fun i hi => by omega); have g3 := gc 3 (by omega) (fun i hi => by omega)
      simp at g2 g3; subst g2 g3; simp [List.range_succ, e0, e1]
    · have g2 := gc 0 (by omega) (fun i hi => by omega); have g3 := gc 3 (by omega) (fun i hi => by omega)
      simp at g2 g3; subst g2 g3; simp [List.range_succ, e0, e1]
    · have g2 := gc 0 (by omega) (fun i hi => by omega); have g3 := gc 1 (by omega) (fun i hi => by omega)
      simp at g2 g3; subst g2 g3; simp [List.range_succ, e0, e1]
    · have g2 := gc 1 (by omega) (fun i hi => by omega); have g3 := gc 2 (by omega) (fun i hi => by omega)
      simp at g2 g3; subst g2 g3; simp [List.range_succ, e0, e1]; omega
  · have e0 := ga 0 (by omega)
    have e1 := ga 1 (by omega)
    have e2 := ga 2 (by omega)
    rcases hx4 with hx | hx | hx | hx
    all_goals
      simp only [Nat.add_zero] at e0
      rw [hx] at e0
      rw [Nat.add_mod, hx] at e1 e2
      simp at e0 e1 e2
    · have g3 := gc 3 (by omega) (fun i hi => by omega)
      simp at g3; subst g3; simp [List.range_succ, e0, e1, e2]; omega
    · have g3 := gc 0 (by omega) (fun i hi => by omega)
      simp at g3; subst g3; simp [List.range_succ, e0, e1, e2]; omega
    · have g3 := gc 1 (by omega) (fun i hi => by omega)
      simp at g3; subst g3; simp [List.range_succ, e0, e1, e2]; omega
    · have g3 := gc 2 (by omega) (fun i hi => by omega)
      simp at g3; subst g3; simp [List.range_succ, e0, e1, e2]; omega
  · have e0 := ga 0 (by omega)
    have e1 := ga 1 (by omega)
    have e2 := ga 2 (by omega)
    have e3 := ga 3 (by omega)
    rcases hx4 with hx | hx | hx | hx
    all_goals
      simp only [Nat.add_zero] at e0
      rw [hx] at e0
      rw [Nat.add_mod, hx] at e1 e2 e3
      simp at e0 e1 e2 e3
      simp [List.range_succ, e0, e1, e2, e3]; omega

/-! Each thing that is done with one transfer. -/
theorem st_rel {t : Tr} {m : Mv} (h : TrB t m) : stT t = stateT m := by
  unfold stT stateT
  rw [h.lost]
  cases hl : m.lost
  · have hb := h.bound hl
    simp only [Bool.false_eq_true, if_false]
    rw [hb]
    by_cases ht : m.tag = 0
    · simp [ht]
    · have hh : t.hd = hdL m := by rw [h.hd]; unfold hdOf; rw [if_neg (by simp [hl]), if_neg ht]
      have hn : t.hd.len = lenL m := by rw [hh]; rfl
      rw [h.taken, hn]
      simp [ht]
  · simp
theorem open_rel {t : Tr} {m : Mv} (h : TrB t m) : openT t = decide (m.tag = 0 ∧ m.lost = false) := by
  unfold openT
  rw [h.lost]
  cases hl : m.lost
  · rw [h.bound hl]; simp
  · simp
theorem heldSum_rel {B W : Int} {t : Tr} {m : Mv} (hB : 1 ≤ B) (hW : 1 ≤ W) (hW4 : W ≤ 4) (h : TrRel B W t m) (ok : TrOk t) : sumSz m.has = pheldSum t.held := by
  have hh := h.held
  by_cases ho : m.tag = 0 ∧ m.lost = false
  · have hw : winL B W m = seqL ((0 : Nat) : Int) 0 := by rw [(winT_open (B := B) (W := W) h.toTrB ho).2.1]; rfl
    rw [hw] at hh
    exact held_sum (by omega) ok.hl hh
  · have h0 := winT_nn (W := W) hB ok
    obtain ⟨x, hx⟩ := Int.eq_ofNat_of_zero_le h0
    rw [win_eq hB hW h.toTrB ok ho, hx] at hh
    refine held_sum ?_ ok.hl hh
    have hbd : (winT B W t).2 ≤ (winT B W t).1 + W := by
      unfold winT atM
      split
      · simp; omega
      · split
        · simp; omega
        · split
          · simp; omega
          · simp only; split <;> omega
    omega

theorem TrRel.show {B W : Int} {t : Tr} {m : Mv} (h : TrRel B W t m) : TrRel B W { t with shown := true } { m with shown := true } :=
  ⟨⟨h.path, h.rng, rfl, h.lost, h.taken, h.fails, h.bound, h.tag0, h.cut, h.hd⟩, h.held⟩

theorem fail_rel {B W tri : Int} {t : Tr} {m : Mv} (h : TrRel B W t m) (hl : m.lost = false) (hf : m.fails < tri) (hop : m.tag = 0 → m.shown = false) :
    TrRel B W (pfailT tri t) (if m.fails + 1 = tri then { m with fails := m.fails + 1, lost := true, cut := m.shown, has := [] } else { m with fails := m.fails + 1 }) := by
  unfold pfailT
  by_cases hx : m.fails + 1 = tri
  · rw [if_pos hx, if_pos (by rw [h.fails]; omega)]
    refine ⟨⟨h.path, h.rng, h.shown, rfl, h.taken, by show t.fails + 1 = m.fails + 1; rw [h.fails], fun e => by simp at e, h.tag0, fun _ hc => fun e => by
      have hc' : m.shown = true := hc
      rw [hop e] at hc'; simp at hc', ?_⟩, ?_⟩
    · unfold loseT hdOf
      simp only
      rw [h.shown]
      cases hs : m.shown
      · simp
      · have ht : m.tag ≠ 0 := fun e => by rw [hop e] at hs; simp at hs
        simp only [Bool.true_eq_false, and_false, if_false, if_true, ht]
        rw [h.hd]; unfold hdOf; rw [if_neg (by simp [hl]), if_neg ht]; rfl
    · exact HRel.nil _
  · rw [if_neg hx, if_neg (by rw [h.fails]; omega)]
    exact ⟨⟨h.path, h.rng, h.shown, h.lost, h.taken, by show t.fails + 1 = m.fails + 1; rw [h.fails], h.bound, h.tag0, h.cut, h.hd⟩, h.held⟩

theorem bind_rel {B W : Int} {t : Tr} {m : Mv} (h : TrB t m) (hl : m.lost = false) (tag tot : Int) (ht : 1 ≤ tag) (h0 : 0 ≤ tot) (h1 : tot ≤ 1000) :
    TrRel B W (bindT t (tag, tot)) { m with tag := tag, tot := tot, has := [], fails := 0 } := by
  have ht0 : tag ≠ 0 := by omega
  refine ⟨⟨h.path, h.rng, h.shown, h.lost, h.taken, rfl, fun _ => by simp [bindT, ht0], fun e => absurd e ht0, fun _ _ => ht0, ?_⟩, HRel.nil _⟩
  unfold hdOf
  rw [if_neg (by simp [hl]), if_neg ht0]
  show headR t.kind t.fst t.lst tag tot = _
  rw [h.rng tag tot h0 h1]; rfl
theorem follows_rel {t : Tr} {m : Mv} (h : TrB t m) (path tag tot : Int) (ht : 1 ≤ tag) : (t.path == path && followsT t (tag, tot)) = newsHit path tag tot m := by
  unfold followsT newsHit
  rw [h.path, h.lost]
  cases hl : m.lost
  · obtain ⟨e1, e2⟩ := ver_eq h hl
    rw [h.bound hl, h.shown, e1, e2]
    by_cases h0 : m.tag = 0
    · have : ¬ (0 = tag) := by omega
      simp [h0, this]
    · have hn : ¬ tag = 0 := by omega
      cases m.shown <;> cases (m.path == path) <;> by_cases a2 : m.tag = tag <;> cases a3 : (m.tot == tot) <;> simp [h0, hn, a2, a3]
  · simp
theorem hold_rel {B W : Int} {t : Tr} {m : Mv} (hW : W ≤ 4) (h : TrRel B W t m) (ok : TrOk t) (k : Int) (h0 : 0 ≤ k) (hk : k ∈ winL B W m) (body : ByteArray) (f g : Int) (hfg : f = g) :
    TrRel B W { holdT t k body with fails := f } { m with has := giveL m.has k.toNat body, fails := g } := by
  refine ⟨⟨h.path, h.rng, h.shown, h.lost, h.taken, hfg, h.bound, h.tag0, h.cut, h.hd⟩, ?_⟩
  obtain ⟨n, rfl⟩ := Int.eq_ofNat_of_zero_le h0
  have hh := h.held
  obtain ⟨x, c, hx, hc⟩ := winL_seq (B := B) hW m
  show HRel (winL B W m) (t.held.set ((n : Int) % 4).toNat body) (giveL m.has ((n : Int)).toNat body)
  rw [hx] at hh hk ⊢
  have e1 : ((n : Int) % 4).toNat = n % 4 := by omega
  rw [e1, Int.toNat_natCast]
  exact hh.give hc ok.hl n hk body
theorem wants_win {B W : Int} {m : Mv} (ho : ¬ (m.tag = 0 ∧ m.lost = false)) {k : Int} (h : k ∈ wantsL B W m) : k ∈ winL B W m ∧ (heldL m.has k).toList.isEmpty = true := by
  unfold wantsL at h
  rw [if_neg ho, List.mem_filter] at h
  exact h
theorem new_rel {B W : Int} (path : Int) (r : ByteArray) (v : Int × Int) (hv : 0 ≤ v.1) (hv0 : v.1 = 0 → v.2 = 0) (h0 : 0 ≤ v.2) (h1 : v.2 ≤ 1000) (t : Tr) (raw : Tr)
    (hraw : raw = ⟨path, (readP r).1, (readP r).2.1, (readP r).2.2, false, false, false, ⟨0, 0, 0, 0, 0⟩, 0, 0, noBytes⟩) (ht : t = if v.1 = 0 then raw else bindT raw v) :
    TrRel B W t ⟨path, readL r, v.1, v.2, false, false, false, 0, 0, []⟩ := by
  have hr : TrB raw ⟨path, readL r, 0, 0, false, false, false, 0, 0, []⟩ := by
    rw [hraw]
    exact ⟨rfl, read_rel r, rfl, rfl, rfl, rfl, fun _ => rfl, fun _ => rfl, fun e => by simp at e, by unfold hdOf; simp⟩
  by_cases hz : v.1 = 0
  · rw [ht, if_pos hz, hz, hv0 hz]
    exact ⟨hr, by rw [hraw]; exact HRel.nil _⟩
  · rw [ht, if_neg hz]
    have := bind_rel (B := B) (W := W) hr rfl v.1 v.2 (by omega) h0 h1
    exact this
theorem fails_rel {B W tri : Int} {t : Tr} {m : Mv} (hB : 1 ≤ B) (hW : 1 ≤ W) (h : TrRel B W t m) (ok : TrOk t) (g : MvGood B tri m) (j : Jb) (e : Er) (he : e = ⟨j.path, j.tag, j.tot, j.k⟩) :
    TrRel B W (if wantsT B W t e = true then pfailT tri t else t) (failT B W tri j m) := by
  unfold failT
  rw [wanting_eq hB hW h ok j e he]
  by_cases hw : wantingL B W m j = true
  · rw [if_pos hw, if_pos hw]
    have hl : m.lost = false := by
      cases hl : m.lost
      · rfl
      · unfold wantingL at hw; rw [wants_lost hl] at hw; simp at hw
    exact fail_rel h hl (g.f2 hl) (fun e => g.op e hl)
  · rw [if_neg hw, if_neg hw]; exact h
theorem news_rel {B W : Int} {t : Tr} {m : Mv} (h : TrRel B W t m) (path tag tot : Int) (ht : 1 ≤ tag) (h0 : 0 ≤ tot) (h1 : tot ≤ 1000) :
    TrRel B W (if (t.path == path && followsT t (tag, tot)) = true then bindT t (tag, tot) else t) (newsT path tag tot m) := by
  unfold newsT
  rw [follows_rel h.toTrB path tag tot ht]
  by_cases hn : newsHit path tag tot m = true
  · rw [if_pos hn, if_pos hn]
    have hl : m.lost = false := by unfold newsHit at hn; simp at hn; exact hn.1.1.2
    exact bind_rel h.toTrB hl tag tot ht h0 h1
  · rw [if_neg hn, if_neg hn]; exact h
theorem del_rel {B W : Int} {t : Tr} {m : Mv} (hB : 1 ≤ B) (hW : 1 ≤ W) (hW4 : W ≤ 4) (h : TrRel B W t m) (ok : TrOk t) (j : Jb) (e : Er) (he : e = ⟨j.path, j.tag, j.tot, j.k⟩) (hk : 0 ≤ j.k) (ht : 1 ≤ j.tag) (body : ByteArray) :
    TrRel B W (if wantsT B W t e = true then { holdT t e.blk body with fails := 0 } else t) (delT B W j body m) := by
  unfold delT
  rw [wanting_eq hB hW h ok j e he]
  by_cases hw : wantingL B W m j = true
  · rw [if_pos hw, if_pos hw]
    have hw' := hw
    unfold wantingL at hw'
    simp only [Bool.and_eq_true, decide_eq_true_eq] at hw'
    have ho : ¬ (m.tag = 0 ∧ m.lost = false) := fun e => by have := hw'.1.1.2; omega
    subst he
    exact hold_rel hW4 h ok j.k hk (wants_win ho hw'.2).1 body 0 0 rfl
  · rw [if_neg hw, if_neg hw]; exact h
/-- Behind a new version nobody is open: an errand for any version fails for nobody. -/
theorem fails_none {B W tri : Int} {m : Mv} (path tag tot : Int) (ht : 1 ≤ tag) (j : Jb) (hj : j.tag = 0) (hp : j.path = path) : failT B W tri j (newsT path tag tot m) = newsT path tag tot m := by
  unfold failT
  rw [if_neg]
  intro hw
  unfold wantingL at hw
  simp only [Bool.and_eq_true, decide_eq_true_eq] at hw
  obtain ⟨⟨⟨h1, h2⟩, h3⟩, h4⟩ := hw
  unfold newsT at *
  by_cases hn : newsHit path tag tot m = true
  · rw [if_pos hn] at h2; simp only at h2; omega
  · rw [if_neg hn] at h1 h2 h4
    cases hl : m.lost
    · apply hn
      unfold newsHit
      have h5 : m.tag = 0 := by rw [h2, hj]
      have h6 : ¬ (0 = tag) := by omega
      simp [h1, hp, hl, h5, h6]
    · rw [wants_lost hl] at h4; simp at h4

/-! Taking: block by block, and out of the run of all blocks without a gap. -/
theorem ba_ext {a b : ByteArray} (h : a.data.toList = b.data.toList) : a = b := by
  obtain ⟨⟨x⟩⟩ := a
  obtain ⟨⟨y⟩⟩ := b
  simp at h; subst h; rfl
theorem ba_app (a b : ByteArray) : (a ++ b).data.toList = a.data.toList ++ b.data.toList := by simp
theorem ba_size (a : ByteArray) : a.data.toList.length = a.size := by simp
theorem ba_nil (a : ByteArray) (h : a.toList.isEmpty = true) : a = ByteArray.empty := by
  apply ba_ext
  rw [emptyL] at h
  simp at h
  rw [h]; rfl
theorem ba_pos (a : ByteArray) (h : a.toList.isEmpty = false) : 0 < a.size := by
  rw [emptyL] at h
  rw [← ba_size]
  cases hl : a.data.toList with
  | nil => rw [hl] at h; simp at h
  | cons x l => simp
theorem seq_cons (k : Int) (c : Nat) : seqL k (c + 1) = k :: seqL (k + 1) c := by
  unfold seqL
  rw [List.range_succ_eq_map, List.map_cons, List.map_map]
  simp only [Int.natCast_zero, Int.add_zero, List.cons.injEq, true_and]
  apply List.map_congr_left
  intro j _
  simp only [Function.comp, Nat.succ_eq_add_one]
  push_cast; omega
def takeK (r f a b : Int) : Int := if r ≤ f then 0 else atM (atM (r - f) a) b
theorem extract_nil (a : ByteArray) (i : Nat) : a.extract i i = ByteArray.empty := by
  apply ba_ext
  rw [ByteArray.data_extract]
  simp
theorem app_nil (a : ByteArray) : a ++ ByteArray.empty = a := by apply ba_ext; rw [ba_app]; simp
theorem app_size (a b : ByteArray) : (a ++ b).size = a.size + b.size := by rw [← ba_size, ba_app, List.length_append, ba_size, ba_size]
theorem extract_app_left (b r : ByteArray) (i j : Nat) (h : j ≤ b.size) : (b ++ r).extract i j = b.extract i j := by
  apply ba_ext
  have hs : j ≤ (b ++ r).size := by rw [app_size]; omega
  rw [ext_list _ _ _ hs, ext_list _ _ _ h, ba_app, List.take_append_of_le_length (by rw [ba_size]; exact h)]
theorem extract_app_over (b r : ByteArray) (i j : Nat) (hi : i ≤ b.size) (hj : j ≤ r.size) : (b ++ r).extract i (b.size + j) = b.extract i b.size ++ r.extract 0 j := by
  apply ba_ext
  have hs : b.size + j ≤ (b ++ r).size := by rw [app_size]; omega
  rw [ext_list _ _ _ hs, ba_app, ba_app, ext_list _ _ _ (Nat.le_refl _), ext_list _ _ _ hj, List.take_append, ba_size]
  have e1 : b.data.toList.take b.size = b.data.toList := List.take_of_length_le (by rw [ba_size]; omega)
  have e2 : b.data.toList.take (b.size + j) = b.data.toList := List.take_of_length_le (by rw [ba_size]; omega)
  rw [e1, e2, show b.size + j - b.size = j by omega, List.drop_append_of_le_length (by rw [ba_size]; exact hi)]
  simp
theorem app_assoc (a b c : ByteArray) : a ++ b ++ c = a ++ (b ++ c) := by apply ba_ext; simp
theorem extract_size (b : ByteArray) (i j : Nat) (hj : j ≤ b.size) : (b.extract i j).size = j - i := by
  rw [← ba_size, ext_list _ _ _ hj, List.length_drop, List.length_take, ba_size]; omega

theorem sizeL_in {B tot k f : Int} (hB : 1 ≤ B) (h0 : 0 ≤ f) (h1 : f < B) (ht : k * B + f < tot) : f < sizeL B tot k ∧ sizeL B tot k ≤ B := by
  unfold sizeL
  split
  · omega
  · split <;> omega

theorem take_run (B F Len n tot : Int) (t : Tr) (has : List ByteArray) (hB : 1 ≤ B) (hF : 0 ≤ F) (hlen : F + Len ≤ tot) (c : Nat) :
    ∀ (k tk : Int) (o : ByteArray), (∀ i : Nat, i < c + 1 → heldL has (k + i) = heldAt t (k + i)) → (∀ i : Nat, i < c + 1 → (heldAt t (k + i)).toList.isEmpty = false → ((heldAt t (k + i)).size : Int) = sizeL B tot (k + i)) →
      (∀ i : Nat, i < c + 1 → (k + i) * B ≤ F + Len - 1) → k * B ≤ F + tk → F + tk < k * B + B → tk < Len → (o.size : Int) ≤ n →
      takeGo B F Len n has (seqL k (c + 1)) tk o = (tk + takeK (runT t k (c + 1)).size (F + tk - k * B) (Len - tk) (n - o.size),
        o ++ (runT t k (c + 1)).extract (F + tk - k * B).toNat (F + tk - k * B + takeK (runT t k (c + 1)).size (F + tk - k * B) (Len - tk) (n - o.size)).toNat) := by
  induction c with
  | zero =>
    intro k tk o hh hs hw a1 a2 a3 ho
    have h0 := hh 0 (by omega)
    have s0 := hs 0 (by omega)
    simp only [Int.natCast_zero, Int.add_zero] at h0 s0
    rw [seq_cons]
    simp only [takeGo, seqL, List.range_zero, List.map_nil, runT]
    rw [h0]
    generalize heldAt t k = b at *
    cases he : b.toList.isEmpty
    · have s0 := s0 he
      have hin := sizeL_in (k := k) (tot := tot) (f := F + tk - k * B) hB (by omega) (by omega) (by omega)
      rw [← s0] at hin
      simp only [Bool.false_eq_true, if_false]
      rw [app_nil]
      have hK : takeK b.size (F + tk - k * B) (Len - tk) (n - o.size) = toTwo B F Len n tk k b.size o.size - (F + tk - k * B) := by
        unfold takeK toTwo toOne atM
        rw [if_neg (by omega)]
        split <;> split <;> (try split) <;> (try split) <;> omega
      have e1 : F + tk - k * B + takeK b.size (F + tk - k * B) (Len - tk) (n - o.size) = toTwo B F Len n tk k b.size o.size := by omega
      rw [e1]
      have e2 : tk + toTwo B F Len n tk k b.size o.size - (F + tk - k * B) = tk + takeK b.size (F + tk - k * B) (Len - tk) (n - o.size) := by omega
      rw [e2]
      split <;> rfl
    · have hb := ba_nil b he
      subst hb
      simp only [if_true]
      have hK : takeK (ByteArray.empty.size : Nat) (F + tk - k * B) (Len - tk) (n - o.size) = 0 := by
        unfold takeK; rw [if_pos (by show (0 : Int) ≤ _; omega)]
      rw [hK, Int.add_zero, Int.add_zero, extract_nil, app_nil]
  | succ c ih =>
    intro k tk o hh hs hw a1 a2 a3 ho
    have h0 := hh 0 (by omega)
    have s0 := hs 0 (by omega)
    simp only [Int.natCast_zero, Int.add_zero] at h0 s0
    rw [seq_cons]
    simp only [takeGo]
    rw [show runT t k (c + 1 + 1) = if (heldAt t k).toList.isEmpty then ByteArray.empty else heldAt t k ++ runT t (k + 1) (c + 1) from rfl]
    rw [h0]
    have ih' := ih (k + 1)
    generalize hrr : runT t (k + 1) (c + 1) = r at *
    cases he : (heldAt t k).toList.isEmpty
    · have s0 := s0 he
      have hw1 := hw 1 (by omega)
      simp only [Int.natCast_one] at hw1
      rw [Int.add_mul] at hw1
      have hin := sizeL_in (k := k) (tot := tot) (f := F + tk - k * B) hB (by omega) (by omega) (by omega)
      have hszB : ((heldAt t k).size : Int) = B := by
        rw [s0]; unfold sizeL
        rw [if_neg (by omega), if_pos (by omega)]
      rw [← s0] at hin
      simp only [Bool.false_eq_true, if_false]
      have ihg := ih' (tk + toTwo B F Len n tk k (heldAt t k).size o.size - (F + tk - k * B)) (o ++ (heldAt t k).extract (F + tk - k * B).toNat (toTwo B F Len n tk k (heldAt t k).size o.size).toNat)
        (fun i hi => by have := hh (i + 1) (by omega); rw [show k + 1 + (i : Int) = k + ((i + 1 : Nat) : Int) by push_cast; omega]; exact this)
        (fun i hi => by have := hs (i + 1) (by omega); rw [show k + 1 + (i : Int) = k + ((i + 1 : Nat) : Int) by push_cast; omega]; exact this)
        (fun i hi => by have := hw (i + 1) (by omega); rw [show k + 1 + (i : Int) = k + ((i + 1 : Nat) : Int) by push_cast; omega]; exact this)
      generalize heldAt t k = b at *
      obtain ⟨T, hT⟩ : ∃ T, T = toTwo B F Len n tk k b.size o.size := ⟨_, rfl⟩
      rw [← hT] at ihg ⊢
      have hTv : T = F + tk - k * B + atM (B - (F + tk - k * B)) (n - o.size) := by
        rw [hT]; unfold toTwo toOne atM
        rw [hszB]
        split <;> split <;> (try split) <;> omega
      have hT0 : F + tk - k * B ≤ T ∧ T ≤ b.size := by rw [hTv]; unfold atM; split <;> omega
      have hos : ((o ++ b.extract (F + tk - k * B).toNat T.toNat).size : Int) = o.size + (T - (F + tk - k * B)) := by
        rw [app_size, extract_size _ _ _ (by omega)]; push_cast; omega
      by_cases hfull : ((o ++ b.extract (F + tk - k * B).toNat T.toNat).size : Int) = n
      · rw [if_pos hfull]
        rw [hos] at hfull
        have hK : takeK ((b ++ r).size : Nat) (F + tk - k * B) (Len - tk) (n - o.size) = T - (F + tk - k * B) := by
          rw [app_size]; unfold takeK atM
          rw [if_neg (by push_cast; omega)]
          push_cast
          split <;> split <;> omega
        rw [hK, show F + tk - k * B + (T - (F + tk - k * B)) = T by omega, extract_app_left _ _ _ _ (by omega), show tk + T - (F + tk - k * B) = tk + (T - (F + tk - k * B)) by omega]
      · rw [if_neg hfull]
        rw [hos] at hfull
        have hTB : T = b.size := by rw [hTv] at hfull ⊢; unfold atM at *; split at hfull <;> split <;> omega
        have ihg := ihg (by rw [Int.add_mul]; omega) (by rw [Int.add_mul]; omega) (by omega) (by rw [hos, hTB]; rw [hTB] at hfull; unfold atM at hTv; split at hTv <;> omega)
        rw [ihg, hos, hTB]
        have ef : F + (tk + (b.size : Int) - (F + tk - k * B)) - (k + 1) * B = 0 := by rw [Int.add_mul]; omega
        rw [ef]
        obtain ⟨K', hK'⟩ : ∃ K', K' = takeK (r.size : Nat) 0 (Len - (tk + (b.size : Int) - (F + tk - k * B))) (n - (o.size + ((b.size : Int) - (F + tk - k * B)))) := ⟨_, rfl⟩
        rw [← hK']
        have hKb : 0 ≤ K' ∧ K' ≤ r.size := by
          rw [hK']; unfold takeK atM
          rw [hTB] at hfull
          have : T ≤ F + tk - k * B + (n - o.size) := by rw [hTv]; unfold atM; split <;> omega
          split
          · omega
          · split <;> split <;> omega
        have hK : takeK ((b ++ r).size : Nat) (F + tk - k * B) (Len - tk) (n - o.size) = (b.size : Int) - (F + tk - k * B) + K' := by
          rw [app_size, hK']
          have h9 : T ≤ F + tk - k * B + (n - o.size) := by rw [hTv]; unfold atM; split <;> omega
          unfold takeK atM
          rw [if_neg (by push_cast; omega)]
          push_cast
          split <;> split <;> (try split) <;> (try split) <;> (try split) <;> omega
        rw [hK]
        refine Prod.ext ?_ ?_
        · simp only; omega
        · simp only
          rw [app_assoc]
          congr 1
          rw [show F + tk - k * B + ((b.size : Int) - (F + tk - k * B) + K') = (b.size : Int) + K' by omega, show ((b.size : Int) + K').toNat = b.size + K'.toNat by omega, extract_app_over _ _ _ _ (by omega) (by omega)]
          simp
    · simp only [if_true]
      have hK : takeK (ByteArray.empty.size : Nat) (F + tk - k * B) (Len - tk) (n - o.size) = 0 := by
        unfold takeK; rw [if_pos (by show (0 : Int) ≤ _; omega)]
      rw [hK, Int.add_zero, Int.add_zero, extract_nil, app_nil]

theorem goT_held (a b : Int) (t : Tr) (k : Int) (n : Nat) : ∃ h, goT a b t k n = { t with held := h } ∧ h.length = t.held.length := by
  induction n with
  | zero => exact ⟨t.held, rfl, rfl⟩
  | succ n ih =>
    obtain ⟨h, e, hl⟩ := ih
    rw [goT_succ, e]
    split
    · exact ⟨h, rfl, hl⟩
    · exact ⟨_, rfl, by simp [hl]⟩
theorem goT_empty (a b : Int) (t : Tr) (hl : t.held.length = 4) (k : Int) (hk : 0 ≤ k) (n j : Nat) (he : t.held.getD j ByteArray.empty = ByteArray.empty) : (goT a b t k n).held.getD j ByteArray.empty = ByteArray.empty := by
  induction n with
  | zero => exact he
  | succ n ih =>
    obtain ⟨h, e, hh⟩ := goT_held a b t k n
    rw [goT_succ]
    split
    · exact ih
    · show ((goT a b t k n).held.set ((k + (n : Nat)) % 4).toNat ByteArray.empty).getD j ByteArray.empty = _
      rw [held_get _ (by rw [e]; simp only; omega) _ (by omega), ih]; split <;> rfl
theorem goT_clear (a b : Int) (t : Tr) (hl : t.held.length = 4) (k : Int) (hk : 0 ≤ k) (n j i : Nat) (hi : i < n) (hj : ((k + (i : Nat)) % 4).toNat = j) (hn : ¬ (a ≤ k + (i : Nat) ∧ k + (i : Nat) < b)) : (goT a b t k n).held.getD j ByteArray.empty = ByteArray.empty := by
  induction n with
  | zero => omega
  | succ n ih =>
    obtain ⟨h, e, hh⟩ := goT_held a b t k n
    rw [goT_succ]
    by_cases hin : i = n
    · subst hin
      rw [if_neg hn]
      show ((goT a b t k i).held.set ((k + (i : Nat)) % 4).toNat ByteArray.empty).getD j ByteArray.empty = _
      rw [held_get _ (by rw [e]; simp only; omega) _ (by omega), if_pos hj.symm]
    · have ih := ih (by omega)
      split
      · exact ih
      · show ((goT a b t k n).held.set ((k + (n : Nat)) % 4).toNat ByteArray.empty).getD j ByteArray.empty = _
        rw [held_get _ (by rw [e]; simp only; omega) _ (by omega), ih]; split <;> rfl
theorem goT_keep (a b : Int) (t : Tr) (hl : t.held.length = 4) (k : Int) (hk : 0 ≤ k) (n j : Nat) (hs : ∀ i : Nat, i < n → ((k + (i : Nat)) % 4).toNat = j → a ≤ k + (i : Nat) ∧ k + (i : Nat) < b) : (goT a b t k n).held.getD j ByteArray.empty = t.held.getD j ByteArray.empty := by
  induction n with
  | zero => rfl
  | succ n ih =>
    obtain ⟨h, e, hh⟩ := goT_held a b t k n
    have ih := ih (fun i hi => hs i (by omega))
    rw [goT_succ]
    split
    · exact ih
    · rename_i hn
      show ((goT a b t k n).held.set ((k + (n : Nat)) % 4).toNat ByteArray.empty).getD j ByteArray.empty = _
      rw [held_get _ (by rw [e]; simp only; omega) _ (by omega), if_neg (fun e => hn (hs n (by omega) e.symm)), ih]
theorem dropTo_get (wl : List Int) (has : List ByteArray) (n : Nat) (hn : has.length ≤ n) (j : Nat) : (dropTo wl has n).getD j ByteArray.empty = if (j : Int) ∈ wl then has.getD j ByteArray.empty else ByteArray.empty := by
  unfold dropTo
  rw [List.getD_eq_getElem?_getD, List.getD_eq_getElem?_getD, List.getElem?_mapIdx]
  by_cases hj : j < has.length
  · rw [List.getElem?_eq_getElem hj]
    simp only [Option.map_some, Option.getD_some]
    by_cases hm : (j : Int) ∈ wl
    · rw [if_neg (fun h => h.2 hm), if_pos hm]
    · rw [if_pos ⟨by omega, hm⟩, if_neg hm]
  · rw [List.getElem?_eq_none (by omega)]
    simp only [Option.map_none, Option.getD_none]
    split <;> rfl
/-- Both windows: what was held, and what is held still. -/
theorem HRel.drop {wl wl' : List Int} {held has : List ByteArray} (h : HRel wl held has) (held' : List ByteArray)
    (h1 : ∀ k : Nat, (k : Int) ∈ wl' → (k : Int) ∈ wl → held'.getD (k % 4) ByteArray.empty = held.getD (k % 4) ByteArray.empty)
    (h2 : ∀ k : Nat, (k : Int) ∈ wl' → (k : Int) ∉ wl → held'.getD (k % 4) ByteArray.empty = ByteArray.empty)
    (h3 : ∀ j : Nat, j < 4 → (∀ k : Nat, (k : Int) ∈ wl' → k % 4 ≠ j) → held'.getD j ByteArray.empty = ByteArray.empty) : HRel wl' held' (dropTo wl' has has.length) := by
  refine ⟨fun k hk => ?_, fun k hk => ?_, h3⟩
  · rw [dropTo_get _ _ _ (Nat.le_refl _), if_pos hk]
    by_cases hw : (k : Int) ∈ wl
    · rw [h1 k hk hw, h.a k hw]
    · rw [h2 k hk hw, h.b k hw]
  · rw [dropTo_get _ _ _ (Nat.le_refl _), if_neg hk]
theorem take_none' {B W n : Int} {t : Tr} (h : ((runT t (winT B W t).1 ((winT B W t).2 - (winT B W t).1).toNat).size : Int) ≤ t.hd.frm + t.taken - (winT B W t).1 * B) : takeT B W n t = (ByteArray.empty, t) := by
  unfold takeT; simp only; rw [if_pos h]
theorem take_some' {B W n : Int} {t : Tr} {r : ByteArray} {f K : Int} (hr : r = runT t (winT B W t).1 ((winT B W t).2 - (winT B W t).1).toNat) (hf : f = t.hd.frm + t.taken - (winT B W t).1 * B) (hK : K = takeN t r.size f n) (h : ¬ (r.size : Int) ≤ f) :
    takeT B W n t = (r.extract f.toNat (f + K).toNat, goT (winT B W { t with taken := t.taken + K }).1 (winT B W { t with taken := t.taken + K }).2 { t with taken := t.taken + K } (winT B W t).1 ((winT B W t).2 - (winT B W t).1).toNat) := by
  subst hK hf hr
  unfold takeT; simp only; rw [if_neg h]
theorem TrB.take {t : Tr} {m : Mv} (h : TrB t m) (K : Int) : TrB { t with taken := t.taken + K } { m with taken := m.taken + K } :=
  ⟨h.path, h.rng, h.shown, h.lost, by show t.taken + K = m.taken + K; rw [h.taken], h.fails, h.bound, h.tag0, h.cut, h.hd⟩

set_option maxHeartbeats 1000000 in
theorem take_rel {B W n tri : Int} {t : Tr} {m : Mv} (hB : 1 ≤ B) (hW : 1 ≤ W) (hW4 : W ≤ 4) (h : TrRel B W t m) (ok : TrOk t) (g : MvGood B tri m) (ho : ¬ (m.tag = 0 ∧ m.lost = false)) (hs : t.shown = true) (hn : 0 ≤ n) (e : Int × ByteArray)
    (he : e = takeGo B (fromL m) (lenL m) n m.has (winL B W m) m.taken ByteArray.empty) :
    (takeT B W n t).1 = e.2 ∧ TrRel B W (takeT B W n t).2 { m with taken := e.1, has := dropTo (winL B W { m with taken := e.1 }) m.has m.has.length } := by
  have hself : ∀ has', m.has = has' → TrRel B W t { m with has := has' } := fun has' e => by rw [← e]; exact h
  have hseq := win_eq hB hW h.toTrB ok ho
  have hmem := win_mem hB hW h.toTrB ok ho
  have hx0 := winT_nn (W := W) hB ok
  have nochange : ∀ e : Int × ByteArray, e = (m.taken, ByteArray.empty) → takeT B W n t = (ByteArray.empty, t) → (takeT B W n t).1 = e.2 ∧ TrRel B W (takeT B W n t).2 { m with taken := e.1, has := dropTo (winL B W { m with taken := e.1 }) m.has m.has.length } := by
    intro e he ht
    rw [ht, he]
    refine ⟨rfl, ⟨⟨h.path, h.rng, h.shown, h.lost, h.taken, h.fails, h.bound, h.tag0, h.cut, h.hd⟩, ?_⟩⟩
    show HRel (winL B W m) t.held (dropTo (winL B W m) m.has m.has.length)
    exact h.held.drop t.held (fun _ _ _ => rfl) (fun k h1 h2 => absurd h1 h2) h.held.c
  by_cases hgo : m.lost = false ∧ m.taken ≠ lenL m
  · obtain ⟨hl, hne⟩ := hgo
    have htag : m.tag ≠ 0 := fun e => ho ⟨e, hl⟩
    have hh : t.hd = hdL m := by rw [h.hd]; unfold hdOf; rw [if_neg (by simp [hl]), if_neg htag]
    have hfr : t.hd.frm = fromL m := by rw [hh]; rfl
    have hln : t.hd.len = lenL m := by rw [hh]; rfl
    have htl : t.lost = false := by rw [h.lost, hl]
    have htb : t.bound = true := by rw [h.bound hl]; simpa using htag
    have htk := h.taken
    have hk0 := ok.k0
    have hk1 := ok.k1
    have hr0 := ok.r0
    rw [hfr] at hr0
    rw [htk] at hk0 hk1
    rw [hln] at hk1
    have hwt : winT B W t = ((fromL m + m.taken) / B, atM ((fromL m + lenL m - 1) / B + 1) ((fromL m + m.taken) / B + W)) := by
      unfold winT; rw [htl, htb]; simp only [Bool.false_eq_true, if_false, Bool.not_true]
      rw [htk, hfr, hln, if_neg hne]
    have hq1 : (fromL m + m.taken) / B * B ≤ fromL m + m.taken := Int.ediv_mul_le _ (by omega)
    have hq2 : fromL m + m.taken < (fromL m + m.taken) / B * B + B := by
      have := Int.lt_ediv_add_one_mul_self (fromL m + m.taken) (show 0 < B by omega)
      rw [Int.add_mul] at this; omega
    have hq3 : (fromL m + lenL m - 1) / B * B ≤ fromL m + lenL m - 1 := Int.ediv_mul_le _ (by omega)
    have hq4 : (fromL m + m.taken) / B ≤ (fromL m + lenL m - 1) / B := Int.ediv_le_ediv (by omega) (by omega)
    obtain ⟨c, hc⟩ : ∃ c : Nat, ((winT B W t).2 - (winT B W t).1).toNat = c + 1 := by
      refine ⟨((winT B W t).2 - (winT B W t).1).toNat - 1, ?_⟩
      rw [hwt]; unfold atM; simp only; split <;> omega
    have hcW : (c : Int) + 1 ≤ W := by
      rw [hwt] at hc; unfold atM at hc; simp only at hc; split at hc <;> omega
    have hx : (winT B W t).1 = (fromL m + m.taken) / B := by rw [hwt]
    have hlast : ∀ i : Nat, i < c + 1 → (winT B W t).1 + i ≤ (fromL m + lenL m - 1) / B := by
      intro i hi
      rw [hwt] at hc ⊢
      unfold atM at hc; simp only at hc ⊢; split at hc <;> omega
    have hrun := take_run B (fromL m) (lenL m) n m.tot t m.has hB hr0 (head_in m g.ok.t0) c (winT B W t).1 m.taken ByteArray.empty
      (fun i hi => held_eq h _ (by omega) ((hmem _).2 (by omega)))
      (fun i hi hne => by
        have e1 := held_eq h ((winT B W t).1 + i) (by omega) ((hmem _).2 (by omega))
        rw [← e1] at hne ⊢
        exact held_size g.has _ (by omega) hne)
      (fun i hi => by
        have h1 := hlast i hi
        have h2 : ((winT B W t).1 + i) * B ≤ (fromL m + lenL m - 1) / B * B := Int.mul_le_mul_of_nonneg_right h1 (by omega)
        omega)
      (by rw [hx]; exact hq1) (by rw [hx]; exact hq2) (by omega) (by show ((0 : Nat) : Int) ≤ n; omega)
    rw [hseq, hc, hrun] at he
    obtain ⟨r, hr⟩ : ∃ r, r = runT t (winT B W t).1 (c + 1) := ⟨_, rfl⟩
    obtain ⟨f, hf⟩ : ∃ f, f = fromL m + m.taken - (winT B W t).1 * B := ⟨_, rfl⟩
    rw [← hr, ← hf] at he
    have hnn : n - ((ByteArray.empty.size : Nat) : Int) = n := by show n - 0 = n; omega
    rw [hnn] at he
    have hf' : f = t.hd.frm + t.taken - (winT B W t).1 * B := by rw [hf, hfr, htk]
    have hr' : r = runT t (winT B W t).1 ((winT B W t).2 - (winT B W t).1).toNat := by rw [hr, hc]
    by_cases hle : (r.size : Int) ≤ f
    · have hK : takeK r.size f (lenL m - m.taken) n = 0 := by unfold takeK; rw [if_pos hle]
      rw [hK, Int.add_zero, Int.add_zero, extract_nil, app_nil] at he
      exact nochange e he (take_none' (by rw [← hr', ← hf']; exact hle))
    · obtain ⟨K, hK⟩ : ∃ K, K = takeN t r.size f n := ⟨_, rfl⟩
      have hKK : takeK r.size f (lenL m - m.taken) n = K := by
        rw [hK]; unfold takeK takeN; rw [if_neg hle, hln, htk]
      rw [hKK] at he
      have hKb : 0 ≤ K ∧ K ≤ lenL m - m.taken := by
        rw [hK]; unfold takeN atM; rw [hln, htk]
        split <;> split <;> omega
      have ok1 : TrOk { t with taken := t.taken + K } := taken_ok ok hs K hKb.1 (by rw [hln, htk]; exact hKb.2)
      have hb1 := h.toTrB.take K
      have hmem1 := win_mem (m := { m with taken := m.taken + K }) hB hW hb1 ok1 ho
      rw [take_some' hr' hf' hK hle]
      have e1 : e.1 = m.taken + K := by rw [he]
      have e2 : e.2 = r.extract f.toNat (f + K).toNat := by
        rw [he]; apply ba_ext; rw [ba_app]; rfl
      refine ⟨e2.symm, ?_⟩
      rw [e1]
      obtain ⟨hd', hgo', hlen'⟩ := goT_held (winT B W { t with taken := t.taken + K }).1 (winT B W { t with taken := t.taken + K }).2 { t with taken := t.taken + K } (winT B W t).1 ((winT B W t).2 - (winT B W t).1).toNat
      have hgo2 := hgo'
      refine ⟨?_, ?_⟩
      · rw [hgo']
        exact ⟨hb1.path, hb1.rng, hb1.shown, hb1.lost, hb1.taken, hb1.fails, hb1.bound, hb1.tag0, hb1.cut, hb1.hd⟩
      · show HRel (winL B W { m with taken := m.taken + K }) _ (dropTo (winL B W { m with taken := m.taken + K }) m.has m.has.length)
        have hmod : ∀ (i : Nat), (((winT B W t).1 + (i : Nat)) % 4).toNat = ((winT B W t).1.toNat + i) % 4 := fun i => by omega
        refine h.held.drop _ (fun k hk1 hk2 => ?_) (fun k hk1 hk2 => ?_) (fun j hj hn' => ?_)
        · refine goT_keep _ _ _ ok1.hl _ hx0 _ _ (fun i hi hij => ?_)
          rw [hmem] at hk2
          have hik : (winT B W t).1 + (i : Nat) = k := by rw [hmod] at hij; omega
          rw [hik]
          exact (hmem1 k).1 hk1
        · rw [hmem] at hk2
          by_cases hex : ∃ i : Nat, i < ((winT B W t).2 - (winT B W t).1).toNat ∧ (((winT B W t).1 + (i : Nat)) % 4).toNat = k % 4
          · obtain ⟨i, hi, hij⟩ := hex
            refine goT_clear _ _ _ ok1.hl _ hx0 _ _ i hi hij (fun hin => ?_)
            have hk1' := (hmem1 k).1 hk1
            have hw1 : (winT B W { t with taken := t.taken + K }).2 ≤ (winT B W { t with taken := t.taken + K }).1 + 4 := by
              unfold winT atM; simp only
              split
              · simp
              · split
                · simp
                · split
                  · simp
                  · simp only; split <;> omega
            rw [hmod] at hij
            have hnat : (k : Int) = (winT B W t).1 + (i : Nat) := by omega
            apply hk2
            omega
          · refine goT_empty _ _ _ ok1.hl _ hx0 _ _ ?_
            refine h.held.c _ (by omega) (fun k' hk' he => hex ?_)
            rw [hmem] at hk'
            exact ⟨(k' - (winT B W t).1).toNat, by omega, by rw [show (winT B W t).1 + (((k' : Int) - (winT B W t).1).toNat : Int) = (k' : Int) by omega]; omega⟩
        · by_cases hex : ∃ i : Nat, i < ((winT B W t).2 - (winT B W t).1).toNat ∧ (((winT B W t).1 + (i : Nat)) % 4).toNat = j
          · obtain ⟨i, hi, hij⟩ := hex
            refine goT_clear _ _ _ ok1.hl _ hx0 _ _ i hi hij (fun hin => ?_)
            have hkk : ((((winT B W t).1 + (i : Nat)).toNat : Nat) : Int) = (winT B W t).1 + (i : Nat) := by omega
            exact hn' ((winT B W t).1 + (i : Nat)).toNat ((hmem1 _).2 (by rw [hkk]; exact hin)) (by rw [hmod] at hij; omega)
          · refine goT_empty _ _ _ ok1.hl _ hx0 _ _ ?_
            refine h.held.c _ hj (fun k' hk' he => hex ?_)
            rw [hmem] at hk'
            exact ⟨(k' - (winT B W t).1).toNat, by omega, by rw [show (winT B W t).1 + (((k' : Int) - (winT B W t).1).toNat : Int) = (k' : Int) by omega]; omega⟩
  · have hwin : winT B W t = (0, 0) := by
      cases hl : m.lost
      · have htk : m.taken = lenL m := by
          by_cases e : m.taken = lenL m
          · exact e
          · exact absurd ⟨hl, e⟩ hgo
        have htag : m.tag ≠ 0 := fun e => ho ⟨e, hl⟩
        have hh : t.hd = hdL m := by rw [h.hd]; unfold hdOf; rw [if_neg (by simp [hl]), if_neg htag]
        have hln : t.hd.len = lenL m := by rw [hh]; rfl
        have htl : t.lost = false := by rw [h.lost, hl]
        have htb : t.bound = true := by rw [h.bound hl]; simpa using htag
        unfold winT; rw [htl, htb, h.taken, hln, if_pos htk]; simp
      · have htl : t.lost = true := by rw [h.lost, hl]
        unfold winT; rw [htl]; simp
    have hw0 : winL B W m = [] := by rw [hseq, hwin]; rfl
    rw [hw0] at he
    refine nochange e he (take_none' ?_)
    rw [hwin]
    show ((0 : Nat) : Int) ≤ t.hd.frm + t.taken - 0 * B
    have := ok.r0
    have := ok.k0
    omega
end Go.Proofs.YtjhihliciadipabGreat

namespace Go.Proofs.YtjhihliciadipabGreat
open Go.RowKit

/-! The two proxies. -/
def erJ (j : Jb) : Er := ⟨j.path, j.tag, j.tot, j.k⟩
structure Rel (s : Px) (r : Pr) : Prop where
  mir : s.mir = r.mir
  blk : s.blk = r.blk
  win : s.win = r.win
  cap : s.cap = r.cap
  tri : s.tri = r.tri
  lat : s.lat = r.latest
  lat0 : ∀ v ∈ s.lat, v.1 = 0 → v.2 = 0
  nt : s.trs.length = r.ts.length
  ts : ∀ (i : Nat) t m, s.trs[i]? = some t → r.ts[i]? = some m → TrRel s.blk s.win t m
  jobs : ∀ (k : Nat) j, r.jobs[k]? = some j → s.busy[k]? = some j.on ∧ (j.on = true → s.ers[k]? = some (erJ j))
  idle : ∀ (k : Nat), r.jobs.length ≤ k → s.busy.getD k false = false
  cache : CRel s.cac r.cache r.clock
  kok : ∀ x ∈ r.cache, 1 ≤ x.tag ∧ KpOk x
  tok : ∀ t ∈ s.trs, TrOk t
  fair : Fair s

theorem Rel.mapT {s : Px} {r : Pr} (h : Rel s r) (f : Tr → Tr) (g : Mv → Mv) (hf : ∀ t ∈ s.trs, TrOk (f t)) (hfg : ∀ t m, t ∈ s.trs → m ∈ r.ts → TrRel s.blk s.win t m → TrRel s.blk s.win (f t) (g m)) :
    Rel { s with trs := s.trs.map f } { r with ts := r.ts.map g } := by
  refine ⟨h.mir, h.blk, h.win, h.cap, h.tri, h.lat, h.lat0, by simp [h.nt], ?_, h.jobs, h.idle, h.cache, h.kok, ?_, h.fair.withTrs _⟩
  · intro i t m ht hm
    simp only [List.getElem?_map, Option.map_eq_some_iff] at ht hm
    obtain ⟨t0, ht0, rfl⟩ := ht
    obtain ⟨m0, hm0, rfl⟩ := hm
    exact hfg t0 m0 (List.mem_of_getElem? ht0) (List.mem_of_getElem? hm0) (h.ts i t0 m0 ht0 hm0)
  · intro t ht
    simp only [List.mem_map] at ht
    obtain ⟨t0, ht0, rfl⟩ := ht
    exact hf t0 ht0
theorem Rel.setT {s : Px} {r : Pr} (h : Rel s r) (i : Nat) (t : Tr) (m : Mv) (hok : TrOk t) (htm : TrRel s.blk s.win t m) : Rel { s with trs := s.trs.set i t } { r with ts := r.ts.set i m } := by
  refine ⟨h.mir, h.blk, h.win, h.cap, h.tri, h.lat, h.lat0, by simp [h.nt], ?_, h.jobs, h.idle, h.cache, h.kok, ?_, h.fair.withTrs _⟩
  · intro k t' m' ht hm
    rw [List.getElem?_set] at ht hm
    by_cases hik : i = k
    · subst hik
      rw [if_pos rfl] at ht hm
      split at ht
      · split at hm
        · simp at ht hm; subst ht hm; exact htm
        · simp at hm
      · simp at ht
    · rw [if_neg hik] at ht hm
      exact h.ts k t' m' ht hm
  · intro t' ht'
    rcases List.mem_or_eq_of_mem_set ht' with h1 | rfl
    · exact h.tok t' h1
    · exact hok
theorem Rel.addT {s : Px} {r : Pr} (h : Rel s r) (t : Tr) (m : Mv) (hok : TrOk t) (htm : TrRel s.blk s.win t m) : Rel { s with trs := s.trs ++ [t] } { r with ts := r.ts ++ [m] } := by
  refine ⟨h.mir, h.blk, h.win, h.cap, h.tri, h.lat, h.lat0, by simp [h.nt], ?_, h.jobs, h.idle, h.cache, h.kok, ?_, h.fair.withTrs _⟩
  · intro k t' m' ht hm
    by_cases hk : k < s.trs.length
    · rw [List.getElem?_append_left hk] at ht
      rw [List.getElem?_append_left (by rw [← h.nt]; exact hk)] at hm
      exact h.ts k t' m' ht hm
    · rw [List.getElem?_append_right (by omega)] at ht
      rw [List.getElem?_append_right (by rw [← h.nt]; omega), ← h.nt] at hm
      have : k - s.trs.length = 0 := by
        rcases Nat.eq_zero_or_pos (k - s.trs.length) with h0 | h0
        · exact h0
        · rw [List.getElem?_eq_none (by simp; omega)] at ht; simp at ht
      rw [this] at ht hm
      simp at ht hm; subst ht hm; exact htm
  · intro t' ht'
    rcases List.mem_append.1 ht' with h1 | h1
    · exact h.tok t' h1
    · simp at h1; subst h1; exact hok
theorem Rel.setC {s : Px} {r : Pr} (h : Rel s r) (c : List (Er × ByteArray)) (k : List Kp) (cl : Int) (hc : CRel c k cl) (hk : ∀ x ∈ k, 1 ≤ x.tag ∧ KpOk x) : Rel { s with cac := c } { r with cache := k, clock := cl } :=
  ⟨h.mir, h.blk, h.win, h.cap, h.tri, h.lat, h.lat0, h.nt, h.ts, h.jobs, h.idle, hc, hk, h.tok, ⟨h.fair.m1, h.fair.m2, h.fair.B1, h.fair.B2, h.fair.W1, h.fair.W2, h.fair.c1, h.fair.c2, h.fair.t1, h.fair.t2⟩⟩
theorem Rel.B1 {s : Px} {r : Pr} (h : Rel s r) : 1 ≤ s.blk ∧ 1 ≤ s.win ∧ s.win ≤ 4 := ⟨h.fair.B1, h.fair.W1, h.fair.W2⟩

/-! Failures, news, deliveries. -/
theorem rel_fails {s : Px} {r : Pr} {C : Int} (h : Rel s r) (g : Good r C) (j : Jb) (hj : 0 ≤ j.k) : Rel (failedS s (erJ j)) (failsL r j) := by
  have hb := h.B1
  have key := h.mapT (fun t => if wantsT s.blk s.win t (erJ j) then pfailT s.tri t else t) (failT s.blk s.win s.tri j) (fun t ht => by
    split
    · rename_i hw
      exact pfailT_ok (h.tok t ht) (wants_not_lost hj hw) h.fair.t2
    · exact h.tok t ht) (fun t m ht hm hr => by
    have gm := g.ts m hm
    rw [← h.blk, ← h.tri] at gm
    exact fails_rel hb.1 hb.2.1 hr (h.tok t ht) gm j (erJ j) rfl)
  have e2 : failsL r j = { r with ts := r.ts.map (failT s.blk s.win s.tri j) } := by unfold failsL; rw [h.blk, h.win, h.tri]
  rw [e2]
  exact key
theorem rel_news {s : Px} {r : Pr} (h : Rel s r) (p : Nat) (tag tot : Int) (ht : 1 ≤ tag) (h0 : 0 ≤ tot) (h1 : tot ≤ 1000) : Rel (renewS s p (tag, tot)) (newsL r p tag tot) := by
  have key := h.mapT (fun t => if (t.path == (p : Int) && followsT t (tag, tot)) = true then bindT t (tag, tot) else t) (newsT p tag tot) (fun t ht' => by
    split
    · rename_i hw
      simp at hw
      exact bindT_ok (h.tok t ht') (follows_new (h.tok t ht') hw.2).2.2 h0 h1
    · exact h.tok t ht') (fun t m _ _ hr => news_rel hr p tag tot ht h0 h1)
  unfold renewS newsL
  rw [Int.toNat_natCast]
  refine ⟨key.mir, key.blk, key.win, key.cap, key.tri, ?_, ?_, key.nt, key.ts, key.jobs, key.idle, key.cache, key.kok, key.tok, ⟨h.fair.m1, h.fair.m2, h.fair.B1, h.fair.B2, h.fair.W1, h.fair.W2, h.fair.c1, h.fair.c2, h.fair.t1, h.fair.t2⟩⟩
  · show s.lat.set p (tag, tot) = r.latest.set p (tag, tot); rw [h.lat]
  · intro v hv hv0
    rcases List.mem_or_eq_of_mem_set hv with h1 | rfl
    · exact h.lat0 v h1 hv0
    · simp only at hv0; omega
theorem kpHit_eq (j : Jb) (x : Kp) : kpHit j x = (kpE x == erJ j) := by
  unfold kpHit kpE erJ
  rw [er_beq]
theorem evict_subK (cap : Int) (n : Nat) (l : List Kp) : ∀ x ∈ evict cap n l, x ∈ l := by
  induction n generalizing l with
  | zero => intro x hx; exact hx
  | succ n ih =>
    intro x hx
    simp only [evict] at hx
    split at hx
    · exact (List.eraseIdx_sublist ..).subset (ih _ x hx)
    · exact hx
theorem rel_keep {s : Px} {r : Pr} (h : Rel s r) (j : Jb) (body : ByteArray) (ht : 1 ≤ j.tag) (hk0 : 0 ≤ j.k) (hk1 : j.k ≤ 100000) (hb1 : 1 ≤ body.size) (hb : body.size ≤ 16) (hcl : 0 ≤ r.clock) : Rel { s with cac := putC s.cap s.cac (erJ j) body } (keepL r j body) := by
  have ecap : putC s.cap s.cac (erJ j) body = putC r.cap s.cac (erJ j) body := by rw [h.cap]
  rw [ecap]
  unfold keepL putC
  by_cases hc : r.cap < (body.size : Int)
  · rw [if_pos hc, if_pos hc]; exact h
  · rw [if_neg hc, if_neg hc]
    have hrm : rmTo j r.cache 0 = r.cache.filter (fun x => !(kpE x == erJ j)) := by
      unfold rmTo; simp only [List.take_zero, List.nil_append, List.drop_zero]
      congr 1; funext x; rw [kpHit_eq]
    have hall : keepAll r j body = r.cache.filter (fun x => !(kpE x == erJ j)) ++ [keepNew r j body] := by unfold keepAll; rw [hrm]
    have hc1 : 0 ≤ r.cap := by rw [← h.cap]; exact h.fair.c1
    have hput := h.cache.put r.cap hc1 hcl (keepNew r j body) rfl (keepAll r j body).length (by rw [hall]; rfl)
    rw [hall]
    rw [hall] at hput
    refine h.setC _ _ _ hput (fun x hx => ?_)
    rcases List.mem_append.1 (evict_subK _ _ _ x hx) with h1 | h1
    · exact h.kok x (List.mem_filter.1 h1).1
    · simp at h1; subst h1
      exact ⟨ht, ⟨hk0, hk1, hb1, hb⟩⟩
theorem size_pos {body : ByteArray} (h : body.toList.isEmpty = false) : 1 ≤ body.size := ba_pos body h
theorem rel_deliver {s : Px} {r : Pr} {C : Int} (h : Rel s r) (g : Good r C) (j : Jb) (body : ByteArray) (ht : 1 ≤ j.tag) (hk0 : 0 ≤ j.k) (hk1 : j.k ≤ 100000) (hb : body.size ≤ 16) : Rel (delivS s (erJ j) body) (deliverL r j body) := by
  unfold delivS deliverL
  cases he : body.toList.isEmpty
  · simp only [Bool.false_eq_true, if_false]
    have hb' := h.B1
    have key := h.mapT (fun t => if wantsT s.blk s.win t (erJ j) then { holdT t (erJ j).blk body with fails := 0 } else t) (delT s.blk s.win j body) (fun t ht' => by
      split
      · exact gotT_ok (e := erJ j) (h.tok t ht') hb
      · exact h.tok t ht') (fun t m ht' hm hr => del_rel hb'.1 hb'.2.1 hb'.2.2 hr (h.tok t ht') j (erJ j) rfl hk0 ht body)
    have e2 : delTs r j body = { r with ts := r.ts.map (delT s.blk s.win j body) } := by unfold delTs; rw [h.blk, h.win]
    rw [← e2] at key
    exact rel_keep key j body ht hk0 hk1 (size_pos he) hb g.inv.c0
  · simp only [if_true]; exact h
end Go.Proofs.YtjhihliciadipabGreat

namespace Go.Proofs.YtjhihliciadipabGreat
open Go.RowKit

/-! Looking into the cache. -/
theorem lookC_miss {i : Nat} {k : Int} {r : Pr} {c : Nat} {m : Mv} (hm : r.ts[i]? = some m) (h : ∀ x, r.cache[c]? = some x → lookHit m x k = false) : lookC i k r c = r := by
  unfold lookC
  rw [hm]
  cases hx : r.cache[c]? with
  | none => rfl
  | some x => simp only [h x hx, Bool.false_eq_true, if_false]
theorem fold_miss {i : Nat} {k : Int} {r : Pr} {m : Mv} (hm : r.ts[i]? = some m) (l : List Nat) (h : ∀ c ∈ l, ∀ x, r.cache[c]? = some x → lookHit m x k = false) : l.foldl (lookC i k) r = r := by
  induction l with
  | nil => rfl
  | cons c l ih =>
    rw [List.foldl_cons, lookC_miss hm (h c (List.mem_cons_self ..))]
    exact ih (fun d hd => h d (List.mem_cons_of_mem _ hd))
theorem hit_eq (m : Mv) (x : Kp) (k : Int) : lookHit m x k = (kpE x == ⟨m.path, m.tag, m.tot, k⟩) := by
  unfold lookHit kpE; rw [er_beq]
/-- One wanted block: it is in the cache, or it is not. -/
theorem lookK_miss {i : Nat} {k : Int} {r : Pr} {m : Mv} (hm : r.ts[i]? = some m) (h : ∀ x ∈ r.cache, kpE x ≠ ⟨m.path, m.tag, m.tot, k⟩) : lookK i r k = r :=
  fold_miss hm _ (fun c _ x hx => by rw [hit_eq]; simp; exact h x (List.mem_of_getElem? hx))
theorem lookK_hit {i : Nat} {k : Int} {r : Pr} {m : Mv} {j : Nat} {x : Kp} (hm : r.ts[i]? = some m) (hu : r.cache.Pairwise (fun x y => kpE x ≠ kpE y)) (hj : r.cache[j]? = some x) (hx : kpE x = ⟨m.path, m.tag, m.tot, k⟩) :
    lookK i r k = { r with ts := r.ts.set i { m with has := giveL m.has x.k.toNat x.body }, cache := r.cache.set j { x with when := r.clock + 1 }, clock := r.clock + 1 } := by
  obtain ⟨hjl, hjx⟩ := List.getElem?_eq_some_iff.1 hj
  have hil := (List.getElem?_eq_some_iff.1 hm).1
  have hne : ∀ (c : Nat) y, c ≠ j → r.cache[c]? = some y → kpE y ≠ kpE x := by
    intro c y hc hy
    obtain ⟨hcl, hcy⟩ := List.getElem?_eq_some_iff.1 hy
    rw [List.pairwise_iff_getElem] at hu
    rcases Nat.lt_or_gt_of_ne hc with h1 | h1
    · have := hu c j hcl hjl h1; rw [hcy, hjx] at this; exact this
    · have := hu j c hjl hcl h1; rw [hcy, hjx] at this; exact this.symm
  unfold lookK
  have hr : List.range r.cache.length = List.range j ++ (j :: (List.range (r.cache.length - (j + 1))).map (fun d => j + 1 + d)) := by
    rw [show r.cache.length = j + (r.cache.length - j) by omega, List.range_add]
    congr 1
    rw [show r.cache.length - j = (r.cache.length - (j + 1)) + 1 by omega, List.range_succ_eq_map, List.map_cons, List.map_map]
    simp only [Nat.add_zero, List.cons.injEq, true_and]
    rw [show j + (r.cache.length - (j + 1) + 1) - (j + 1) = r.cache.length - (j + 1) by omega]
    apply List.map_congr_left
    intro d _
    simp only [Function.comp]; omega
  rw [hr, List.foldl_append, List.foldl_cons, fold_miss hm (List.range j) (fun c hc y hy => by
    rw [hit_eq]; simp
    rw [List.mem_range] at hc
    rw [← hx]; exact hne c y (by omega) hy)]
  have hstep : lookC i k r j = { r with ts := r.ts.set i { m with has := giveL m.has x.k.toNat x.body }, cache := r.cache.set j { x with when := r.clock + 1 }, clock := r.clock + 1 } := by
    unfold lookC
    rw [hm, hj]
    have : lookHit m x k = true := by rw [hit_eq]; simpa using hx
    simp only [this, if_true]
  rw [hstep]
  refine fold_miss (m := { m with has := giveL m.has x.k.toNat x.body }) (by simp [hil]) _ (fun c hc y hy => ?_)
  simp only [List.mem_map, List.mem_range] at hc
  obtain ⟨d, hd, rfl⟩ := hc
  rw [List.getElem?_set, if_neg (by omega)] at hy
  rw [hit_eq]; simp
  rw [← hx]; exact hne _ y (by omega) hy

theorem winL_has (B W : Int) (m : Mv) (h : List ByteArray) : winL B W { m with has := h } = winL B W m := rfl
/-- A transfer's wanted blocks, one by one. -/
theorem look_list {sn : Px} {n : Nat} {t : Tr} {m : Mv} (ks : List Int) (hl : m.lost = false ∨ ks = []) (hwin : ∀ k ∈ ks, 0 ≤ k ∧ (m.tag ≠ 0 → k ∈ winL sn.blk sn.win m)) (hpt : t.path = m.path) (htg : ks ≠ [] → t.hd.tag = m.tag ∧ t.hd.tot = m.tot) :
    ∀ (c : List (Er × ByteArray)) (tm : Tr) (r : Pr) (m' : Mv), n < sn.trs.length → (∃ h, tm = { t with held := h }) → (∃ h, m' = { m with has := h }) → r.ts[n]? = some m' → Rel (lookN sn n (c, tm)) r →
      Rel (lookN sn n ((ks.map (ofT t)).foldl plookE (c, tm))) (ks.foldl (lookK n) r) := by
  induction ks with
  | nil => intro c tm r m' hn h1 h2 h3 h4; exact h4
  | cons k ks ih =>
    intro c tm r m' hn h1 h2 h3 h4
    have hlm : m.lost = false := by rcases hl with h | h; exact h; simp at h
    obtain ⟨e1, e2⟩ := htg (by simp)
    have ih := ih (Or.inl hlm) (fun k hk => hwin k (List.mem_cons_of_mem _ hk)) (fun _ => ⟨e1, e2⟩)
    have hE : ofT t k = ⟨m.path, m.tag, m.tot, k⟩ := by unfold ofT; rw [hpt, e1, e2]
    obtain ⟨hd', rfl⟩ := h1
    obtain ⟨hs', rfl⟩ := h2
    have htr : (lookN sn n (c, { t with held := hd' })).trs[n]? = some { t with held := hd' } := by show (sn.trs.set n _)[n]? = _; simp [hn]
    have hrel := h4.ts n _ _ htr h3
    simp only [List.map_cons, List.foldl_cons]
    by_cases hex : ∃ x ∈ r.cache, kpE x = ⟨m.path, m.tag, m.tot, k⟩
    · obtain ⟨x, hxm, hx⟩ := hex
      obtain ⟨j, hj⟩ := idx_of_mem hxm
      have hcr : CRel c r.cache r.clock := h4.cache
      obtain ⟨hu1, hu2⟩ := hcr.use hj
      rw [hx, ← hE] at hu1 hu2
      obtain ⟨htag, hkx⟩ := h4.kok x hxm
      have hxk : x.k = k := by have := congrArg Er.blk hx; exact this
      have hxt : x.tag = m.tag := by have := congrArg Er.tag hx; exact this
      have hm0 : m.tag ≠ 0 := by omega
      have hkw := (hwin k (List.mem_cons_self ..)).2 hm0
      have hk0 := (hwin k (List.mem_cons_self ..)).1
      have hne : x.body.toList.isEmpty = false := by
        cases he : x.body.toList.isEmpty
        · rfl
        · have := ba_nil _ he; have := hkx.b0; rw [‹x.body = _›] at this; simp at this
      have hpe : plookE (c, { t with held := hd' }) (ofT t k) = ((useC c (ofT t k)).2, holdT { t with held := hd' } k x.body) := by
        unfold plookE
        simp only
        rw [hu1, hne]
        rfl
      rw [hpe, lookK_hit h3 hcr.un hj hx]
      have ok0 := h4.tok _ (List.mem_of_getElem? htr)
      have hT := hold_rel (f := t.fails) (g := m.fails) h4.fair.W2 hrel ok0 k hk0 hkw x.body hrel.fails
      refine ih _ _ _ { m with has := giveL hs' x.k.toNat x.body } hn ⟨hd'.set (k % 4).toNat x.body, rfl⟩ ⟨_, rfl⟩ (by simp [(List.getElem?_eq_some_iff.1 h3).1]) ?_
      have hset := h4.setT n (holdT { t with held := hd' } k x.body) { m with has := giveL hs' x.k.toNat x.body } (holdB_ok ok0 k x.body hkx.b1) (by rw [hxk]; exact hT)
      have hc2 := hset.setC (useC c (ofT t k)).2 (r.cache.set j { x with when := r.clock + 1 }) (r.clock + 1) hu2 (fun y hy => by
        rcases List.mem_or_eq_of_mem_set hy with h5 | rfl
        · exact h4.kok y h5
        · exact ⟨htag, ⟨hkx.k0, hkx.k1, hkx.b0, hkx.b1⟩⟩)
      have e9 : ({ lookN sn n (c, { t with held := hd' }) with trs := (lookN sn n (c, { t with held := hd' })).trs.set n (holdT { t with held := hd' } k x.body), cac := (useC c (ofT t k)).2 } : Px) = lookN sn n ((useC c (ofT t k)).2, holdT { t with held := hd' } k x.body) := by
        unfold lookN; simp
      rw [← e9]
      exact hc2
    · have hno : ∀ x ∈ r.cache, kpE x ≠ ⟨m.path, m.tag, m.tot, k⟩ := fun x hx he => hex ⟨x, hx, he⟩
      have hcr : CRel c r.cache r.clock := h4.cache
      have hmi := hcr.miss (e := ofT t k) (by rw [hE]; exact hno)
      have hpe : plookE (c, { t with held := hd' }) (ofT t k) = (c, { t with held := hd' }) := by
        unfold plookE
        simp only
        rw [hmi]
        simp only [empty_isEmpty, if_true]
      rw [hpe, lookK_miss h3 hno]
      exact ih c _ r _ hn ⟨hd', rfl⟩ ⟨hs', rfl⟩ h3 h4
theorem wants_bd' {s : Px} {r : Pr} (h : Rel s r) {t : Tr} {m : Mv} (hr : TrRel s.blk s.win t m) (ok : TrOk t) : ∀ k ∈ wantsL s.blk s.win m, 0 ≤ k ∧ (m.tag ≠ 0 → k ∈ winL s.blk s.win m) := by
  intro k hk
  have hb := h.B1
  by_cases ho : m.tag = 0 ∧ m.lost = false
  · unfold wantsL at hk; rw [if_pos ho] at hk; simp at hk; subst hk
    exact ⟨by omega, fun e => absurd ho.1 e⟩
  · have hw := (wants_win ho hk).1
    refine ⟨?_, fun _ => hw⟩
    have := (win_mem hb.1 hb.2.1 hr.toTrB ok ho k).1 hw
    have := winT_nn (W := s.win) hb.1 ok
    omega
theorem rel_lookTo {s : Px} {r : Pr} (h : Rel s r) (n : Nat) (hn : n ≤ s.trs.length) : Rel (plookTo s n) (lookTo r n) := by
  induction n with
  | zero => exact h
  | succ n ih =>
    have ih := ih (by omega)
    obtain ⟨-, eB, eW, -, -, -, -, -, eL⟩ := plookTo_same s n
    obtain ⟨t, ht⟩ : ∃ t, (plookTo s n).trs[n]? = some t := ⟨_, List.getElem?_eq_getElem (by omega)⟩
    obtain ⟨m, hm⟩ : ∃ m, (lookTo r n).ts[n]? = some m := ⟨_, List.getElem?_eq_getElem (by rw [← ih.nt]; omega)⟩
    rw [plookTo_succ s n t ht, lookTo_succ]
    have hr := ih.ts n t m ht hm
    have ok := ih.tok t (List.mem_of_getElem? ht)
    have hb := ih.B1
    have e1 : lookT (lookTo r n) n = (wantsL (plookTo s n).blk (plookTo s n).win m).foldl (lookK n) (lookTo r n) := by
      unfold lookT; rw [hm, ih.blk, ih.win]
    have e2 : plookT s.blk s.win (plookTo s n).cac t = ((wantsL (plookTo s n).blk (plookTo s n).win m).map (ofT t)).foldl plookE ((plookTo s n).cac, t) := by
      unfold plookT; rw [← eB, ← eW, wanted_eq hb.1 hb.2.1 hr ok]
    rw [e1, e2]
    refine look_list _ ?_ (wants_bd' ih hr ok) hr.path ?_ _ _ _ m (by omega) ⟨t.held, rfl⟩ ⟨m.has, rfl⟩ hm (by rw [lookN_self _ n t ht]; exact ih)
    · cases hl : m.lost
      · exact Or.inl rfl
      · exact Or.inr (wants_lost hl)
    · intro hne
      cases hl : m.lost
      · exact ver_eq hr.toTrB hl
      · exact absurd (wants_lost hl) hne
theorem rel_look {s : Px} {r : Pr} (h : Rel s r) : Rel (plookS s) (lookL r) := by
  have := rel_lookTo h s.trs.length (Nat.le_refl _)
  unfold plookS lookL
  rw [← h.nt]
  exact this
end Go.Proofs.YtjhihliciadipabGreat

namespace Go.Proofs.YtjhihliciadipabGreat
open Go.RowKit

/-! Errands. -/
theorem Rel.setJ {s : Px} {r : Pr} (h : Rel s r) (ok : POk s) (mr : Nat) (hm : mr < r.jobs.length) (hm3 : mr < 3) (j : Jb) (e : Er) (he : j.on = true → e = erJ j) :
    Rel { s with busy := s.busy.set mr j.on, ers := s.ers.set mr e } { r with jobs := r.jobs.set mr j } := by
  refine ⟨h.mir, h.blk, h.win, h.cap, h.tri, h.lat, h.lat0, h.nt, h.ts, ?_, ?_, h.cache, h.kok, h.tok, ⟨h.fair.m1, h.fair.m2, h.fair.B1, h.fair.B2, h.fair.W1, h.fair.W2, h.fair.c1, h.fair.c2, h.fair.t1, h.fair.t2⟩⟩
  · intro k j' hj'
    have hj2 : (r.jobs.set mr j)[k]? = some j' := hj'
    rw [List.getElem?_set] at hj2
    show (s.busy.set mr j.on)[k]? = some j'.on ∧ (j'.on = true → (s.ers.set mr e)[k]? = some (erJ j'))
    rw [List.getElem?_set, List.getElem?_set]
    by_cases hk : mr = k
    · subst hk
      rw [if_pos rfl, if_pos hm] at hj2
      simp at hj2; subst hj2
      rw [if_pos rfl, if_pos rfl, if_pos (by rw [ok.nb]; exact hm3), if_pos (by rw [ok.ne]; exact hm3)]
      exact ⟨rfl, fun hon => by rw [he hon]⟩
    · rw [if_neg hk] at hj2
      rw [if_neg hk, if_neg hk]
      exact h.jobs k j' hj2
  · intro k hk
    have hk2 : r.jobs.length ≤ k := by have : (r.jobs.set mr j).length ≤ k := hk; simpa using this
    show (s.busy.set mr j.on).getD k false = false
    rw [List.getD_eq_getElem?_getD, List.getElem?_set, if_neg (by omega), ← List.getD_eq_getElem?_getD]
    exact h.idle k hk2
theorem sent_eq {s : Px} {r : Pr} (h : Rel s r) (j : Jb) (hj : j.on = true) : isSentL s (erJ j) = busyL r.jobs j := by
  rw [Bool.eq_iff_iff]
  unfold isSentL busyL
  rw [List.any_eq_true, List.any_eq_true]
  constructor
  · rintro ⟨x, hx, hxx⟩
    obtain ⟨i, hi⟩ := List.mem_iff_getElem?.1 hx
    rw [List.getElem?_zip_eq_some] at hi
    simp only [Bool.and_eq_true, beq_iff_eq] at hxx
    by_cases hil : i < r.jobs.length
    · have hji : r.jobs[i]? = some r.jobs[i] := by simp [hil]
      obtain ⟨h1, h2⟩ := h.jobs i _ hji
      rw [hi.1] at h1
      simp at h1
      have hon : r.jobs[i].on = true := by rw [← h1]; exact hxx.1
      have h3 := h2 hon
      rw [hi.2] at h3
      simp at h3
      refine ⟨_, List.mem_of_getElem? hji, ?_⟩
      rw [hxx.2] at h3
      unfold erJ at h3
      simp only [Er.mk.injEq] at h3
      unfold jobEq
      rw [hon, hj]
      simp [h3]
    · have := h.idle i (by omega)
      rw [List.getD_eq_getElem?_getD, hi.1] at this
      simp at this
      rw [this] at hxx; simp at hxx
  · rintro ⟨x, hx, hxx⟩
    obtain ⟨i, hi⟩ := List.mem_iff_getElem?.1 hx
    unfold jobEq at hxx
    simp only [Bool.and_eq_true, beq_iff_eq] at hxx
    obtain ⟨⟨⟨a1, a2⟩, a3, a4⟩, a5⟩ := hxx
    obtain ⟨h1, h2⟩ := h.jobs i x hi
    have hon : x.on = true := by rw [a1, hj]
    have h3 := h2 hon
    refine ⟨(true, erJ x), ?_, ?_⟩
    · rw [List.mem_iff_getElem?]
      exact ⟨i, by rw [List.getElem?_zip_eq_some]; exact ⟨by rw [h1, hon], h3⟩⟩
    · have e : erJ x = erJ j := by unfold erJ; rw [a2, a3, a4, a5]
      simp [e]
theorem nextK_rel {s : Px} {r : Pr} (h : Rel s r) {t : Tr} {m : Mv} (hp : t.path = m.path) (ks : List Int) (hv : ks ≠ [] → t.hd.tag = m.tag ∧ t.hd.tot = m.tot) :
    (ks.map (ofT t)).find? (fun e => !isSentL s e) = (nextK r.jobs m ks).map erJ ∧ ∀ j, nextK r.jobs m ks = some j → j.on = true := by
  induction ks with
  | nil => exact ⟨rfl, fun j hj => by simp [nextK] at hj⟩
  | cons k ks ih =>
    obtain ⟨e1, e2⟩ := hv (by simp)
    have ih := ih (fun _ => ⟨e1, e2⟩)
    have hE : ofT t k = erJ ⟨true, m.path, m.tag, m.tot, k⟩ := by unfold ofT erJ; rw [hp, e1, e2]
    rw [List.map_cons, List.find?_cons, nextK, hE, sent_eq h _ rfl]
    cases hb : busyL r.jobs ⟨true, m.path, m.tag, m.tot, k⟩
    · simp only [Bool.not_false, Bool.false_eq_true, if_false, Option.map_some, true_and]
      intro j hj
      simp at hj; subst hj; rfl
    · simp only [Bool.not_true, if_true]
      exact ih
theorem nextT_rel {s : Px} {r : Pr} (h : Rel s r) (l1 : List Tr) (l2 : List Mv) (hl : l1.length = l2.length) (hr : ∀ (i : Nat) t m, l1[i]? = some t → l2[i]? = some m → TrRel s.blk s.win t m ∧ TrOk t) :
    l1.findSome? (errOf s) = (nextT s.blk s.win r.jobs l2).map erJ ∧ ∀ j, nextT s.blk s.win r.jobs l2 = some j → j.on = true := by
  have hb := h.B1
  induction l1 generalizing l2 with
  | nil =>
    cases l2 with
    | nil => exact ⟨rfl, fun j hj => by simp [nextT] at hj⟩
    | cons m l2 => simp at hl
  | cons t l1 ih =>
    cases l2 with
    | nil => simp at hl
    | cons m l2 =>
      have ih := ih l2 (by simpa using hl) (fun i t' m' ht' hm' => hr (i + 1) t' m' (by simpa using ht') (by simpa using hm'))
      obtain ⟨h1, ok⟩ := hr 0 t m rfl rfl
      have hK := nextK_rel h h1.path (wantsL s.blk s.win m) (fun hne => by
        cases hlo : m.lost
        · exact ver_eq h1.toTrB hlo
        · exact absurd (wants_lost hlo) hne)
      have he : errOf s t = (nextK r.jobs m (wantsL s.blk s.win m)).map erJ := by
        unfold errOf; rw [wanted_eq hb.1 hb.2.1 h1 ok]; exact hK.1
      rw [List.findSome?_cons, nextT, he]
      cases hn : nextK r.jobs m (wantsL s.blk s.win m) with
      | none => exact ih
      | some j => exact ⟨rfl, fun j' hj' => by simp at hj'; subst hj'; exact hK.2 j hn⟩
theorem next_rel {s : Px} {r : Pr} (h : Rel s r) : nextE s = (nextJ r).map erJ ∧ ∀ j, nextJ r = some j → j.on = true := by
  unfold nextE nextJ
  rw [← h.blk, ← h.win]
  exact nextT_rel h s.trs r.ts h.nt (fun i t m ht hm => ⟨h.ts i t m ht hm, h.tok t (List.mem_of_getElem? ht)⟩)
theorem size_eq (B tot k : Int) (hB : 1 ≤ B) : sizeL B tot k = blkLen tot k B := by
  unfold sizeL blkLen atM
  split
  · split
    · rfl
    · split <;> omega
  · split <;> split <;> (try split) <;> omega
theorem bad_eq (B : Int) (hB : 1 ≤ B) (j : Jb) (tag tot off : Int) (body : ByteArray) : badR B j tag tot off body = !sensible B (erJ j) tag tot off body.size := by
  unfold badR sensible fairV
  rw [size_eq B tot j.k hB]
  show _ = !(_ && (off == j.k * B && (body.size : Int) == blkLen tot j.k B))
  rw [Bool.eq_iff_iff]
  simp
  by_cases h1 : tag < 1 <;> by_cases h2 : 99 < tag <;> by_cases h3 : tot < 0 <;> by_cases h4 : 1000 < tot <;> by_cases h5 : off = j.k * B <;> by_cases h6 : (body.size : Int) = blkLen tot j.k B <;> simp [h1, h2, h3, h4, h5, h6] <;> omega

/-! The calls. -/
theorem erJ_free {s : Px} {r : Pr} (h : Rel s r) (ok : POk s) (mr : Nat) (hm : mr < r.jobs.length) (hm3 : mr < 3) : Rel (freeS s mr) { r with jobs := r.jobs.set mr noJob } :=
  h.setJ ok mr hm hm3 noJob noEr (fun e => by simp [noJob] at e)
theorem rel_answ {s : Px} {r : Pr} {C : Int} (h : Rel s r) (g : Good r C) (j : Jb) (p : Nat) (tag tot off : Int) (body : ByteArray) (hp : j.path = p) (hp4 : p < 4) (hk0 : 0 ≤ j.k) (hk1 : j.k ≤ 100000) :
    Rel (plookS (answS s (erJ j) tag tot off body)) (replyS r j p tag tot off body) := by
  unfold answS replyS
  have hB := h.fair.B1
  have hb : badR r.blk j tag tot off body = !sensible s.blk (erJ j) tag tot off body.size := by rw [← h.blk]; exact bad_eq _ hB _ _ _ _ _
  rw [hb]
  cases hs : sensible s.blk (erJ j) tag tot off body.size
  · simp only [Bool.not_false, if_true, Bool.false_eq_true, if_false]
    exact rel_look (rel_fails h g j hk0)
  · simp only [Bool.not_true, if_true, Bool.false_eq_true, if_false]
    have hfv : 1 ≤ tag ∧ tag ≤ 99 ∧ 0 ≤ tot ∧ tot ≤ 1000 ∧ (body.size : Int) = blkLen tot j.k s.blk := by
      unfold sensible fairV at hs
      simp at hs
      exact ⟨hs.1.1.1.1, hs.1.1.1.2, hs.1.1.2, hs.1.2, hs.2.2⟩
    have hlen := blkLen_le tot j.k s.blk (by omega)
    have hb16 : body.size ≤ 16 := by have := h.fair.B2; omega
    have hmid : Rel (if tag = (erJ j).tag ∧ tot = (erJ j).tot then s else failedS (renewS s (erJ j).path (tag, tot)) (erJ j)) (replyMid r j p tag tot) ∧ ∃ D, Good (replyMid r j p tag tot) D := by
      unfold replyMid
      have hc : (tag = (erJ j).tag ∧ tot = (erJ j).tot) = (j.tag = tag ∧ j.tot = tot) := by
        show (tag = j.tag ∧ tot = j.tot) = _
        rw [eq_iff_iff]; constructor <;> rintro ⟨a, b⟩ <;> exact ⟨a.symm, b.symm⟩
      rw [show (if tag = (erJ j).tag ∧ tot = (erJ j).tot then s else failedS (renewS s (erJ j).path (tag, tot)) (erJ j)) = if j.tag = tag ∧ j.tot = tot then s else failedS (renewS s (erJ j).path (tag, tot)) (erJ j) from by simp only [hc]]
      by_cases he : j.tag = tag ∧ j.tot = tot
      · rw [if_pos he, if_pos he]; exact ⟨h, C, g⟩
      · rw [if_neg he, if_neg he]
        have hn := rel_news h p tag tot hfv.1 hfv.2.2.1 hfv.2.2.2.1
        have gn := newsL_good r p tag tot C hfv.1 hfv.2.2.1 hfv.2.2.2.1 g
        have hf := rel_fails hn gn j hk0
        have hpe : (erJ j).path = (p : Int) := hp
        rw [hpe]
        by_cases h0 : j.tag = 0
        · rw [if_pos h0]
          have e : failsL (newsL r p tag tot) j = newsL r p tag tot := by
            unfold failsL newsL
            simp only [List.map_map]
            congr 1
            apply List.map_congr_left
            intro m _
            exact fails_none p tag tot hfv.1 j h0 hp
          rw [e] at hf
          exact ⟨hf, C, gn⟩
        · rw [if_neg h0]
          exact ⟨hf, C, failsL_good _ j C gn⟩
    obtain ⟨hm, D, gm⟩ := hmid
    exact rel_look (rel_deliver hm gm { j with tag := tag, tot := tot } body hfv.1 hk0 hk1 hb16)
theorem rel_ask {s : Px} {r : Pr} {C : Int} (h : Rel s r) (g : Good r C) (ok : POk s) (p : Nat) (hp : p < 4) (b : ByteArray) : Rel (plookS { s with trs := s.trs ++ [askT p (readP b) (s.lat.getD p (0, 0))] }) (lookL { r with ts := r.ts ++ [newMv r p b] }) := by
  have hpl : p < s.lat.length := by rw [ok.nl]; exact hp
  obtain ⟨v, hv⟩ : ∃ v, s.lat[p]? = some v := ⟨_, List.getElem?_eq_getElem hpl⟩
  have hvm := List.mem_of_getElem? hv
  have hvb := ok.lat v hvm
  have e1 : s.lat.getD p (0, 0) = v := by rw [List.getD_eq_getElem?_getD, hv]; rfl
  have e2 : newMv r p b = ⟨p, readL b, v.1, v.2, false, false, false, 0, 0, []⟩ := by unfold newMv; rw [← h.lat, hv]; rfl
  rw [e1, e2]
  have hrb := readP_bd b
  have hraw : TrOk (rawT p (readP b)) := rawT_ok (by omega) (by omega) hrb
  refine rel_look (h.addT _ _ ?_ (new_rel p b v hvb.1 (h.lat0 v hvm) hvb.2.2.1 hvb.2.2.2 _ _ rfl rfl))
  rw [askT_eq]
  split
  · exact hraw
  · exact bindT_ok hraw rfl hvb.2.2.1 hvb.2.2.2
theorem rel_show {s : Px} {r : Pr} (h : Rel s r) (i : Nat) (t : Tr) (m : Mv) (ht : s.trs[i]? = some t) (hm : r.ts[i]? = some m) (ho : openT t = false) : Rel (setT s i (pshowT t)) { r with ts := r.ts.set i (showT m) } :=
  h.setT i (pshowT t) (showT m) (pshowT_ok (h.tok t (List.mem_of_getElem? ht)) ho) (h.ts i t m ht hm).show
theorem rel_take {s : Px} {r : Pr} {C n : Int} (h : Rel s r) (g : Good r C) (i : Nat) (t : Tr) (m : Mv) (ht : s.trs[i]? = some t) (hm : r.ts[i]? = some m) (ho : openT t = false) (hn : 0 ≤ n) :
    (takeT s.blk s.win n (pshowT t)).1 = (takeEnd r m n).2 ∧ Rel (plookS (setT s i (takeT s.blk s.win n (pshowT t)).2)) (takeS r i m n) := by
  have hb := h.B1
  have hr := h.ts i t m ht hm
  have ok := h.tok t (List.mem_of_getElem? ht)
  have gm := g.ts m (List.mem_of_getElem? hm)
  have hop : ¬ (m.tag = 0 ∧ m.lost = false) := by
    rw [open_rel hr.toTrB] at ho; simpa using ho
  have gm2 : MvGood s.blk r.tri (showT m) := by
    rw [h.blk]
    exact ⟨⟨gm.ok.sp, gm.ok.t0, gm.ok.t1, gm.ok.k0, gm.ok.k1, gm.ok.hl, gm.ok.hb⟩, gm.f0, gm.f1, gm.f2, gm.p0, gm.p1, gm.has, gm.tk, fun e => by simp [showT] at e, fun a b => absurd ⟨a, b⟩ hop⟩
  have key := take_rel (m := showT m) hb.1 hb.2.1 hb.2.2 hr.show (pshowT_ok ok ho) gm2 hop rfl hn (takeEnd r m n) (by unfold takeEnd; rw [← h.blk, ← h.win]; rfl)
  refine ⟨key.1, ?_⟩
  unfold takeS
  refine rel_look ?_
  have hok2 := takeT_ok (pshowT_ok ok ho) h.fair rfl n hn
  have := h.setT i _ _ hok2 key.2
  have e : ({ takenT r m n with has := dropL r.blk r.win (takenT r m n) } : Mv) = { showT m with taken := (takeEnd r m n).1, has := dropTo (winL s.blk s.win { showT m with taken := (takeEnd r m n).1 }) (showT m).has (showT m).has.length } := by
    unfold takenT dropL; rw [h.blk, h.win]; rfl
  rw [e]
  exact this
theorem head_rel {t : Tr} {m : Mv} (h : TrB t m) (hop : ¬ (m.tag = 0 ∧ m.lost = false)) : headOf m = headAgg t.hd.st t.hd.tag t.hd.tot t.hd.frm t.hd.len := by
  rw [h.hd]
  unfold headOf hdOf
  by_cases hc : m.lost = true ∧ m.cut = false
  · rw [if_pos hc, if_pos hc]
  · rw [if_neg hc, if_neg hc]
    have ht : m.tag ≠ 0 := by
      intro e
      cases hl : m.lost
      · exact hop ⟨e, hl⟩
      · cases hcu : m.cut
        · exact hc ⟨hl, hcu⟩
        · exact h.cut hl hcu e
    rw [if_neg ht]; rfl
theorem rel_new (m b wi c t : Int) (f1 : 1 ≤ m) (f2 : m ≤ 3) (f3 : 1 ≤ b) (f4 : b ≤ 16) (f5 : 1 ≤ wi) (f6 : wi ≤ 4) (f7 : 0 ≤ c) (f8 : c ≤ 256) (f9 : 1 ≤ t) (f10 : t ≤ 4) : Rel (newS m b wi c t) (newPr m b wi c t) := by
  refine ⟨rfl, rfl, rfl, rfl, rfl, rfl, fun v hv hv0 => by simp [newS] at hv; subst hv; rfl, rfl, fun i t' m' ht => by simp [newS] at ht, ?_, ?_, CRel.nil 0, fun x hx => by simp [newPr] at hx, fun t' ht => by simp [newS] at ht, ⟨f1, f2, f3, f4, f5, f6, f7, f8, f9, f10⟩⟩
  · intro k j hj
    have hj2 : (List.replicate m.toNat (⟨false, 0, 0, 0, 0⟩ : Jb))[k]? = some j := hj
    rw [List.getElem?_replicate] at hj2
    split at hj2
    · rename_i hk
      simp at hj2; subst hj2
      refine ⟨?_, fun e => by simp at e⟩
      have : k = 0 ∨ k = 1 ∨ k = 2 := by omega
      rcases this with rfl | rfl | rfl <;> rfl
    · simp at hj2
  · intro k hk
    rcases k with _ | _ | _ | k <;> rfl
end Go.Proofs.YtjhihliciadipabGreat

namespace Go.Proofs.YtjhihliciadipabGreat
open Go.RowKit

/-! The document's calls, beside the program's: the same answer, and the two proxies belong together behind it. -/
def RTo (w w' : World) (p : Nat) (L : Lay) (s' : Pr) (C : Int) : Prop := ∃ L', PrAt w' p s' L' ∧ Mvs w w' p L L' ∧ Good s' (C + 8193)
def RRel (w w' : World) (p : Nat) (L : Lay) (C : Int) (s' : Px) : Prop := ∃ sr, RTo w w' p L sr C ∧ Rel s' sr
theorem RRel.ext {w w' : World} {p : Nat} {r : Pr} {L : Lay} {C : Int} {s : Px} (h : PrAt w p r L) (hg : Good r C) (hr : Rel s r) (hE : Ext w w') : RRel w w' p L C s :=
  ⟨r, ⟨L, h.ext hE, Mvs.of_ext hE, hg.mono (by omega)⟩, hr⟩

theorem AskD (p : Nat) (r : Pr) (L : Lay) (C : Int) (path : Int) (b : ByteArray) (w : World) (h : PrAt w p r L) (hg : Good r C) (hC : C ≤ 20000000000000000) (hb : b.size ≤ 9223372036854775807) (s : Px) (ok : POk s) (hr : Rel s r) :
    Calls Tryz.prog 19 #[.pointer (some ⟨p, 0, none⟩), .int .i64 path, .string b] w fun e w' =>
      e = .returned (.tuple #[.int .i64 (askA s.trs.length path).1, .int .i64 (askA s.trs.length path).2]) ∧ RRel w w' p L C (askS s path b) := by
  unfold askA askS
  rw [hr.nt]
  by_cases hp : path < 0 ∨ 4 ≤ path
  · rw [if_pos hp, if_pos hp]
    refine (Ask_no p path b w hp).mono ?_
    rintro e w' ⟨rfl, rfl⟩
    exact ⟨rfl, RRel.ext h hg hr (Below.refl _ _)⟩
  · rw [if_neg hp, if_neg hp]
    by_cases h8 : r.ts.length = 8
    · rw [if_pos h8, if_pos h8]
      refine (Ask_full p r L path b w h (by omega) (by omega) h8).mono ?_
      rintro e w' ⟨rfl, rfl⟩
      exact ⟨rfl, RRel.ext h hg hr (Below.refl _ _)⟩
    · rw [if_neg h8, if_neg h8]
      obtain ⟨k, rfl⟩ := Int.eq_ofNat_of_zero_le (show 0 ≤ path by omega)
      have hn8 : r.ts.length < 8 := by have := hg.inv.nts; omega
      refine (Ask_new p r L C k b w h hg.inv (by omega) hg.nl hg.lat hb (by omega) hn8).mono ?_
      rintro e w' ⟨rfl, L', hP, hM⟩
      exact ⟨rfl, _, ⟨L', hP, hM, (ask_good r C k b (by omega) hn8 hg).mono (by omega)⟩, by rw [Int.toNat_natCast]; exact rel_ask hr hg ok k (by omega) b⟩

theorem hasM_eq {s : Px} {r : Pr} (hr : Rel s r) (mr : Int) : hasM s mr = false ↔ (mr < 0 ∨ r.mir ≤ mr) := by
  unfold hasM; rw [hr.mir]; simp; omega
theorem NextD (p : Nat) (r : Pr) (L : Lay) (C : Int) (mr : Int) (w : World) (h : PrAt w p r L) (hg : Good r C) (s : Px) (ok : POk s) (hr : Rel s r) :
    Calls Tryz.prog 21 #[.pointer (some ⟨p, 0, none⟩), .int .i64 mr] w fun e w' =>
      e = .returned (.tuple #[fetV (nextA s mr).1, .bool (nextA s mr).2.1, .int .i64 (nextA s mr).2.2]) ∧ RRel w w' p L C (nextS s mr) := by
  by_cases hm : mr < 0 ∨ r.mir ≤ mr
  · have hI := (hasM_eq hr mr).2 hm
    rw [(nextA_no hI).1, (nextA_no hI).2]
    refine (Next_none p r L mr w h hg.inv.fair hm).mono ?_
    rintro e w' ⟨rfl, hE⟩
    exact ⟨rfl, RRel.ext h hg hr hE⟩
  · have hI : hasM s mr = true := by
      cases hI : hasM s mr
      · exact absurd ((hasM_eq hr mr).1 hI) hm
      · rfl
    obtain ⟨k, j, rfl, hj⟩ := job_of hg hm
    have hkl := (List.getElem?_eq_some_iff.1 hj).1
    obtain ⟨hb, he⟩ := hr.jobs k j hj
    cases hon : j.on
    · rw [hon] at hb
      refine (Next_idle p r L C k j w h hg.inv hg.nj hj hon).mono ?_
      obtain ⟨hN, hNo⟩ := next_rel hr
      rintro e w' (⟨hn, rfl, hE⟩ | ⟨j2, hj2, rfl, hP, hM⟩)
      · rw [hn] at hN
        rw [(nextA_none hI hb hN).1, (nextA_none hI hb hN).2]
        exact ⟨rfl, RRel.ext h hg hr hE⟩
      · rw [hj2] at hN
        rw [(nextA_some hI hb hN).1, (nextA_some hI hb hN).2]
        have hon2 := hNo j2 hj2
        refine ⟨?_, { r with jobs := r.jobs.set k j2 }, ⟨L, hP, hM, (next_good r C k j2 hj2 hg).mono (by omega)⟩, ?_⟩
        · have e1 : nextLen r j2 = if (erJ j2).tag = 0 then s.blk else blkLen (erJ j2).tot (erJ j2).blk s.blk := by
            unfold nextLen
            rw [← hr.blk, size_eq _ _ _ hr.fair.B1]; rfl
          rw [e1, ← hr.blk]; rfl
        · have := hr.setJ ok k hkl (by have := ok.fair.m2; unfold hasM at hI; simp at hI; omega) j2 (erJ j2) (fun _ => rfl)
          rw [hon2] at this
          exact this
    · rw [hon] at hb
      rw [(nextA_busy hI hb).1, (nextA_busy hI hb).2]
      refine (Next_busy p r L k j w h hg.inv.fair hg.nj hj hon).mono ?_
      rintro e w' ⟨rfl, hE⟩
      exact ⟨rfl, RRel.ext h hg hr hE⟩
theorem mir_lt {s : Px} {k : Nat} (ok : POk s) (hI : hasM s k = true) : k < 3 := by have := ok.fair.m2; unfold hasM at hI; simp at hI; omega
theorem hasM_yes' {s : Px} {r : Pr} (hr : Rel s r) {mr : Int} (hm : ¬ (mr < 0 ∨ r.mir ≤ mr)) : hasM s mr = true := by
  cases hI : hasM s mr
  · exact absurd ((hasM_eq hr mr).1 hI) hm
  · rfl
theorem FailD (p : Nat) (r : Pr) (L : Lay) (C : Int) (mr : Int) (w : World) (h : PrAt w p r L) (hg : Good r C) (hC : C ≤ 20000000000000000) (s : Px) (ok : POk s) (hr : Rel s r) :
    Calls Tryz.prog 25 #[.pointer (some ⟨p, 0, none⟩), .int .i64 mr] w fun e w' => e = .returned (.int .i64 (endA s mr)) ∧ RRel w w' p L C (failP s mr) := by
  unfold failP
  by_cases hm : mr < 0 ∨ r.mir ≤ mr
  · have hI := (hasM_eq hr mr).2 hm
    rw [endA_no hI]
    refine (Fail_none p r L mr w h hg.inv.fair hm).mono ?_
    rintro e w' ⟨rfl, hE⟩
    exact ⟨rfl, RRel.ext h hg hr hE⟩
  · have hI := hasM_yes' hr hm
    obtain ⟨k, j, rfl, hj⟩ := job_of hg hm
    have hkl := (List.getElem?_eq_some_iff.1 hj).1
    obtain ⟨hb, he⟩ := hr.jobs k j hj
    have hjo := hg.jobs j (List.mem_of_getElem? hj)
    refine (Fail_some p r L C k j w h hg.inv (by omega) hg.nj hj hg.fl).mono ?_
    rintro e w' (⟨hon, rfl, hE⟩ | ⟨hon, rfl, L', hP, hM⟩)
    · rw [hon] at hb
      rw [endA_idle hI hb]
      exact ⟨rfl, RRel.ext h hg hr hE⟩
    · rw [hon] at hb
      rw [endA_yes hI hb, if_pos rfl, Int.toNat_natCast]
      have hee := he hon
      have e1 : s.ers.getD k noEr = erJ j := by rw [List.getD_eq_getElem?_getD, hee]; rfl
      rw [e1]
      have gj := nojob_good r C k hg
      exact ⟨rfl, _, ⟨L', hP, hM, (lookL_good _ _ (failsL_good _ j C gj)).mono (by omega)⟩, rel_look (rel_fails (erJ_free hr ok k hkl (mir_lt ok hI)) gj j hjo.2.2.1)⟩
theorem ReplyD (p : Nat) (r : Pr) (L : Lay) (C : Int) (mr tag tot off : Int) (body : ByteArray) (w : World) (h : PrAt w p r L) (hg : Good r C) (hC : C ≤ 20000000000000000) (hb : body.size ≤ 9223372036854775807) (s : Px) (ok : POk s) (hr : Rel s r) :
    Calls Tryz.prog 23 #[.pointer (some ⟨p, 0, none⟩), .int .i64 mr, repAgg tag tot off body] w fun e w' => e = .returned (.int .i64 (endA s mr)) ∧ RRel w w' p L C (replyP s mr tag tot off body) := by
  unfold replyP
  by_cases hm : mr < 0 ∨ r.mir ≤ mr
  · have hI := (hasM_eq hr mr).2 hm
    rw [endA_no hI]
    refine (Reply_none p r L mr tag tot off body w h hg.inv.fair hm).mono ?_
    rintro e w' ⟨rfl, hE⟩
    exact ⟨rfl, RRel.ext h hg hr hE⟩
  · have hI := hasM_yes' hr hm
    obtain ⟨k, j, rfl, hj⟩ := job_of hg hm
    have hkl := (List.getElem?_eq_some_iff.1 hj).1
    obtain ⟨hbu, he⟩ := hr.jobs k j hj
    have hjo := hg.jobs j (List.mem_of_getElem? hj)
    obtain ⟨pth, hpt⟩ := Int.eq_ofNat_of_zero_le hjo.1
    refine (Reply_some p r L C k pth j tag tot off body w h hg.inv (by omega) hg.nj hj hg.fl hg.nl (by omega) hpt hjo.2.2.1 hjo.2.2.2 hb).mono ?_
    rintro e w' (⟨hon, rfl, hE⟩ | ⟨hon, rfl, L', hP, hM⟩)
    · rw [hon] at hbu
      rw [endA_idle hI hbu]
      exact ⟨rfl, RRel.ext h hg hr hE⟩
    · rw [hon] at hbu
      rw [endA_yes hI hbu, if_pos rfl, Int.toNat_natCast]
      have hee := he hon
      have e1 : s.ers.getD k noEr = erJ j := by rw [List.getD_eq_getElem?_getD, hee]; rfl
      rw [e1]
      have gj := nojob_good r C k hg
      exact ⟨rfl, _, ⟨L', hP, hM, replyS_good _ j pth tag tot off body C hjo.2.2.1 hjo.2.2.2 gj⟩, rel_answ (erJ_free hr ok k hkl (mir_lt ok hI)) gj j pth tag tot off body hpt (by omega) hjo.2.2.1 hjo.2.2.2⟩

theorem isL_eq {s : Px} {r : Pr} (hr : Rel s r) (id : Int) : isL r id = hasT s id := by unfold isL hasT; rw [hr.nt]
theorem tr_of {s : Px} {r : Pr} (hr : Rel s r) {i : Nat} (hI : hasT s i = true) : ∃ t m, s.trs[i]? = some t ∧ r.ts[i]? = some m := by
  have hi : i < s.trs.length := by unfold hasT at hI; simp at hI; omega
  exact ⟨_, _, List.getElem?_eq_getElem hi, List.getElem?_eq_getElem (by rw [← hr.nt]; exact hi)⟩
theorem StateD (p : Nat) (r : Pr) (L : Lay) (C : Int) (id : Int) (w : World) (h : PrAt w p r L) (hg : Good r C) (s : Px) (hr : Rel s r) :
    Calls Tryz.prog 27 #[.pointer (some ⟨p, 0, none⟩), .int .i64 id] w fun e w' => e = .returned (.tuple #[.int .i64 (ansT s id stT).1, .int .i64 (ansT s id stT).2]) ∧ RRel w w' p L C s := by
  have he : stateL r id = ansT s id stT := by
    unfold stateL
    rw [isL_eq hr]
    cases hI : hasT s id
    · rw [ansT_no hI]; rfl
    · obtain ⟨i, rfl, hi⟩ := hasT_yes hI
      obtain ⟨t, m, ht, hm⟩ := tr_of hr hI
      rw [ansT_yes hI ht]
      simp only [if_true, Int.toNat_natCast, hm]
      rw [st_rel (hr.ts i t m ht hm).toTrB]
  refine (State_any p id r L C w h hg.inv).mono ?_
  rintro e w' ⟨rfl, hE⟩
  exact ⟨by rw [he], RRel.ext h hg hr hE⟩
theorem HeldD (p : Nat) (r : Pr) (L : Lay) (C : Int) (id : Int) (w : World) (h : PrAt w p r L) (hg : Good r C) (s : Px) (hr : Rel s r) :
    Calls Tryz.prog 29 #[.pointer (some ⟨p, 0, none⟩), .int .i64 id] w fun e w' => e = .returned (.tuple #[.int .i64 (ansT s id (fun t => pheldSum t.held)).1, .int .i64 (ansT s id (fun t => pheldSum t.held)).2]) ∧ RRel w w' p L C s := by
  have hb := hr.B1
  have he : heldSum r id = ansT s id (fun t => pheldSum t.held) := by
    unfold heldSum
    rw [isL_eq hr]
    cases hI : hasT s id
    · rw [ansT_no hI]; rfl
    · obtain ⟨i, rfl, hi⟩ := hasT_yes hI
      obtain ⟨t, m, ht, hm⟩ := tr_of hr hI
      rw [ansT_yes hI ht]
      simp only [if_true, Int.toNat_natCast, hm]
      rw [heldSum_rel hb.1 hb.2.1 hb.2.2 (hr.ts i t m ht hm) (hr.tok t (List.mem_of_getElem? ht))]
  refine (Held_any p id r L C w h hg.inv).mono ?_
  rintro e w' ⟨rfl, rfl⟩
  exact ⟨by rw [he], RRel.ext h hg hr (Below.refl _ _)⟩
theorem headA_no {s : Px} {id : Int} (hI : hasT s id = false) : headA s id = (⟨0, 0, 0, 0, 0⟩, 7) ∧ headS s id = s := by
  constructor
  · unfold headA; split <;> simp [hI]
  · unfold headS; split <;> simp [hI]
theorem HeadD (p : Nat) (r : Pr) (L : Lay) (C : Int) (id : Int) (w : World) (h : PrAt w p r L) (hg : Good r C) (s : Px) (hr : Rel s r) :
    Calls Tryz.prog 31 #[.pointer (some ⟨p, 0, none⟩), .int .i64 id] w fun e w' =>
      e = .returned (.tuple #[headAgg (headA s id).1.st (headA s id).1.tag (headA s id).1.tot (headA s id).1.frm (headA s id).1.len, .int .i64 (headA s id).2]) ∧ RRel w w' p L C (headS s id) := by
  cases hI : hasT s id
  · rw [(headA_no hI).1, (headA_no hI).2]
    refine (Head_no p id r L w h hg.inv.nts (by rw [isL_eq hr]; exact hI)).mono ?_
    rintro e w' ⟨rfl, hE⟩
    exact ⟨rfl, RRel.ext h hg hr hE⟩
  · obtain ⟨i, rfl, hi⟩ := hasT_yes hI
    obtain ⟨t, m, ht, hm⟩ := tr_of hr hI
    have hrt := hr.ts i t m ht hm
    have gm := hg.ts m (List.mem_of_getElem? hm)
    have hor := open_rel hrt.toTrB
    by_cases hop : m.tag = 0 ∧ m.lost = false
    · have ho : openT t = true := by rw [hor]; simpa using hop
      have eA : headA s i = (⟨0, 0, 0, 0, 0⟩, 8) := by unfold headA; simp [ht, hI, ho]
      have eS : headS s i = s := by unfold headS; simp [ht, hI, ho]
      rw [eA, eS]
      refine (Head_open p i r L m w h hg.inv.nts hm hop).mono ?_
      rintro e w' ⟨rfl, hE⟩
      exact ⟨rfl, RRel.ext h hg hr hE⟩
    · have ho : openT t = false := by rw [hor]; simpa using hop
      have eA : headA s i = (t.hd, 0) := by unfold headA; simp [ht, hI, ho]
      have eS : headS s i = setT s i (pshowT t) := by unfold headS; simp [ht, hI, ho]
      rw [eA, eS]
      refine (Head_ok p i r L m w h hg.inv.nts hm gm.ok hop).mono ?_
      rintro e w' ⟨rfl, hP, hM⟩
      exact ⟨by rw [head_rel hrt.toTrB hop], _, ⟨L, hP, hM, (setT_good r C i _ (show_good _ _ _ hop gm) hg).mono (by omega)⟩, rel_show hr i t m ht hm ho⟩
theorem takeA_no {s : Px} {id n : Int} (hI : hasT s id = false) : takeA s id n = (ByteArray.empty, 7) ∧ ptakeS s id n = s := by
  constructor
  · unfold takeA; split <;> simp [hI]
  · unfold ptakeS; split <;> simp [hI]
theorem TakeD (p : Nat) (r : Pr) (L : Lay) (C : Int) (id n : Int) (w : World) (h : PrAt w p r L) (hg : Good r C) (hC : C ≤ 20000000000000000) (hn1 : n ≤ 9223372036854775807) (s : Px) (hr : Rel s r) :
    Calls Tryz.prog 33 #[.pointer (some ⟨p, 0, none⟩), .int .i64 id, .int .i64 n] w fun e w' => e = .returned (.tuple #[.string (takeA s id n).1, .int .i64 (takeA s id n).2]) ∧ RRel w w' p L C (ptakeS s id n) := by
  cases hI : hasT s id
  · rw [(takeA_no hI).1, (takeA_no hI).2]
    refine (Take_no p id n r L w h hg.inv.nts (by rw [isL_eq hr]; exact hI)).mono ?_
    rintro e w' ⟨rfl, hE⟩
    exact ⟨rfl, RRel.ext h hg hr hE⟩
  · obtain ⟨i, rfl, hi⟩ := hasT_yes hI
    obtain ⟨t, m, ht, hm⟩ := tr_of hr hI
    have hrt := hr.ts i t m ht hm
    have gm := hg.ts m (List.mem_of_getElem? hm)
    have hor := open_rel hrt.toTrB
    by_cases hneg : n < 0
    · have eA : takeA s i n = (ByteArray.empty, 9) := by unfold takeA; simp [ht, hI, hneg]
      have eS : ptakeS s i n = s := by unfold ptakeS; simp [ht, hI, hneg]
      rw [eA, eS]
      refine (Take_arg p i n r L w h hg.inv.nts (by rw [isL_eq hr]; exact hI) hneg).mono ?_
      rintro e w' ⟨rfl, hE⟩
      exact ⟨rfl, RRel.ext h hg hr hE⟩
    · by_cases hop : m.tag = 0 ∧ m.lost = false
      · have ho : openT t = true := by rw [hor]; simpa using hop
        have eA : takeA s i n = (ByteArray.empty, 8) := by unfold takeA; simp [ht, hI, ho, hneg]
        have eS : ptakeS s i n = s := by unfold ptakeS; simp [ht, hI, ho, hneg]
        rw [eA, eS]
        refine (Take_open p i n r L m w h hg.inv.nts hm hop (by omega)).mono ?_
        rintro e w' ⟨rfl, hE⟩
        exact ⟨rfl, RRel.ext h hg hr hE⟩
      · have ho : openT t = false := by rw [hor]; simpa using hop
        have eA : takeA s i n = ((takeT s.blk s.win n (pshowT t)).1, 0) := by unfold takeA; simp [ht, hI, ho, hneg]
        have eS : ptakeS s i n = plookS (setT s i (takeT s.blk s.win n (pshowT t)).2) := by unfold ptakeS; simp [ht, hI, ho, hneg]
        rw [eA, eS]
        have hT := rel_take hr hg i t m ht hm ho (show 0 ≤ n by omega)
        refine (Take_ok p i r L m C n w h hg.inv (by omega) hm hop gm.has gm.tk (by omega) hn1).mono ?_
        rintro e w' ⟨rfl, ⟨h0, h1⟩, L', hP, hM⟩
        exact ⟨by rw [hT.1], _, ⟨L', hP, hM, (take_good r C i _ n hm hop h0 h1 hg).mono (by omega)⟩, hT.2⟩
theorem UsedD (p : Nat) (r : Pr) (L : Lay) (C : Int) (w : World) (h : PrAt w p r L) (hg : Good r C) (s : Px) (hr : Rel s r) :
    Calls Tryz.prog 35 #[.pointer (some ⟨p, 0, none⟩)] w fun e w' => e = .returned (.int .i64 (usedC s.cac)) ∧ RRel w w' p L C s := by
  refine (Used_any p r L w (h.blk.cell 8) h.cache hg.inv.cache (by have := hg.inv.nc; omega)).mono ?_
  rintro e w' ⟨rfl, rfl⟩
  exact ⟨by rw [hr.cache.used], RRel.ext h hg hr (Below.refl _ _)⟩
theorem EntriesD (p : Nat) (r : Pr) (L : Lay) (C : Int) (w : World) (h : PrAt w p r L) (hg : Good r C) (hC : C ≤ 20000000000000000) (s : Px) (hr : Rel s r) :
    Calls Tryz.prog 37 #[.pointer (some ⟨p, 0, none⟩)] w fun e w' => (∃ v, e = .returned v ∧ w'.ownsRow w.heap.size 42 4 v (s.cac.map Prod.fst).length ((s.cac.map Prod.fst).map perV).flatten) ∧ Ext w w' := by
  refine (Entries_any p r L w h (by have := hg.inv.nc; omega) hg.inv.c0 (by have := hg.inv.c1; omega)).mono ?_
  rintro e w' ⟨v, rfl, hE, ho⟩
  have e1 : (s.cac.map Prod.fst).map perV = (entL r).map entV := by
    rw [← hr.cache.ent hg.inv.c0]
    unfold entL
    rw [List.map_map, List.map_map]
    rfl
  have e2 : (s.cac.map Prod.fst).length = (entL r).length := by
    have := congrArg List.length e1
    simpa using this
  exact ⟨⟨v, rfl, by rw [e1, e2]; exact ho⟩, hE⟩
end Go.Proofs.YtjhihliciadipabGreat
