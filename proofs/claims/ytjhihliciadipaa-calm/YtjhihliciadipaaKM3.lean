import Derived.Test.YtjhihliciadipaaKM2
set_option linter.unusedVariables false
set_option linter.unusedSimpArgs false
set_option linter.unnecessarySimpa false
namespace Go.Proofs.Ytjhihliciadipaa
open Go.RowKit

/-! The next errand where no mirror is away. -/
def allF : List Bool := [false, false, false]
theorem free_sent {s : Px} (h : s.busy = allF) (e : Er) : isSentL s e = false := by
  unfold isSentL
  rw [h]
  rcases s.ers with _ | ⟨a, _ | ⟨b, _ | ⟨c, l⟩⟩⟩ <;> simp [allF]
theorem wanted_head {B W : Int} {t : Tr} {e : Er} (h : (wantedL B W t).head? = some e) : e = ofT t e.blk ∧ (winT B W t).1 ≤ e.blk ∧ e.blk < (winT B W t).2 ∧ (heldAt t e.blk).toList.isEmpty = true ∧ (e.blk = (winT B W t).1 ∨ (heldAt t (winT B W t).1).toList.isEmpty = false) := by
  have hm : e ∈ wantedL B W t := List.mem_of_mem_head? h
  obtain ⟨h1, h2, h3⟩ := wanted_in e hm
  unfold wantedL at h
  rw [List.head?_map, List.head?_filter] at h
  cases hf : (List.range ((winT B W t).2 - (winT B W t).1).toNat).find? (fun j => (heldAt t ((winT B W t).1 + (j : Nat))).toList.isEmpty) with
  | none => rw [hf] at h; simp at h
  | some j =>
    rw [hf] at h
    simp at h
    have hb : e.blk = (winT B W t).1 + (j : Int) := by rw [← h]; rfl
    have hp := List.find?_some hf
    refine ⟨h1, h2, h3, by rw [hb]; exact hp, ?_⟩
    rcases Nat.eq_zero_or_pos j with h0 | h0
    · left; rw [hb, h0]; simp
    · right
      have := (List.find?_range_eq_some.1 hf).2.2 0 h0
      simpa using this
theorem wanted_nil {B W : Int} {t : Tr} (h : wantedL B W t = []) (k : Int) (h1 : (winT B W t).1 ≤ k) (h2 : k < (winT B W t).2) : (heldAt t k).toList.isEmpty = false := by
  cases he : (heldAt t k).toList.isEmpty
  · rfl
  · exfalso
    have : ofT t k ∈ wantedL B W t := by
      unfold wantedL
      rw [List.mem_map]
      refine ⟨(k - (winT B W t).1).toNat, ?_, ?_⟩
      · rw [List.mem_filter, List.mem_range]
        refine ⟨by omega, ?_⟩
        rw [show (winT B W t).1 + ((k - (winT B W t).1).toNat : Int) = k by omega]; exact he
      · rw [show (winT B W t).1 + ((k - (winT B W t).1).toNat : Int) = k by omega]
    rw [h] at this
    simp at this
theorem free_err {s : Px} (h : s.busy = allF) (t : Tr) : errOf s t = (wantedL s.blk s.win t).head? := by
  unfold errOf
  have : (fun e => !isSentL s e) = (fun _ => true) := by funext e; rw [free_sent h]; rfl
  rw [this]
  cases wantedL s.blk s.win t <;> rfl
theorem free_none {s : Px} (h : s.busy = allF) (hn : nextE s = none) : ∀ t ∈ s.trs, wantedL s.blk s.win t = [] := by
  intro t ht
  unfold nextE at hn
  rw [List.findSome?_eq_none_iff] at hn
  have := hn t ht
  rw [free_err h] at this
  exact List.head?_eq_none_iff.1 this
theorem free_some {s : Px} (h : s.busy = allF) {e : Er} (hn : nextE s = some e) : ∃ (i : Nat) (t : Tr), s.trs[i]? = some t ∧ (wantedL s.blk s.win t).head? = some e := by
  unfold nextE at hn
  obtain ⟨t, ht, h2⟩ := List.exists_of_findSome?_eq_some hn
  rw [free_err h] at h2
  obtain ⟨i, hi⟩ := List.getElem?_of_mem ht
  exact ⟨i, t, hi, h2⟩

/-! How much is still to come. -/
def muT (t : Tr) : Nat := if t.lost then 0 else if !t.bound then 61 else (t.hd.len - t.taken).toNat
def muL (l : List Tr) : Nat := (l.map muT).sum
theorem muT_run {t : Tr} (h : Run t) : muT t = (t.hd.len - t.taken).toNat := by unfold muT; rw [h.l, h.b]; rfl
theorem muT_pos {t : Tr} (h : muT t ≠ 0) : t.lost = false ∧ (t.bound = false ∨ Run t) := by
  unfold muT at h
  cases hl : t.lost
  · refine ⟨rfl, ?_⟩
    rw [hl] at h
    cases hb : t.bound
    · exact Or.inl rfl
    · right
      rw [hb] at h
      simp at h
      exact ⟨hl, hb, by omega⟩
  · rw [hl] at h; simp at h
theorem len_le {B v W : Int} {t : Tr} {T : ByteArray} (h : TI (KnV B v) B W t T) (hl : t.lost = false) (hb : t.bound = true) : t.hd.len ≤ 59 := by
  have h1 := h.head (KnV_ok B v) hl hb
  have h2 := (h.bd hl hb).1.1.2
  have h3 := totK_bd t.path t.hd.tag
  have := h.ok.r0
  omega
theorem muT_le {B v W : Int} {t : Tr} {T : ByteArray} (h : TI (KnV B v) B W t T) : muT t ≤ 61 := by
  unfold muT
  cases hl : t.lost
  · cases hb : t.bound
    · simp
    · have := len_le h hl hb
      have := h.ok.k0
      simp; omega
  · simp
theorem muL_le (l : List Tr) (h : ∀ t ∈ l, muT t ≤ 61) : muL l ≤ 61 * l.length := by
  induction l with
  | nil => simp [muL]
  | cons a l ih =>
    have h1 := h a (List.mem_cons_self ..)
    have h2 := ih (fun t ht => h t (List.mem_cons_of_mem _ ht))
    unfold muL at h2 ⊢
    rw [List.map_cons, List.sum_cons, List.length_cons]; omega
theorem muL_zero (l : List Tr) (h : muL l = 0) : ∀ t ∈ l, muT t = 0 := by
  induction l with
  | nil => intro t ht; simp at ht
  | cons a l ih =>
    unfold muL at h ih
    rw [List.map_cons, List.sum_cons] at h
    intro t ht
    rcases List.mem_cons.1 ht with rfl | ht
    · omega
    · exact ih (by omega) t ht
theorem muL_ne (l : List Tr) (h : muL l ≠ 0) : ∃ (i : Nat) (t : Tr), l[i]? = some t ∧ muT t ≠ 0 := by
  induction l with
  | nil => simp [muL] at h
  | cons a l ih =>
    by_cases ha : muT a = 0
    · unfold muL at h ih
      rw [List.map_cons, List.sum_cons, ha] at h
      obtain ⟨i, t, h1, h2⟩ := ih (by omega)
      exact ⟨i + 1, t, by simpa using h1, h2⟩
    · exact ⟨0, a, rfl, ha⟩
theorem muL_mono (l : List Tr) : ∀ (l' : List Tr), Pw (fun t t' => muT t' ≤ muT t) l l' → muL l' ≤ muL l ∧ ((∃ (i : Nat) (t t' : Tr), l[i]? = some t ∧ l'[i]? = some t' ∧ muT t' < muT t) → muL l' < muL l) := by
  induction l with
  | nil =>
    intro l' h
    have := h.n
    have : l' = [] := List.length_eq_zero_iff.1 (by simpa using this)
    subst this
    exact ⟨Nat.le_refl _, fun ⟨i, t, t', h1, _⟩ => by simp at h1⟩
  | cons a l ih =>
    intro l' h
    cases l' with
    | nil => have := h.n; simp at this
    | cons b l' =>
      have h0 := h.a 0 a b rfl rfl
      obtain ⟨h1, h2⟩ := ih l' ⟨by have := h.n; simpa using this, fun i t t' x y => h.a (i + 1) t t' (by simpa using x) (by simpa using y)⟩
      unfold muL at *
      simp only [List.map_cons, List.sum_cons]
      refine ⟨by omega, fun ⟨i, t, t', x, y, z⟩ => ?_⟩
      cases i with
      | zero => simp at x y; subst x y; omega
      | succ i =>
        have := h2 ⟨i, t, t', by simpa using x, by simpa using y, z⟩
        omega

/-! Bytes are taken of all transfers. -/
/-- A transfer of which bytes were taken. -/
structure Dn (B W : Int) (t t' : Tr) : Prop where
  ls : t'.lost = t.lost
  bd : t'.bound = t.bound
  hd : t'.hd = t.hd
  pa : t'.path = t.path ∧ t'.kind = t.kind ∧ t'.fst = t.fst ∧ t'.lst = t.lst
  sh : openT t = false → t'.shown = true
  fl : t'.fails = t.fails
  le : t.taken ≤ t'.taken
  mo : Run t → (heldAt t (winT B W t).1).toList.isEmpty = false → t.hd.len ≤ t'.taken ∨ ((winT B W t).1 + 1) * B ≤ t.hd.frm + t'.taken
theorem Dn.hm {B W : Int} {t t1 t2 : Tr} (h : Dn B W t t1) (k : Hl t1 t2) : Dn B W t t2 := by
  obtain ⟨x, y, rfl⟩ := k.1.e
  exact ⟨h.ls, h.bd, h.hd, h.pa, h.sh, k.2.trans h.fl, h.le, h.mo⟩
theorem Hl.run {t t' : Tr} (h : Hl t t') (hr : Run t) : Run t' := by obtain ⟨x, y, rfl⟩ := h.1.e; exact ⟨hr.l, hr.b, hr.k⟩
theorem Dn.pre {B W : Int} {t t1 t2 : Tr} (h : Hl t t1) (k : Dn B W t1 t2) : Dn B W t t2 := by
  have hf := h.2
  have hm := h.1
  obtain ⟨x, y, rfl⟩ := h.1.e
  exact ⟨k.ls, k.bd, k.hd, k.pa, k.sh, k.fl.trans hf, k.le, fun hr he => k.mo ⟨hr.l, hr.b, hr.k⟩ (hm.at _ he)⟩
theorem Run.strict {B W : Int} {t t' : Tr} (hB : 1 ≤ B) (h : Run t) (k : Dn B W t t') (he : (heldAt t (winT B W t).1).toList.isEmpty = false) : t.taken < t'.taken := by
  have hp := h.pos (W := W) hB
  have hk := h.k
  rcases k.mo h he with h1 | h1
  · omega
  · rw [Int.add_mul, Int.one_mul] at h1; omega
theorem take_dn {B v : Int} {s : Px} {t : Tr} {T : ByteArray} (hB : s.blk = B) (hf : Fair s) (h : TI (KnV B v) B s.win t T) (ho : openT t = false) : Dn B s.win t (takeT B s.win 99 (pshowT t)).2 := by
  subst hB
  have hs := show_TI h ho
  obtain ⟨tk, hh, e, h1, h2⟩ := take_form hs.ok hf 99 (by omega)
  have hmo : Run t → (heldAt t (winT s.blk s.win t).1).toList.isEmpty = false → t.hd.len ≤ (takeT s.blk s.win 99 (pshowT t)).2.taken ∨ ((winT s.blk s.win t).1 + 1) * s.blk ≤ t.hd.frm + (takeT s.blk s.win 99 (pshowT t)).2.taken := by
    intro hr he
    have hr' : Run (pshowT t) := ⟨hr.l, hr.b, hr.k⟩
    have hw : winT s.blk s.win (pshowT t) = winT s.blk s.win t := rfl
    have hlt := hr'.lt (W := s.win) hf.B1 hf.W1
    have := take_more hf (KnV_ok _ v) hs hr' (by have := len_le h hr.l hr.b; show t.hd.len ≤ 99; omega) 0 (by simpa using hlt) (fun i hi => by
      have : i = 0 := by omega
      subst this
      show (heldAt t ((winT s.blk s.win t).1 + ((0 : Nat) : Int))).toList.isEmpty = false
      rw [show (winT s.blk s.win t).1 + ((0 : Nat) : Int) = (winT s.blk s.win t).1 from Int.add_zero _]; exact he)
    have h2 : t.hd.len ≤ (takeT s.blk s.win 99 (pshowT t)).2.taken ∨ ((winT s.blk s.win t).1 + ((0 : Nat) : Int) + 1) * s.blk ≤ t.hd.frm + (takeT s.blk s.win 99 (pshowT t)).2.taken := this
    rw [show (winT s.blk s.win t).1 + ((0 : Nat) : Int) = (winT s.blk s.win t).1 from Int.add_zero _] at h2
    exact h2
  rw [e] at hmo ⊢
  exact ⟨rfl, rfl, rfl, ⟨rfl, rfl, rfl, rfl⟩, fun _ => rfl, rfl, h1, hmo⟩
def takesPl (P : Pl) (m : Nat) : Pl := (List.range m).foldl (fun P (i : Nat) => takePl P i 99) P
theorem takes_succ (P : Pl) (m : Nat) : takesPl P (m + 1) = takePl (takesPl P m) m 99 := by unfold takesPl; rw [List.range_succ, List.foldl_append]; rfl
structure Tkn (B v : Int) (n m : Nat) (P Q : Pl) : Prop where
  pi : PI (KnV B v) (n + m) Q
  bl : Q.g.s.blk = B
  wi : Q.g.s.win = P.g.s.win
  aw : Q.away = P.away
  sn : Q.sent = P.sent
  pa : Q.paths = P.paths
  nn : Q.g.s.trs.length = P.g.s.trs.length
  dn : ∀ (i : Nat) t t', P.g.s.trs[i]? = some t → Q.g.s.trs[i]? = some t' → if i < m then Dn B P.g.s.win t t' else Hl t t'
theorem pick_nat (m n : Nat) (h : m < n) : pickK m n = m := by
  unfold pickK
  rw [if_neg (by omega)]
  exact Int.emod_eq_of_lt (by omega) (by omega)
theorem takes_rel {B v : Int} {n : Nat} {P : Pl} (hB : P.g.s.blk = B) (h : PI (KnV B v) n P) (m : Nat) (hm : m ≤ P.paths.length) : Tkn B v n m P (takesPl P m) := by
  induction m with
  | zero =>
    refine ⟨h, hB, rfl, rfl, rfl, rfl, rfl, fun i t t' h1 h2 => ?_⟩
    rw [if_neg (by omega)]
    have h3 : P.g.s.trs[i]? = some t' := h2
    rw [h1] at h3; simp at h3; subst h3; exact Hl.refl t
  | succ m ih =>
    have ih := ih (by omega)
    rw [takes_succ]
    have hK : KnOk (KnV B v) (takesPl P m).g.s.blk := by rw [ih.bl]; exact KnV_ok B v
    have hpi := takePl_PI ih.pi hK m 99
    have hml : m < (takesPl P m).g.s.trs.length := by rw [ih.pi.ok.n1, ih.pa]; omega
    obtain ⟨u, hu⟩ : ∃ u, (takesPl P m).g.s.trs[m]? = some u := ⟨_, List.getElem?_eq_getElem hml⟩
    have hfs := ih.pi.si.fair
    have hpk : pickK (m : Nat) (takesPl P m).paths.length = m := pick_nat _ _ (by rw [ih.pa]; omega)
    have hp99 : pickK 99 100 = 99 := by decide
    have hform : takePl (takesPl P m) m 99 = if stT u = 1 then takesPl P m else tookPl (takesPl P m) m 99 := by
      unfold takePl
      rw [if_neg (by rw [ih.pa]; omega), hpk, Int.toNat_natCast, hu, hp99]
    rw [hform] at hpi ⊢
    by_cases hst : stT u = 1
    · rw [if_pos hst] at hpi ⊢
      refine ⟨hpi, ih.bl, ih.wi, ih.aw, ih.sn, ih.pa, ih.nn, fun i t t' h1 h2 => ?_⟩
      have := ih.dn i t t' h1 h2
      by_cases him : i < m
      · rw [if_pos him] at this; rw [if_pos (by omega)]; exact this
      · rw [if_neg him] at this
        by_cases hi : i = m
        · subst hi
          rw [hu] at h2; simp at h2; subst h2
          rw [if_pos (by omega)]
          have ho := open_st' hst
          have hh := this
          obtain ⟨x, y, e⟩ := this.1.e
          have hot : openT t = true := by rw [e] at ho; exact ho
          refine ⟨by rw [e], by rw [e], by rw [e], by rw [e]; exact ⟨rfl, rfl, rfl, rfl⟩, fun hf => by rw [hot] at hf; simp at hf, hh.2, by rw [e]; exact Int.le_refl _, fun hr => ?_⟩
          unfold openT at hot
          rw [hr.l, hr.b] at hot
          simp at hot
        · rw [if_neg (by omega)]; exact this
    · rw [if_neg hst] at hpi ⊢
      have ho := open_st hst
      obtain ⟨T, hT⟩ : ∃ T, (takesPl P m).taken[m]? = some T := ⟨_, List.getElem?_eq_getElem (by rw [ih.pi.si.n]; exact hml)⟩
      have hTI := ih.pi.si.ts m u T hu hT
      rw [ih.bl] at hTI
      have hd := take_dn ih.bl hfs hTI ho
      have hs : (tookPl (takesPl P m) m 99).g.s = plookS (setT (takesPl P m).g.s m (takeT B (takesPl P m).g.s.win 99 (pshowT u)).2) := by
        show ptakeS (takesPl P m).g.s m 99 = _
        rw [ptakeS_yes hu (by omega) ho, ih.bl]
      have hlk := look_hm (setT (takesPl P m).g.s m (takeT B (takesPl P m).g.s.win 99 (pshowT u)).2)
      rw [← hs] at hlk
      have hsm := (same_look (setT (takesPl P m).g.s m (takeT B (takesPl P m).g.s.win 99 (pshowT u)).2)).a
      rw [← hs] at hsm
      refine ⟨hpi, by rw [hsm.2.1]; exact ih.bl, by rw [hsm.2.2.1]; exact ih.wi, ih.aw, ih.sn, ih.pa, ?_, fun i t t' h1 h2 => ?_⟩
      · rw [hlk.n]
        show ((takesPl P m).g.s.trs.set m _).length = _
        rw [List.length_set]; exact ih.nn
      · obtain ⟨x, hx, hr⟩ := hlk.old h2
        have hx2 : ((takesPl P m).g.s.trs.set m (takeT B (takesPl P m).g.s.win 99 (pshowT u)).2)[i]? = some x := hx
        rw [List.getElem?_set] at hx2
        by_cases hi : m = i
        · subst hi
          rw [if_pos rfl, if_pos hml] at hx2
          simp at hx2
          subst hx2
          rw [if_pos (by omega)]
          have := ih.dn m t u h1 hu
          rw [if_neg (by omega)] at this
          rw [ih.wi] at hd hr
          exact Dn.hm (Dn.pre this hd) hr
        · rw [if_neg hi] at hx2
          have := ih.dn i t x h1 hx2
          by_cases him : i < m
          · rw [if_pos him] at this; rw [if_pos (by omega)]; exact this.hm hr
          · rw [if_neg him] at this; rw [if_neg (by omega)]; exact this.trans hr
end Go.Proofs.Ytjhihliciadipaa
