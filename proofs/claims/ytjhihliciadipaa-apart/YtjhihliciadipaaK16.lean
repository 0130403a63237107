import Derived.Test.YtjhihliciadipaaK15
set_option linter.unusedVariables false
set_option linter.unusedSimpArgs false
set_option linter.unnecessarySimpa false
namespace Go.Proofs.Ytjhihliciadipaa
open Go.RowKit

/-! The plays' invariants. -/
structure SameJ (s s' : Px) : Prop where
  a : s'.mir = s.mir ∧ s'.blk = s.blk ∧ s'.win = s.win ∧ s'.cap = s.cap ∧ s'.tri = s.tri
  b : s'.busy = s.busy
  e : s'.ers = s.ers
  p : s'.trs.map Tr.path = s.trs.map Tr.path
theorem SameJ.refl (s : Px) : SameJ s s := ⟨⟨rfl, rfl, rfl, rfl, rfl⟩, rfl, rfl, rfl⟩
theorem SameJ.trans {s s1 s2 : Px} (h : SameJ s s1) (k : SameJ s1 s2) : SameJ s s2 :=
  ⟨⟨k.a.1.trans h.a.1, k.a.2.1.trans h.a.2.1, k.a.2.2.1.trans h.a.2.2.1, k.a.2.2.2.1.trans h.a.2.2.2.1, k.a.2.2.2.2.trans h.a.2.2.2.2⟩, k.b.trans h.b, k.e.trans h.e, k.p.trans h.p⟩
theorem map_path (l : List Tr) (f : Tr → Tr) (h : ∀ t, (f t).path = t.path) : (l.map f).map Tr.path = l.map Tr.path := by
  rw [List.map_map]; apply List.map_congr_left; intro t _; exact h t
theorem same_failed (s : Px) (e : Er) : SameJ s (failedS s e) :=
  ⟨⟨rfl, rfl, rfl, rfl, rfl⟩, rfl, rfl, map_path _ _ (fun t => by split; unfold pfailT; split <;> rfl; rfl)⟩
theorem same_renew (s : Px) (p : Int) (v : Int × Int) : SameJ s (renewS s p v) := ⟨⟨rfl, rfl, rfl, rfl, rfl⟩, rfl, rfl, map_path _ _ (fun t => by split <;> rfl)⟩
theorem same_deliv (s : Px) (e : Er) (b : ByteArray) : SameJ s (delivS s e b) := by
  unfold delivS
  split
  · exact SameJ.refl s
  · exact ⟨⟨rfl, rfl, rfl, rfl, rfl⟩, rfl, rfl, map_path _ _ (fun t => by split <;> rfl)⟩
theorem same_answ (s : Px) (e : Er) (tag tot off : Int) (b : ByteArray) : SameJ s (answS s e tag tot off b) := by
  unfold answS
  split
  · refine SameJ.trans ?_ (same_deliv _ _ _)
    split
    · exact SameJ.refl s
    · exact (same_renew _ _ _).trans (same_failed _ _)
  · exact same_failed _ _
theorem plookE_tr (es : List Er) : ∀ c t, ∃ h, (es.foldl plookE (c, t)).2 = { t with held := h } := by
  induction es with
  | nil => intro c t; exact ⟨t.held, rfl⟩
  | cons e es ih =>
    intro c t
    rw [List.foldl_cons]
    unfold plookE
    simp only
    split
    · exact ih _ _
    · obtain ⟨h, e1⟩ := ih (useC c e).2 (holdT t e.blk (useC c e).1)
      exact ⟨h, by unfold plookE at e1; rw [e1]; rfl⟩
theorem plookT_tr (B W : Int) (c : List (Er × ByteArray)) (t : Tr) : ∃ h, (plookT B W c t).2 = { t with held := h } := plookE_tr _ _ _
theorem set_path (l : List Tr) (i : Nat) (t t' : Tr) (ht : l[i]? = some t) (h : t'.path = t.path) : (l.set i t').map Tr.path = l.map Tr.path := by
  rw [List.map_set, h]; exact set_self _ _ _ (by simp [ht])
theorem same_lookTo (s : Px) (n : Nat) : SameJ s (plookTo s n) := by
  have key : ∀ n, (plookTo s n).trs.map Tr.path = s.trs.map Tr.path := by
    intro n
    induction n with
    | zero => rfl
    | succ n ih =>
      cases ht : (plookTo s n).trs[n]? with
      | none => rw [plookTo, ht]; exact ih
      | some t =>
        rw [plookTo, ht]
        simp only
        rw [← ih]
        obtain ⟨h, e⟩ := plookT_tr s.blk s.win (plookTo s n).cac t
        exact set_path _ _ t _ ht (by rw [e])
  obtain ⟨a, b, c, d, e, f, g, i, j⟩ := plookTo_same s n
  exact ⟨⟨a, b, c, d, e⟩, g, i, key n⟩
theorem same_look (s : Px) : SameJ s (plookS s) := same_lookTo s _
theorem goT_path (a b : Int) (t : Tr) (k : Int) (n : Nat) : (goT a b t k n).path = t.path := by obtain ⟨h, e, -⟩ := goT_held a b t k n; rw [e]
theorem takeT_path (B W n : Int) (t : Tr) : (takeT B W n t).2.path = t.path := by
  unfold takeT
  simp only
  split
  · rfl
  · exact goT_path _ _ _ _ _
theorem same_setT (s : Px) (i : Nat) (t t' : Tr) (ht : s.trs[i]? = some t) (h : t'.path = t.path) : SameJ s (setT s i t') := ⟨⟨rfl, rfl, rfl, rfl, rfl⟩, rfl, rfl, set_path _ _ t _ ht h⟩

/-- Weak knowledge: what a block's length is. -/
def KnW (B : Int) : Kn := ⟨fun e b => ((b.size : Int) = blkLen e.tot e.blk B ∧ 1 ≤ b.size ∧ 1 ≤ e.tag) ∧ 0 ≤ e.blk, fun _ tag tot => 1 ≤ tag ∧ tag ≤ 99 ∧ 0 ≤ tot ∧ tot ≤ 1000⟩
theorem KnW_ok (B : Int) : KnOk (KnW B) B := ⟨fun _ _ h => h.1, fun _ _ _ h => h⟩
/-- What a job may be, even one that is done. -/
structure JobB (f : Fe) : Prop where
  p0 : 0 ≤ f.path
  p1 : f.path ≤ 3
  t0 : 0 ≤ f.tag
  t1 : f.tag ≤ 99
  o0 : 0 ≤ f.off
  o1 : f.off ≤ 1000
  n0 : 0 ≤ f.tot
  n1 : f.tot ≤ 1000
structure PI (K : Kn) (n : Nat) (P : Pl) : Prop where
  ok : PlOk P
  j : PlJ P
  si : SI K P.g.s P.taken
  jo : ∀ f ∈ P.jobs, JobB f
  nj : P.jobs.length = 3
  sn : P.sent.length ≤ n
  dn : P.dst.length ≤ n
  sd : P.sent.length = P.dst.length
  an : P.ans.size ≤ 101 * n
  ej : ∀ (i : Nat) e, P.g.s.busy[i]? = some true → P.g.s.ers[i]? = some e → e.tag = 0 ∧ e.tot = 0 ∧ e.blk = 0 ∨ K.V e.path e.tag e.tot ∧ e.blk * P.g.s.blk < e.tot

theorem nextE_some {s : Px} {e : Er} (h : nextE s = some e) : ∃ (i : Nat) (t : Tr), s.trs[i]? = some t ∧ e ∈ wantedL s.blk s.win t ∧ isSentL s e = false := by
  unfold nextE at h
  obtain ⟨t, ht, h2⟩ := List.exists_of_findSome?_eq_some h
  unfold errOf at h2
  obtain ⟨i, hi⟩ := List.getElem?_of_mem ht
  exact ⟨i, t, hi, List.mem_of_find?_eq_some h2, by simpa using List.find?_some h2⟩
theorem isSent_not {s : Px} {e : Er} (h : isSentL s e = false) (i : Nat) (e' : Er) (hb : s.busy[i]? = some true) (he : s.ers[i]? = some e') : e' ≠ e := by
  rintro rfl
  unfold isSentL at h
  rw [List.any_eq_false] at h
  have := h (true, e') (List.mem_of_getElem? (i := i) (by rw [List.getElem?_zip_eq_some]; exact ⟨hb, he⟩))
  simp at this
/-- An errand that a transfer wants is whole. -/
theorem wanted_ok {K : Kn} {s : Px} {t : Tr} {T : ByteArray} (hf : Fair s) (hK : KnOk K s.blk) (h : TI K s.blk s.win t T) {e : Er} (he : e ∈ wantedL s.blk s.win t) :
    FeOk s.blk (feF (fetchE s.blk e)) ∧ JobB (feF (fetchE s.blk e)) ∧ e.path = t.path ∧ (e.tag = 0 ∧ e.tot = 0 ∧ e.blk = 0 ∨ K.V e.path e.tag e.tot ∧ e.blk * s.blk < e.tot) := by
  obtain ⟨e1, e2, e3⟩ := wanted_in e he
  have hB := hf.B1
  have hB2 := hf.B2
  have ok := h.ok
  have hl : t.lost = false := by
    cases hl : t.lost
    · rfl
    · rw [lost_win hl] at e2 e3; simp at e2 e3; omega
  cases hb : t.bound
  · have hop := (h.op (by unfold openT; rw [hl, hb]; rfl)).1
    have hw : winT s.blk s.win t = (0, 1) := by unfold winT; rw [hl, hb]; rfl
    rw [hw] at e2 e3
    have h0 : e.blk = 0 := by simp at e2 e3; omega
    have h1 : e.tag = 0 := by rw [e1]; unfold ofT; rw [hop]
    have h2 : e.tot = 0 := by rw [e1]; unfold ofT; rw [hop]
    have h3 : e.path = t.path := by rw [e1]; rfl
    have hp0 := ok.p0
    have hp1 := ok.p1
    unfold feF fetchE
    rw [h0, h1, h2, h3]
    simp only [Int.zero_mul, if_true]
    refine ⟨⟨by simp, by simp, by simp, by simp only; omega, by simp only; omega, by simp, by simp, Or.inl ⟨rfl, rfl, rfl, rfl⟩⟩, ⟨hp0, by simp only; omega, by simp, by simp, by simp, by simp, by simp, by simp⟩, by simp⟩
  · obtain ⟨hv, -⟩ := h.bd hl hb
    obtain ⟨v1, v2, v3⟩ := h.head hK hl hb
    have hn := win_nn (W := s.win) hB ok
    have htk : ¬ t.taken = t.hd.len := by
      intro htk
      have hw : winT s.blk s.win t = (0, 0) := by unfold winT; rw [hl, hb]; simp [htk]
      rw [hw] at e2 e3; simp at e2 e3; omega
    have hw : winT s.blk s.win t = ((t.hd.frm + t.taken) / s.blk, atM ((t.hd.frm + t.hd.len - 1) / s.blk + 1) ((t.hd.frm + t.taken) / s.blk + s.win)) := by unfold winT; rw [hl, hb]; simp [htk]
    rw [hw] at e2 e3 hn
    simp only at e2 e3 hn
    have hle : e.blk ≤ (t.hd.frm + t.hd.len - 1) / s.blk := by unfold atM at e3; split at e3 <;> omega
    have hm : e.blk * s.blk ≤ t.hd.frm + t.hd.len - 1 := by
      have h1 : e.blk * s.blk ≤ (t.hd.frm + t.hd.len - 1) / s.blk * s.blk := Int.mul_le_mul_of_nonneg_right hle (by omega)
      have h2 := Int.ediv_mul_le (t.hd.frm + t.hd.len - 1) (b := s.blk) (by omega)
      omega
    have h0 : 0 ≤ e.blk := by omega
    have hmn : 0 ≤ e.blk * s.blk := Int.mul_nonneg h0 (by omega)
    have ht : e.tag = t.hd.tag := by rw [e1]; rfl
    have ho : e.tot = t.hd.tot := by rw [e1]; rfl
    have h3 : e.path = t.path := by rw [e1]; rfl
    have hp0 := ok.p0
    have hp1 := ok.p1
    have ho0 := ok.o0
    have ho1 := ok.o1
    have hne : ¬ t.hd.tag = 0 := by omega
    have hbl : blkLen t.hd.tot e.blk s.blk = atM (t.hd.tot - e.blk * s.blk) s.blk := by unfold blkLen; rw [if_neg (by omega)]
    have hmod : e.blk * s.blk % s.blk = 0 := Int.mul_emod_left _ _
    rw [← h3] at hv
    rw [← ht, ← ho] at hv
    refine ⟨?_, ?_, h3, Or.inr ⟨hv, by rw [ho]; omega⟩⟩
    · unfold feF fetchE
      rw [ht, ho, h3]
      simp only [hne, if_false, hbl]
      generalize e.blk * s.blk = off at *
      refine ⟨hmn, by simp only; omega, hmod, ?_, ?_, ho0, ho1, Or.inr ⟨v1, by simp only; omega, ?_, ?_⟩⟩ <;> simp only [atM] <;> split <;> omega
    · unfold feF fetchE
      rw [ht, ho, h3]
      exact ⟨hp0, by simp only; omega, by simp only; omega, v2, hmn, by simp only; omega, ho0, ho1⟩
theorem fetch_inj {B : Int} (hB : 1 ≤ B) {e e' : Er} (h : feF (fetchE B e) = feF (fetchE B e')) : e = e' := by
  unfold feF fetchE at h
  simp only [Fe.mk.injEq] at h
  obtain ⟨h1, h2, h3, h4, -⟩ := h
  have : e.blk = e'.blk := Int.eq_of_mul_eq_mul_right (by omega) h4
  cases e; cases e'; simp_all

def mirK (P : Pl) (ix : Int) : Nat := (pickK ix P.st.m).toNat
theorem mirK_bd {K : Kn} {n : Nat} {P : Pl} (h : PI K n P) (ix : Int) : pickK ix P.st.m = (mirK P ix : Nat) ∧ mirK P ix < 3 ∧ (mirK P ix : Int) < P.g.s.mir ∧ 1 ≤ P.st.m ∧ P.st.m ≤ 3 := by
  have h1 := h.si.fair.m1
  have h2 := h.si.fair.m2
  have h3 := h.j.st.1
  have hb := pickK_bd ix P.st.m (by omega)
  unfold mirK
  refine ⟨by omega, by omega, by omega, by omega, by omega⟩
theorem away_get {K : Kn} {n : Nat} {P : Pl} (h : PI K n P) (pk : POk P.g.s) (m : Nat) (hm : m < 3) : P.away[m]? = some (P.away.getD m false) ∧ P.g.s.busy[m]? = some (P.away.getD m false) := by
  have e : P.away = P.g.s.busy := h.j.aw
  have hl : m < P.away.length := by rw [e, pk.nb]; exact hm
  rw [← e]
  have : P.away[m]? = some P.away[m] := List.getElem?_eq_getElem hl
  rw [List.getD_eq_getElem?_getD, this]
  exact ⟨rfl, rfl⟩
theorem nextPl_PI {K : Kn} {n : Nat} {P : Pl} (h : PI K n P) (pk : POk P.g.s) (hK : KnOk K P.g.s.blk) (m : Nat) (hm : m < 3) : PI K n (nextPl P m).1 := by
  unfold nextPl
  split
  · exact h
  · cases hE : nextE P.g.s with
    | none => exact h
    | some e =>
      simp only
      obtain ⟨i, t, ht, he, hs⟩ := nextE_some hE
      have hil := (List.getElem?_eq_some_iff.1 ht).1
      obtain ⟨T, hT⟩ : ∃ T, P.taken[i]? = some T := ⟨_, List.getElem?_eq_getElem (by rw [h.si.n]; exact hil)⟩
      have hTI := h.si.ts i t T ht hT
      obtain ⟨w1, w2, w3, w4⟩ := wanted_ok h.si.fair hK hTI he
      refine ⟨⟨h.ok.bad, h.ok.n1, h.ok.n2, h.ok.n3, h.ok.n8⟩, ⟨h.j.st, ?_, ?_, h.j.pt⟩, SI_setJ h.si _ _, ?_, by show (P.jobs.set m _).length = 3; simp [h.nj], h.sn, h.dn, h.sd, h.an, ?_⟩
      · show P.away.set m true = P.g.s.busy.set m true
        rw [h.j.aw]
      · intro k e' hb hk
        show (P.jobs.set m _)[k]? = _
        have hb2 : (P.g.s.busy.set m true)[k]? = some true := hb
        have hk2 : (P.g.s.ers.set m e)[k]? = some e' := hk
        rw [List.getElem?_set] at hb2 hk2 ⊢
        by_cases hmk : m = k
        · subst hmk
          rw [if_pos rfl, if_pos (by rw [pk.ne]; exact hm)] at hk2
          simp at hk2; subst hk2
          rw [if_pos rfl, if_pos (by rw [h.nj]; exact hm)]
          rfl
        · rw [if_neg hmk] at hb2 hk2 ⊢
          exact h.j.jb k e' hb2 hk2
      · intro f hf
        rcases List.mem_or_eq_of_mem_set hf with h1 | rfl
        · exact h.jo f h1
        · exact w2
      · intro k e' hb hk
        have hb2 : (P.g.s.busy.set m true)[k]? = some true := hb
        have hk2 : (P.g.s.ers.set m e)[k]? = some e' := hk
        show e'.tag = 0 ∧ e'.tot = 0 ∧ e'.blk = 0 ∨ K.V e'.path e'.tag e'.tot ∧ e'.blk * P.g.s.blk < e'.tot
        rw [List.getElem?_set] at hb2 hk2
        by_cases hmk : m = k
        · subst hmk
          rw [if_pos rfl, if_pos (by rw [pk.ne]; exact hm)] at hk2
          simp at hk2; subst hk2
          exact w4
        · rw [if_neg hmk] at hb2 hk2
          exact h.ej k e' hb2 hk2

theorem next_any (y : Nat) (col : Nat → Nat) (k : Nat) (K : Kn) (n : Nat) (P : Pl) (V : Pv) (ix : Int) (w : World) (h : PlAt w y col k P V) (hI : PI K n P) (hK : KnOk K P.g.s.blk) (hid : I64 ix) :
    Calls Try.prog 13 #[.pointer (some ⟨y, 0, none⟩), .int .i64 ix] w fun e w' => e = .returned (.bool (nextPl P (mirK P ix)).2) ∧ PlTo w w' y col k (nextPl P (mirK P ix)).1 := by
  have pk := (h.pg id).1.ok
  obtain ⟨hm, hm3, hmm, m1, m2⟩ := mirK_bd hI ix
  obtain ⟨ha, hb⟩ := away_get hI pk _ hm3
  have hhas : hasM P.g.s (mirK P ix : Nat) = true := by unfold hasM; simp; omega
  unfold nextPl
  cases hv : P.away.getD (mirK P ix) false
  · rw [hv] at ha hb
    simp only [Bool.false_eq_true, if_false]
    have hgb : P.g.s.busy.getD ((mirK P ix : Nat) : Int).toNat false = false := by rw [Int.toNat_natCast, List.getD_eq_getElem?_getD, hb]; rfl
    cases hE : nextE P.g.s with
    | none =>
      simp only
      exact next_idle y col k P V ix _ w h hI.ok hid ⟨m1, m2⟩ hm ha ⟨by unfold nextA; rw [hhas, hgb, hE]; rfl, by unfold nextS; rw [hhas, hgb, hE]; rfl⟩
    | some e =>
      simp only
      obtain ⟨i, t, ht, he, hs⟩ := nextE_some hE
      have hil := (List.getElem?_eq_some_iff.1 ht).1
      obtain ⟨T, hT⟩ : ∃ T, P.taken[i]? = some T := ⟨_, List.getElem?_eq_getElem (by rw [hI.si.n]; exact hil)⟩
      obtain ⟨w1, w2, w3, w4⟩ := wanted_ok hI.si.fair hK (hI.si.ts i t T ht hT) he
      have hst := hI.j.st
      refine next_sent y col k P V ix _ e w h hI.ok hid ⟨m1, m2⟩ hm ha ⟨by unfold nextA; rw [hhas, hgb, hE]; rfl, by unfold nextS; rw [hhas, hgb, hE]; rfl⟩ (by rw [hst.2.1]; exact hI.si.fair.B1) (by rw [hst.2.1]; exact hI.si.fair.B2) ?_ ?_ (by rw [hst.2.1]; exact w1)
      · rw [hI.j.pt, w3]; exact List.mem_map_of_mem (List.mem_of_getElem? ht)
      · intro j f' hj haj hfj hff
        rw [hI.j.aw] at haj
        have hjl : j < P.g.s.ers.length := by have := (List.getElem?_eq_some_iff.1 haj).1; rw [pk.nb] at this; rw [pk.ne]; exact this
        have hej : P.g.s.ers[j]? = some P.g.s.ers[j] := List.getElem?_eq_getElem hjl
        have hjb := hI.j.jb j _ haj hej
        rw [hfj] at hjb
        simp only [Option.some.injEq] at hjb
        rw [hff] at hjb
        exact isSent_not hs j _ haj hej (fetch_inj hI.si.fair.B1 hjb.symm)
  · rw [hv] at ha
    simp only [if_true]
    refine (next_away y col k P V ix _ w h hI.ok hid ⟨m1, m2⟩ hm ha).mono ?_
    rintro e w' ⟨rfl, rfl⟩
    exact ⟨rfl, PlTo.refl h⟩
end Go.Proofs.Ytjhihliciadipaa
