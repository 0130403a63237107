import Derived.Test.YtjhihliciadipaaKC
import Derived.Test.YtjhihliciadipaaK20s
set_option linter.unusedVariables false
set_option linter.unusedSimpArgs false
set_option linter.unnecessarySimpa false
namespace Go.Proofs.Ytjhihliciadipaa
open Go.RowKit

/-! Only mirrors that are there are away. -/
def AwOk (P : Pl) : Prop := ∀ m : Nat, P.away.getD m false = true → (m : Int) < P.g.s.mir
theorem aw_on {l : List Bool} {m i : Nat} (h : (l.set m true).getD i false = true) : i = m ∨ l.getD i false = true := by
  rw [List.getD_eq_getElem?_getD, List.getElem?_set] at h
  rw [List.getD_eq_getElem?_getD]
  by_cases hm : m = i
  · exact Or.inl hm.symm
  · rw [if_neg hm] at h; exact Or.inr h
theorem aw_off {l : List Bool} {m i : Nat} (h : (l.set m false).getD i false = true) : i ≠ m ∧ l.getD i false = true := by
  rw [List.getD_eq_getElem?_getD, List.getElem?_set] at h
  rw [List.getD_eq_getElem?_getD]
  by_cases hm : m = i
  · rw [if_pos hm] at h; split at h <;> simp at h
  · rw [if_neg hm] at h; exact ⟨fun e => hm e.symm, h⟩
theorem ask_aw (P : Pl) (p : Nat) (b : ByteArray) : (askPl P p b).away = P.away ∧ (askPl P p b).g.s.mir = P.g.s.mir := by
  unfold askPl
  split
  · refine ⟨rfl, ?_⟩
    show (plookS _).mir = _
    rw [(same_look _).a.1]
  · exact ⟨rfl, rfl⟩
theorem rp_aw (P : Pl) (m : Nat) (r : Rp) : ((rpPl P m r).away = P.away ∨ (rpPl P m r).away = P.away.set m false) ∧ (rpPl P m r).g.s.mir = P.g.s.mir := by
  unfold rpPl
  split
  · refine ⟨Or.inr rfl, ?_⟩
    show (replyP P.g.s m r.tag r.tot r.off r.body).mir = _
    unfold replyP
    split
    · rw [(same_look _).a.1, (same_answ _ _ _ _ _ _).a.1]; rfl
    · rfl
  · exact ⟨Or.inl rfl, rfl⟩
theorem fl_aw (P : Pl) (m : Nat) : ((flPl P m).away = P.away ∨ (flPl P m).away = P.away.set m false) ∧ (flPl P m).g.s.mir = P.g.s.mir := by
  unfold flPl
  split
  · refine ⟨Or.inr rfl, ?_⟩
    show (failP P.g.s m).mir = _
    unfold failP
    split
    · rw [(same_look _).a.1, (same_failed _ _).a.1]; rfl
    · rfl
  · exact ⟨Or.inl rfl, rfl⟩
theorem tk_aw (P : Pl) (ix n : Int) : (takePl P ix n).away = P.away ∧ (takePl P ix n).g.s.mir = P.g.s.mir := by
  unfold takePl
  split
  · exact ⟨rfl, rfl⟩
  · split
    · split
      · exact ⟨rfl, rfl⟩
      · refine ⟨rfl, ?_⟩
        show (ptakeS P.g.s _ _).mir = _
        unfold ptakeS
        split
        · split
          · rfl
          · split
            · rfl
            · split
              · rfl
              · rw [(same_look _).a.1]; rfl
        · rfl
    · exact ⟨rfl, rfl⟩
theorem next_aw (P : Pl) (m : Nat) : ((nextPl P m).1.away = P.away ∨ (nextPl P m).1.away = P.away.set m true) ∧ (nextPl P m).1.g.s.mir = P.g.s.mir := by
  unfold nextPl
  split
  · exact ⟨Or.inl rfl, rfl⟩
  · cases nextE P.g.s
    · exact ⟨Or.inl rfl, rfl⟩
    · exact ⟨Or.inr rfl, rfl⟩
theorem AwOk.of {P Q : Pl} (h : AwOk P) (hm : Q.g.s.mir = P.g.s.mir) {m : Nat} (ha : Q.away = P.away ∨ Q.away = P.away.set m false) : AwOk Q := by
  intro i hi
  rw [hm]
  rcases ha with ha | ha
  · rw [ha] at hi; exact h i hi
  · rw [ha] at hi; exact h i (aw_off hi).2
theorem AwOk.step {K : Kn} {n : Nat} {P : Pl} (h : AwOk P) (hI : PI K n P) (l : List Int) (r : Rp) : AwOk (stepPl P l r) := by
  obtain ⟨-, -, hmm, -, -⟩ := mirK_bd hI (numK l 1)
  unfold stepPl
  split
  · exact h.of (ask_aw _ _ _).2 (m := 0) (Or.inl (ask_aw _ _ _).1)
  · split
    · intro i hi
      have hn := next_aw P (mirK P (numK l 1))
      rw [hn.2]
      rcases hn.1 with ha | ha
      · rw [ha] at hi; exact h i hi
      · rw [ha] at hi
        rcases aw_on hi with rfl | h1
        · exact hmm
        · exact h i h1
    · split
      · exact h.of (rp_aw _ _ _).2 (rp_aw _ _ _).1
      · split
        · split
          · exact h.of (fl_aw _ _).2 (fl_aw _ _).1
          · exact h.of (rp_aw _ _ _).2 (rp_aw _ _ _).1
        · exact h.of (tk_aw _ _ _).2 (m := 0) (Or.inl (tk_aw _ _ _).1)

/-! Every errand is answered. -/
def LsR (t t' : Tr) : Prop := t'.lost = t.lost
theorem LsR.trans (a b c : Tr) (h : LsR a b) (k : LsR b c) : LsR a c := Eq.trans k h
structure Stl (B : Int) (n m : Nat) (P0 P : Pl) : Prop where
  pi : PI (KnV B 0) (n + m) P
  bl : P.g.s.blk = B
  aw : ∀ i : Nat, P.away.getD i false = true → m ≤ i ∧ (i : Int) < P.g.s.mir
  ls : Pw LsR P0.g.s.trs P.g.s.trs
  pa : P.paths = P0.paths
  mi : P.g.s.mir = P0.g.s.mir
theorem Stl.start {B : Int} {n : Nat} {P : Pl} (h : PI (KnV B 0) n P) (hB : P.g.s.blk = B) (ha : AwOk P) : Stl B n 0 P P :=
  ⟨h, hB, fun i hi => ⟨Nat.zero_le _, ha i hi⟩, Pw.refl (R := LsR) (fun _ => rfl) _, rfl, rfl⟩
theorem Stl.step {B : Int} {n m : Nat} {P0 P : Pl} (h : Stl B n m P0 P) (pk : POk P.g.s) (hm : (m : Int) < P.g.s.mir) : Stl B n (m + 1) P0 (setlPl P 0 m) := by
  have h2 := h.pi.si.fair.m2
  cases ha : P.away.getD m false
  · have e : setlPl P 0 m = P := by unfold setlPl rpPl; rw [ha]; rfl
    rw [e]
    refine ⟨h.pi.up (by omega), h.bl, fun i hi => ?_, h.ls, h.pa, h.mi⟩
    have := h.aw i hi
    refine ⟨?_, this.2⟩
    rcases Nat.lt_or_ge m i with h1 | h1
    · exact h1
    · have : i = m := by omega
      subst this
      rw [ha] at hi; simp at hi
  · obtain ⟨-, hS⟩ := setl_rel h.bl h.pi pk (by omega) (by omega) m hm ha (er_get pk m (by omega))
    refine ⟨hS.pi, hS.bl, fun i hi => ?_, Pw.trans h.ls hS.pw (fun a b c x y => LsR.trans a b c x y.1.lost), hS.pa.trans h.pa, hS.wi.2.1.trans h.mi⟩
    rw [hS.aw] at hi
    obtain ⟨h1, h3⟩ := aw_off hi
    have := h.aw i h3
    rw [hS.wi.2.1]
    exact ⟨by omega, this.2⟩
theorem list3 (l : List Bool) (h : l.length = 3) (ha : ∀ i : Nat, l.getD i false = false) : l = allF := by
  rcases l with _ | ⟨a, _ | ⟨b, _ | ⟨c, _ | ⟨d, l⟩⟩⟩⟩ <;> simp at h
  have h0 := ha 0
  have h1 := ha 1
  have h2 := ha 2
  simp at h0 h1 h2
  subst h0 h1 h2; rfl
theorem Stl.done {B : Int} {n m : Nat} {P0 P : Pl} (h : Stl B n m P0 P) (pk : POk P.g.s) (hm : P.g.s.mir ≤ m) : Cl B 0 (n + m) P :=
  ⟨h.pi, pk, h.bl, list3 _ (by rw [h.pi.j.aw]; exact pk.nb) (fun i => by
    cases hi : P.away.getD i false
    · rfl
    · have := h.aw i hi; omega)⟩

/-! Rounds. -/
structure Rc (B : Int) (n j : Nat) (P0 P : Pl) : Prop where
  cl : Cl B 0 (n + 9 * j) P
  ls : Pw LsR P0.g.s.trs P.g.s.trs
  pa : P.paths = P0.paths
  mu : 1 ≤ j → Sh P.g.s.trs ∧ (muL P.g.s.trs = 0 ∨ muL P.g.s.trs + (j - 1) ≤ 488)
theorem Rc.step {B : Int} {n j : Nat} {P0 P : Pl} (h : Rc B n j P0 P) (pk : POk (roundPl P 0).g.s) : Rc B n (j + 1) P0 (roundPl P 0) := by
  have hR := round_rel h.cl (Int.le_refl 0) (by omega)
  have h8 := h.cl.pi.ok.n8
  have hTI : ∀ t ∈ (roundPl P 0).g.s.trs, muT t ≤ 61 := fun t ht => by
    obtain ⟨i, hi⟩ := List.getElem?_of_mem ht
    obtain ⟨T, h2⟩ : ∃ T, (roundPl P 0).taken[i]? = some T := ⟨_, List.getElem?_eq_getElem (by rw [hR.pi.si.n]; exact (List.getElem?_eq_some_iff.1 hi).1)⟩
    have := hR.pi.si.ts i t T hi h2
    rw [hR.bl] at this
    exact muT_le this
  refine ⟨⟨hR.pi.up (by omega), pk, hR.bl, hR.aw⟩, Pw.trans h.ls hR.ls LsR.trans, hR.pa.trans h.pa, fun _ => ⟨hR.sh, ?_⟩⟩
  rcases Nat.eq_zero_or_pos j with h0 | h0
  · right
    have h1 := muL_le _ hTI
    have h2 : (roundPl P 0).g.s.trs.length ≤ 8 := by rw [hR.pi.ok.n1]; exact hR.pi.ok.n8
    omega
  · obtain ⟨hsh, hmu⟩ := h.mu h0
    obtain ⟨m1, m2⟩ := hR.mu hsh
    by_cases hz : muL P.g.s.trs = 0
    · left; omega
    · have := m2 hz
      right; omega
theorem Rc.done {B : Int} {n : Nat} {P0 P : Pl} (h : Rc B n 1500 P0 P) {i : Nat} {t0 t : Tr} (h0 : P0.g.s.trs[i]? = some t0) (ht : P.g.s.trs[i]? = some t) : stT t = 3 ∨ stT t = 4 ∧ t0.lost = true := by
  have hmu : muL P.g.s.trs = 0 := by have := (h.mu (by omega)).2; omega
  have hm := muL_zero _ hmu t (List.mem_of_getElem? ht)
  have hls : t.lost = t0.lost := h.ls.a i t0 t h0 ht
  obtain ⟨T, hT⟩ : ∃ T, P.taken[i]? = some T := ⟨_, List.getElem?_eq_getElem (by rw [h.cl.pi.si.n]; exact (List.getElem?_eq_some_iff.1 ht).1)⟩
  have hTI := h.cl.pi.si.ts i t T ht hT
  unfold muT at hm
  cases hl : t.lost
  · left
    rw [hl] at hm
    cases hb : t.bound
    · rw [hb] at hm; simp at hm
    · rw [hb] at hm
      simp at hm
      have := hTI.ok.k1
      unfold stT; rw [hl, hb, if_neg (by simp), if_neg (by simp), if_pos (by omega)]
  · right
    refine ⟨by unfold stT; rw [hl, if_pos rfl], by rw [← hls]; exact hl⟩
end Go.Proofs.Ytjhihliciadipaa
