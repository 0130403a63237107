import Derived.Test.YtjhihliciadipaaK21
set_option linter.unusedVariables false
set_option linter.unusedSimpArgs false
set_option linter.unnecessarySimpa false
namespace Go.Proofs.Ytjhihliciadipaa
open Go.RowKit

theorem stepPl_PI' {K : Kn} {n : Nat} {P : Pl} (h : PI K n P) (pk : POk P.g.s) (hK : KnOk K P.g.s.blk) (l : List Int) (r : Rp)
    (hD : P.away.getD (mirK P (numK l 1)) false = true → ∀ e, P.g.s.ers[mirK P (numK l 1)]? = some e → ∀ r', stepPl P l r = rpPl P (mirK P (numK l 1)) r' → sensible P.g.s.blk e r'.tag r'.tot r'.off r'.body.size = true → K.V e.path r'.tag r'.tot ∧ (r'.body.toList.isEmpty = false → K.D ⟨e.path, r'.tag, r'.tot, e.blk⟩ r'.body)) : PI K (n + 1) (stepPl P l r) := by
  obtain ⟨hm, hm3, hmm, m1, m2⟩ := mirK_bd h (numK l 1)
  have hD' := hD
  unfold stepPl at hD' ⊢
  split
  · have := pickK_bd (numK l 1) 4 (by omega)
    exact (askPl_PI h pk hK _ (by omega) _).up (Nat.le_succ n)
  · rename_i h1
    rw [if_neg h1] at hD'
    split
    · exact (nextPl_PI h pk hK _ hm3).up (Nat.le_succ n)
    · rename_i h2
      rw [if_neg h2] at hD'
      split
      · rename_i h3
        rw [if_pos h3] at hD'
        exact rpPl_PI h pk hK _ hmm r (fun a e b => hD' a e b r rfl)
      · rename_i h3
        rw [if_neg h3] at hD'
        split
        · rename_i h4
          rw [if_pos h4] at hD'
          split
          · exact flPl_PI h pk hK _ hmm
          · rename_i h5
            rw [if_neg h5] at hD'
            exact rpPl_PI h pk hK _ hmm _ (fun a e b => hD' a e b _ rfl)
        · exact takePl_PI h hK _ _

/-- A reply told a byte of a version of a path. -/
def ToldB (sent : List Rp) (dst : List Int) (p tag tot pos : Int) (c : Option UInt8) : Prop :=
  ∃ (k : Nat) (r : Rp) (j : Nat), sent[k]? = some r ∧ dst[k]? = some p ∧ r.tag = tag ∧ r.tot = tot ∧ pos - r.off = j ∧ j < r.body.size ∧ r.body.data.toList[j]? = c ∧ j ≤ 1000
def KnS (sent : List Rp) (dst : List Int) (B : Int) : Kn :=
  ⟨fun e b => (KnW B).D e b ∧ ∀ i : Nat, i < b.size → ToldB sent dst e.path e.tag e.tot (e.blk * B + i) b.data.toList[i]?, (KnW B).V⟩
theorem KnS_ok (sent : List Rp) (dst : List Int) (B : Int) : KnOk (KnS sent dst B) B := ⟨fun _ _ h => h.1.1, fun _ _ _ h => h⟩
theorem PI.weakS {n : Nat} {P : Pl} {sent : List Rp} {dst : List Int} {B : Int} (h : PI (KnS sent dst B) n P) : PI (KnW B) n P := h.mono (Nat.le_refl _) (fun _ _ x => x.1) (fun _ _ _ x => x)
theorem ToldB.more {sent s2 : List Rp} {dst d2 : List Int} {p tag tot pos : Int} {c : Option UInt8} (h : ToldB sent dst p tag tot pos c) : ToldB (sent ++ s2) (dst ++ d2) p tag tot pos c := by
  obtain ⟨k, r, j, h1, h2, h3⟩ := h
  refine ⟨k, r, j, ?_, ?_, h3⟩
  · rw [List.getElem?_append_left (List.getElem?_eq_some_iff.1 h1).1]; exact h1
  · rw [List.getElem?_append_left (List.getElem?_eq_some_iff.1 h2).1]; exact h2
theorem KnS_more {sent s2 : List Rp} {dst d2 : List Int} {B : Int} : (∀ e b, (KnS sent dst B).D e b → (KnS (sent ++ s2) (dst ++ d2) B).D e b) ∧ ∀ p tag tot, (KnS sent dst B).V p tag tot → (KnS (sent ++ s2) (dst ++ d2) B).V p tag tot :=
  ⟨fun e b h => ⟨h.1, fun i hi => (h.2 i hi).more⟩, fun _ _ _ h => h⟩
theorem rp_sent (P : Pl) (m : Nat) (r : Rp) : ∃ s2 d2, (rpPl P m r).sent = P.sent ++ s2 ∧ (rpPl P m r).dst = P.dst ++ d2 := by
  unfold rpPl
  split
  · exact ⟨_, _, rfl, rfl⟩
  · exact ⟨[], [], by simp, by simp⟩
theorem step_sent (P : Pl) (l : List Int) (r : Rp) : ∃ s2 d2, (stepPl P l r).sent = P.sent ++ s2 ∧ (stepPl P l r).dst = P.dst ++ d2 := by
  unfold stepPl
  split
  · unfold askPl; split <;> exact ⟨[], [], by simp, by simp⟩
  · split
    · unfold nextPl
      split
      · exact ⟨[], [], by simp, by simp⟩
      · cases nextE P.g.s <;> exact ⟨[], [], by simp [sentPl], by simp [sentPl]⟩
    · split
      · exact rp_sent _ _ _
      · split
        · split
          · unfold flPl; split <;> exact ⟨[], [], by simp [failPl], by simp [failPl]⟩
          · exact rp_sent _ _ _
        · unfold takePl
          split
          · exact ⟨[], [], by simp, by simp⟩
          · split
            · split <;> exact ⟨[], [], by simp [tookPl], by simp [tookPl]⟩
            · exact ⟨[], [], by simp, by simp⟩
theorem stepS {n : Nat} {P : Pl} {B : Int} (hB : P.g.s.blk = B) (h : PI (KnS P.sent P.dst B) n P) (pk : POk P.g.s) (l : List Int) (r : Rp) :
    PI (KnS (stepPl P l r).sent (stepPl P l r).dst B) (n + 1) (stepPl P l r) ∧ (stepPl P l r).g.s.blk = B := by
  subst hB
  obtain ⟨s2, d2, e1, e2⟩ := step_sent P l r
  refine ⟨?_, step_blk _ _ _⟩
  have hm := h.mono (K' := KnS (stepPl P l r).sent (stepPl P l r).dst P.g.s.blk) (Nat.le_refl n) (by rw [e1, e2]; exact KnS_more.1) (fun _ _ _ x => x)
  refine stepPl_PI' hm pk (KnS_ok _ _ _) l r (fun ha e he r' hr' hs => ?_)
  have hblk := (pk.ers e (List.mem_of_getElem? he)).2.2.1
  have hwk := weak_D hs hblk
  refine ⟨hwk.1, fun hne => ⟨hwk.2 hne, fun i hi => ?_⟩⟩
  obtain ⟨hj, -⟩ := job_er h pk l ha he
  have hrp : rpPl P (mirK P (numK l 1)) r' = replyPl P (mirK P (numK l 1)) r' := by unfold rpPl; rw [ha]; rfl
  rw [hr', hrp]
  have hoff : r'.off = e.blk * P.g.s.blk := by unfold sensible at hs; simp at hs; exact hs.2.1
  have hpath : (P.jobs.getD (mirK P (numK l 1)) noFe).path = e.path := by
    show (jobK P l).path = _
    rw [hj]; rfl
  refine ⟨P.sent.length, r', i, ?_, ?_, rfl, rfl, by rw [hoff]; show e.blk * P.g.s.blk + i - e.blk * P.g.s.blk = i; omega, hi, rfl, ?_⟩
  · show (P.sent ++ [r'])[P.sent.length]? = _
    simp
  · show (P.dst ++ [_])[P.sent.length]? = _
    rw [h.sd, hpath]; simp
  · have h1 := (hwk.2 hne).1.1
    have h2 := (blkLen_le r'.tot e.blk P.g.s.blk (by have := h.si.fair.B1; omega)).2
    have h3 := h.si.fair.B2
    simp only at h1
    omega
end Go.Proofs.Ytjhihliciadipaa
