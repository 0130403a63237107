import Derived.Test.YtjhihliciadipaaK20
set_option linter.unusedVariables false
set_option linter.unusedSimpArgs false
set_option linter.unnecessarySimpa false
namespace Go.Proofs.Ytjhihliciadipaa
open Go.RowKit

/-- What is known where all mirrors are honest. -/
def KnH (B : Int) : Kn := ⟨fun e b => (KnW B).D e b ∧ b = objK e.path e.tag (e.blk * B).toNat B.toNat, fun p tag tot => (KnW B).V p tag tot ∧ tot = totK p tag⟩
theorem KnH_ok (B : Int) : KnOk (KnH B) B := ⟨fun _ _ h => h.1.1, fun _ _ _ h => h.1⟩
theorem PI.weakH {n : Nat} {P : Pl} {B : Int} (h : PI (KnH B) n P) : PI (KnW B) n P := h.mono (Nat.le_refl _) (fun _ _ x => x.1) (fun _ _ _ x => x.1)
theorem objK_size (path tag : Int) (a n : Nat) : (objK path tag a n).size = objN path tag a n := by
  show (objK _ _ _ _).data.size = _
  simp only [objK, List.size_toArray, objL_len]
theorem objK_get (path tag : Int) (a n i : Nat) (hi : i < objN path tag a n) : (objK path tag a n).data.toList[i]? = some (letK path tag (a + i)) := by
  simp [objK, objL, hi]
theorem job_er {K : Kn} {n : Nat} {P : Pl} (h : PI K n P) (pk : POk P.g.s) (l : List Int) (ha : P.away.getD (mirK P (numK l 1)) false = true) {e : Er} (he : P.g.s.ers[mirK P (numK l 1)]? = some e) :
    jobK P l = feF (fetchE P.g.s.blk e) ∧ P.g.s.busy[mirK P (numK l 1)]? = some true := by
  obtain ⟨-, hm3, -⟩ := mirK_bd h (numK l 1)
  have hb := (away_get h pk _ hm3).2
  rw [ha] at hb
  have := h.j.jb _ e hb he
  unfold jobK
  rw [List.getD_eq_getElem?_getD, this]
  exact ⟨rfl, hb⟩
theorem stepH {n : Nat} {P : Pl} {B : Int} (hB : P.g.s.blk = B) (h : PI (KnH B) n P) (pk : POk P.g.s) (l : List Int) (r : Rp) (hr : r = honR P l) : PI (KnH B) (n + 1) (stepPl P l r) ∧ (stepPl P l r).g.s.blk = B := by
  subst hB
  refine ⟨stepPl_PI h pk (KnH_ok _) l r (fun ha e he r' hr' hs => ?_), step_blk _ _ _⟩
  obtain ⟨hj, hb⟩ := job_er h pk l ha he
  have hblk := (pk.ers e (List.mem_of_getElem? he)).2.2.1
  have hB1 := h.si.fair.B1
  have hst := h.j.st.2.1
  have hm0 : 0 ≤ e.blk * P.g.s.blk := Int.mul_nonneg hblk (by omega)
  have hwk := weak_D hs hblk
  rcases hr' with rfl | rfl
  · subst hr
    have e1 : honR P l = honK P.g.s.blk (feF (fetchE P.g.s.blk e)) (if (jobK P l).tag = 0 ∨ pickK (numK l 2) 6 = 0 then 1 + pickK (numK l 3) 5 else (jobK P l).tag) := by
      unfold honR; rw [hst, hj]
    generalize (if (jobK P l).tag = 0 ∨ pickK (numK l 2) 6 = 0 then 1 + pickK (numK l 3) 5 else (jobK P l).tag) = tg at e1
    rw [e1] at hs hwk ⊢
    refine ⟨⟨hwk.1, rfl⟩, fun hne => ⟨hwk.2 hne, ?_⟩⟩
    show objK e.path tg (e.blk * P.g.s.blk).toNat P.g.s.blk.toNat = objK e.path tg (e.blk * P.g.s.blk).toNat P.g.s.blk.toNat
    rfl
  · exfalso
    unfold badR at hs
    rw [hj, hst] at hs
    unfold sensible at hs
    simp only [Bool.and_eq_true, beq_iff_eq] at hs
    obtain ⟨hf, -, hsz⟩ := hs
    have hf1 : 1 ≤ e.tag := by unfold fairV at hf; simp at hf; exact hf.1.1.1
    rcases h.ej _ e hb he with h0 | ⟨hv, hlt⟩
    · omega
    · have htot : e.tot = totK e.path e.tag := hv.2
      rw [app_size, objK_size] at hsz
      have hbang : bang.size = 1 := rfl
      have hsz2 : ((objN e.path e.tag 0 P.g.s.blk.toNat + 1 : Nat) : Int) = blkLen e.tot e.blk P.g.s.blk := hsz
      unfold objN at hsz2
      unfold blkLen atM at hsz2
      rw [← htot] at hsz2
      split at hsz2
      · omega
      · split at hsz2 <;> omega

structure FairH (h : Hd) : Prop where
  f : h = ⟨502, 0, 0, 0, 0⟩ ∨ 1 ≤ h.tag ∧ (h.st = 416 ∧ h.frm = 0 ∧ h.len = 0 ∨ h.st = 200 ∧ h.frm = 0 ∧ h.len = h.tot ∨ h.st = 206 ∧ 0 < h.len ∧ 0 ≤ h.frm ∧ h.frm + h.len ≤ h.tot)
theorem partH_fair (tag tot frm en : Int) (h1 : 1 ≤ tag) (h0 : 0 ≤ frm) : FairH (partH tag tot frm en) := by
  unfold partH atM
  split
  · split
    · exact ⟨Or.inr ⟨h1, Or.inl ⟨rfl, rfl, rfl⟩⟩⟩
    · refine ⟨Or.inr ⟨h1, Or.inr (Or.inr ⟨rfl, ?_, h0, ?_⟩)⟩⟩ <;> simp only <;> omega
  · split
    · exact ⟨Or.inr ⟨h1, Or.inl ⟨rfl, rfl, rfl⟩⟩⟩
    · refine ⟨Or.inr ⟨h1, Or.inr (Or.inr ⟨rfl, ?_, h0, ?_⟩)⟩⟩ <;> simp only <;> omega
theorem headR_fair (kind fst lst tag tot : Int) (h1 : 1 ≤ tag) (h0 : 0 ≤ fst) (hl : 0 ≤ lst) (ht : 0 ≤ tot) : FairH (headR kind fst lst tag tot) := by
  unfold headR
  split
  · exact partH_fair _ _ _ _ h1 h0
  · split
    · exact partH_fair _ _ _ _ h1 h0
    · split
      · exact partH_fair _ _ _ _ h1 (by unfold atM; split <;> omega)
      · exact ⟨Or.inr ⟨h1, Or.inr (Or.inl ⟨rfl, rfl, rfl⟩)⟩⟩
/-- A transfer that has a head: it is 502, or a fair head of a version. -/
theorem TI.has {K : Kn} {B W : Int} {t : Tr} {T : ByteArray} (h : TI K B W t T) (ho : openT t = false) : t.hd = ⟨502, 0, 0, 0, 0⟩ ∧ t.lost = true ∨ K.V t.path t.hd.tag t.hd.tot ∧ t.hd = headR t.kind t.fst t.lst t.hd.tag t.hd.tot := by
  cases hl : t.lost
  · have hb : t.bound = true := by
      unfold openT at ho; rw [hl] at ho
      cases hb : t.bound
      · rw [hb] at ho; simp at ho
      · rfl
    exact Or.inr (h.bd hl hb)
  · rcases (h.ls hl).2 with h1 | h1
    · exact Or.inl ⟨h1, rfl⟩
    · exact Or.inr h1
theorem TI.fair {K : Kn} {B W : Int} {t : Tr} {T : ByteArray} (h : TI K B W t T) (hK : KnOk K B) (ho : openT t = false) : FairH t.hd := by
  rcases h.has ho with h1 | ⟨hv, hh⟩
  · exact ⟨Or.inl h1.1⟩
  · rw [hh]
    obtain ⟨v1, -, v3, -⟩ := hK.v _ _ _ hv
    exact headR_fair _ _ _ _ _ v1 h.ok.f0 h.ok.l0 v3
structure HRound (t : Tr) (T : ByteArray) (whole : ByteArray) : Prop where
  le : T.size ≤ whole.size
  be : whole.extract 0 T.size = T
  tot : t.hd.st = 502 ∨ t.hd.tot = totK t.path t.hd.tag
  dn : stT t = 3 → T = whole
  tg : 0 ≤ t.hd.tag ∧ t.hd.tag ≤ 99
theorem honest_round {B W : Int} {t : Tr} {T : ByteArray} (hB : 1 ≤ B) (h : TI (KnH B) B W t T) (ho : openT t = false) : HRound t T (objK t.path t.hd.tag t.hd.frm.toNat t.hd.len.toNat) := by
  have ok := h.ok
  have hz := h.tz
  have hk1 := ok.k1
  have hr0 := ok.r0
  have hn0 := ok.n0
  rcases h.has ho with ⟨h1, h2⟩ | ⟨hv, hh⟩
  · have hT : T = ByteArray.empty := by
      have : T.size = 0 := by rw [h1] at hk1; simp at hk1; have := ok.k0; omega
      apply ba_ext
      have hl := ba_size T
      rw [this] at hl
      rw [List.length_eq_zero_iff.1 hl]; rfl
    subst hT
    refine ⟨Nat.zero_le _, extract_nil _ _, Or.inl (by rw [h1]), fun hd => ?_, by rw [h1]; simp⟩
    unfold stT at hd; rw [h2] at hd; simp at hd
  · have htot : t.hd.tot = totK t.path t.hd.tag := hv.2
    obtain ⟨⟨v1, v2, v3, v4⟩, -⟩ := hv
    have hbd := headR_bd t.kind t.fst t.lst t.hd.tag t.hd.tot v3 v4 ok.f0 ok.l0
    rw [← hh] at hbd
    have hN : objN t.path t.hd.tag t.hd.frm.toNat t.hd.len.toNat = t.hd.len.toNat := by unfold objN; rw [← htot]; omega
    have hsz : (objK t.path t.hd.tag t.hd.frm.toNat t.hd.len.toNat).size = t.hd.len.toNat := by rw [objK_size, hN]
    have hbytes : ∀ p : Nat, p < T.size → T.data.toList[p]? = some (letK t.path t.hd.tag (t.hd.frm.toNat + p)) := by
      intro p hp
      obtain ⟨b, hD, hb⟩ := h.tk p (by omega)
      rw [← hb]
      have hbe : b = objK t.path t.hd.tag ((t.hd.frm + p) / B * B).toNat B.toNat := hD.2
      have hd1 := Int.mul_ediv_add_emod (t.hd.frm + p) B
      rw [Int.mul_comm] at hd1
      have hm1 := Int.emod_nonneg (t.hd.frm + p) (show B ≠ 0 by omega)
      have hm2 := Int.emod_lt_of_pos (t.hd.frm + p) (show 0 < B by omega)
      have hq0 : 0 ≤ (t.hd.frm + p) / B * B := Int.mul_nonneg (Int.ediv_nonneg (by omega) (by omega)) (by omega)
      rw [hbe, objK_get]
      · congr 2; omega
      · unfold objN; rw [← htot]; omega
    have hle : T.size ≤ t.hd.len.toNat := by omega
    have hbe : (objK t.path t.hd.tag t.hd.frm.toNat t.hd.len.toNat).extract 0 T.size = T := by
      apply ba_ext
      rw [ext_list _ _ _ (by rw [hsz]; exact hle)]
      apply List.ext_getElem?
      intro p
      rw [List.drop_zero]
      by_cases hp : p < T.size
      · rw [List.getElem?_take_of_lt hp, objK_get _ _ _ _ _ (by rw [hN]; omega), hbytes p hp]
      · rw [List.getElem?_eq_none (by rw [List.length_take]; omega), List.getElem?_eq_none (by rw [ba_size]; omega)]
    refine ⟨by rw [hsz]; exact hle, hbe, Or.inr htot, fun hd => ?_, by omega, v2⟩
    have htk : t.taken = t.hd.len := by
      unfold stT at hd
      split at hd
      · omega
      · split at hd
        · omega
        · split at hd
          · assumption
          · omega
    have : T.size = (objK t.path t.hd.tag t.hd.frm.toNat t.hd.len.toNat).size := by rw [hsz]; omega
    rw [this] at hbe
    rw [← hbe]
    apply ba_ext
    rw [ext_list _ _ _ (Nat.le_refl _), List.drop_zero, List.take_of_length_le (by rw [ba_size]; omega)]
end Go.Proofs.Ytjhihliciadipaa
