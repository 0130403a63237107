import Derived.Test.YtjhihliciadipaaKM4
set_option linter.unusedVariables false
set_option linter.unusedSimpArgs false
set_option linter.unnecessarySimpa false
namespace Go.Proofs.Ytjhihliciadipaa
open Go.RowKit

/-! What the text of a range is read as. -/
theorem read_gen (f u : List UInt8) (h6 : f.length ≤ 6) (hd : f.all digP = true) : readP (txt (bytesL ++ f ++ [45] ++ u)) = betwP f u := by
  have hdata : (txt (bytesL ++ f ++ [45] ++ u)).data.toList = bytesL ++ (f ++ (45 :: u)) := by simp [txt]
  have hsz : (txt (bytesL ++ f ++ [45] ++ u)).size = 6 + (f ++ (45 :: u)).length := by rw [txt_size]; simp [bytesL]; omega
  have hx : ((txt (bytesL ++ f ++ [45] ++ u)).extract 6 (txt (bytesL ++ f ++ [45] ++ u)).size).data.toList = f ++ (45 :: u) := by
    rw [ext_list _ _ _ (Nat.le_refl _), hdata, List.take_of_length_le (by rw [hsz]; simp [bytesL]; omega)]
    rfl
  have hdash : dashP ((txt (bytesL ++ f ++ [45] ++ u)).extract 6 (txt (bytesL ++ f ++ [45] ++ u)).size) = f.length := by
    unfold dashP
    rw [hx]
    have h7 : (f ++ (45 :: u)).take 7 = f ++ (45 :: u.take (6 - f.length)) := by
      rw [List.take_append, List.take_of_length_le (by omega), show 7 - f.length = (6 - f.length) + 1 by omega, List.take_succ_cons]
    rw [h7]
    have hfi : (f ++ (45 :: u.take (6 - f.length))).findIdx? (fun c => c.toNat == 45) = some f.length := by
      rw [List.findIdx?_append]
      have hn : f.findIdx? (fun c => c.toNat == 45) = none := by
        rw [List.findIdx?_eq_none_iff]
        intro c hc
        have := List.all_eq_true.1 hd c hc
        unfold digP at this
        simp at this
        simp
        omega
      rw [hn]
      simp [List.findIdx?_cons]
    rw [hfi]
  unfold readP
  rw [if_neg (by rw [hdata, hsz]; simp [bytesL])]
  simp only
  have e1 : (f ++ (45 :: u)).take f.length = f := by simp
  have e2 : (f ++ (45 :: u)).drop (f.length + 1) = u := by
    rw [List.drop_append, List.drop_of_length_le (by omega)]
    simp
  rw [hdash, if_neg (by omega), hx, Int.toNat_natCast, e1, e2]
theorem decs : ∀ x, x < 140 → okP (decL x) = true ∧ numP (decL x) = (x : Int) ∧ (decL x).length ≤ 6 ∧ (decL x).all digP = true ∧ (decL x).isEmpty = false := by decide +kernel
theorem read0 (x : Nat) (hx : x < 70) (y : Nat) (hy : y < 70) : readP (txt (bytesL ++ decL x ++ [45] ++ decL (x + y))) = (1, (x : Int), ((x + y : Nat) : Int)) := by
  obtain ⟨a1, a2, a3, a4, a5⟩ := decs x (by omega)
  obtain ⟨b1, b2, b3, b4, b5⟩ := decs (x + y) (by omega)
  rw [read_gen _ _ a3 a4]
  unfold betwP
  rw [if_pos ⟨a1, b1, by rw [a2, b2]; omega⟩, a2, b2]
theorem read1 (x : Nat) (hx : x < 70) : readP (txt (bytesL ++ decL x ++ [45])) = (2, (x : Int), 0) := by
  obtain ⟨a1, a2, a3, a4, a5⟩ := decs x (by omega)
  have := read_gen (decL x) [] a3 a4
  rw [List.append_nil] at this
  rw [this]
  unfold betwP
  rw [if_neg (by rintro ⟨-, h, -⟩; simp [okP] at h), if_pos ⟨a1, rfl⟩, a2]
theorem read2 (y : Nat) (hy : y < 70) : readP (txt (bytesL ++ [45] ++ decL y)) = (3, 0, (y : Int)) := by
  obtain ⟨a1, a2, a3, a4, a5⟩ := decs y (by omega)
  have := read_gen [] (decL y) (by simp) (by simp)
  rw [List.append_nil] at this
  rw [this]
  unfold betwP
  rw [if_neg (by rintro ⟨h, -⟩; simp [okP] at h), if_neg (by rintro ⟨h, -⟩; simp [okP] at h), if_pos ⟨rfl, a1⟩, a2]
theorem read3 (x : Nat) (hx : x < 70) (y : Nat) (hy : y < 70) : readP (txt (bytesL ++ decL (x + y + 1) ++ [45] ++ decL x)) = (0, 0, 0) := by
  obtain ⟨a1, a2, a3, a4, a5⟩ := decs x (by omega)
  obtain ⟨b1, b2, b3, b4, b5⟩ := decs (x + y + 1) (by omega)
  rw [read_gen _ _ b3 b4]
  unfold betwP
  rw [if_neg (by rintro ⟨-, -, h⟩; rw [a2, b2] at h; omega), if_neg (by rintro ⟨-, h⟩; rw [h] at a5; simp at a5), if_neg (by rintro ⟨h, -⟩; rw [h] at b5; simp at b5)]
theorem read4 : readP (txt []) = (0, 0, 0) := by decide +kernel
def expK (kind a b n : Int) : Int × Int × Int :=
  let x := pickK a 70
  let y := pickK b 70
  if pickK kind 6 = 0 then (if atM (x + y + 1) n ≤ x then (416, 0, 0) else (206, x, atM (x + y + 1) n - x))
  else if pickK kind 6 = 1 then (if n ≤ x then (416, 0, 0) else (206, x, n - x))
  else if pickK kind 6 = 2 then (if n ≤ (if n - y < 0 then 0 else n - y) then (416, 0, 0) else (206, (if n - y < 0 then 0 else n - y), n - (if n - y < 0 then 0 else n - y)))
  else (200, 0, n)
theorem head_exp (kind a b v n : Int) (hn : 0 ≤ n) : headR (readP (txt (rangeL kind a b))).1 (readP (txt (rangeL kind a b))).2.1 (readP (txt (rangeL kind a b))).2.2 v n = ⟨(expK kind a b n).1, v, n, (expK kind a b n).2.1, (expK kind a b n).2.2⟩ := by
  have hx := pickK_bd a 70 (by omega)
  have hy := pickK_bd b 70 (by omega)
  have hz := pickK_bd kind 6 (by omega)
  unfold rangeL expK
  simp only
  generalize hX : pickK a 70 = X at *
  generalize hY : pickK b 70 = Y at *
  generalize pickK kind 6 = c at *
  obtain ⟨x, rfl⟩ := Int.eq_ofNat_of_zero_le hx.1
  obtain ⟨y, rfl⟩ := Int.eq_ofNat_of_zero_le hy.1
  simp only [Int.toNat_natCast]
  have hx' : x < 70 := by omega
  have hy' : y < 70 := by omega
  by_cases c0 : c = 0
  · rw [if_pos c0, if_pos c0, read0 x hx' y hy']
    unfold headR partH
    simp only [if_true]
    have e1 : (((x + y : Nat) : Int) + 1) = (x : Int) + y + 1 := by push_cast; rfl
    rw [e1]
    split <;> rfl
  · rw [if_neg c0, if_neg c0]
    by_cases c1 : c = 1
    · rw [if_pos c1, if_pos c1, read1 x hx']
      unfold headR partH atM
      simp only [show ¬ ((2 : Int) = 1) by omega, if_false, if_true, Int.lt_irrefl]
      split <;> rfl
    · rw [if_neg c1, if_neg c1]
      by_cases c2 : c = 2
      · rw [if_pos c2, if_pos c2, read2 y hy']
        unfold headR partH atM
        simp only [show ¬ ((3 : Int) = 1) by omega, show ¬ ((3 : Int) = 2) by omega, if_false, if_true, Int.lt_irrefl]
        by_cases hyn : n < (y : Int)
        · rw [if_pos hyn, if_pos (show n - (y : Int) < 0 by omega), show n - n = 0 by omega]
          split <;> rfl
        · rw [if_neg hyn, if_neg (show ¬ n - (y : Int) < 0 by omega)]
          split <;> rfl
      · rw [if_neg c2, if_neg c2]
        by_cases c3 : c = 3
        · rw [if_pos c3, read3 x hx' y hy']; rfl
        · rw [if_neg c3, read4]; rfl

/-! One transfer of one version: by rounds. -/
structure RI (B v p : Int) (r : Int × Int × Int) (n j : Nat) (P : Pl) : Prop where
  cl : Cl B v (n + 2 * j) P
  tr : ∃ t, P.g.s.trs = [t] ∧ t.path = p ∧ (t.kind, t.fst, t.lst) = r ∧ t.lost = false ∧ Sh [t] ∧ (muT t = 0 ∨ muT t + j ≤ 61) ∧
    (openT t = true ∧ P.sent.length = 0 ∨ t.bound = true ∧ ((P.sent.length : Int) ≤ 1 + (t.hd.frm + t.taken) / B ∨ t.taken = t.hd.len ∧ ((P.sent.length : Int) - 2) * B < t.hd.tot))
theorem RI.step {B v p : Int} {r : Int × Int × Int} {n j : Nat} {P : Pl} (h : RI B v p r n j P) (hv : 0 ≤ v) (hv2 : v ≤ 99) (pk : POk (roundPl P v).g.s) : RI B v p r n (j + 1) (roundPl P v) := by
  obtain ⟨t, ht, hp, hr, hl, hsh, hmu, hct⟩ := h.tr
  have hC := h.cl
  have hn1 : P.paths.length = 1 := by rw [← hC.pi.ok.n1, ht]; rfl
  have hM := mid_rel hC hv hv2
  have hR := round_rel hC hv hv2
  have hT : Tkn B v (n + 2 * j + 1) P.paths.length (midPl P v) (roundPl P v) := takes_rel hM.bl hM.pi P.paths.length (by rw [hM.pa]; exact Nat.le_refl _)
  have hB1 := hC.pi.si.fair.B1
  rw [hC.bl] at hB1
  have h0 : P.g.s.trs[0]? = some t := by rw [ht]; rfl
  obtain ⟨t2, h2, r2⟩ := hM.pw.get h0
  have hlen2 : (midPl P v).g.s.trs.length = 1 := by rw [hM.pw.n, ht]; rfl
  have hlen3 : (roundPl P v).g.s.trs.length = 1 := by
    have := hT.nn
    rw [hlen2] at this; exact this
  obtain ⟨t3, h3⟩ : ∃ t3, (roundPl P v).g.s.trs[0]? = some t3 := ⟨_, List.getElem?_eq_getElem (by rw [hlen3]; omega)⟩
  have h3l : (roundPl P v).g.s.trs = [t3] := by
    cases hx : (roundPl P v).g.s.trs with
    | nil => rw [hx] at hlen3; simp at hlen3
    | cons a l =>
      rw [hx] at hlen3 h3
      simp at hlen3 h3
      subst hlen3 h3; rfl
  have d := hT.dn 0 t2 t3 h2 h3
  rw [if_pos (by omega), hM.wi.1] at d
  obtain ⟨T, hTT⟩ : ∃ T, (roundPl P v).taken[0]? = some T := ⟨_, List.getElem?_eq_getElem (by rw [hR.pi.si.n, hlen3]; omega)⟩
  have hTI := hR.pi.si.ts 0 t3 T h3 hTT
  rw [hR.bl] at hTI
  have hl2 : t2.lost = false := by rw [r2.lost]; exact hl
  have hl3 : t3.lost = false := by rw [d.ls]; exact hl2
  have hpath2 : t2.path = t.path ∧ t2.kind = t.kind ∧ t2.fst = t.fst ∧ t2.lst = t.lst := by
    rcases r2 with ⟨-, -, -, -, -, a, b, c, d⟩ | hm
    · exact ⟨a, b, c, d⟩
    · obtain ⟨x, y, e⟩ := hm.e; rw [e]; exact ⟨rfl, rfl, rfl, rfl⟩
  have hsn : (roundPl P v).sent = (midPl P v).sent := hT.sn
  have hshP : Sh P.g.s.trs := by rw [ht]; exact hsh
  have hmr := hR.mu hshP
  have hm1 : muL P.g.s.trs = muT t := by rw [ht]; simp [muL]
  have hm3 : muL (roundPl P v).g.s.trs = muT t3 := by rw [h3l]; simp [muL]
  rw [hm1, hm3] at hmr
  refine ⟨⟨?_, pk, hR.bl, hR.aw⟩, t3, h3l, ?_, ?_, hl3, ?_, ?_, ?_⟩
  · have := hR.pi
    rw [hn1] at this
    exact this.up (by omega)
  · rw [d.pa.1, hpath2.1]; exact hp
  · rw [d.pa.2.1, d.pa.2.2.1, d.pa.2.2.2, hpath2.2.1, hpath2.2.2.1, hpath2.2.2.2]; exact hr
  · have := hR.sh
    rw [h3l] at this; exact this
  · by_cases h0 : muT t = 0
    · left; omega
    · have := hmr.2 h0
      rcases hmu with hmu | hmu
      · exact absurd hmu h0
      · right; omega
  · rw [hsn]
    have hok := hTI.ok
    by_cases hop : openT t = true
    · have hmu0 : muL P.g.s.trs ≠ 0 := by
        rw [hm1]
        unfold openT at hop
        simp at hop
        unfold muT; rw [hop.1, hop.2]; simp
      obtain ⟨i, a, a', ha, ha', hc, -⟩ := hM.go (Or.inl hmu0)
      rw [ht] at ha
      have hi : i = 0 := by
        rcases i with _ | i
        · rfl
        · simp at ha
      subst hi
      simp at ha
      subst ha
      rw [h2] at ha'; simp at ha'; subst ha'
      have hs0 : P.sent.length = 0 := by
        rcases hct with ⟨-, h⟩ | ⟨hb, -⟩
        · exact h
        · unfold openT at hop; rw [hb] at hop; simp at hop
      rcases hc with ⟨-, -, hb, hs⟩ | ⟨hr, -, -⟩
      · right
        refine ⟨by rw [d.bd]; exact hb, Or.inl ?_⟩
        have : 0 ≤ (t3.hd.frm + t3.taken) / B := Int.ediv_nonneg (by have := hok.r0; have := hok.k0; omega) (by omega)
        rw [hs, hs0]; push_cast; omega
      · unfold openT at hop; rw [hr.b] at hop; simp at hop
    · have hb : t.bound = true := by
        cases hb : t.bound
        · exact absurd (open_of hl hb) hop
        · rfl
      have hct2 := (hct.resolve_left (fun h => hop h.1)).2
      have hhm : Hm t t2 := by
        rcases r2 with ⟨-, -, -, c, -⟩ | hm
        · rcases c with c | c
          · exact absurd c hop
          · have := hsh t (by simp) hb hl
            rw [c] at this; simp at this
        · exact hm
      obtain ⟨x, y, e⟩ := hhm.e
      have hhd : t3.hd = t.hd := by rw [d.hd, e]
      have hle : t.taken ≤ t3.taken := by have := d.le; rw [e] at this; exact this
      have hb3 : t3.bound = true := by rw [d.bd, e]; exact hb
      have hk1 : t3.taken ≤ t.hd.len := by rw [← hhd]; exact hok.k1
      right
      refine ⟨hb3, ?_⟩
      rw [hhd]
      have hmono : (t.hd.frm + t.taken) / B ≤ (t.hd.frm + t3.taken) / B := Int.ediv_le_ediv (by omega) (by omega)
      by_cases hs : (midPl P v).sent.length = P.sent.length
      · rw [hs]
        rcases hct2 with h1 | ⟨h1, h2⟩
        · left; omega
        · right; exact ⟨by omega, h2⟩
      · obtain ⟨i, a, a', ha, ha', hc, -⟩ := hM.go (Or.inr hs)
        have hs1 : (midPl P v).sent.length = P.sent.length + 1 := hM.sn.resolve_left hs
        rw [ht] at ha
        have hi : i = 0 := by
          rcases i with _ | i
          · rfl
          · simp at ha
        subst hi
        simp at ha
        subst ha
        rw [h2] at ha'; simp at ha'; subst ha'
        rcases hc with ⟨h, -⟩ | ⟨hr, -, he⟩
        · exact absurd h hop
        · have hr2 : Run t2 := by rw [e]; exact ⟨hr.l, hr.b, hr.k⟩
          have hmo := d.mo hr2 he
          have hw : (winT B P.g.s.win t2).1 = (t.hd.frm + t.taken) / B := by rw [hhm.win, hr.win]
          rw [hw] at hmo
          have e1 : t2.hd = t.hd := by rw [e]
          rw [e1] at hmo
          have hk := hr.k
          have hc1 : (P.sent.length : Int) ≤ 1 + (t.hd.frm + t.taken) / B := by
            rcases hct2 with h | ⟨h, -⟩
            · exact h
            · omega
          rw [hs1]
          push_cast
          rcases hmo with h | h
          · right
            refine ⟨by omega, ?_⟩
            have hbd : t.hd.frm + t.hd.len ≤ t.hd.tot := by
              have := hTI.head (KnV_ok B v) hl3 hb3
              rw [hhd] at this; exact this.2.2
            have hpos := hr.pos (W := P.g.s.win) (B := B) (by omega)
            rw [hr.win] at hpos
            simp only at hpos
            have hm : ((P.sent.length : Int) + 1 - 2) * B ≤ (t.hd.frm + t.taken) / B * B := Int.mul_le_mul_of_nonneg_right (by omega) (by omega)
            omega
          · left
            have : (t.hd.frm + t.taken) / B + 1 ≤ (t.hd.frm + t3.taken) / B := (Int.le_ediv_iff_mul_le (by omega)).2 h
            omega
end Go.Proofs.Ytjhihliciadipaa
