import Derived.Test.YtjhihliciadipaaKE
set_option linter.unusedVariables false
set_option linter.unusedSimpArgs false
set_option linter.unnecessarySimpa false
namespace Go.Proofs.Ytjhihliciadipaa
open Go.RowKit

theorem Cl.at {B v : Int} {n : Nat} {P : Pl} (h : Cl B v n P) (q : Nat) (u : Vs) : Cl B v n (P.at q u) := ⟨h.pi.at q u, h.pk, h.bl, h.aw⟩
theorem RI.at {B v p : Int} {r : Int × Int × Int} {n j : Nat} {P : Pl} (h : RI B v p r n j P) (q : Nat) (u : Vs) : RI B v p r n j (P.at q u) := ⟨h.cl.at q u, h.tr⟩
theorem ri_start {B v : Int} {q : Nat} {l : List Int} (hB : (setK l).b = B) (p : Nat) (hp : p < 4) (b : ByteArray) (pk : POk (newPl q (setK l)).g.s) (pk2 : POk (askPl (newPl q (setK l)) p b).g.s) : RI B v p (readP b) 0 0 (askPl (newPl q (setK l)) p b) := by
  have hK : KnOk (KnV B v) (newPl q (setK l)).g.s.blk := by show KnOk _ (setK l).b; rw [hB]; exact KnV_ok B v
  have hbl : (newPl q (setK l)).g.s.blk = B := hB
  have hPI := askPl_PI (new_PI (KnV B v) q l) pk hK p hp b
  have hform : (askPl (newPl q (setK l)) p b).g.s = askSt (newPl q (setK l)).g.s p b := by unfold askPl; rw [if_pos (by show ([] : List Int).length < 8; simp)]
  have hlat : (newPl q (setK l)).g.s.lat.getD p (0, 0) = (0, 0) := by
    show ([(0, 0), (0, 0), (0, 0), (0, 0)] : List (Int × Int)).getD p (0, 0) = (0, 0)
    rcases p with _ | _ | _ | _ | p <;> first | rfl | omega
  refine ⟨⟨hPI, pk2, by rw [ask_blk]; exact hbl, ?_⟩, ?_⟩
  · unfold askPl; rw [if_pos (by show ([] : List Int).length < 8; simp)]; rfl
  · have hlk := look_hm { (newPl q (setK l)).g.s with trs := (newPl q (setK l)).g.s.trs ++ [askT p (readP b) ((newPl q (setK l)).g.s.lat.getD p (0, 0))] }
    rw [hform]
    have e0 : askT p (readP b) (0, 0) = rawT p (readP b) := by rw [askT_eq, if_pos rfl]
    unfold askSt
    rw [hlat, e0] at hlk ⊢
    generalize plookS { (newPl q (setK l)).g.s with trs := (newPl q (setK l)).g.s.trs ++ [rawT p (readP b)] } = s' at *
    have hl1 : s'.trs.length = 1 := hlk.n
    obtain ⟨t', h1, h2⟩ := hlk.get (i := 0) (t := rawT p (readP b)) rfl
    obtain ⟨x, y, e⟩ := h2.1.e
    refine ⟨t', ?_, by rw [e]; rfl, by rw [e]; rfl, by rw [e]; rfl, ?_, Or.inr ?_, Or.inl ⟨by rw [e]; rfl, ?_⟩⟩
    · cases hx : s'.trs with
      | nil => rw [hx] at hl1; simp at hl1
      | cons a l =>
        rw [hx] at hl1 h1
        simp at hl1 h1
        subst hl1 h1; rfl
    · intro t ht hb
      simp at ht; subst ht
      rw [e] at hb
      exact absurd hb (by simp [rawT])
    · rw [e]; simp [muT, rawT]
    · unfold askPl; rw [if_pos (by show ([] : List Int).length < 8; simp)]; rfl
theorem mirK_zero {K : Kn} {n : Nat} {P : Pl} (h : PI K n P) : mirK P 0 = 0 := by
  have := (mirK_bd h 0).2.2.2.1
  unfold mirK pickK
  simp
/-- What is left of an errand that was answered with v. -/
theorem tg_job {B v : Int} {n : Nat} {P : Pl} (hC : Cl B v n P) (h1 : 1 ≤ v) {e : Er} (hE : nextE P.g.s = some e) : tgV v (feF (fetchE P.g.s.blk e)).tag = v := by
  obtain ⟨i, t, ht, he, -⟩ := nextE_some hE
  obtain ⟨T, hT⟩ : ∃ T, P.taken[i]? = some T := ⟨_, List.getElem?_eq_getElem (by rw [hC.pi.si.n]; exact (List.getElem?_eq_some_iff.1 ht).1)⟩
  have hw := (wanted_ok hC.pi.si.fair (by rw [hC.bl]; exact KnV_ok B v) (hC.pi.si.ts i t T ht hT) he).2.2.2
  show tgV v e.tag = v
  unfold tgV
  rcases hw with h | ⟨h, -⟩
  · rw [if_pos h.1, if_neg (by omega)]
  · have := h.1.1.1
    rw [if_neg (by omega)]
    rcases h.2 with h | h
    · omega
    · exact h
theorem round_one {P : Pl} (v : Int) (h : P.paths.length = 1) : roundPl P v = takePl (midPl P v) 0 99 := by
  unfold roundPl; rw [h]; rfl
theorem mid_idle {P : Pl} (v : Int) (ha : P.away = allF) (hE : nextE P.g.s = none) : nextPl P 0 = (P, false) ∧ midPl P v = P := by
  have e1 : nextPl P 0 = (P, false) := by unfold nextPl; rw [ha, hE]; rfl
  exact ⟨e1, by unfold midPl; rw [e1]; rfl⟩
theorem mid_sent {B v : Int} {n : Nat} {P : Pl} (hC : Cl B v n P) (h1 : 1 ≤ v) {e : Er} (hE : nextE P.g.s = some e) :
    nextPl P 0 = (sentPl P 0 e, true) ∧ (sentPl P 0 e).jobs[0]? = some (feF (fetchE P.g.s.blk e)) ∧ midPl P v = rpPl (sentPl P 0 e) 0 (honK P.st.b (feF (fetchE P.g.s.blk e)) v) := by
  have e1 : nextPl P 0 = (sentPl P 0 e, true) := by unfold nextPl; rw [hC.aw, hE]; rfl
  have e2 : (sentPl P 0 e).jobs[0]? = some (feF (fetchE P.g.s.blk e)) := by
    show (P.jobs.set 0 _)[0]? = _
    rw [List.getElem?_set, if_pos rfl, if_pos (by rw [hC.pi.nj]; omega)]
  refine ⟨e1, e2, ?_⟩
  unfold midPl
  rw [e1]
  simp only [if_true]
  unfold setlPl
  rw [List.getD_eq_getElem?_getD, e2]
  show rpPl (sentPl P 0 e) 0 (honK P.st.b (feF (fetchE P.g.s.blk e)) (tgV v (feF (fetchE P.g.s.blk e)).tag)) = _
  rw [tg_job hC h1 hE]
theorem ytake_PI (y : Nat) (col : Nat → Nat) (k : Nat) (K : Kn) (n : Nat) (P : Pl) (V : Pv) (ix c : Int) (w : World) (h : PlAt w y col k P V) (hI : PI K n P) (hn : n ≤ 9000000000000) (hid : I64 ix) (hc : I64 c) :
    Calls Try.prog 16 #[.pointer (some ⟨y, 0, none⟩), .int .i64 ix, .int .i64 c] w fun e w' => e = .returned (.tuple #[]) ∧ PlTo w w' y col k (takePl P ix c) :=
  ytake_any y col k P V ix c w h hI.ok hid hc hI.taken_le (by have := hI.an; omega)
/-- A round is over. -/
theorem round_fin {B v p : Int} {r : Int × Int × Int} {n j : Nat} {P X : Pl} {w1 w2 w3 : World} {y : Nat} {col0 col2 : Nat → Nat} {k : Nat} (h : RI B v p r n j P) (hv : 0 ≤ v) (hv2 : v ≤ 99) (hX : X = roundPl P v) (q : Nat) (u : Vs) (hq : X.q = q) (hS : StK w1 w2 col0 col2 k) (hT : PlTo w2 w3 y col2 k (X.at q u)) :
    RI B v p r n (j + 1) X ∧ PlTo w1 w3 y col0 k X := by
  obtain ⟨col3, V3, v3, hL3, hS3⟩ := hT
  have pk : POk X.g.s := (hL3.pg id).1.ok
  have e : (X.at q u).lay v3 = X.lay v3 := by subst hq; rfl
  rw [e] at hL3
  refine ⟨?_, col3, V3, v3, hL3, hS.trans hS3⟩
  rw [hX] at pk ⊢
  exact h.step hv hv2 pk
theorem take_q (P : Pl) (ix c : Int) : (takePl P ix c).q = P.q := by
  unfold takePl
  split
  · rfl
  · split
    · split <;> rfl
    · rfl
theorem rp_q (P : Pl) (m : Nat) (r : Rp) : (rpPl P m r).q = P.q := by unfold rpPl; split <;> rfl
/-- At the end: all is taken. -/
structure RE (B v p : Int) (r : Int × Int × Int) (P : Pl) (t : Tr) (T : ByteArray) : Prop where
  tr : P.g.s.trs = [t]
  st : stT t = 3
  hd : t.hd = headR r.1 r.2.1 r.2.2 v (totK p v)
  tk : P.taken = [T]
  T : T = objK p v t.hd.frm.toNat t.hd.len.toNat
  n0 : 0 ≤ t.hd.frm ∧ t.hd.frm ≤ 1000 ∧ 0 ≤ t.hd.len ∧ t.hd.len ≤ 1000
  sn : (P.sent.length : Int) ≤ 1 + (totK p v + B - 1) / B
theorem RI.done {B v p : Int} {r : Int × Int × Int} {n : Nat} {P : Pl} (h : RI B v p r n 70 P) (hv : 1 ≤ v) : ∃ t T, RE B v p r P t T := by
  obtain ⟨t, ht, hp, hr, hl, hsh, hmu, hct⟩ := h.tr
  have hmu : muT t = 0 := by omega
  have hb : t.bound = true := by
    cases hb : t.bound
    · unfold muT at hmu; rw [hl, hb] at hmu; simp at hmu
    · rfl
  have hC := h.cl
  have hB1 := hC.pi.si.fair.B1
  rw [hC.bl] at hB1
  have hn1 : P.taken.length = 1 := by rw [hC.pi.si.n, ht]; rfl
  obtain ⟨T, hT⟩ : ∃ T, P.taken = [T] := by
    cases hx : P.taken with
    | nil => rw [hx] at hn1; simp at hn1
    | cons a l => rw [hx] at hn1; simp at hn1; subst hn1; exact ⟨a, rfl⟩
  have hTI := hC.pi.si.ts 0 t T (by rw [ht]; rfl) (by rw [hT]; rfl)
  rw [hC.bl] at hTI
  have hk : t.taken = t.hd.len := by
    have := hTI.ok.k1
    unfold muT at hmu; rw [hl, hb] at hmu
    simp at hmu
    omega
  have hst : stT t = 3 := by unfold stT; rw [hl, hb, if_neg (by simp), if_neg (by simp), if_pos hk]
  have ho : openT t = false := open_st (by omega)
  obtain ⟨hV, hhd⟩ := hTI.bd hl hb
  have htag : t.hd.tag = v := by rcases hV.2 with h | h; omega; exact h
  have htot : t.hd.tot = totK p v := by have := hV.1.2; rw [htag, hp] at this; exact this
  have hkk : t.kind = r.1 ∧ t.fst = r.2.1 ∧ t.lst = r.2.2 := by rw [← hr]; exact ⟨rfl, rfl, rfl⟩
  have hH : TI (KnH B) B P.g.s.win t T := by
    have := hC.pi.toH.si.ts 0 t T (by rw [ht]; rfl) (by rw [hT]; rfl)
    rw [hC.bl] at this; exact this
  have hrd := (honest_round hB1 hH ho).dn hst
  have hbd := hTI.head (KnV_ok B v) hl hb
  have htb := totK_bd p v
  have o1 := hTI.ok.r0
  have o2 := hTI.ok.n0
  refine ⟨t, T, ht, hst, ?_, hT, ?_, by omega, ?_⟩
  · rw [hhd, htag, htot, hkk.1, hkk.2.1, hkk.2.2]
  · rw [hrd, hp, htag]
  · have hc := (hct.resolve_left (fun h => by rw [ho] at h; simp at h)).2
    rw [htot] at hc hbd
    rcases hc with h1 | ⟨-, h2⟩
    · have : (t.hd.frm + t.taken) / B ≤ (totK p v + B - 1) / B := Int.ediv_le_ediv (by omega) (by omega)
      omega
    · have h3 : (P.sent.length : Int) - 1 ≤ (totK p v + B - 1) / B := by
        refine (Int.le_ediv_iff_mul_le (by omega)).2 ?_
        have : ((P.sent.length : Int) - 1) * B = ((P.sent.length : Int) - 2) * B + B := by rw [Int.sub_mul, Int.sub_mul]; omega
        omega
      omega
end Go.Proofs.Ytjhihliciadipaa
