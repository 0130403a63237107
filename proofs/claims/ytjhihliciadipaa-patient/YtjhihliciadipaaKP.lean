import Derived.Test.YtjhihliciadipaaKL
set_option linter.unusedVariables false
set_option linter.unusedSimpArgs false
set_option linter.unnecessarySimpa false
namespace Go.Proofs.Ytjhihliciadipaa
open Go.RowKit

/-! One transfer, whose errands fail. -/
theorem nextE_one {s : Px} {t : Tr} (hb : s.busy = allF) (ht : s.trs = [t]) : nextE s = (wantedL s.blk s.win t).head? := by
  unfold nextE
  rw [ht]
  simp only [List.findSome?_cons, List.findSome?_nil]
  rw [free_err hb]
  cases (wantedL s.blk s.win t).head? <;> rfl
theorem wants_of {B W : Int} {t : Tr} {e : Er} (h : e ∈ wantedL B W t) : wantsT B W t e = true := by
  obtain ⟨w1, w2, w3⟩ := wanted_in e h
  have w4 := wanted_held h
  have a0 : t.path = e.path := by rw [w1]; rfl
  have a1 : t.hd.tag = e.tag := by rw [w1]; rfl
  have a2 : t.hd.tot = e.tot := by rw [w1]; rfl
  unfold wantsT
  rw [w4, a0, a1, a2]
  simp [w2, w3]
def fstPl (P : Pl) (m : Nat) : Pl := if (nextPl P m).2 then flPl (nextPl P m).1 m else (nextPl P m).1
theorem allF_get (m : Nat) : allF.getD m false = false := by rcases m with _ | _ | _ | m <;> rfl
theorem allF_set (m : Nat) : (allF.set m true).set m false = allF := by rcases m with _ | _ | _ | m <;> rfl
theorem allF_on (m : Nat) (hm : m < 3) : (allF.set m true)[m]? = some true := by rcases m with _ | _ | _ | m <;> first | rfl | omega
theorem next_none {P : Pl} (m : Nat) (ha : P.away = allF) (hE : nextE P.g.s = none) : nextPl P m = (P, false) := by
  unfold nextPl; rw [ha, allF_get, hE]; rfl
theorem fst_none {P : Pl} (m : Nat) (ha : P.away = allF) (hE : nextE P.g.s = none) : fstPl P m = P := by
  unfold fstPl; rw [next_none m ha hE]; rfl
structure Fst (P Q : Pl) (t : Tr) : Prop where
  aw : Q.away = allF
  sn : Q.sent = P.sent
  pa : Q.paths = P.paths
  st : Q.st = P.st
  q : Q.q = P.q
  tr : Q.g.s.trs = [pfailT P.g.s.tri t]
  nw : NW Q.g.s
  wi : Q.g.s.win = P.g.s.win
theorem fst_some {P : Pl} {t : Tr} {e : Er} (pk : POk P.g.s) (ha : P.away = allF) (hb : P.g.s.busy = allF) (hnw : NW P.g.s) (ht : P.g.s.trs = [t]) (m : Nat) (hm : (m : Int) < P.g.s.mir) (hE : nextE P.g.s = some e) :
    nextPl P m = (sentPl P m e, true) ∧ fstPl P m = flPl (sentPl P m e) m ∧ e ∈ wantedL P.g.s.blk P.g.s.win t ∧ Fst P (fstPl P m) t := by
  have h3 := pk.fair.m2
  have hm3 : m < 3 := by omega
  have e1 : nextPl P m = (sentPl P m e, true) := by unfold nextPl; rw [ha, allF_get, hE]; rfl
  have e2 : fstPl P m = flPl (sentPl P m e) m := by unfold fstPl; rw [e1]; rfl
  have hw : e ∈ wantedL P.g.s.blk P.g.s.win t := by
    have := nextE_one hb ht
    rw [hE] at this
    exact List.mem_of_mem_head? this.symm
  have hg1 : (sentPl P m e).away.getD m false = true := by
    show (P.away.set m true).getD m false = true
    rw [ha, List.getD_eq_getElem?_getD, allF_on m hm3]; rfl
  have hE0 : endA (sentPl P m e).g.s m = 0 := endA_yes (by
    unfold hasM
    show (decide (0 ≤ (m : Int)) && decide ((m : Int) < P.g.s.mir)) = true
    simp; omega) (by show (P.g.s.busy.set m true)[m]? = some true; rw [hb]; exact allF_on m hm3)
  have e3 : fstPl P m = failPl (sentPl P m e) m := by rw [e2]; unfold flPl; rw [hg1]; rfl
  have eer : (sentPl P m e).g.s.ers.getD m noEr = e := by
    show (P.g.s.ers.set m e).getD m noEr = e
    rw [List.getD_eq_getElem?_getD, List.getElem?_set, if_pos rfl, if_pos (by rw [pk.ne]; exact hm3)]; rfl
  have hs : (fstPl P m).g.s = plookS (failedS (freeS (sentPl P m e).g.s m) e) := by
    rw [e3]
    show failP (sentPl P m e).g.s m = _
    unfold failP
    rw [hE0, if_pos rfl, Int.toNat_natCast, eer]
  have htr : (failedS (freeS (sentPl P m e).g.s m) e).trs = [pfailT P.g.s.tri t] := by
    show P.g.s.trs.map (fun t => if wantsT P.g.s.blk P.g.s.win t e then pfailT P.g.s.tri t else t) = _
    rw [ht]; simp [wants_of hw]
  have hnw2 : ∀ e' ∈ wantedL P.g.s.blk P.g.s.win (pfailT P.g.s.tri t), ¬ inC P.g.s.cac e' := by
    unfold pfailT
    split
    · intro e' he'
      rw [wanted_lost rfl] at he'; simp at he'
    · intro e' he'
      exact hnw t (by rw [ht]; simp) e' he'
  have hlk := look_one (s := failedS (freeS (sentPl P m e).g.s m) e) htr hnw2
  rw [hlk] at hs
  refine ⟨e1, e2, hw, ?_, by rw [e3]; rfl, by rw [e3]; rfl, by rw [e3]; rfl, by rw [e3]; rfl, by rw [hs]; exact htr, ?_, by rw [hs]; rfl⟩
  · rw [e3]
    show (P.away.set m true).set m false = allF
    rw [ha]; exact allF_set m
  · rw [hs]
    intro u hu e' he'
    rw [htr] at hu
    simp at hu; subst hu
    exact hnw2 e' he'
theorem RI.up {B v p : Int} {r : Int × Int × Int} {n n' j : Nat} {P : Pl} (h : RI B v p r n j P) (hn : n ≤ n') : RI B v p r n' j P := ⟨⟨h.cl.pi.up (by omega), h.cl.pk, h.cl.bl, h.cl.aw⟩, h.tr⟩
theorem RI.hm {B v p : Int} {r : Int × Int × Int} {n n' j : Nat} {P P2 : Pl} (h : RI B v p r n j P) {t t2 : Tr} (ht : P.g.s.trs = [t]) (ht2 : P2.g.s.trs = [t2]) (hm : ∃ f, t2 = { t with fails := f }) (hs : P2.sent = P.sent) (hC : Cl B v (n' + 2 * j) P2) : RI B v p r n' j P2 := by
  obtain ⟨t', h1, hp, hr, hl, hsh, hmu, hct⟩ := h.tr
  rw [ht] at h1
  simp at h1
  subst h1
  obtain ⟨f, e⟩ := hm
  subst e
  refine ⟨hC, _, ht2, hp, hr, hl, ?_, hmu, ?_⟩
  · intro u hu
    simp at hu; subst hu
    exact hsh t (by simp)
  · rw [hs]; exact hct
theorem take_st (P : Pl) (ix c : Int) : (takePl P ix c).st = P.st := by
  unfold takePl
  split
  · rfl
  · split
    · split <;> rfl
    · rfl
theorem next_st (P : Pl) (m : Nat) : (nextPl P m).1.st = P.st := by
  unfold nextPl
  split
  · rfl
  · cases nextE P.g.s <;> rfl
theorem mid_st (P : Pl) (v : Int) : (midPl P v).st = P.st := by
  unfold midPl
  split
  · unfold setlPl; rw [rp_st, next_st]
  · exact next_st _ _
theorem setl_NW {B v : Int} {n : Nat} {P : Pl} (hB : P.g.s.blk = B) (h : PI (KnV B v) n P) (pk : POk P.g.s) (hv : 0 ≤ v) (hv2 : v ≤ 99) (m : Nat) (hm : (m : Int) < P.g.s.mir) (ha : P.away.getD m false = true) {e : Er} (he : P.g.s.ers[m]? = some e) : NW (setlPl P v m).g.s := by
  have h2 := h.si.fair.m2
  have hb := (away_get h pk m (by omega)).2
  rw [ha] at hb
  have hpe := pk.ers e (List.mem_of_getElem? he)
  have hK : KnOk (KnV B v) P.g.s.blk := by rw [hB]; exact KnV_ok B v
  have hE : ErV B v e := ⟨hpe.2.2.1, hpe.1, by have := h.ej m e hb he; rw [hB] at this; exact this⟩
  have htg := tgV_bd hv hv2 hE
  have hjob : P.jobs.getD m noFe = feF (fetchE B e) := by
    have := h.j.jb m e hb he
    rw [List.getD_eq_getElem?_getD, this, hB]; rfl
  have hst : P.st.b = B := by rw [h.j.st.2.1, hB]
  have er : setlPl P v m = rpPl P m ⟨tgV v e.tag, totK e.path (tgV v e.tag), e.blk * B, honB B e (tgV v e.tag)⟩ := by
    unfold setlPl
    rw [hst, hjob]
    rfl
  obtain ⟨s1, s2, s3, s4⟩ := rpPl_s h pk m hm ⟨tgV v e.tag, totK e.path (tgV v e.tag), e.blk * B, honB B e (tgV v e.tag)⟩ ha he
  rw [er, s1]
  have hfree : SI (KnV B v) (freeS P.g.s m) P.taken := SI_setJ h.si _ _
  obtain ⟨p, hp⟩ := Int.eq_ofNat_of_zero_le hpe.1
  have hans : SI (KnV B v) (answS (freeS P.g.s m) e (tgV v e.tag) (totK e.path (tgV v e.tag)) (e.blk * B) (honB B e (tgV v e.tag))) P.taken := SI_answ hfree hK e p hp _ _ _ _ (fun hse => by
    have hw := weak_D hse hpe.2.2.1
    have e0 : (freeS P.g.s m).blk = B := hB
    rw [e0] at hw
    rw [← hp]
    exact ⟨⟨⟨hw.1, rfl⟩, htg.2.2⟩, fun hne => ⟨hw.2 hne, rfl⟩⟩)
  refine look_NW _ (fun x hx => ((KnV_ok B v).d _ _ (hans.cac x hx).1).2.1) hans.held4
theorem take_NW {K : Kn} {n : Nat} {P : Pl} (h : PI K n P) (hK : KnOk K P.g.s.blk) (hnw : NW P.g.s) (ix c : Int) : NW (takePl P ix c).g.s := by
  unfold takePl
  split
  · exact hnw
  · split
    · rename_i t ht
      split
      · exact hnw
      · rename_i hst
        have ho := open_st hst
        generalize (pickK ix P.paths.length).toNat = i at *
        have hc := (pickK_bd c 100 (by omega))
        generalize pickK c 100 = d at *
        have hil := (List.getElem?_eq_some_iff.1 ht).1
        obtain ⟨T, hT⟩ : ∃ T, P.taken[i]? = some T := ⟨_, List.getElem?_eq_getElem (by rw [h.si.n]; exact hil)⟩
        have hTI := h.si.ts i t T ht hT
        show NW (ptakeS P.g.s i d)
        rw [ptakeS_yes ht hc.1 ho]
        have hS := h.si.setT i _ _ (take_TI ⟨rfl, rfl⟩ h.si.fair hK (show_TI hTI ho) rfl hc.1)
        exact look_NW _ (fun x hx => (hK.d _ _ (h.si.cac x hx).1).2.1) hS.held4
    · exact hnw
/-- A round keeps this. -/
theorem mid_NW {B v : Int} {n : Nat} {P : Pl} (hC : Cl B v n P) (hv : 0 ≤ v) (hv2 : v ≤ 99) (hnw : NW P.g.s) (pk1 : POk (nextPl P 0).1.g.s) : NW (midPl P v).g.s := by
  have hm1 := hC.pi.si.fair.m1
  have hK : KnOk (KnV B v) P.g.s.blk := by rw [hC.bl]; exact KnV_ok B v
  unfold midPl
  cases hE : nextE P.g.s with
  | none => rw [next_none 0 hC.aw hE]; exact hnw
  | some e =>
    have e1 : nextPl P 0 = (sentPl P 0 e, true) := by unfold nextPl; rw [hC.aw, allF_get, hE]; rfl
    have hpi := nextPl_PI hC.pi hC.pk hK 0 (by omega)
    rw [e1] at pk1 hpi ⊢
    simp only [if_true]
    refine setl_NW (P := sentPl P 0 e) (e := e) hC.bl hpi pk1 hv hv2 0 (by show ((0 : Nat) : Int) < P.g.s.mir; omega) ?_ ?_
    · show (P.away.set 0 true).getD 0 false = true
      rw [hC.aw]; rfl
    · show (P.g.s.ers.set 0 e)[0]? = some e
      rw [List.getElem?_set, if_pos rfl, if_pos (by rw [hC.pk.ne]; omega)]
/-- Failures that do no harm. -/
structure P1 (B v p : Int) (st : St) (j k : Nat) (P : Pl) : Prop where
  ri : RI B v p (0, 0, 0) (4 * j + k) j P
  nw : NW P.g.s
  es : P.st = st
  fl : ∃ t, P.g.s.trs = [t] ∧ t.fails ≤ k ∧ (wantedL B P.g.s.win t = [] → t.fails = 0)
theorem P1.fail {B v p : Int} {st : St} {j k : Nat} {P : Pl} (h : P1 B v p st j k P) (hk : (k : Int) + 1 < st.t) (m : Nat) (hm : (m : Int) < st.m) (pk1 : POk (nextPl P m).1.g.s) (pk2 : POk (fstPl P m).g.s) : P1 B v p st j (k + 1) (fstPl P m) := by
  obtain ⟨t, ht, hf, hw⟩ := h.fl
  have hC := h.ri.cl
  have hst := hC.pi.j.st
  have hm' : (m : Int) < P.g.s.mir := by rw [← hst.1, h.es]; exact hm
  have htri : P.g.s.tri = st.t := by rw [← hst.2.2.2.2, h.es]
  have hb : P.g.s.busy = allF := by rw [← hC.pi.j.aw]; exact hC.aw
  have h2 := hC.pi.si.fair.m2
  have hK : KnOk (KnV B v) P.g.s.blk := by rw [hC.bl]; exact KnV_ok B v
  cases hE : nextE P.g.s with
  | none =>
    rw [fst_none m hC.aw hE]
    exact ⟨h.ri.up (by omega), h.nw, h.es, t, ht, by omega, hw⟩
  | some e =>
    obtain ⟨e1, e2, he, hF⟩ := fst_some hC.pk hC.aw hb h.nw ht m hm' hE
    have hpi := nextPl_PI hC.pi hC.pk hK m (by omega)
    have hpi2 := flPl_PI hpi pk1 (by rw [next_blk]; exact hK) m (by
      rw [e1]; exact hm')
    have e2' : flPl (nextPl P m).1 m = fstPl P m := by rw [e1, e2]
    rw [e2'] at hpi2
    have ht2 : pfailT P.g.s.tri t = { t with fails := t.fails + 1 } := by
      unfold pfailT; rw [if_neg (by rw [htri]; omega)]
    have htr := hF.tr
    rw [ht2] at htr
    refine ⟨h.ri.hm ht htr ⟨_, rfl⟩ hF.sn ⟨hpi2.up (by omega), pk2, ?_, hF.aw⟩, hF.nw, by rw [hF.st]; exact h.es, _, htr, by show t.fails + 1 ≤ _; push_cast; omega, fun hn => ?_⟩
    · rw [← e2', fl_blk, next_blk]; exact hC.bl
    · exfalso
      rw [hF.wi] at hn
      have hn2 : wantedL B P.g.s.win t = [] := hn
      rw [hC.bl, hn2] at he
      simp at he
theorem P1.round {B v p : Int} {st : St} {j k : Nat} {P : Pl} (h : P1 B v p st j k P) (hk : k ≤ 4) (hv : 0 ≤ v) (hv2 : v ≤ 99) (pk1 : POk (nextPl P 0).1.g.s) (pk : POk (roundPl P v).g.s) : P1 B v p st (j + 1) 0 (roundPl P v) := by
  obtain ⟨t, ht, hf, hw⟩ := h.fl
  have hC := h.ri.cl
  have hn1 : P.paths.length = 1 := by rw [← hC.pi.ok.n1, ht]; rfl
  have hM := mid_rel hC hv hv2
  have hS := h.ri.step hv hv2 pk
  have hNM := mid_NW hC hv hv2 h.nw pk1
  have hKM : KnOk (KnV B v) (midPl P v).g.s.blk := by rw [hM.bl]; exact KnV_ok B v
  have e1 := round_one (P := P) v hn1
  have hT : Tkn B v ((4 * j + k) + 2 * j + 1) P.paths.length (midPl P v) (roundPl P v) := takes_rel hM.bl hM.pi P.paths.length (by rw [hM.pa]; exact Nat.le_refl _)
  refine ⟨hS.up (by omega), by rw [e1]; exact take_NW hM.pi hKM hNM 0 99, by rw [e1, take_st, mid_st]; exact h.es, ?_⟩
  obtain ⟨t3, h3, -⟩ := hS.tr
  have h0 : P.g.s.trs[0]? = some t := by rw [ht]; rfl
  obtain ⟨t2, h2, -⟩ := hM.pw.get h0
  have h30 : (roundPl P v).g.s.trs[0]? = some t3 := by rw [h3]; rfl
  have d := hT.dn 0 t2 t3 h2 h30
  rw [if_pos (by omega)] at d
  have hf2 : t2.fails = 0 := by
    by_cases hs : (midPl P v).sent.length = P.sent.length
    · obtain ⟨e2, hnil⟩ := hM.nn hs
      rw [e2, h0] at h2
      simp at h2; subst h2
      exact hw (hnil t (by rw [ht]; simp))
    · obtain ⟨i, a, a', ha, ha', -, hz⟩ := hM.go (Or.inr hs)
      have hi : i = 0 := by
        rcases i with _ | i
        · rfl
        · rw [ht] at ha; simp at ha
      subst hi
      rw [h2] at ha'; simp at ha'; subst ha'
      exact hz hs
  have hf3 : t3.fails = 0 := by rw [d.fl]; exact hf2
  exact ⟨t3, h3, by omega, fun _ => hf3⟩
/-- A transfer that is lost ahead of its head. -/
structure P2 (B v : Int) (st : St) (j k : Nat) (P : Pl) : Prop where
  cl : Cl B v (6 * j + k) P
  nw : NW P.g.s
  es : P.st = st
  fl : ∃ t, P.g.s.trs = [t] ∧ (j = 0 ∧ openT t = true ∧ t.fails = k ∧ (k : Int) < st.t ∨ t.lost = true ∧ t.hd = ⟨502, 0, 0, 0, 0⟩)
theorem P2.fail {B v : Int} {st : St} {j k : Nat} {P : Pl} (h : P2 B v st j k P) (m : Nat) (hm : (m : Int) < st.m) (pk1 : POk (nextPl P m).1.g.s) (pk2 : POk (fstPl P m).g.s) : P2 B v st j (k + 1) (fstPl P m) := by
  obtain ⟨t, ht, hfl⟩ := h.fl
  have hC := h.cl
  have hst := hC.pi.j.st
  have hm' : (m : Int) < P.g.s.mir := by rw [← hst.1, h.es]; exact hm
  have htri : P.g.s.tri = st.t := by rw [← hst.2.2.2.2, h.es]
  have hb : P.g.s.busy = allF := by rw [← hC.pi.j.aw]; exact hC.aw
  have h2 := hC.pi.si.fair.m2
  have hK : KnOk (KnV B v) P.g.s.blk := by rw [hC.bl]; exact KnV_ok B v
  have hTI : ∃ T, TI (KnV B v) B P.g.s.win t T := by
    obtain ⟨T, hT⟩ : ∃ T, P.taken[0]? = some T := ⟨_, List.getElem?_eq_getElem (by rw [hC.pi.si.n, ht]; simp)⟩
    have := hC.pi.si.ts 0 t T (by rw [ht]; rfl) hT
    rw [hC.bl] at this
    exact ⟨T, this⟩
  obtain ⟨T, hTI⟩ := hTI
  cases hE : nextE P.g.s with
  | none =>
    rw [fst_none m hC.aw hE]
    refine ⟨⟨hC.pi.up (by omega), hC.pk, hC.bl, hC.aw⟩, h.nw, h.es, t, ht, ?_⟩
    rcases hfl with ⟨-, ho, -⟩ | hl
    · exfalso
      have := nextE_one hb ht
      rw [hE] at this
      have hnil := List.head?_eq_none_iff.1 this.symm
      have hop := (hTI.op ho).2
      have hwin : winT P.g.s.blk P.g.s.win t = (0, 1) := by
        unfold openT at ho
        simp at ho
        unfold winT; rw [ho.1, ho.2]; rfl
      have := wanted_nil hnil 0 (by rw [hwin]; simp) (by rw [hwin]; simp)
      rw [noB_at hop, empty_isEmpty] at this
      simp at this
    · exact Or.inr hl
  | some e =>
    obtain ⟨e1, e2, he, hF⟩ := fst_some hC.pk hC.aw hb h.nw ht m hm' hE
    have hpi := nextPl_PI hC.pi hC.pk hK m (by omega)
    have hpi2 := flPl_PI hpi pk1 (by rw [next_blk]; exact hK) m (by rw [e1]; exact hm')
    have e2' : flPl (nextPl P m).1 m = fstPl P m := by rw [e1, e2]
    rw [e2'] at hpi2
    refine ⟨⟨hpi2.up (by omega), pk2, ?_, hF.aw⟩, hF.nw, by rw [hF.st]; exact h.es, _, hF.tr, ?_⟩
    · rw [← e2', fl_blk, next_blk]; exact hC.bl
    · rcases hfl with ⟨hj0, ho, hk, hlt⟩ | ⟨hl, -⟩
      · have ho' := ho
        unfold openT at ho'
        simp at ho'
        have hsh := hTI.ok.op ho'.1 ho'.2
        unfold pfailT
        split
        · right
          refine ⟨rfl, ?_⟩
          show (if t.shown = true then t.hd else (⟨502, 0, 0, 0, 0⟩ : Hd)) = _
          rw [hsh]; rfl
        · rename_i hx
          left
          rw [htri] at hx
          refine ⟨hj0, ho, by show t.fails + 1 = _; push_cast; omega, by push_cast; omega⟩
      · exfalso
        rw [wanted_lost hl] at he; simp at he
theorem P2.round {B v : Int} {st : St} {j k : Nat} {P : Pl} (h : P2 B v st j k P) (hk : k ≤ 4) (hkt : st.t ≤ k) (pk : POk (roundPl P v).g.s) : P2 B v st (j + 1) 0 (roundPl P v) := by
  obtain ⟨t, ht, hfl⟩ := h.fl
  have hl := hfl.resolve_left (fun x => by have := x.2.2.2; omega)
  have hC := h.cl
  have hb : P.g.s.busy = allF := by rw [← hC.pi.j.aw]; exact hC.aw
  have hK : KnOk (KnV B v) P.g.s.blk := by rw [hC.bl]; exact KnV_ok B v
  have hn1 : P.paths.length = 1 := by rw [← hC.pi.ok.n1, ht]; rfl
  have hE : nextE P.g.s = none := by
    rw [nextE_one hb ht, wanted_lost hl.1]; rfl
  have e2 : midPl P v = P := by unfold midPl; rw [next_none 0 hC.aw hE]; rfl
  have e1 : roundPl P v = takePl P 0 99 := by rw [round_one v hn1, e2]
  have hpi := takePl_PI hC.pi hK 0 99
  have hst : ¬ stT t = 1 := by unfold stT; rw [hl.1, if_pos rfl]; omega
  have hpk0 : pickK 0 P.paths.length = 0 := by rw [hn1]; rfl
  have hp99 : pickK 99 100 = 99 := by decide
  have hform : takePl P 0 99 = tookPl P 0 99 := by
    unfold takePl
    rw [if_neg (by omega), hpk0, hp99]
    have : P.g.s.trs[(0 : Int).toNat]? = some t := by rw [ht]; rfl
    rw [this]
    simp only [hst, if_false]
    rfl
  rw [e1] at pk ⊢
  refine ⟨⟨hpi.up (by omega), pk, by rw [tk_blk]; exact hC.bl, ?_⟩, take_NW hC.pi hK h.nw 0 99, by rw [take_st]; exact h.es, ?_⟩
  · rw [hform]; exact hC.aw
  · obtain ⟨T, hT⟩ : ∃ T, P.taken[0]? = some T := ⟨_, List.getElem?_eq_getElem (by rw [hC.pi.si.n, ht]; simp)⟩
    have h0 : P.g.s.trs[0]? = some t := by rw [ht]; rfl
    have hTI := hC.pi.si.ts 0 t T h0 hT
    have ho := open_st hst
    obtain ⟨tk, hh, e, -, -⟩ := take_form (pshowT_ok hTI.ok ho) hC.pi.si.fair 99 (by omega)
    have hs : (takePl P 0 99).g.s = plookS (setT P.g.s 0 (takeT P.g.s.blk P.g.s.win 99 (pshowT t)).2) := by
      rw [hform]
      show ptakeS P.g.s (0 : Nat) 99 = _
      rw [ptakeS_yes h0 (by omega) ho]
    have htr : (setT P.g.s 0 (takeT P.g.s.blk P.g.s.win 99 (pshowT t)).2).trs = [{ pshowT t with taken := tk, held := hh }] := by
      show P.g.s.trs.set 0 _ = _
      rw [ht, e]; rfl
    have hlk := look_one htr (fun e' he' => by
      have he2 : e' ∈ wantedL P.g.s.blk P.g.s.win { pshowT t with taken := tk, held := hh } := he'
      rw [wanted_lost (by exact hl.1)] at he2; simp at he2)
    rw [hs, hlk]
    exact ⟨_, htr, Or.inr ⟨hl.1, hl.2⟩⟩
end Go.Proofs.Ytjhihliciadipaa
