import Derived.Test.YtjhihliciadipaaKM
set_option linter.unusedVariables false
set_option linter.unusedSimpArgs false
set_option linter.unnecessarySimpa false
namespace Go.Proofs.Ytjhihliciadipaa
open Go.RowKit

/-- Honest knowledge of one version (v = 0: of any). -/
def KnV (B v : Int) : Kn := ⟨(KnH B).D, fun p tag tot => (KnH B).V p tag tot ∧ (v = 0 ∨ tag = v)⟩
theorem KnV_ok (B v : Int) : KnOk (KnV B v) B := ⟨fun _ _ h => h.1.1, fun _ _ _ h => h.1.1⟩
theorem PI.toH {n : Nat} {P : Pl} {B v : Int} (h : PI (KnV B v) n P) : PI (KnH B) n P := h.mono (Nat.le_refl _) (fun _ _ x => x) (fun _ _ _ x => x.1)
theorem PI.toV {n : Nat} {P : Pl} {B : Int} (h : PI (KnH B) n P) : PI (KnV B 0) n P := h.mono (Nat.le_refl _) (fun _ _ x => x) (fun _ _ _ x => ⟨x, Or.inl rfl⟩)

/-! An honest reply. -/
def honB (B : Int) (e : Er) (tg : Int) : ByteArray := objK e.path tg (e.blk * B).toNat B.toNat
theorem hon_eq (B : Int) (e : Er) (tg : Int) : honK B (feF (fetchE B e)) tg = ⟨tg, totK e.path tg, e.blk * B, honB B e tg⟩ := rfl
theorem honB_size {B : Int} (hB : 1 ≤ B) {e : Er} (h0 : 0 ≤ e.blk) (tg : Int) : ((honB B e tg).size : Int) = blkLen (totK e.path tg) e.blk B := by
  have hm := Int.mul_nonneg h0 (show 0 ≤ B by omega)
  have ht := totK_bd e.path tg
  unfold honB
  rw [objK_size]
  unfold objN blkLen atM
  split
  · omega
  · split <;> omega
theorem hon_sens {B : Int} (hB : 1 ≤ B) {e : Er} (h0 : 0 ≤ e.blk) {tg : Int} (h1 : 1 ≤ tg) (h2 : tg ≤ 99) : sensible B e tg (totK e.path tg) (e.blk * B) (honB B e tg).size = true := by
  have ht := totK_bd e.path tg
  unfold sensible fairV
  rw [honB_size hB h0]
  simp
  omega
theorem hon_ne {B : Int} (hB : 1 ≤ B) {e : Er} (h0 : 0 ≤ e.blk) {tg : Int} (hlt : e.blk * B < totK e.path tg) : (honB B e tg).toList.isEmpty = false := by
  have hs := honB_size hB h0 tg
  cases h : (honB B e tg).toList.isEmpty
  · rfl
  · exfalso
    have h1 : (honB B e tg).size = 0 := by rw [ba_nil _ h]; rfl
    rw [h1] at hs
    unfold blkLen atM at hs
    split at hs
    · omega
    · split at hs <;> omega

/-! What an honest reply does. -/
theorem deliv_hm {s : Px} (e : Er) (h0 : 0 ≤ e.blk) (body : ByteArray) (hl : ∀ t ∈ s.trs, t.held.length = 4) :
    Pw (fun t t' => Hm t t' ∧ (t'.fails = t.fails ∨ t'.fails = 0) ∧ (body.toList.isEmpty = false → wantsT s.blk s.win t e = true → (heldAt t' e.blk).toList.isEmpty = false ∧ t'.fails = 0)) s.trs (delivS s e body).trs := by
  unfold delivS
  by_cases hbe : body.toList.isEmpty = true
  · rw [if_pos hbe]
    exact Pw.refl (fun t => ⟨Hm.refl t, Or.inl rfl, fun h => by rw [hbe] at h; simp at h⟩) _
  · have hb : body.toList.isEmpty = false := by simpa using hbe
    rw [if_neg hbe]
    refine Pw.map _ _ (fun t ht => ?_)
    by_cases hw : wantsT s.blk s.win t e = true
    rotate_left
    · rw [if_neg hw]
      exact ⟨Hm.refl t, Or.inl rfl, fun _ h => absurd h hw⟩
    · rw [if_pos hw]
      refine ⟨Hm.hold t e.blk body 0 hb, Or.inr rfl, fun _ _ => ⟨?_, by rfl⟩⟩
      have e1 : heldAt { holdT t e.blk body with fails := 0 } e.blk = body := by
        unfold heldAt holdT; simp only; rw [held_get _ (hl t ht) _ (by omega), if_pos rfl]
      rw [e1]; exact hb
/-- A transfer is bound anew, or stays as it is. -/
def RR (t t' : Tr) : Prop := (t.lost = false ∧ t'.lost = false ∧ t'.bound = true ∧ (openT t = true ∨ t.shown = false) ∧ t'.taken = t.taken ∧ t'.path = t.path ∧ t'.kind = t.kind ∧ t'.fst = t.fst ∧ t'.lst = t.lst) ∨ Hm t t'
theorem RR.lost {t t' : Tr} (h : RR t t') : t'.lost = t.lost := by
  rcases h with ⟨a, b, -⟩ | h
  · rw [a, b]
  · obtain ⟨x, y, rfl⟩ := h.e; rfl
theorem RR.hm {t t1 t2 : Tr} (h : RR t t1) (k : Hm t1 t2) : RR t t2 := by
  rcases h with ⟨a, b, c, d, e, f1, f2, f3, f4⟩ | h
  · obtain ⟨x, y, rfl⟩ := k.e
    exact Or.inl ⟨a, b, c, d, e, f1, f2, f3, f4⟩
  · exact Or.inr (h.trans k)
theorem renew_rel {K : Kn} {s : Px} {Ts : List ByteArray} (h : SI K s Ts) (hK : KnOk K s.blk) (e : Er) (he : e.tag = 0) (v tot : Int) (hv : 1 ≤ v) :
    Pw (fun t t' => (t' = t ∧ ¬ (openT t = true ∧ t.path = e.path) ∨ t.lost = false ∧ (openT t = true ∨ t.shown = false) ∧ t' = bindT t (v, tot))) s.trs (failedS (renewS s e.path (v, tot)) e).trs := by
  have hid : (failedS (renewS s e.path (v, tot)) e).trs = (renewS s e.path (v, tot)).trs := by
    show (renewS s e.path (v, tot)).trs.map _ = _
    rw [List.map_congr_left (g := id), List.map_id]
    intro t ht
    rw [if_neg]
    · rfl
    intro hw
    obtain ⟨h1, -, -, h4⟩ := wants_in hw
    have htag : t.hd.tag = 0 := by rw [h1] at he; exact he
    have hpath : t.path = e.path := by rw [h1]; rfl
    have ht2 : t ∈ s.trs.map (fun t => if (t.path == e.path && followsT t (v, tot)) = true then bindT t (v, tot) else t) := ht
    rw [List.mem_map] at ht2
    obtain ⟨u, hu, hut⟩ := ht2
    by_cases hc : (u.path == e.path && followsT u (v, tot)) = true
    · rw [if_pos hc] at hut
      rw [← hut] at htag
      have : (headR u.kind u.fst u.lst v tot).tag = 0 := htag
      rw [(headR_tot _ _ _ _ _).2] at this
      omega
    · rw [if_neg hc] at hut
      subst hut
      have hb : u.bound = true := by
        cases hb : u.bound
        · exfalso; apply hc
          unfold followsT; rw [h4, hb, hpath]; simp
        · rfl
      obtain ⟨i, hi⟩ := List.getElem?_of_mem hu
      obtain ⟨T, hT⟩ : ∃ T, Ts[i]? = some T := ⟨_, List.getElem?_eq_getElem (by rw [h.n]; exact (List.getElem?_eq_some_iff.1 hi).1)⟩
      have := (h.ts i u T hi hT).head hK h4 hb
      omega
  rw [hid]
  refine Pw.map s.trs _ (fun t ht => ?_)
  by_cases hc : (t.path == e.path && followsT t (v, tot)) = true
  · rw [if_pos hc]
    right
    rw [Bool.and_eq_true] at hc
    obtain ⟨-, hf⟩ := hc
    unfold followsT at hf
    cases hl : t.lost
    · refine ⟨rfl, ?_, rfl⟩
      rw [hl] at hf
      cases hb : t.bound
      · left; unfold openT; rw [hl, hb]; rfl
      · right
        rw [hb] at hf
        simp at hf
        exact hf.1
    · rw [hl] at hf; simp at hf
  · rw [if_neg hc]
    left
    refine ⟨rfl, fun ⟨ho, hp⟩ => hc ?_⟩
    unfold openT at ho
    simp at ho
    unfold followsT; rw [ho.1, ho.2, hp]; simp
/-- The errand that is answered. -/
structure ErV (B v : Int) (e : Er) : Prop where
  b0 : 0 ≤ e.blk
  p0 : 0 ≤ e.path
  e : e.tag = 0 ∧ e.tot = 0 ∧ e.blk = 0 ∨ (KnV B v).V e.path e.tag e.tot ∧ e.blk * B < e.tot
def tgV (v tag : Int) : Int := if tag = 0 then (if v = 0 then 1 else v) else tag
theorem tgV_bd {B v : Int} (hv : 0 ≤ v) (hv2 : v ≤ 99) {e : Er} (h : ErV B v e) : 1 ≤ tgV v e.tag ∧ tgV v e.tag ≤ 99 ∧ (v = 0 ∨ tgV v e.tag = v) := by
  unfold tgV
  rcases h.e with h1 | ⟨h1, -⟩
  · rw [h1.1, if_pos rfl]
    split <;> omega
  · obtain ⟨⟨⟨a, b, -⟩, -⟩, c⟩ := h1
    rw [if_neg (by omega)]
    exact ⟨a, b, c⟩
theorem answ_rel {B v : Int} {s : Px} {Ts : List ByteArray} (hB : s.blk = B) (h : SI (KnV B v) s Ts) (hv : 0 ≤ v) (hv2 : v ≤ 99) (e : Er) (he : ErV B v e) :
    Pw (fun t t' => RR t t' ∧ (e.tag = 0 → openT t = true → t.path = e.path → t'.bound = true ∧ t'.fails = 0) ∧ (e.tag ≠ 0 → Hm t t' ∧ (wantsT B s.win t e = true → (heldAt t' e.blk).toList.isEmpty = false ∧ t'.fails = 0))) s.trs (answS s e (tgV v e.tag) (totK e.path (tgV v e.tag)) (e.blk * B) (honB B e (tgV v e.tag))).trs := by
  have hB1 := h.fair.B1
  have hK : KnOk (KnV B v) s.blk := by rw [hB]; exact KnV_ok B v
  have htg := tgV_bd hv hv2 he
  have hse := hon_sens (B := B) (by omega) he.b0 htg.1 htg.2.1
  have hl : ∀ t ∈ s.trs, t.held.length = 4 := fun t ht => by
    obtain ⟨i, hi⟩ := List.getElem?_of_mem ht
    obtain ⟨T, hT⟩ : ∃ T, Ts[i]? = some T := ⟨_, List.getElem?_eq_getElem (by rw [h.n]; exact (List.getElem?_eq_some_iff.1 hi).1)⟩
    exact (h.ts i t T hi hT).ok.hl
  unfold answS
  rw [hB, hse, if_pos rfl]
  rcases he.e with h1 | ⟨h1, hlt⟩
  · have htt : tgV v e.tag ≠ e.tag := by rw [h1.1] at htg ⊢; omega
    rw [if_neg (fun hh => htt hh.1)]
    have hm := renew_rel h hK e h1.1 (tgV v e.tag) (totK e.path (tgV v e.tag)) htg.1
    have hl2 : ∀ t ∈ (failedS (renewS s e.path (tgV v e.tag, totK e.path (tgV v e.tag))) e).trs, t.held.length = 4 := fun t ht => by
      obtain ⟨i, hi⟩ := List.getElem?_of_mem ht
      obtain ⟨u, hu, r⟩ := hm.old hi
      rcases r with ⟨rfl, -⟩ | ⟨-, -, rfl⟩
      · exact hl _ (List.mem_of_getElem? hu)
      · rfl
    refine hm.trans (deliv_hm (s := failedS (renewS s e.path (tgV v e.tag, totK e.path (tgV v e.tag))) e) ⟨e.path, tgV v e.tag, totK e.path (tgV v e.tag), e.blk⟩ he.b0 (honB B e (tgV v e.tag)) hl2) ?_
    rintro t t1 t2 hr ⟨hm2, hfl, -⟩
    refine ⟨?_, fun _ ho hp => ?_, fun hn => absurd h1.1 hn⟩
    · rcases hr with ⟨rfl, -⟩ | ⟨a, b, rfl⟩
      · exact Or.inr hm2
      · obtain ⟨x, y, rfl⟩ := hm2.e
        exact Or.inl ⟨a, a, rfl, b, rfl, rfl, rfl, rfl, rfl⟩
    · rcases hr with ⟨rfl, hn⟩ | ⟨a, b, rfl⟩
      · exact absurd ⟨ho, hp⟩ hn
      · refine ⟨by obtain ⟨x, y, rfl⟩ := hm2.e; rfl, ?_⟩
        rcases hfl with h | h
        · exact h
        · exact h
  · have h0 : e.tag ≠ 0 := by have := h1.1.1.1; omega
    have e1 : tgV v e.tag = e.tag := by unfold tgV; rw [if_neg h0]
    have e2 : totK e.path e.tag = e.tot := h1.1.2.symm
    rw [e1, e2, if_pos ⟨rfl, rfl⟩]
    have hne := hon_ne (B := B) (tg := e.tag) (by omega) he.b0 (by rw [e2]; exact hlt)
    have := deliv_hm (s := s) e he.b0 (honB B e e.tag) hl
    refine ⟨this.n, fun i t t' a b => ?_⟩
    obtain ⟨x, -, y⟩ := this.a i t t' a b
    refine ⟨Or.inr x, fun hn => absurd hn h0, fun _ => ⟨x, fun hw => y hne (by rw [hB]; exact hw)⟩⟩

/-- A mirror that is away comes back with an honest reply. -/
theorem rpPl_s {K : Kn} {n : Nat} {P : Pl} (h : PI K n P) (pk : POk P.g.s) (m : Nat) (hm : (m : Int) < P.g.s.mir) (r : Rp) (ha : P.away.getD m false = true) {e : Er} (he : P.g.s.ers[m]? = some e) :
    (rpPl P m r).g.s = plookS (answS (freeS P.g.s m) e r.tag r.tot r.off r.body) ∧ (rpPl P m r).away = P.away.set m false ∧ (rpPl P m r).sent = P.sent ++ [r] ∧ (rpPl P m r).paths = P.paths := by
  have hE := endA_of h pk m hm ha
  have e1 : P.g.s.ers.getD m noEr = e := by rw [List.getD_eq_getElem?_getD, he]; rfl
  unfold rpPl
  rw [ha, if_pos rfl]
  refine ⟨?_, rfl, rfl, rfl⟩
  show replyP P.g.s m r.tag r.tot r.off r.body = _
  unfold replyP
  rw [hE, if_pos rfl, Int.toNat_natCast, e1]
def setlPl (P : Pl) (v : Int) (m : Nat) : Pl := rpPl P m (honK P.st.b (P.jobs.getD m noFe) (tgV v (P.jobs.getD m noFe).tag))
structure Setl (B v : Int) (n : Nat) (m : Nat) (e : Er) (P P2 : Pl) : Prop where
  pi : PI (KnV B v) (n + 1) P2
  bl : P2.g.s.blk = B
  wi : P2.g.s.win = P.g.s.win ∧ P2.g.s.mir = P.g.s.mir ∧ P2.g.s.tri = P.g.s.tri ∧ P2.g.s.cap = P.g.s.cap
  aw : P2.away = P.away.set m false
  sn : P2.sent.length = P.sent.length + 1
  pa : P2.paths = P.paths
  pw : Pw (fun t t' => RR t t' ∧ (e.tag = 0 → openT t = true → t.path = e.path → t'.bound = true ∧ t'.fails = 0) ∧ (e.tag ≠ 0 → Hm t t' ∧ (wantsT B P.g.s.win t e = true → (heldAt t' e.blk).toList.isEmpty = false ∧ t'.fails = 0))) P.g.s.trs P2.g.s.trs
theorem setl_rel {B v : Int} {n : Nat} {P : Pl} (hB : P.g.s.blk = B) (h : PI (KnV B v) n P) (pk : POk P.g.s) (hv : 0 ≤ v) (hv2 : v ≤ 99) (m : Nat) (hm : (m : Int) < P.g.s.mir) (ha : P.away.getD m false = true) {e : Er} (he : P.g.s.ers[m]? = some e) :
    ErV B v e ∧ Setl B v n m e P (setlPl P v m) := by
  have h2 := h.si.fair.m2
  have hb := (away_get h pk m (by omega)).2
  rw [ha] at hb
  have hpe := pk.ers e (List.mem_of_getElem? he)
  have hK : KnOk (KnV B v) P.g.s.blk := by rw [hB]; exact KnV_ok B v
  have hE : ErV B v e := ⟨hpe.2.2.1, hpe.1, by have := h.ej m e hb he; rw [hB] at this; exact this⟩
  have htg := tgV_bd hv hv2 hE
  have hjob : P.jobs.getD m noFe = feF (fetchE B e) := by
    have := h.j.jb m e hb he
    rw [List.getD_eq_getElem?_getD, this, hB]; rfl
  have hst : P.st.b = B := by rw [h.j.st.2.1, hB]
  have er : setlPl P v m = rpPl P m ⟨tgV v e.tag, totK e.path (tgV v e.tag), e.blk * B, honB B e (tgV v e.tag)⟩ := by
    unfold setlPl
    rw [hst, hjob]
    rfl
  obtain ⟨s1, s2, s3, s4⟩ := rpPl_s h pk m hm ⟨tgV v e.tag, totK e.path (tgV v e.tag), e.blk * B, honB B e (tgV v e.tag)⟩ ha he
  have hB1 := h.si.fair.B1
  refine ⟨hE, ?_⟩
  rw [er]
  refine ⟨rpPl_PI h pk hK m hm _ (fun _ e' he' hs => ?_), by rw [rp_blk]; exact hB, ?_, s2, by rw [s3]; simp, s4, ?_⟩
  · rw [he] at he'; simp at he'; subst he'
    have hw := weak_D hs hpe.2.2.1
    rw [hB] at hw
    exact ⟨⟨⟨hw.1, rfl⟩, htg.2.2⟩, fun hne => ⟨hw.2 hne, rfl⟩⟩
  · have e1 := (same_answ (freeS P.g.s m) e (tgV v e.tag) (totK e.path (tgV v e.tag)) (e.blk * B) (honB B e (tgV v e.tag))).trans (same_look _)
    rw [s1]
    exact ⟨e1.a.2.2.1, e1.a.1, e1.a.2.2.2.2, e1.a.2.2.2.1⟩
  · rw [s1]
    have hfree : SI (KnV B v) (freeS P.g.s m) P.taken := SI_setJ h.si _ _
    have hr := answ_rel (s := freeS P.g.s m) hB hfree hv hv2 e hE
    refine Pw.trans hr (look_hm _) ?_
    rintro t t1 t2 ⟨a1, a2, a3⟩ ⟨hm2, hf2⟩
    refine ⟨a1.hm hm2, fun x y z => ?_, fun x => ⟨(a3 x).1.trans hm2, fun y => ?_⟩⟩
    · have := a2 x y z
      refine ⟨?_, by rw [hf2]; exact this.2⟩
      obtain ⟨p, q, rfl⟩ := hm2.e; exact this.1
    · have := (a3 x).2 y
      exact ⟨hm2.at _ this.1, by rw [hf2]; exact this.2⟩
end Go.Proofs.Ytjhihliciadipaa
