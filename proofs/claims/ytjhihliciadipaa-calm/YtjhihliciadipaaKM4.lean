import Derived.Test.YtjhihliciadipaaKM3
set_option linter.unusedVariables false
set_option linter.unusedSimpArgs false
set_option linter.unnecessarySimpa false
namespace Go.Proofs.Ytjhihliciadipaa
open Go.RowKit

/-! One round: an errand is answered honestly, bytes are taken. -/
def midPl (P : Pl) (v : Int) : Pl := if (nextPl P 0).2 then setlPl (nextPl P 0).1 v 0 else (nextPl P 0).1
structure Cl (B v : Int) (n : Nat) (P : Pl) : Prop where
  pi : PI (KnV B v) n P
  pk : POk P.g.s
  bl : P.g.s.blk = B
  aw : P.away = allF
structure Mid (B v : Int) (n : Nat) (P P2 : Pl) : Prop where
  pi : PI (KnV B v) (n + 1) P2
  bl : P2.g.s.blk = B
  wi : P2.g.s.win = P.g.s.win ∧ P2.g.s.mir = P.g.s.mir ∧ P2.g.s.tri = P.g.s.tri ∧ P2.g.s.cap = P.g.s.cap
  aw : P2.away = allF
  sn : P2.sent.length = P.sent.length ∨ P2.sent.length = P.sent.length + 1
  pa : P2.paths = P.paths
  pw : Pw RR P.g.s.trs P2.g.s.trs
  go : (muL P.g.s.trs ≠ 0 ∨ P2.sent.length ≠ P.sent.length) → ∃ (i : Nat) (t t' : Tr), P.g.s.trs[i]? = some t ∧ P2.g.s.trs[i]? = some t' ∧
    (openT t = true ∧ t'.lost = false ∧ t'.bound = true ∧ P2.sent.length = P.sent.length + 1 ∨ Run t ∧ Hm t t' ∧ (heldAt t' (winT B P.g.s.win t').1).toList.isEmpty = false) ∧ (P2.sent.length ≠ P.sent.length → t'.fails = 0)
  nn : P2.sent.length = P.sent.length → P2 = P ∧ ∀ t ∈ P.g.s.trs, wantedL B P.g.s.win t = []
theorem open_of {t : Tr} (hl : t.lost = false) (hb : t.bound = false) : openT t = true := by unfold openT; rw [hl, hb]; rfl
theorem mid_rel {B v : Int} {n : Nat} {P : Pl} (hC : Cl B v n P) (hv : 0 ≤ v) (hv2 : v ≤ 99) : Mid B v n P (midPl P v) := by
  obtain ⟨hpi, pk, hB, ha⟩ := hC
  have hb : P.g.s.busy = allF := by rw [← hpi.j.aw]; exact ha
  have hB1 := hpi.si.fair.B1
  have hW1 := hpi.si.fair.W1
  have hK : KnOk (KnV B v) P.g.s.blk := by rw [hB]; exact KnV_ok B v
  have hTI : ∀ (i : Nat) t, P.g.s.trs[i]? = some t → ∃ T, TI (KnV B v) B P.g.s.win t T := fun i t ht => by
    obtain ⟨T, hT⟩ : ∃ T, P.taken[i]? = some T := ⟨_, List.getElem?_eq_getElem (by rw [hpi.si.n]; exact (List.getElem?_eq_some_iff.1 ht).1)⟩
    have := hpi.si.ts i t T ht hT
    rw [hB] at this
    exact ⟨T, this⟩
  have hg0 : P.away.getD 0 false = false := by rw [ha]; rfl
  unfold midPl
  cases hE : nextE P.g.s with
  | none =>
    have e1 : nextPl P 0 = (P, false) := by unfold nextPl; rw [hg0, hE]; rfl
    rw [e1]
    simp only [Bool.false_eq_true, if_false]
    have hn := free_none hb hE
    refine ⟨hpi.up (Nat.le_succ n), hB, ⟨rfl, rfl, rfl, rfl⟩, ha, Or.inl rfl, rfl, Pw.refl (fun t => Or.inr (Hm.refl t)) _, fun hc => ?_, fun _ => ⟨rfl, fun t ht => by have := hn t ht; rw [hB] at this; exact this⟩⟩
    obtain ⟨i, t, ht, hmu⟩ := muL_ne _ (hc.resolve_right (fun h => h rfl))
    have hw := hn t (List.mem_of_getElem? ht)
    rw [hB] at hw
    obtain ⟨hl, hbr⟩ := muT_pos hmu
    obtain ⟨T, hT⟩ := hTI i t ht
    refine ⟨i, t, t, ht, ht, Or.inr ?_, fun hne => absurd rfl hne⟩
    rcases hbr with hbd | hr
    · exfalso
      have hop := (hT.op (open_of hl hbd)).2
      have hwin : winT B P.g.s.win t = (0, 1) := by unfold winT; rw [hl, hbd]; rfl
      have := wanted_nil hw 0 (by rw [hwin]; simp) (by rw [hwin]; simp)
      rw [noB_at hop, empty_isEmpty] at this
      simp at this
    · exact ⟨hr, Hm.refl t, wanted_nil hw _ (Int.le_refl _) (hr.lt (by omega) hW1)⟩
  | some e =>
    have e1 : nextPl P 0 = (sentPl P 0 e, true) := by unfold nextPl; rw [hg0, hE]; rfl
    rw [e1]
    simp only [if_true]
    have hpi1 : PI (KnV B v) n (sentPl P 0 e) := by
      have := nextPl_PI hpi pk hK 0 (by omega)
      rw [e1] at this; exact this
    obtain ⟨i, t, ht, hh⟩ := free_some hb hE
    rw [hB] at hh
    obtain ⟨w1, w2, w3, w4, w5⟩ := wanted_head hh
    obtain ⟨T, hT⟩ := hTI i t ht
    have hl : t.lost = false := by
      cases hl : t.lost
      · rfl
      · rw [lost_win hl] at w2 w3; simp at w2 w3; omega
    have hmem : e ∈ wantedL P.g.s.blk P.g.s.win t := by rw [hB]; exact List.mem_of_mem_head? hh
    have hwok := wanted_ok hpi.si.fair hK (by rw [hB]; exact hT) hmem
    have hpk1 : POk (sentPl P 0 e).g.s := by
      have hb0 : 0 ≤ e.blk := by have := win_nn (W := P.g.s.win) (B := B) (by omega) hT.ok; omega
      refine ⟨⟨pk.fair.m1, pk.fair.m2, pk.fair.B1, pk.fair.B2, pk.fair.W1, pk.fair.W2, pk.fair.c1, pk.fair.c2, pk.fair.t1, pk.fair.t2⟩, pk.nl, pk.lat, pk.nt, pk.ts, ?_, ?_, ?_, pk.cl, pk.cb⟩
      · show (P.g.s.busy.set 0 true).length = 3
        rw [List.length_set]; exact pk.nb
      · show (P.g.s.ers.set 0 e).length = 3
        rw [List.length_set]; exact pk.ne
      · intro x hx
        have hx2 : x ∈ P.g.s.ers.set 0 e := hx
        rcases List.mem_or_eq_of_mem_set hx2 with h1 | rfl
        · exact pk.ers x h1
        · have hp0 := hT.ok.p0
          have hp1 := hT.ok.p1
          have hj := hwok.2.1
          have ho1 : x.blk * P.g.s.blk ≤ 1000 := hj.o1
          have : x.blk ≤ x.blk * P.g.s.blk := by
            have := Int.mul_le_mul_of_nonneg_left hB1 hb0
            omega
          rw [hwok.2.2.1]
          exact ⟨hp0, hp1, hb0, by omega⟩
    have hm1 := hpi.si.fair.m1
    have he : (sentPl P 0 e).g.s.ers[0]? = some e := by
      show (P.g.s.ers.set 0 e)[0]? = some e
      rw [List.getElem?_set, if_pos rfl, if_pos (by rw [pk.ne]; omega)]
    have haw : (sentPl P 0 e).away.getD 0 false = true := by
      show (P.away.set 0 true).getD 0 false = true
      rw [ha]; rfl
    obtain ⟨hEr, hS⟩ := setl_rel (P := sentPl P 0 e) (m := 0) hB hpi1 hpk1 hv hv2 (by show ((0 : Nat) : Int) < P.g.s.mir; omega) haw he
    refine ⟨hS.pi, hS.bl, hS.wi, by rw [hS.aw]; show (P.away.set 0 true).set 0 false = allF; rw [ha]; rfl, Or.inr hS.sn, hS.pa, ⟨hS.pw.n, fun i t t' a b => (hS.pw.a i t t' a b).1⟩, fun _ => ?_, fun hsn => by have h9 : (setlPl (sentPl P 0 e) v 0).sent.length = P.sent.length + 1 := hS.sn; omega⟩
    obtain ⟨t', ht', hr1, hr2, hr3⟩ := hS.pw.get ht
    have hpe : t.path = e.path := by rw [w1]; rfl
    cases hbd : t.bound
    · refine ⟨i, t, t', ht, ht', Or.inl ?_, fun _ => ?_⟩
      all_goals
       have hop := open_of hl hbd
       have htag : e.tag = 0 := by rw [w1]; show t.hd.tag = 0; rw [(hT.op hop).1]
      · exact ⟨hop, by rw [hr1.lost]; exact hl, (hr2 htag hop hpe).1, hS.sn⟩
      · exact (hr2 htag hop hpe).2
    · have hr : Run t := by
        refine ⟨hl, hbd, ?_⟩
        have hk1 := hT.ok.k1
        by_cases hk : t.taken = t.hd.len
        · exfalso
          have hwin : winT B P.g.s.win t = (0, 0) := by unfold winT; rw [hl, hbd, if_neg (by simp), if_neg (by simp), if_pos hk]
          rw [hwin] at w2 w3; simp at w2 w3; omega
        · omega
      have htag : e.tag ≠ 0 := by
        have := (hT.head (KnV_ok B v) hl hbd).1
        rw [w1]; show t.hd.tag ≠ 0; omega
      obtain ⟨hhm, hwt⟩ := hr3 htag
      have hwants : wantsT B P.g.s.win t e = true := by
        unfold wantsT
        rw [hpe, w4]
        have a1 : t.hd.tag = e.tag := by rw [w1]; rfl
        have a2 : t.hd.tot = e.tot := by rw [w1]; rfl
        rw [a1, a2]
        simp [w2, w3]
      refine ⟨i, t, t', ht, ht', Or.inr ⟨hr, hhm, ?_⟩, fun _ => (hwt hwants).2⟩
      rw [hhm.win]
      rcases w5 with w5 | w5
      · rw [← w5]; exact (hwt hwants).1
      · exact hhm.at _ w5

def roundPl (P : Pl) (v : Int) : Pl := takesPl (midPl P v) P.paths.length
def Sh (l : List Tr) : Prop := ∀ t ∈ l, t.bound = true → t.lost = false → t.shown = true
structure Rnd (B v : Int) (n : Nat) (P Q : Pl) : Prop where
  pi : PI (KnV B v) (n + 1 + P.paths.length) Q
  bl : Q.g.s.blk = B
  wi : Q.g.s.win = P.g.s.win
  aw : Q.away = allF
  pa : Q.paths = P.paths
  sh : Sh Q.g.s.trs
  ls : Pw (fun t t' => t'.lost = t.lost) P.g.s.trs Q.g.s.trs
  mu : Sh P.g.s.trs → muL Q.g.s.trs ≤ muL P.g.s.trs ∧ (muL P.g.s.trs ≠ 0 → muL Q.g.s.trs < muL P.g.s.trs)
theorem round_rel {B v : Int} {n : Nat} {P : Pl} (hC : Cl B v n P) (hv : 0 ≤ v) (hv2 : v ≤ 99) : Rnd B v n P (roundPl P v) := by
  have hM := mid_rel hC hv hv2
  have hT : Tkn B v (n + 1) P.paths.length (midPl P v) (roundPl P v) := takes_rel hM.bl hM.pi P.paths.length (by rw [hM.pa]; exact Nat.le_refl _)
  have hB1 := hC.pi.si.fair.B1
  rw [hC.bl] at hB1
  have hlen : (midPl P v).g.s.trs.length = P.paths.length := by rw [hM.pi.ok.n1, hM.pa]
  have hdn : Pw (fun t t' => Dn B P.g.s.win t t') (midPl P v).g.s.trs (roundPl P v).g.s.trs := ⟨hT.nn, fun i t t' h1 h2 => by
    have := hT.dn i t t' h1 h2
    rw [if_pos (by have := (List.getElem?_eq_some_iff.1 h1).1; omega), hM.wi.1] at this
    exact this⟩
  have hTI : ∀ (i : Nat) t, (roundPl P v).g.s.trs[i]? = some t → ∃ T, TI (KnV B v) B (roundPl P v).g.s.win t T := fun i t ht => by
    obtain ⟨T, h2⟩ : ∃ T, (roundPl P v).taken[i]? = some T := ⟨_, List.getElem?_eq_getElem (by rw [hT.pi.si.n]; exact (List.getElem?_eq_some_iff.1 ht).1)⟩
    have := hT.pi.si.ts i t T ht h2
    rw [hT.bl] at this
    exact ⟨T, this⟩
  refine ⟨hT.pi, hT.bl, hT.wi.trans hM.wi.1, hT.aw.trans hM.aw, hT.pa.trans hM.pa, ?_, Pw.trans hM.pw hdn (fun a b c h k => by rw [k.ls, h.lost]), fun hsh => ?_⟩
  · intro t ht hb hl
    obtain ⟨i, hi⟩ := List.getElem?_of_mem ht
    obtain ⟨u, hu, d⟩ := hdn.old hi
    refine d.sh ?_
    unfold openT
    rw [← d.bd, hb]; rfl
  · have hall : Pw (fun t t' => muT t' ≤ muT t) P.g.s.trs (roundPl P v).g.s.trs := by
      refine ⟨hdn.n.trans hM.pw.n, fun i t t' h1 h2 => ?_⟩
      obtain ⟨u, hu, d⟩ := hdn.old h2
      have hr := hM.pw.a i t u h1 hu
      obtain ⟨T, hTT⟩ := hTI i t' h2
      rcases hr with ⟨a, b, c, dd, -⟩ | hm
      · have hop : openT t = true := by
          rcases dd with h | h
          · exact h
          · cases hb : t.bound
            · exact open_of a hb
            · have := hsh t (List.mem_of_getElem? h1) hb a
              rw [h] at this; simp at this
        have h61 : muT t = 61 := by
          unfold openT at hop
          simp at hop
          unfold muT; rw [hop.1, hop.2]; rfl
        rw [h61]; exact muT_le hTT
      · obtain ⟨x, y, e⟩ := hm.e
        unfold muT
        rw [d.ls, d.bd, d.hd, e]
        have h3 : t.taken ≤ t'.taken := by have := d.le; rw [e] at this; exact this
        simp only
        split
        · exact Nat.le_refl _
        · split
          · exact Nat.le_refl _
          · omega
    have key := muL_mono _ _ hall
    refine ⟨key.1, fun hne => key.2 ?_⟩
    obtain ⟨i, t, u, h1, h2, hc, -⟩ := hM.go (Or.inl hne)
    obtain ⟨t', h3, d⟩ := hdn.get h2
    obtain ⟨T, hTT⟩ := hTI i t' h3
    refine ⟨i, t, t', h1, h3, ?_⟩
    rcases hc with ⟨hop, hl, hb, -⟩ | ⟨hr, hm, he⟩
    · have h61 : muT t = 61 := by
        unfold openT at hop
        simp at hop
        unfold muT; rw [hop.1, hop.2]; rfl
      have hl' : t'.lost = false := by rw [d.ls]; exact hl
      have hb' : t'.bound = true := by rw [d.bd]; exact hb
      have := len_le hTT hl' hb'
      have hk := hTT.ok.k0
      rw [h61]
      unfold muT; rw [hl', hb']
      simp
      omega
    · have hru : Run u := by obtain ⟨x, y, e⟩ := hm.e; rw [e]; exact ⟨hr.l, hr.b, hr.k⟩
      have hst := hru.strict (by omega) d he
      rw [muT_run hr]
      unfold muT
      rw [d.ls, d.bd, d.hd, hru.l, hru.b]
      obtain ⟨x, y, e⟩ := hm.e
      have hk := hr.k
      rw [e] at hst ⊢
      have hst' : t.taken < t'.taken := hst
      simp
      omega
end Go.Proofs.Ytjhihliciadipaa
