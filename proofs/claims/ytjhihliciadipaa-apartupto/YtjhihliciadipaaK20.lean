import Derived.Test.YtjhihliciadipaaK19
set_option linter.unusedVariables false
set_option linter.unusedSimpArgs false
set_option linter.unnecessarySimpa false
namespace Go.Proofs.Ytjhihliciadipaa
open Go.RowKit

/-! The play elsewhere. -/
def Pl.at (P : Pl) (q : Nat) (v : Vs) : Pl := { P with q := q, g := ⟨P.g.s, v⟩ }
theorem lay_at (P : Pl) (v : Vs) : P.lay v = P.at P.q v := rfl
theorem askPl_at (P : Pl) (q : Nat) (v : Vs) (p : Nat) (b : ByteArray) : askPl (P.at q v) p b = (askPl P p b).at q v := by
  show (if P.paths.length < 8 then _ else _) = (if P.paths.length < 8 then _ else _ : Pl).at q v
  split <;> rfl
theorem nextPl_at (P : Pl) (q : Nat) (v : Vs) (m : Nat) : nextPl (P.at q v) m = ((nextPl P m).1.at q v, (nextPl P m).2) := by
  unfold nextPl
  show (if P.away.getD m false then _ else _) = _
  split
  · rfl
  · show (match nextE P.g.s with | none => _ | some e => _) = _
    cases nextE P.g.s <;> rfl
theorem rpPl_at (P : Pl) (q : Nat) (v : Vs) (m : Nat) (r : Rp) : rpPl (P.at q v) m r = (rpPl P m r).at q v := by
  show (if P.away.getD m false then _ else _) = (if P.away.getD m false then _ else _ : Pl).at q v
  split <;> rfl
theorem flPl_at (P : Pl) (q : Nat) (v : Vs) (m : Nat) : flPl (P.at q v) m = (flPl P m).at q v := by
  show (if P.away.getD m false then _ else _) = (if P.away.getD m false then _ else _ : Pl).at q v
  split <;> rfl
theorem takePl_at (P : Pl) (q : Nat) (v : Vs) (ix n : Int) : takePl (P.at q v) ix n = (takePl P ix n).at q v := by
  unfold takePl
  show (if P.paths.length = 0 then _ else _) = _
  split
  · rfl
  · show (match P.g.s.trs[(pickK ix P.paths.length).toNat]? with | some t => _ | none => _) = _
    cases P.g.s.trs[(pickK ix P.paths.length).toNat]? with
    | none => rfl
    | some t =>
      show (if stT t = 1 then _ else _) = (if stT t = 1 then _ else _ : Pl).at q v
      split <;> rfl
theorem stepPl_at (P : Pl) (q : Nat) (v : Vs) (l : List Int) (r : Rp) : stepPl (P.at q v) l r = (stepPl P l r).at q v := by
  unfold stepPl
  have e1 : mirK (P.at q v) (numK l 1) = mirK P (numK l 1) := rfl
  have e2 : badR (P.at q v) l = badR P l := rfl
  rw [askPl_at, nextPl_at, rpPl_at, rpPl_at, flPl_at, takePl_at, e1, e2]
  split
  · rfl
  · split
    · rfl
    · split
      · rfl
      · split
        · split <;> rfl
        · rfl
theorem PI.at {K : Kn} {n : Nat} {P : Pl} (h : PI K n P) (q : Nat) (v : Vs) : PI K n (P.at q v) :=
  ⟨⟨h.ok.bad, h.ok.n1, h.ok.n2, h.ok.n3, h.ok.n8⟩, ⟨h.j.st, h.j.aw, h.j.jb, h.j.pt⟩, h.si, h.jo, h.nj, h.sn, h.dn, h.sd, h.an, h.ej⟩

/-! One step keeps what is so all along. -/
theorem stepPl_PI {K : Kn} {n : Nat} {P : Pl} (h : PI K n P) (pk : POk P.g.s) (hK : KnOk K P.g.s.blk) (l : List Int) (r : Rp)
    (hD : P.away.getD (mirK P (numK l 1)) false = true → ∀ e, P.g.s.ers[mirK P (numK l 1)]? = some e → ∀ r', r' = r ∨ r' = badR P l → sensible P.g.s.blk e r'.tag r'.tot r'.off r'.body.size = true → K.V e.path r'.tag r'.tot ∧ (r'.body.toList.isEmpty = false → K.D ⟨e.path, r'.tag, r'.tot, e.blk⟩ r'.body)) : PI K (n + 1) (stepPl P l r) := by
  obtain ⟨hm, hm3, hmm, m1, m2⟩ := mirK_bd h (numK l 1)
  unfold stepPl
  split
  · have := pickK_bd (numK l 1) 4 (by omega)
    exact (askPl_PI h pk hK _ (by omega) _).up (Nat.le_succ n)
  · split
    · exact (nextPl_PI h pk hK _ hm3).up (Nat.le_succ n)
    · split
      · exact rpPl_PI h pk hK _ hmm r (fun a e b => hD a e b r (Or.inl rfl))
      · split
        · split
          · exact flPl_PI h pk hK _ hmm
          · exact rpPl_PI h pk hK _ hmm _ (fun a e b => hD a e b _ (Or.inr rfl))
        · exact takePl_PI h hK _ _
theorem weak_D {B : Int} {e : Er} {tag tot off : Int} {b : ByteArray} (h : sensible B e tag tot off b.size = true) (h0 : 0 ≤ e.blk) : (KnW B).V e.path tag tot ∧ (b.toList.isEmpty = false → (KnW B).D ⟨e.path, tag, tot, e.blk⟩ b) := by
  unfold sensible fairV at h
  simp at h
  obtain ⟨⟨⟨⟨h1, h2⟩, h3⟩, h4⟩, h5, h6⟩ := h
  exact ⟨⟨h1, h2, h3, h4⟩, fun hne => ⟨⟨h6, ba_pos _ hne, h1⟩, h0⟩⟩
theorem ask_blk (P : Pl) (p : Nat) (b : ByteArray) : (askPl P p b).g.s.blk = P.g.s.blk := by
  unfold askPl
  split
  · show (plookS _).blk = _
    rw [(same_look _).a.2.1]
  · rfl
theorem rp_blk (P : Pl) (m : Nat) (r : Rp) : (rpPl P m r).g.s.blk = P.g.s.blk := by
  unfold rpPl
  split
  · show (replyP P.g.s m r.tag r.tot r.off r.body).blk = _
    unfold replyP
    split
    · rw [(same_look _).a.2.1, (same_answ _ _ _ _ _ _).a.2.1]; rfl
    · rfl
  · rfl
theorem fl_blk (P : Pl) (m : Nat) : (flPl P m).g.s.blk = P.g.s.blk := by
  unfold flPl
  split
  · show (failP P.g.s m).blk = _
    unfold failP
    split
    · rw [(same_look _).a.2.1, (same_failed _ _).a.2.1]; rfl
    · rfl
  · rfl
theorem tk_blk (P : Pl) (ix n : Int) : (takePl P ix n).g.s.blk = P.g.s.blk := by
  unfold takePl
  split
  · rfl
  · split
    · split
      · rfl
      · show (ptakeS P.g.s _ _).blk = _
        unfold ptakeS
        split
        · split
          · rfl
          · split
            · rfl
            · split
              · rfl
              · rw [(same_look _).a.2.1]; rfl
        · rfl
    · rfl
theorem next_blk (P : Pl) (m : Nat) : (nextPl P m).1.g.s.blk = P.g.s.blk := by
  unfold nextPl
  split
  · rfl
  · cases nextE P.g.s <;> rfl
theorem step_blk (P : Pl) (l : List Int) (r : Rp) : (stepPl P l r).g.s.blk = P.g.s.blk := by
  unfold stepPl
  split
  · exact ask_blk _ _ _
  · split
    · exact next_blk _ _
    · split
      · exact rp_blk _ _ _
      · split
        · split
          · exact fl_blk _ _
          · exact rp_blk _ _ _
        · exact tk_blk _ _ _
theorem step_weak {n : Nat} {P : Pl} (h : PI (KnW P.g.s.blk) n P) (pk : POk P.g.s) (l : List Int) (r : Rp) : PI (KnW (stepPl P l r).g.s.blk) (n + 1) (stepPl P l r) := by
  rw [step_blk]
  exact stepPl_PI h pk (KnW_ok _) l r (fun _ e he r' _ hs => weak_D hs (pk.ers e (List.mem_of_getElem? he)).2.2.1)

/-! All of them. -/
def chunk (l : List Int) (j : Nat) : List Int := (l.drop (4 * j)).take 4
/-- The list lies outside the play. -/
structure IntsO (w : World) (v : Value) (l : List Int) (col : Nat → Nat) (k : Nat) : Prop where
  a : IntsAt w v l
  o : l ≠ [] → ∀ a n c, v = .slice (some a) n c → ¬ (k ≤ col a.block ∧ col a.block ≤ k + 6)
theorem add_block (a : Addr) (j : Nat) : (a.add j).block = a.block := by unfold Addr.add; split <;> rfl
theorem add_add (a : Addr) (i j : Nat) : (a.add i).add j = a.add (i + j) := by
  unfold Addr.add
  by_cases hi : i = 0
  · subst hi; simp
  · by_cases hj : j = 0
    · subst hj; simp
    · simp [hi, hj]; omega
theorem IntsO.st {w w' : World} {v : Value} {l : List Int} {col col' : Nat → Nat} {k : Nat} {S : Nat → Prop} (h : IntsO w v l col k) (hs : Chg S w w') (hS : ∀ b, b < w.heap.size → S b → k ≤ col b ∧ col b ≤ k + 6) (hc : ∀ b, b < w.heap.size → col' b = col b) : IntsO w' v l col' k := by
  obtain ⟨⟨a, cap, rfl, hc0, hl⟩, ho⟩ := h
  by_cases hn : l = []
  · subst hn
    exact ⟨⟨a, cap, rfl, hc0, fun e => absurd rfl e⟩, fun e => absurd rfl e⟩
  · obtain ⟨ad, rfl, hcell⟩ := hl hn
    have h0 := ho hn ad _ _ rfl
    obtain ⟨x, hx⟩ : ∃ x, l[0]? = some x := ⟨_, List.getElem?_eq_getElem (List.length_pos_iff.2 hn)⟩
    have hlt := World.block_lt_of_cell? w _ (hcell 0 x hx)
    rw [add_block] at hlt
    refine ⟨⟨_, cap, rfl, hc0, fun _ => ⟨ad, rfl, fun j x hj => chg_cell hs (hcell j x hj) (by rw [add_block]; exact fun e => h0 (hS _ hlt e))⟩⟩, ?_⟩
    intro _ a n c e
    simp at e
    obtain ⟨rfl, -, -⟩ := e
    rw [hc _ hlt]; exact h0
theorem IntsO.stk {w w' : World} {v : Value} {l : List Int} {col col' : Nat → Nat} {k : Nat} (h : IntsO w v l col k) (hs : StK w w' col col' k) : IntsO w' v l col' k := h.st hs.chg (fun _ _ e => e) hs.col
theorem chunk_len (l : List Int) (j : Nat) : (chunk l j).length = min 4 (l.length - 4 * j) := by unfold chunk; simp
theorem chunk_i64 {l : List Int} (h : ∀ x ∈ l, I64 x) (j : Nat) : ∀ x ∈ chunk l j, I64 x := fun x hx => h x (List.mem_of_mem_drop (List.mem_of_mem_take hx))
theorem chunk_at {w : World} {ad : Addr} {cap : Nat} {l : List Int} (hcell : ∀ (j : Nat) x, l[j]? = some x → w.cell? (ad.add j) = some (.int .i64 x)) (hc : l.length ≤ cap) (j n c : Nat) (hn : n = (chunk l j).length) (hcc : n ≤ c) : IntsAt w (.slice (some (ad.add (4 * j))) n c) (chunk l j) := by
  subst hn
  refine ⟨_, _, rfl, hcc, fun _ => ⟨_, rfl, fun i x hi => ?_⟩⟩
  rw [add_add]
  unfold chunk at hi
  have hi4 : i < 4 := by
    rcases Nat.lt_or_ge i 4 with h4 | h4
    · exact h4
    · rw [List.getElem?_eq_none (by simp; omega)] at hi; simp at hi
  rw [List.getElem?_take_of_lt hi4, List.getElem?_drop] at hi
  exact hcell _ x hi

set_option maxRecDepth 100000 in
set_option maxHeartbeats 4000000 in
theorem steps_any (y : Nat) (col : Nat → Nat) (k : Nat) (P : Pl) (V : Pv) (l : List Int) (v : Value) (lies : Bool) (w : World) (Inv : Nat → Pl → Prop) (hw : ∀ j P, Inv j P → PI (KnW P.g.s.blk) j P) (hat : ∀ j P v, Inv j P → Inv j (P.lay v))
    (hs : ∀ j P r, Inv j P → POk P.g.s → 4 * j < l.length → r.body.size ≤ 1000 → (lies = false → r = honR P (chunk l j)) → Inv (j + 1) (stepPl P (chunk l j) r))
    (h : PlAt w y col k P V) (h0 : Inv 0 P) (hk1 : 1 ≤ k) (hv : IntsO w v l col k) (hl : l.length ≤ 1048576) (hi : ∀ x ∈ l, I64 x) :
    Calls Try.prog 23 #[.pointer (some ⟨y, 0, none⟩), v, .bool lies] w fun e w' => e = .returned (.tuple #[]) ∧ ∃ j, l.length ≤ 4 * j ∧ 4 * j ≤ l.length + 3 ∧ ∃ P', Inv j P' ∧ PlTo w w' y col k P' := by
  have H0 := hide h0
  have HW := hide hw
  have HA := hide hat
  have HS := hide hs
  have HV := hide hv
  have H := hide h
  have HI := hide hi
  obtain ⟨⟨a, cap, hve, hcap, hcell⟩, hvo⟩ := hv
  subst hve
  clear h h0 hw hat hs hvo hi
  go_enter Try.func23, Try.ntmps23
  go_wp2_with fail
  go_loopw [6] (fun i wr => ∃ j : Nat, i = .int .i64 (4 * j : Nat) ∧ 4 * j ≤ l.length + 3 ∧ Hid (∃ P', Inv j P' ∧ PlTo w wr y col k P')) (fun i _ => l.length + 4 - (intOf i).toNat)
  case atStart => exact ⟨0, rfl, by omega, P, H0.out, PlTo.refl H.out⟩
  case round =>
    obtain ⟨j, rfl, hj, HP⟩ := hrel
    obtain ⟨P', hI', col', V', v', hL', hS'⟩ := HP.out
    by_cases hlt : 4 * j < l.length
    · obtain ⟨ad, rfl, hc⟩ := hcell (by intro e; rw [e] at hlt; simp at hlt)
      have hIQ := HA.out j P' v' hI'
      have hwk := HW.out j _ hIQ
      generalize P'.lay v' = Q at *
      have c29 : wr.cell? ⟨y, 29, none⟩ = some (.bool false) := by rw [← hwk.ok.bad]; exact hL'.cEnd 5
      have hvr := (HV.out.stk hS').a
      have hcr : ∀ (j : Nat) x, l[j]? = some x → wr.cell? (ad.add j) = some (.int .i64 x) := by
        obtain ⟨a2, cap2, e2, -, hc2⟩ := hvr
        obtain ⟨ad2, e3, hc3⟩ := hc2 (by intro e; rw [e] at hlt; simp at hlt)
        simp at e2
        obtain ⟨rfl, -⟩ := e2
        simp at e3; subst e3; exact hc3
      have hlen := chunk_len l j
      have HST := hide (fun n c (hn : n = (chunk l j).length) (hcc : n ≤ c) => step_any y col' k _ j Q V' (chunk l j) (.slice (some (ad.add (4 * j))) n c) lies wr hL' hwk (KnW_ok _) (by omega) hk1 (chunk_at hcr hcap j n c hn hcc) (by omega) (chunk_i64 HI.out j))
      have HNX := hide (fun r => HS.out j Q r hIQ (hL'.pg id).1.ok hlt)
      have HSS := hide hS'
      have hlt' : ((4 * j : Nat) : Int) < l.length := by omega
      clear hcr hvr hIQ hwk hL' hS' hI' HP hc
      by_cases h4 : 4 * j + 4 ≤ l.length
      · have h4' : ¬ (l.length : Int) < (4 * j : Nat) + 4 := by omega
        have HSX := HST.out 4 (cap - 4 * j) (by omega) (by omega)
        go_wp2_with fail
        refine HSX.mono ?_
        rintro e w2 ⟨rfl, r, hr1, hr2, hT⟩
        have hIn := HNX.out r hr1 hr2
        have HQ : Hid (∃ P', Inv (j + 1) P' ∧ PlTo w w2 y col k P') := ⟨_, hIn, PlTo.trans HSS.out hT⟩
        clear HSX HST HNX hIn hT
        go_wp2_with fail
        exact ⟨⟨j + 1, by go_num, by omega, HQ⟩, by simp [intOf]; omega⟩
      · have h4' : (l.length : Int) < (4 * j : Nat) + 4 := by omega
        have HSX := HST.out (l.length - 4 * j) (cap - 4 * j) (by omega) (by omega)
        go_wp2_with fail
        refine HSX.mono ?_
        rintro e w2 ⟨rfl, r, hr1, hr2, hT⟩
        have hIn := HNX.out r hr1 hr2
        have HQ : Hid (∃ P', Inv (j + 1) P' ∧ PlTo w w2 y col k P') := ⟨_, hIn, PlTo.trans HSS.out hT⟩
        clear HSX HST HNX hIn hT
        go_wp2_with fail
        exact ⟨⟨j + 1, by go_num, by omega, HQ⟩, by simp [intOf]; omega⟩
    · go_wp2_with fail
      go_end0
      exact ⟨rfl, j, by omega, hj, P', hI', col', V', v', hL', hS'⟩
end Go.Proofs.Ytjhihliciadipaa
