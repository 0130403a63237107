import Derived.Test.YtjhihliciadipaaK19
set_option linter.unusedVariables false
set_option linter.unusedSimpArgs false
set_option linter.unnecessarySimpa false
namespace Go.Proofs.Ytjhihliciadipaa
open Go.RowKit

/-! The play elsewhere. -/
def Pl.at (P : Pl) (q : Nat) (v : Vs) : Pl := { P with q := q, g := ⟨P.g.s, v⟩ }
theorem lay_at (P : Pl) (v : Vs) : P.lay v = P.at P.q v := rfl
theorem askPl_at (P : Pl) (q : Nat) (v : Vs) (p : Nat) (b : ByteArray) : askPl (P.at q v) p b = (askPl P p b).at q v := by
  show (if P.paths.length < 8 then _ else _) = (if P.paths.length < 8 then _ else _ : Pl).at q v
  split <;> rfl
theorem nextPl_at (P : Pl) (q : Nat) (v : Vs) (m : Nat) : nextPl (P.at q v) m = ((nextPl P m).1.at q v, (nextPl P m).2) := by
  unfold nextPl
  show (if P.away.getD m false then _ else _) = _
  split
  · rfl
  · show (match nextE P.g.s with | none => _ | some e => _) = _
    cases nextE P.g.s <;> rfl
theorem rpPl_at (P : Pl) (q : Nat) (v : Vs) (m : Nat) (r : Rp) : rpPl (P.at q v) m r = (rpPl P m r).at q v := by
  show (if P.away.getD m false then _ else _) = (if P.away.getD m false then _ else _ : Pl).at q v
  split <;> rfl
theorem flPl_at (P : Pl) (q : Nat) (v : Vs) (m : Nat) : flPl (P.at q v) m = (flPl P m).at q v := by
  show (if P.away.getD m false then _ else _) = (if P.away.getD m false then _ else _ : Pl).at q v
  split <;> rfl
theorem takePl_at (P : Pl) (q : Nat) (v : Vs) (ix n : Int) : takePl (P.at q v) ix n = (takePl P ix n).at q v := by
  unfold takePl
  show (if P.paths.length = 0 then _ else _) = _
  split
  · rfl
  · show (match P.g.s.trs[(pickK ix P.paths.length).toNat]? with | some t => _ | none => _) = _
    cases P.g.s.trs[(pickK ix P.paths.length).toNat]? with
    | none => rfl
    | some t =>
      show (if stT t = 1 then _ else _) = (if stT t = 1 then _ else _ : Pl).at q v
      split <;> rfl
theorem stepPl_at (P : Pl) (q : Nat) (v : Vs) (l : List Int) (r : Rp) : stepPl (P.at q v) l r = (stepPl P l r).at q v := by
  unfold stepPl
  have e1 : mirK (P.at q v) (numK l 1) = mirK P (numK l 1) := rfl
  have e2 : badR (P.at q v) l = badR P l := rfl
  rw [askPl_at, nextPl_at, rpPl_at, rpPl_at, flPl_at, takePl_at, e1, e2]
  split
  · rfl
  · split
    · rfl
    · split
      · rfl
      · split
        · split <;> rfl
        · rfl
theorem PI.at {K : Kn} {n : Nat} {P : Pl} (h : PI K n P) (q : Nat) (v : Vs) : PI K n (P.at q v) :=
  ⟨⟨h.ok.bad, h.ok.n1, h.ok.n2, h.ok.n3, h.ok.n8⟩, ⟨h.j.st, h.j.aw, h.j.jb, h.j.pt⟩, h.si, h.jo, h.nj, h.sn, h.dn, h.sd, h.an, h.ej⟩

/-! One step keeps what is so all along. -/
theorem stepPl_PI {K : Kn} {n : Nat} {P : Pl} (h : PI K n P) (pk : POk P.g.s) (hK : KnOk K P.g.s.blk) (l : List Int) (r : Rp)
    (hD : P.away.getD (mirK P (numK l 1)) false = true → ∀ e, P.g.s.ers[mirK P (numK l 1)]? = some e → ∀ r', r' = r ∨ r' = badR P l → sensible P.g.s.blk e r'.tag r'.tot r'.off r'.body.size = true → K.V e.path r'.tag r'.tot ∧ (r'.body.toList.isEmpty = false → K.D ⟨e.path, r'.tag, r'.tot, e.blk⟩ r'.body)) : PI K (n + 1) (stepPl P l r) := by
  obtain ⟨hm, hm3, hmm, m1, m2⟩ := mirK_bd h (numK l 1)
  unfold stepPl
  split
  · have := pickK_bd (numK l 1) 4 (by omega)
    exact (askPl_PI h pk hK _ (by omega) _).up (Nat.le_succ n)
  · split
    · exact (nextPl_PI h pk hK _ hm3).up (Nat.le_succ n)
    · split
      · exact rpPl_PI h pk hK _ hmm r (fun a e b => hD a e b r (Or.inl rfl))
      · split
        · split
          · exact flPl_PI h pk hK _ hmm
          · exact rpPl_PI h pk hK _ hmm _ (fun a e b => hD a e b _ (Or.inr rfl))
        · exact takePl_PI h hK _ _
theorem weak_D {B : Int} {e : Er} {tag tot off : Int} {b : ByteArray} (h : sensible B e tag tot off b.size = true) (h0 : 0 ≤ e.blk) : (KnW B).V e.path tag tot ∧ (b.toList.isEmpty = false → (KnW B).D ⟨e.path, tag, tot, e.blk⟩ b) := by
  unfold sensible fairV at h
  simp at h
  obtain ⟨⟨⟨⟨h1, h2⟩, h3⟩, h4⟩, h5, h6⟩ := h
  exact ⟨⟨h1, h2, h3, h4⟩, fun hne => ⟨⟨h6, ba_pos _ hne, h1⟩, h0⟩⟩
theorem ask_blk (P : Pl) (p : Nat) (b : ByteArray) : (askPl P p b).g.s.blk = P.g.s.blk := by
  unfold askPl
  split
  · show (plookS _).blk = _
    rw [(same_look _).a.2.1]
  · rfl
theorem rp_blk (P : Pl) (m : Nat) (r : Rp) : (rpPl P m r).g.s.blk = P.g.s.blk := by
  unfold rpPl
  split
  · show (replyP P.g.s m r.tag r.tot r.off r.body).blk = _
    unfold replyP
    split
    · rw [(same_look _).a.2.1, (same_answ _ _ _ _ _ _).a.2.1]; rfl
    · rfl
  · rfl
theorem fl_blk (P : Pl) (m : Nat) : (flPl P m).g.s.blk = P.g.s.blk := by
  unfold flPl
  split
  · show (failP P.g.s m).blk = _
    unfold failP
    split
    · rw [(same_look _).a.2.1, (same_failed _ _).a.2.1]; rfl
    · rfl
  · rfl
theorem tk_blk (P : Pl) (ix n : Int) : (takePl P ix n).g.s.blk = P.g.s.blk := by
  unfold takePl
  split
  · rfl
  · split
    · split
      · rfl
      · show (ptakeS P.g.s _ _).blk = _
        unfold ptakeS
        split
        · split
          · rfl
          · split
            · rfl
            · split
              · rfl
              · rw [(same_look _).a.2.1]; rfl
        · rfl
    · rfl
theorem next_blk (P : Pl) (m : Nat) : (nextPl P m).1.g.s.blk = P.g.s.blk := by
  unfold nextPl
  split
  · rfl
  · cases nextE P.g.s <;> rfl
theorem step_blk (P : Pl) (l : List Int) (r : Rp) : (stepPl P l r).g.s.blk = P.g.s.blk := by
  unfold stepPl
  split
  · exact ask_blk _ _ _
  · split
    · exact next_blk _ _
    · split
      · exact rp_blk _ _ _
      · split
        · split
          · exact fl_blk _ _
          · exact rp_blk _ _ _
        · exact tk_blk _ _ _
theorem step_weak {n : Nat} {P : Pl} (h : PI (KnW P.g.s.blk) n P) (pk : POk P.g.s) (l : List Int) (r : Rp) : PI (KnW (stepPl P l r).g.s.blk) (n + 1) (stepPl P l r) := by
  rw [step_blk]
  exact stepPl_PI h pk (KnW_ok _) l r (fun _ e he r' _ hs => weak_D hs (pk.ers e (List.mem_of_getElem? he)).2.2.1)

/-! How much was replied: half as much as steps were made. -/
def cntA (l : List Bool) : Nat := (l.filter (fun b => b)).length
theorem cnt_on : ∀ (l : List Bool) (m : Nat), cntA (l.set m true) ≤ cntA l + 1
  | [], m => by simp [cntA]
  | a :: l, 0 => by cases a <;> simp [cntA]
  | a :: l, m + 1 => by
    have := cnt_on l m
    cases a <;> simp [cntA] at * <;> omega
theorem cnt_off : ∀ (l : List Bool) (m : Nat), l.getD m false = true → cntA (l.set m false) + 1 ≤ cntA l
  | [], m, h => by simp at h
  | a :: l, 0, h => by
    simp at h
    subst h
    simp [cntA]
  | a :: l, m + 1, h => by
    have := cnt_off l m (by simpa using h)
    cases a <;> simp [cntA] at * <;> omega
def SnOk (j : Nat) (P : Pl) : Prop := 2 * P.sent.length + cntA P.away ≤ j
theorem SnOk.up {j : Nat} {P : Pl} (h : SnOk j P) : SnOk (j + 1) P := Nat.le_succ_of_le h
theorem SnOk.rp {j : Nat} {P : Pl} (h : SnOk j P) (m : Nat) (r : Rp) : SnOk (j + 1) (rpPl P m r) := by
  unfold rpPl
  cases ha : P.away.getD m false
  · exact h.up
  · have h1 := cnt_off _ _ ha
    unfold SnOk at *
    show 2 * (P.sent ++ [r]).length + cntA (P.away.set m false) ≤ j + 1
    rw [List.length_append, List.length_singleton]
    omega
theorem SnOk.step {j : Nat} {P : Pl} (h : SnOk j P) (l : List Int) (r : Rp) : SnOk (j + 1) (stepPl P l r) := by
  unfold stepPl
  split
  · unfold askPl
    split
    · exact h.up
    · exact h.up
  · split
    · unfold nextPl
      split
      · exact h.up
      · cases nextE P.g.s with
        | none => exact h.up
        | some e =>
          have h1 := cnt_on P.away (mirK P (numK l 1))
          unfold SnOk at *
          show 2 * P.sent.length + cntA (P.away.set (mirK P (numK l 1)) true) ≤ j + 1
          omega
    · split
      · exact h.rp _ _
      · split
        · split
          · unfold flPl
            cases ha : P.away.getD (mirK P (numK l 1)) false
            · exact h.up
            · have h1 := cnt_off _ _ ha
              unfold SnOk at *
              show 2 * P.sent.length + cntA (P.away.set (mirK P (numK l 1)) false) ≤ j + 1
              omega
          · exact h.rp _ _
        · unfold takePl
          split
          · exact h.up
          · split
            · split
              · exact h.up
              · exact h.up
            · exact h.up
theorem SnOk.at {j : Nat} {P : Pl} (h : SnOk j P) (q : Nat) (v : Vs) : SnOk j (P.at q v) := h
theorem SnOk.le {j : Nat} {P : Pl} (h : SnOk j P) (hj : 4 * j ≤ 17592186044419) : P.sent.length ≤ 2500000000000 := by unfold SnOk at h; omega
theorem snNew (q : Nat) (s : St) : SnOk 0 (newPl q s) := by unfold SnOk; exact Nat.le_of_eq rfl

/-! All of them. -/
def chunk (l : List Int) (j : Nat) : List Int := (l.drop (4 * j)).take 4
/-- The list lies outside the play. -/
structure IntsO (w : World) (v : Value) (l : List Int) (col : Nat → Nat) (k : Nat) : Prop where
  a : IntsAt w v l
  o : l ≠ [] → ∀ a n c, v = .slice (some a) n c → ¬ (k ≤ col a.block ∧ col a.block ≤ k + 6)
theorem add_block (a : Addr) (j : Nat) : (a.add j).block = a.block := by unfold Addr.add; split <;> rfl
theorem add_add (a : Addr) (i j : Nat) : (a.add i).add j = a.add (i + j) := by
  unfold Addr.add
  by_cases hi : i = 0
  · subst hi; simp
  · by_cases hj : j = 0
    · subst hj; simp
    · simp [hi, hj]; omega
theorem IntsO.st {w w' : World} {v : Value} {l : List Int} {col col' : Nat → Nat} {k : Nat} {S : Nat → Prop} (h : IntsO w v l col k) (hs : Chg S w w') (hS : ∀ b, b < w.heap.size → S b → k ≤ col b ∧ col b ≤ k + 6) (hc : ∀ b, b < w.heap.size → col' b = col b) : IntsO w' v l col' k := by
  obtain ⟨⟨a, cap, rfl, hc0, hl⟩, ho⟩ := h
  by_cases hn : l = []
  · subst hn
    exact ⟨⟨a, cap, rfl, hc0, fun e => absurd rfl e⟩, fun e => absurd rfl e⟩
  · obtain ⟨ad, rfl, hcell⟩ := hl hn
    have h0 := ho hn ad _ _ rfl
    obtain ⟨x, hx⟩ : ∃ x, l[0]? = some x := ⟨_, List.getElem?_eq_getElem (List.length_pos_iff.2 hn)⟩
    have hlt := World.block_lt_of_cell? w _ (hcell 0 x hx)
    rw [add_block] at hlt
    refine ⟨⟨_, cap, rfl, hc0, fun _ => ⟨ad, rfl, fun j x hj => chg_cell hs (hcell j x hj) (by rw [add_block]; exact fun e => h0 (hS _ hlt e))⟩⟩, ?_⟩
    intro _ a n c e
    simp at e
    obtain ⟨rfl, -, -⟩ := e
    rw [hc _ hlt]; exact h0
theorem IntsO.stk {w w' : World} {v : Value} {l : List Int} {col col' : Nat → Nat} {k : Nat} (h : IntsO w v l col k) (hs : StK w w' col col' k) : IntsO w' v l col' k := h.st hs.chg (fun _ _ e => e) hs.col
theorem chunk_len (l : List Int) (j : Nat) : (chunk l j).length = min 4 (l.length - 4 * j) := by unfold chunk; simp
theorem chunk_i64 {l : List Int} (h : ∀ x ∈ l, I64 x) (j : Nat) : ∀ x ∈ chunk l j, I64 x := fun x hx => h x (List.mem_of_mem_drop (List.mem_of_mem_take hx))
theorem chunk_at {w : World} {ad : Addr} {cap : Nat} {l : List Int} (hcell : ∀ (j : Nat) x, l[j]? = some x → w.cell? (ad.add j) = some (.int .i64 x)) (hc : l.length ≤ cap) (j n c : Nat) (hn : n = (chunk l j).length) (hcc : n ≤ c) : IntsAt w (.slice (some (ad.add (4 * j))) n c) (chunk l j) := by
  subst hn
  refine ⟨_, _, rfl, hcc, fun _ => ⟨_, rfl, fun i x hi => ?_⟩⟩
  rw [add_add]
  unfold chunk at hi
  have hi4 : i < 4 := by
    rcases Nat.lt_or_ge i 4 with h4 | h4
    · exact h4
    · rw [List.getElem?_eq_none (by simp; omega)] at hi; simp at hi
  rw [List.getElem?_take_of_lt hi4, List.getElem?_drop] at hi
  exact hcell _ x hi
end Go.Proofs.Ytjhihliciadipaa
