import Derived.Test.YtjhihliciadipaaKW
import Derived.Test.YtjhihliciadipaaK20s
set_option linter.unusedVariables false
set_option linter.unusedSimpArgs false
set_option linter.unnecessarySimpa false
namespace Go.Proofs.Ytjhihliciadipaa
open Go.RowKit

/-! Several plays beside one another. -/
theorem PlX.stay2 {S : Nat → Prop} {w w' : World} {y : Nat} {col col' : Nat → Nat} {k : Nat} {P : Pl} {V : Pv} {X : Nat → Prop} (h : PlX w y col k P V X) (hc : Chg S w w') (hS : ∀ b, b < w.heap.size → S b → X (col b)) (hcol : ∀ b, b < w.heap.size → col' b = col b) :
    PlX w' y col' k P V X := by
  have own : ∀ {e : TypeId} {sz : Nat} {v : Value} {n : Nat} {xs : List Value} (d : Nat), (¬ X d → w.ownsRow 0 e sz v n xs ∧ ∀ b, v.ownBlock = some b → col b = d) → ¬ X d →
      w'.ownsRow 0 e sz v n xs ∧ ∀ b, v.ownBlock = some b → col' b = d := by
    intro e sz v n xs d hh hx
    obtain ⟨h1, h2⟩ := hh hx
    refine ⟨own_chg h1 hc (fun b hb hs => hx ?_), fun b hb => ?_⟩
    · have := hS b (h1.lt b hb).2 hs; rwa [h2 b hb] at this
    · rw [hcol _ (h1.lt b hb).2]; exact h2 b hb
  refine ⟨Nat.lt_of_lt_of_le h.lt hc.size, by rw [hcol _ h.lt]; exact h.c0, fun hx => (h.blk hx).chg hc (fun hs => hx (by have := hS y h.lt hs; rwa [h.c0] at this)), own _ h.pp, own _ h.tt, own _ h.kk, own _ h.ss, own _ h.oo,
    fun hx => ?_, h.nj, h.na⟩
  obtain ⟨h1, h2⟩ := h.pg hx
  refine ⟨h1.chg hc (fun b hb hs => hx ?_), fun b hb => ?_⟩
  · have := hS b (h1.lt b hb) hs; rwa [h2 b hb] at this
  · rw [hcol _ (h1.lt b hb)]; exact h2 b hb
theorem PlX.other {w w' : World} {y : Nat} {col col' : Nat → Nat} {k k2 : Nat} {P : Pl} {V : Pv} (h : PlAt w y col k P V) (hS : StK w w' col col' k2) (hk : k + 6 < k2 ∨ k2 + 6 < k) : PlAt w' y col' k P V := by
  have h2 := (h.weaken (Y := fun c => k2 ≤ c ∧ c ≤ k2 + 6) (fun _ e => e.elim)).stay2 hS.chg (fun _ _ e => e) hS.col
  exact ⟨h2.lt, h2.c0, fun _ => h2.blk (by omega), fun _ => h2.pp (by omega), fun _ => h2.tt (by omega), fun _ => h2.kk (by omega), fun _ => h2.ss (by omega), fun _ => h2.oo (by omega), fun _ => h2.pg (by omega), h2.nj, h2.na⟩
theorem PlX.extC {w w' : World} {y : Nat} {col col' : Nat → Nat} {k : Nat} {P : Pl} {V : Pv} (h : PlAt w y col k P V) (hE : Ext w w') (hcol : ∀ b, b < w.heap.size → col' b = col b) : PlAt w' y col' k P V :=
  h.stay2 (S := fun _ => False) (Chg.of_ext hE) (fun _ _ f => f.elim) hcol
/-- What came in is as it was, and has the colour 0. -/
structure FrZ (w wr : World) (col : Nat → Nat) : Prop where
  ext : Ext w wr
  z : ∀ b, b < w.heap.size → col b = 0
theorem FrZ.stk {w wr wr' : World} {col col' : Nat → Nat} {k : Nat} (h : FrZ w wr col) (hS : StK wr wr' col col' k) (hk : 1 ≤ k) : FrZ w wr' col' :=
  ⟨⟨hS.chg.os.trans h.ext.os, hS.chg.tape.trans h.ext.tape, hS.chg.output.trans h.ext.output, Nat.le_trans h.ext.size hS.chg.size, fun b hb =>
    (hS.chg.block b (Nat.lt_of_lt_of_le hb h.ext.size) (by rw [h.z b hb]; omega)).trans (h.ext.block b hb)⟩, fun b hb => by rw [hS.col b (Nat.lt_of_lt_of_le hb h.ext.size)]; exact h.z b hb⟩
theorem FrZ.extC {w wr wr' : World} {col col' : Nat → Nat} (h : FrZ w wr col) (hE : Ext wr wr') (hcol : ∀ b, b < wr.heap.size → col' b = col b) : FrZ w wr' col' :=
  ⟨Ext.trans' h.ext hE, fun b hb => by rw [hcol b (Nat.lt_of_lt_of_le hb h.ext.size)]; exact h.z b hb⟩
theorem FrZ.ints {w wr : World} {col : Nat → Nat} {v : Value} {l : List Int} (h : FrZ w wr col) (hv : IntsAt w v l) (k : Nat) (hk : 1 ≤ k) : IntsO wr v l col k := by
  refine ⟨hv.ext h.ext, fun hn a n c e => ?_⟩
  obtain ⟨a2, cap, e2, -, hc⟩ := hv
  obtain ⟨ad, rfl, hcell⟩ := hc hn
  rw [e2] at e
  simp at e
  obtain ⟨rfl, -⟩ := e
  obtain ⟨x, hx⟩ : ∃ x, l[0]? = some x := ⟨_, List.getElem?_eq_getElem (List.length_pos_iff.2 hn)⟩
  have hlt := World.block_lt_of_cell? w _ (hcell 0 x hx)
  rw [add_block] at hlt
  rw [h.z _ hlt]; omega
theorem colY_old (w : World) (col : Nat → Nat) (y k : Nat) (b : Nat) (hb : b < w.heap.size) : colY w col y k b = col b := by unfold colY; rw [if_pos hb]

/-! The play of a script, as a plain function. -/
def partF (l : List Int) (t : Nat) (P : Pl) : Pl := if 4 * t < l.length then stepPl P (chunk l t) (honR P (chunk l t)) else P
def runF (P0 : Pl) (l : List Int) : Nat → Pl
  | 0 => P0
  | t + 1 => partF l t (runF P0 l t)
theorem partF_at (l : List Int) (t : Nat) (P : Pl) (q : Nat) (v : Vs) : partF l t (P.at q v) = (partF l t P).at q v := by
  have e : honR (P.at q v) (chunk l t) = honR P (chunk l t) := rfl
  unfold partF
  rw [stepPl_at, e]
  split <;> rfl
theorem runF_end (P0 : Pl) (l : List Int) (j t : Nat) (hj : l.length ≤ 4 * j) (hjt : j ≤ t) : runF P0 l t = runF P0 l j := by
  induction t with
  | zero => have : j = 0 := by omega
            rw [this]
  | succ t ih =>
    by_cases h : j = t + 1
    · rw [h]
    · rw [← ih (by omega)]
      show partF l t (runF P0 l t) = _
      unfold partF
      rw [if_neg (by omega)]
theorem partF_PI {n : Nat} {P : Pl} (h : PI (KnW P.g.s.blk) n P) (pk : POk P.g.s) (l : List Int) (t : Nat) : PI (KnW (partF l t P).g.s.blk) (n + 1) (partF l t P) := by
  unfold partF
  split
  · exact step_weak h pk _ _
  · exact h.up (Nat.le_succ n)

theorem partF_sn {j : Nat} {P : Pl} (h : SnOk j P) (l : List Int) (t : Nat) : SnOk (j + 1) (partF l t P) := by
  unfold partF
  split
  · exact h.step _ _
  · exact h.up
theorem runF_sn (q : Nat) (s : St) (l : List Int) : ∀ t, SnOk t (runF (newPl q s) l t)
  | 0 => snNew q s
  | t + 1 => partF_sn (runF_sn q s l t) l t

set_option maxRecDepth 100000 in
set_option maxHeartbeats 4000000 in
theorem ypart_any (y : Nat) (col : Nat → Nat) (k : Nat) (n : Nat) (P : Pl) (V : Pv) (l : List Int) (v : Value) (t : Nat) (w : World) (h : PlAt w y col k P V) (hI : PI (KnW P.g.s.blk) n P) (hn : n ≤ 9000000000000) (hs : P.sent.length ≤ 3000000000000) (hk1 : 1 ≤ k) (hv : IntsAt w v l) (hl : l.length ≤ 17592186044416) (hi : ∀ x ∈ l, I64 x) (ht : t ≤ 5000000000000) :
    Calls Try.prog 29 #[.pointer (some ⟨y, 0, none⟩), v, .int .i64 (4 * t : Nat)] w fun e w' => e = .returned (.tuple #[]) ∧ PlTo w w' y col k (partF l t P) := by
  obtain ⟨a, cap, rfl, hcap, hcell⟩ := hv
  have c29 : w.cell? ⟨y, 29, none⟩ = some (.bool false) := by rw [← hI.ok.bad]; exact h.cEnd 5
  by_cases hlt : 4 * t < l.length
  · have hP : partF l t P = stepPl P (chunk l t) (honR P (chunk l t)) := by unfold partF; rw [if_pos hlt]
    rw [hP]
    obtain ⟨ad, rfl, hc⟩ := hcell (by intro e; rw [e] at hlt; simp at hlt)
    have hlen := chunk_len l t
    have HST := hide (fun n' c (hn' : n' = (chunk l t).length) (hcc : n' ≤ c) => step_any y col k _ n P V (chunk l t) (.slice (some (ad.add (4 * t))) n' c) false w h hI (KnW_ok _) hn hs hk1 (chunk_at hc hcap t n' c hn' hcc) (by omega) (chunk_i64 hi t))
    have hlt' : ((4 * t : Nat) : Int) < l.length := by omega
    clear hP h hI hcell
    by_cases h4 : 4 * t + 4 ≤ l.length
    · have h4' : ¬ (l.length : Int) < (4 * t : Nat) + 4 := by omega
      have HSX := HST.out 4 (cap - 4 * t) (by omega) (by omega)
      clear HST hc
      go_enter Try.func29, Try.ntmps29
      go_wp2_with fail
      refine HSX.mono ?_
      rintro e w2 ⟨rfl, r, hr1, hr2, hT⟩
      have := hr2 (by simp)
      subst this
      go_wp2_with fail
      go_end0
      exact ⟨rfl, hT⟩
    · have h4' : (l.length : Int) < (4 * t : Nat) + 4 := by omega
      have HSX := HST.out (l.length - 4 * t) (cap - 4 * t) (by omega) (by omega)
      clear HST hc
      go_enter Try.func29, Try.ntmps29
      go_wp2_with fail
      refine HSX.mono ?_
      rintro e w2 ⟨rfl, r, hr1, hr2, hT⟩
      have := hr2 (by simp)
      subst this
      go_wp2_with fail
      go_end0
      exact ⟨rfl, hT⟩
  · have hP : partF l t P = P := by unfold partF; rw [if_neg hlt]
    rw [hP]
    have hlt' : ¬ ((4 * t : Nat) : Int) < l.length := by omega
    have HT := hide (PlTo.refl h)
    clear hcell hP h hI
    go_enter Try.func29, Try.ntmps29
    go_wp2_with fail
    refine bodyPost_ret (v := .tuple #[]) (by simp [results, Try.results29, go_sem]) rfl ⟨rfl, HT.out⟩

/-- How the transfers stand, as a text. -/
def stsF (l : List Tr) : ByteArray := l.foldl (fun s t => s ++ txt (decL (pickK (stT t) 10).toNat)) ByteArray.empty
theorem stsF_snoc (l : List Tr) (n : Nat) (t : Tr) (h : l[n]? = some t) : stsF (l.take (n + 1)) = stsF (l.take n) ++ txt (decL (pickK (stT t) 10).toNat) := by
  obtain ⟨hn, e⟩ := List.getElem?_eq_some_iff.1 h
  unfold stsF
  rw [List.take_succ_eq_append_getElem hn, List.foldl_append, e]; rfl
theorem stsF_size (l : List Tr) : (stsF l).size ≤ 4 * l.length := by
  unfold stsF
  suffices h : ∀ (l : List Tr) (s : ByteArray), (l.foldl (fun s t => s ++ txt (decL (pickK (stT t) 10).toNat)) s).size ≤ s.size + 4 * l.length by simpa using h l ByteArray.empty
  intro l
  induction l with
  | nil => intro s; simp
  | cons t l ih =>
    intro s
    rw [List.foldl_cons]
    have := ih (s ++ txt (decL (pickK (stT t) 10).toNat))
    rw [app_size, txt_size] at this
    have := decL_len (pickK (stT t) 10).toNat
    simp only [List.length_cons]; omega

set_option maxRecDepth 100000 in
set_option maxHeartbeats 4000000 in
theorem states_any (y : Nat) (col : Nat → Nat) (k : Nat) (P : Pl) (V : Pv) (w : World) (h : PlAt w y col k P V) (ok : PlOk P) :
    Calls Try.prog 30 #[.pointer (some ⟨y, 0, none⟩)] w fun e w' => e = .returned (.string (stsF P.g.s.trs)) ∧ Ext w w' := by
  have H := hide h
  have hn1 := hide ok.n1
  have hn8 := ok.n8
  clear h ok
  go_enter Try.func30, Try.ntmps30
  go_wp2_with fail
  go_loopw [3, 4] (fun s i wr => ∃ n : Nat, n ≤ P.paths.length ∧ i = .int .i64 n ∧ s = .string (stsF (P.g.s.trs.take n)) ∧ Ext w wr) (fun _ i _ => P.paths.length - (intOf i).toNat)
  case atStart => exact ⟨0, by omega, rfl, rfl, Below.refl _ _⟩
  case round =>
    obtain ⟨n, hn, rfl, rfl, hE⟩ := hrel
    have hL := H.out.ext hE 0
    obtain ⟨aP, capP, hvP, -⟩ := own_form (hL.pp id).1
    have c24 : wr.cell? ⟨y, 24, none⟩ = some (.slice aP P.paths.length capP) := by rw [← hvP]; exact hL.cEnd 0
    have c0 : wr.cell? ⟨y, 0, none⟩ = some (.pointer (some ⟨P.q, 0, none⟩)) := hL.cSt 0 (by omega)
    by_cases hlt : n < P.paths.length
    · obtain ⟨t, ht⟩ : ∃ t, P.g.s.trs[n]? = some t := ⟨_, List.getElem?_eq_getElem (by rw [hn1.out]; exact hlt)⟩
      have HS := StateP_any P.q n P.g wr (hL.pg id).1
      rw [ansT_yes (hasT_of ht) ht] at HS
      simp only at HS
      have HSn := hide (stsF_snoc _ _ _ ht)
      have hsz := stsF_size (P.g.s.trs.take n)
      rw [List.length_take] at hsz
      have hst := stT_bd t
      have PK := hide (fun w => pickK_any (stT t) 10 w ⟨by omega, by omega⟩ (by omega) (by omega))
      have kb := pickK_bd (stT t) 10 (by omega)
      obtain ⟨dn, hdn⟩ := Int.eq_ofNat_of_zero_le kb.1
      rw [hdn] at PK HSn
      rw [Int.toNat_natCast] at HSn
      have HD := hide (fun w => decimal_any dn w (by omega))
      have hdl := decL_len dn
      generalize decL dn = dl at *
      generalize hss : stsF (P.g.s.trs.take n) = ss at *
      have hsum : ss.size + (txt dl).size ≤ 9223372036854775807 := by rw [txt_size]; omega
      have hlt' : (n : Int) < P.paths.length := by omega
      generalize stT t = sv at *
      clear hL hvP ht
      go_wp2_with (first | (go_at_call 20; refine HS.mono ?_; rintro e w2 ⟨rfl, hE2⟩; have hEE := Ext.trans' hE hE2) | (go_at_call 10; refine (PK.out _).mono ?_; rintro e w3 ⟨rfl, hw3⟩; have hw3 := hw3.symm; subst hw3) | (go_at_call 33; refine (HD.out _).mono ?_; rintro e w3 ⟨rfl, hw3⟩; have hw3 := hw3.symm; subst hw3))
      exact ⟨⟨n + 1, by omega, by go_num, by rw [HSn.out], hEE⟩, by simp [intOf]; omega⟩
    · have hlt' : ¬ (n : Int) < P.paths.length := by omega
      have HF : Hid (stsF (P.g.s.trs.take n) = stsF P.g.s.trs) := by show _ = _; rw [List.take_of_length_le (by rw [hn1.out]; omega)]
      clear hL hvP
      go_wp2_with fail
      go_ret
      exact ⟨by rw [HF.out]; rfl, hE⟩
end Go.Proofs.Ytjhihliciadipaa
