import Derived.Test.YtjhihliciadipabGreatXrel
import Derived.Test.YtjhihliciadipabGreatLawP
import Derived.Test.YtjhihliciadipabGreatWind
import Derived.Test.YtjhihliciadipabGreatRep
import Derived.Test.YtjhihliciadipabGreatEntr
import Derived.Deep.DeepAppendWide
set_option linter.unusedVariables false
set_option linter.unusedSimpArgs false
set_option linter.unnecessarySimpa false
namespace Go.Proofs.YtjhihliciadipabGreat
open Go.RowKit

/-- The program's proxy beside the document's. -/
structure Pa where
  q : Nat
  g : Pg
  r : Nat
  s : Pr
  L : Lay
/-- The law's world: its slices' values, what they hold, the proxies. -/
structure Lw where
  vP : Value
  vR : Value
  vL : Value
  vM : Value
  ps : List Nat
  rs : List Nat
  lists : List Value
  marks : List Int
  xs : List Pa

def ptrV (q : Nat) : Value := .pointer (some ⟨q, 0, none⟩)
/-- The law's world in memory, but for the parts whose colours X has. Each part's blocks have its colour: 0 the world's own, 1 to 4 its slices, 5 the lists, 7 + 2k and 8 + 2k the proxies; 6 is the script's. -/
structure LwX (w : World) (W : Nat) (col : Nat → Nat) (A : Lw) (X : Nat → Prop) : Prop where
  ltW : W < w.heap.size
  cW : col W = 0
  blk : ¬ X 0 → Blk w W 31 #[A.vP, A.vR, A.vL, A.vM]
  ps : ¬ X 1 → w.ownsRow 0 38 1 A.vP A.ps.length (A.ps.map ptrV) ∧ ∀ b, A.vP.ownBlock = some b → col b = 1
  rs : ¬ X 2 → w.ownsRow 0 39 1 A.vR A.rs.length (A.rs.map ptrV) ∧ ∀ b, A.vR.ownBlock = some b → col b = 2
  ls : ¬ X 3 → w.ownsRow 0 40 1 A.vL A.lists.length A.lists ∧ ∀ b, A.vL.ownBlock = some b → col b = 3
  ms : ¬ X 4 → w.ownsRow 0 3 1 A.vM A.marks.length (A.marks.map (Value.int .i64)) ∧ ∀ b, A.vM.ownBlock = some b → col b = 4
  ml : ¬ X 5 → ∀ (k : Nat) v m, A.lists[k]? = some v → A.marks[k]? = some m → MkAt w col v m
  pg : ∀ (k : Nat) x, A.xs[k]? = some x → ¬ X (7 + 2 * k) → PgAt w x.q x.g ∧ ∀ b, PFoot x.q x.g b → col b = 7 + 2 * k
  pr : ∀ (k : Nat) x, A.xs[k]? = some x → ¬ X (8 + 2 * k) → PrAt w x.r x.s x.L ∧ ∀ b, Foot x.r x.L b → col b = 8 + 2 * k
abbrev LwAt (w : World) (W : Nat) (col : Nat → Nat) (A : Lw) : Prop := LwX w W col A (fun _ => False)

theorem LwX.weaken {w : World} {W : Nat} {col : Nat → Nat} {A : Lw} {X Y : Nat → Prop} (h : LwX w W col A X) (hXY : ∀ c, X c → Y c) : LwX w W col A Y :=
  ⟨h.ltW, h.cW, fun n => h.blk (fun e => n (hXY _ e)), fun n => h.ps (fun e => n (hXY _ e)), fun n => h.rs (fun e => n (hXY _ e)), fun n => h.ls (fun e => n (hXY _ e)), fun n => h.ms (fun e => n (hXY _ e)),
    fun n => h.ml (fun e => n (hXY _ e)), fun k x hx n => h.pg k x hx (fun e => n (hXY _ e)), fun k x hx n => h.pr k x hx (fun e => n (hXY _ e))⟩

/-- New blocks get the colour c. -/
def recol (w : World) (col : Nat → Nat) (c : Nat) (b : Nat) : Nat := if b < w.heap.size then col b else c
theorem recol_old {w : World} {col : Nat → Nat} {c b : Nat} (h : b < w.heap.size) : recol w col c b = col b := by unfold recol; rw [if_pos h]
theorem recol_new {w : World} {col : Nat → Nat} {c b : Nat} (h : w.heap.size ≤ b) : recol w col c b = c := by unfold recol; rw [if_neg (by omega)]

theorem MkAt.chg {S : Nat → Prop} {w w' : World} {col : Nat → Nat} {v : Value} {m : Int} (h : MkAt w col v m) (hc : Chg S w w') (hS : ∀ b, b < w.heap.size → S b → col b ≠ 5) (c : Nat) : MkAt w' (recol w col c) v m := by
  obtain ⟨a, n, cap, e, hn, hr⟩ := h
  refine ⟨a, n, cap, e, hn, fun h0 => ?_⟩
  obtain ⟨b, e2, hb, hcol, hcell⟩ := hr h0
  refine ⟨b, e2, Nat.lt_of_lt_of_le hb hc.size, by rw [recol_old hb]; exact hcol, fun i hi r hr => ?_⟩
  rw [World.cell?_of_block (hc.block b hb (fun s => hS b hb s hcol))]
  exact hcell i hi r hr

theorem LwX.stay {S : Nat → Prop} {w w' : World} {W : Nat} {col : Nat → Nat} {A : Lw} {X : Nat → Prop} (h : LwX w W col A X) (hc : Chg S w w') (hS : ∀ b, b < w.heap.size → S b → X (col b)) (c : Nat) :
    LwX w' W (recol w col c) A X := by
  have own : ∀ {e : TypeId} {sz : Nat} {v : Value} {n : Nat} {xs : List Value} (d : Nat), (¬ X d → w.ownsRow 0 e sz v n xs ∧ ∀ b, v.ownBlock = some b → col b = d) → ¬ X d →
      w'.ownsRow 0 e sz v n xs ∧ ∀ b, v.ownBlock = some b → recol w col c b = d := by
    intro e sz v n xs d hh hx
    obtain ⟨h1, h2⟩ := hh hx
    refine ⟨own_chg h1 hc (fun b hb hs => hx ?_), fun b hb => ?_⟩
    · have := hS b (h1.lt b hb).2 hs; rwa [h2 b hb] at this
    · rw [recol_old (h1.lt b hb).2]; exact h2 b hb
  refine ⟨Nat.lt_of_lt_of_le h.ltW hc.size, by rw [recol_old h.ltW]; exact h.cW, fun hx => (h.blk hx).chg hc (fun hs => hx (by have := hS W h.ltW hs; rwa [h.cW] at this)), own 1 h.ps, own 2 h.rs, own 3 h.ls, own 4 h.ms,
    fun hx k v m hv hm => (h.ml hx k v m hv hm).chg hc (fun b hb hs e => hx (by have := hS b hb hs; rwa [e] at this)) c, fun k x hk hx => ?_, fun k x hk hx => ?_⟩
  · obtain ⟨h1, h2⟩ := h.pg k x hk hx
    refine ⟨h1.chg hc (fun b hb hs => hx ?_), fun b hb => ?_⟩
    · have := hS b (h1.lt b hb) hs; rwa [h2 b hb] at this
    · rw [recol_old (h1.lt b hb)]; exact h2 b hb
  · obtain ⟨h1, h2⟩ := h.pr k x hk hx
    refine ⟨h1.chg hc (fun b hb hs => hx ?_), fun b hb => ?_⟩
    · have := hS b (h1.lt b hb) hs; rwa [h2 b hb] at this
    · rw [recol_old (h1.lt b hb)]; exact h2 b hb

/-- What a step does to all that is outside: the script stays; old blocks keep their colours. -/
structure Stp (w w' : World) (col col' : Nat → Nat) : Prop where
  chg : Chg (fun b => col b ≠ 6) w w'
  col : ∀ b, b < w.heap.size → col' b = col b
theorem Stp.of {S : Nat → Prop} {w w' : World} {col : Nat → Nat} (hc : Chg S w w') (hS : ∀ b, b < w.heap.size → S b → col b ≠ 6) (c : Nat) : Stp w w' col (recol w col c) :=
  ⟨hc.mono hS, fun b hb => recol_old hb⟩
theorem Stp.trans {w w1 w2 : World} {col col1 col2 : Nat → Nat} (h : Stp w w1 col col1) (k : Stp w1 w2 col1 col2) : Stp w w2 col col2 :=
  ⟨h.chg.trans' (k.chg.mono (fun b _ hb => by
      by_cases hlt : b < w.heap.size
      · left; rw [h.col b hlt] at hb; exact hb
      · right; omega)), fun b hb => (k.col b (Nat.lt_of_lt_of_le hb h.chg.size)).trans (h.col b hb)⟩
theorem Stp.refl (w : World) (col : Nat → Nat) : Stp w w col col := ⟨Chg.refl _ _, fun _ _ => rfl⟩

theorem LwX.ext {w w' : World} {W : Nat} {col : Nat → Nat} {A : Lw} {X : Nat → Prop} (h : LwX w W col A X) (hE : Ext w w') : LwX w' W (recol w col 5) A X :=
  h.stay (S := fun _ => False) (Chg.of_ext hE) (fun _ _ f => f.elim) 5
theorem Stp.ext {w w' : World} {col : Nat → Nat} (hE : Ext w w') : Stp w w' col (recol w col 5) := Stp.of (S := fun _ => False) (Chg.of_ext hE) (fun _ _ f => f.elim) 5

/-- One proxy of the program has made a step. -/
theorem LwX.pgS {w w' : World} {W : Nat} {col : Nat → Nat} {A : Lw} (h : LwAt w W col A) {k : Nat} {x : Pa} (hk : A.xs[k]? = some x) {g' : Pg} (hP : PgAt w' x.q g') (hM : PMvs w w' x.q x.g g') :
    LwAt w' W (recol w col (7 + 2 * k)) { A with xs := A.xs.set k { x with g := g' } } ∧ Stp w w' col (recol w col (7 + 2 * k)) := by
  have hx := h.pg k x hk id
  have h2 := (h.weaken (Y := fun c => c = 7 + 2 * k) (fun _ e => e.elim)).stay hM.chg (fun b _ hb => hx.2 b hb) (7 + 2 * k)
  have hkl := (List.getElem?_eq_some_iff.1 hk).1
  refine ⟨⟨h2.ltW, h2.cW, fun _ => h2.blk (by omega), fun _ => h2.ps (by omega), fun _ => h2.rs (by omega), fun _ => h2.ls (by omega), fun _ => h2.ms (by omega), fun _ => h2.ml (by omega), ?_, ?_⟩, Stp.of hM.chg (fun b _ hb => by rw [hx.2 b hb]; omega) _⟩
  · intro i y hy _
    simp only [List.getElem?_set] at hy
    split at hy
    · rename_i e
      subst e
      simp at hy; subst hy
      refine ⟨hP, fun b hb => ?_⟩
      rcases hM.foot b hb with h1 | h1
      · rw [recol_old (hx.1.lt b h1)]; exact hx.2 b h1
      · exact recol_new h1
    · exact h2.pg i y hy (by omega)
  · intro i y hy _
    simp only [List.getElem?_set] at hy
    split at hy
    · rename_i e
      subst e
      simp at hy; subst hy
      exact h2.pr k x hk (by omega)
    · exact h2.pr i y hy (by omega)
/-- One proxy of the document has made a step. -/
theorem LwX.prS {w w' : World} {W : Nat} {col : Nat → Nat} {A : Lw} (h : LwAt w W col A) {k : Nat} {x : Pa} (hk : A.xs[k]? = some x) {s' : Pr} {L' : Lay} (hP : PrAt w' x.r s' L') (hM : Mvs w w' x.r x.L L') :
    LwAt w' W (recol w col (8 + 2 * k)) { A with xs := A.xs.set k { x with s := s', L := L' } } ∧ Stp w w' col (recol w col (8 + 2 * k)) := by
  have hx := h.pr k x hk id
  have h2 := (h.weaken (Y := fun c => c = 8 + 2 * k) (fun _ e => e.elim)).stay hM.chg (fun b _ hb => hx.2 b hb) (8 + 2 * k)
  have hkl := (List.getElem?_eq_some_iff.1 hk).1
  refine ⟨⟨h2.ltW, h2.cW, fun _ => h2.blk (by omega), fun _ => h2.ps (by omega), fun _ => h2.rs (by omega), fun _ => h2.ls (by omega), fun _ => h2.ms (by omega), fun _ => h2.ml (by omega), ?_, ?_⟩, Stp.of hM.chg (fun b _ hb => by rw [hx.2 b hb]; omega) _⟩
  · intro i y hy _
    simp only [List.getElem?_set] at hy
    split at hy
    · rename_i e
      subst e
      simp at hy; subst hy
      exact h2.pg k x hk (by omega)
    · exact h2.pg i y hy (by omega)
  · intro i y hy _
    simp only [List.getElem?_set] at hy
    split at hy
    · rename_i e
      subst e
      simp at hy; subst hy
      refine ⟨hP, fun b hb => ?_⟩
      rcases hM.foot b hb with h1 | h1
      · rw [recol_old (hx.1.lt b h1)]; exact hx.2 b h1
      · exact recol_new h1
    · exact h2.pr i y hy (by omega)

/-- All that is so between two steps, beside memory: the lists fit together, each proxy has as many transfers as the document's. -/
structure Fit (A : Lw) (C : Int) : Prop where
  ps : A.ps = A.xs.map Pa.q
  rs : A.rs = A.xs.map Pa.r
  lm : A.lists.length = A.marks.length
  mb : ∀ m ∈ A.marks, 0 ≤ m ∧ m ≤ 8000000000000
  ok : ∀ x ∈ A.xs, Good x.s C ∧ Rel x.g.s x.s
theorem Fit.mono {A : Lw} {C D : Int} (h : Fit A C) (hCD : C ≤ D) : Fit A D := ⟨h.ps, h.rs, h.lm, h.mb, fun x hx => ⟨(h.ok x hx).1.mono hCD, (h.ok x hx).2⟩⟩
theorem Fit.nts {A : Lw} {C : Int} (h : Fit A C) {k : Nat} {x : Pa} (hk : A.xs[k]? = some x) : x.g.trs.length ≤ 8 := by
  have h1 := h.ok x (List.mem_of_getElem? hk)
  have h2 := h1.1.inv.nts
  have h3 := h1.2.nt
  show x.g.s.trs.length ≤ 8
  omega

/-- What is left behind a step. -/
def LPost (w w' : World) (W : Nat) (col : Nat → Nat) (A : Lw) (C : Int) : Prop :=
  ∃ col' A', LwAt w' W col' A' ∧ Fit A' (C + 8193) ∧ Stp w w' col col' ∧ A'.lists.length ≤ A.lists.length + 4 ∧ A'.xs.length ≤ A.xs.length + 1

/-- What is left of the document's proxy behind the program's step. -/
theorem pair_mid {w w1 : World} {W : Nat} {col : Nat → Nat} {A : Lw} (h : LwAt w W col A) {k : Nat} {x : Pa} (hk : A.xs[k]? = some x) {s' : Px} (hP : PTo w w1 x.q x.g s') : PrAt w1 x.r x.s x.L := by
  obtain ⟨g', -, hM⟩ := hP
  exact (h.pr k x hk id).1.chg hM.chg (fun b hb hf => by
    have h1 := (h.pr k x hk id).2 b hb
    have h2 := (h.pg k x hk id).2 b hf
    omega)
theorem pair_post {w w1 w2 : World} {W : Nat} {col : Nat → Nat} {A : Lw} {C : Int} (h : LwAt w W col A) (hf : Fit A C) {k : Nat} {x : Pa} (hk : A.xs[k]? = some x) {sp : Px} (hP : PTo w w1 x.q x.g sp)
    (hR : RRel w1 w2 x.r x.L C sp) : LPost w w2 W col A C := by
  obtain ⟨v', hP1, hM1⟩ := hP
  obtain ⟨s', ⟨L', hP2, hM2, hG⟩, hRel⟩ := hR
  obtain ⟨g', hg'⟩ : ∃ g' : Pg, g' = ⟨sp, v'⟩ := ⟨_, rfl⟩
  rw [← hg'] at hP1 hM1
  have hRel' : Rel g'.s s' := by rw [hg']; exact hRel
  obtain ⟨h1, t1⟩ := h.pgS hk hP1 hM1
  have hkl := (List.getElem?_eq_some_iff.1 hk).1
  have hk1 : (A.xs.set k { x with g := g' })[k]? = some { x with g := g' } := by simp [hkl]
  obtain ⟨h2, t2⟩ := LwX.prS h1 hk1 hP2 hM2
  refine ⟨_, _, h2, ⟨?_, ?_, hf.lm, hf.mb, ?_⟩, t1.trans t2, by simp, by simp⟩
  · simp only [List.set_set, List.map_set]
    rw [hf.ps]
    refine List.ext_getElem? (fun i => ?_)
    rw [List.getElem?_set]
    split
    · rename_i e; subst e; rw [List.getElem?_map, hk]; simp [hkl]
    · rfl
  · simp only [List.set_set, List.map_set]
    rw [hf.rs]
    refine List.ext_getElem? (fun i => ?_)
    rw [List.getElem?_set]
    split
    · rename_i e; subst e; rw [List.getElem?_map, hk]; simp [hkl]
    · rfl
  · intro y hy
    simp only [List.set_set] at hy
    rcases List.mem_or_eq_of_mem_set hy with hy | rfl
    · exact ⟨(hf.ok y hy).1.mono (by omega), (hf.ok y hy).2⟩
    · exact ⟨hG, hRel'⟩
end Go.Proofs.YtjhihliciadipabGreat

namespace Go.Proofs.YtjhihliciadipabGreat
open Go.RowKit

/-- A list in its owner's hands, n marks long. -/
def GAt (w : World) (col : Nat → Nat) (v : Value) (n : Nat) (m : Int) : Prop :=
  w.ownsRow 0 42 4 v n (List.replicate n (mkV m)).flatten ∧ ∀ b, v.ownBlock = some b → col b = 5
/-- A list that lies in the same block is no longer and has the same mark. -/
def Pre (v : Value) (n : Nat) (m : Int) (v' : Value) (m' : Int) : Prop := ∀ b a n' cap', v' = .slice a n' cap' → v'.ownBlock = some b → v.ownBlock = some b → 0 < n' → n' ≤ n ∧ m' = m
def Pres (A : Lw) (v : Value) (n : Nat) (m : Int) : Prop := ∀ (k : Nat) v' m', A.lists[k]? = some v' → A.marks[k]? = some m' → Pre v n m v' m'

theorem GAt.nil (w : World) (col : Nat → Nat) (m : Int) : GAt w col (.slice none 0 0) 0 m := ⟨World.ownsRow_nil _ _ _ _, fun b hb => by simp [Value.ownBlock] at hb⟩
theorem Pres.nil (A : Lw) (m : Int) : Pres A (.slice none 0 0) 0 m := fun k v' m' _ _ b a n' cap' _ _ hb => by simp [Value.ownBlock] at hb
theorem mks_len (n : Nat) (m : Int) : ∀ r ∈ List.replicate n (mkV m), r.length = 4 := by intro r hr; rw [List.mem_replicate] at hr; rw [hr.2]; rfl
theorem mks_get (n : Nat) (m : Int) (i r : Nat) (hi : i < n) (hr : r < 4) : (List.replicate n (mkV m)).flatten[i * 4 + r]? = (mkV m)[r]? := by
  rw [flat_get 4 _ (mks_len n m) i r hr, List.getElem?_replicate, if_pos hi]; rfl
theorem mks_snoc (n : Nat) (m : Int) : (List.replicate n (mkV m)).flatten ++ mkV m = (List.replicate (n + 1) (mkV m)).flatten := by
  rw [List.replicate_succ']; simp
/-- What the owner holds reads as it was written. -/
theorem GAt.mk {w : World} {col : Nat → Nat} {v : Value} {n : Nat} {m : Int} (h : GAt w col v n m) (hn : n ≤ 8000000000000) : MkAt w col v m := by
  obtain ⟨a, cap, hv, ha⟩ := own_form h.1
  refine ⟨a, n, cap, hv, hn, fun h0 => ?_⟩
  obtain ⟨b, rfl⟩ := ha h0
  have hb : v.ownBlock = some b := by rw [hv]; rfl
  refine ⟨b, rfl, (h.1.lt b hb).2, h.2 b hb, fun i hi r hr => ?_⟩
  have h1 := h.1
  rw [hv] at h1
  rw [h1.cellAt (i * 4 + r) (by have : (i + 1) * 4 ≤ n * 4 := Nat.mul_le_mul_right 4 hi; omega)]
  exact mks_get n m i r hi hr
theorem GAt.chg {S : Nat → Prop} {w w' : World} {col : Nat → Nat} {v : Value} {n : Nat} {m : Int} (h : GAt w col v n m) (hc : Chg S w w') (hS : ∀ b, b < w.heap.size → S b → col b ≠ 5) (c : Nat) : GAt w' (recol w col c) v n m :=
  ⟨own_chg h.1 hc (fun b hb hs => hS b (h.1.lt b hb).2 hs (h.2 b hb)), fun b hb => by rw [recol_old (h.1.lt b hb).2]; exact h.2 b hb⟩

/-- One of the world's slices has got one more. -/
theorem LwX.grow {w w6 : World} {W : Nat} {col : Nat → Nat} {A : Lw} (h : LwAt w W col A) {e : TypeId} {v v6 : Value} {n d j : Nat} {xs xs' : List Value} (hd0 : d ≠ 0) (hd5 : d ≠ 5) (hd6 : d ≠ 6)
    (hv : w.ownsRow 0 e 1 v n xs ∧ ∀ b, v.ownBlock = some b → col b = d) (ho : w6.ownsRow 0 e 1 v6 (n + 1) xs') (hg : w.grownBy w6 v.ownBlock) (hw : v6.ownBlock = v.ownBlock ∨ v6.ownBlock = some w.heap.size) :
    LwX (w6.setCell ⟨W, j, none⟩ v6) W (recol w col d) A (fun c => c = 0 ∨ c = d) ∧ Stp w (w6.setCell ⟨W, j, none⟩ v6) col (recol w col d) ∧
    (Blk (w6.setCell ⟨W, j, none⟩ v6) W 31 (#[A.vP, A.vR, A.vL, A.vM].setIfInBounds j v6)) ∧
    ((w6.setCell ⟨W, j, none⟩ v6).ownsRow 0 e 1 v6 (n + 1) xs' ∧ ∀ b, v6.ownBlock = some b → recol w col d b = d) ∧
    (∀ u k m, GAt w col u k m → GAt (w6.setCell ⟨W, j, none⟩ v6) (recol w col d) u k m) := by
  have hlt := h.ltW
  have hcW := h.cW
  have hnW : v.ownBlock ≠ some W := fun e => hd0 (by rw [← hv.2 W e]; exact hcW)
  have hnW6 : v6.ownBlock ≠ some W := fun e => by
    rcases hw with h1 | h1
    · exact hnW (h1.symm.trans e)
    · rw [h1] at e; simp at e; omega
  have hc : Chg (fun b => b = W ∨ v.ownBlock = some b) w (w6.setCell ⟨W, j, none⟩ v6) :=
    Chg.setCell (S := fun b => b = W ∨ v.ownBlock = some b) (Chg.of_grown hg (fun k hk => Or.inr hk)) (p := ⟨W, j, none⟩) (Or.inl (Or.inl rfl)) _
  have hcol : ∀ b, b < w.heap.size → (b = W ∨ v.ownBlock = some b) → col b = 0 ∨ col b = d := by
    rintro b hb (rfl | hb2)
    · exact Or.inl hcW
    · exact Or.inr (hv.2 b hb2)
  refine ⟨(h.weaken (Y := fun c => c = 0 ∨ c = d) (fun _ e => e.elim)).stay hc hcol d, Stp.of hc (fun b hb hs => by rcases hcol b hb hs with e | e <;> omega) d, ?_, ⟨?_, ?_⟩, fun u k m hG => hG.chg hc (fun b hb hs => by rcases hcol b hb hs with e | e <;> omega) d⟩
  · exact ((h.blk id).grown hg hnW).set j v6
  · exact own_chg (S := fun b => b = W) ho (Chg.setCell (S := fun b => b = W) (Chg.refl _ _) (p := ⟨W, j, none⟩) (Or.inl rfl) _) (fun k hk e => hnW6 (e ▸ hk))
  · intro b hb
    rcases hw with h1 | h1
    · have hb2 := h1.symm.trans hb
      rw [recol_old (hv.1.lt b hb2).2]; exact hv.2 b hb2
    · rw [h1] at hb; simp at hb; exact recol_new (by omega)

theorem LwX.addP {w w6 : World} {W : Nat} {col : Nat → Nat} {A : Lw} (h : LwAt w W col A) {v6 : Value} {q : Nat} (ho : w6.ownsRow 0 38 1 v6 (A.ps.length + 1) (A.ps.map ptrV ++ [ptrV q]))
    (hg : w.grownBy w6 A.vP.ownBlock) (hw : v6.ownBlock = A.vP.ownBlock ∨ v6.ownBlock = some w.heap.size) :
    LwAt (w6.setCell ⟨W, 0, none⟩ v6) W (recol w col 1) { A with vP := v6, ps := A.ps ++ [q] } ∧ Stp w (w6.setCell ⟨W, 0, none⟩ v6) col (recol w col 1) := by
  obtain ⟨h2, hs, hb, ho2, hG⟩ := h.grow (j := 0) (d := 1) (by omega) (by omega) (by omega) (h.ps id) ho hg hw
  exact ⟨⟨h2.ltW, h2.cW, fun _ => hb, fun _ => by simpa using ho2, fun _ => h2.rs (by omega), fun _ => h2.ls (by omega), fun _ => h2.ms (by omega), fun _ => h2.ml (by omega), fun k x hx _ => h2.pg k x hx (by omega), fun k x hx _ => h2.pr k x hx (by omega)⟩, hs⟩
theorem LwX.addR {w w6 : World} {W : Nat} {col : Nat → Nat} {A : Lw} (h : LwAt w W col A) {v6 : Value} {q : Nat} (ho : w6.ownsRow 0 39 1 v6 (A.rs.length + 1) (A.rs.map ptrV ++ [ptrV q]))
    (hg : w.grownBy w6 A.vR.ownBlock) (hw : v6.ownBlock = A.vR.ownBlock ∨ v6.ownBlock = some w.heap.size) :
    LwAt (w6.setCell ⟨W, 1, none⟩ v6) W (recol w col 2) { A with vR := v6, rs := A.rs ++ [q] } ∧ Stp w (w6.setCell ⟨W, 1, none⟩ v6) col (recol w col 2) := by
  obtain ⟨h2, hs, hb, ho2, hG⟩ := h.grow (j := 1) (d := 2) (by omega) (by omega) (by omega) (h.rs id) ho hg hw
  exact ⟨⟨h2.ltW, h2.cW, fun _ => hb, fun _ => h2.ps (by omega), fun _ => by simpa using ho2, fun _ => h2.ls (by omega), fun _ => h2.ms (by omega), fun _ => h2.ml (by omega), fun k x hx _ => h2.pg k x hx (by omega), fun k x hx _ => h2.pr k x hx (by omega)⟩, hs⟩
theorem LwX.addL {w w6 : World} {W : Nat} {col : Nat → Nat} {A : Lw} (h : LwAt w W col A) {v6 : Value} {v : Value} (hlm : A.lists.length = A.marks.length) (ho : w6.ownsRow 0 40 1 v6 (A.lists.length + 1) (A.lists ++ [v]))
    (hg : w.grownBy w6 A.vL.ownBlock) (hw : v6.ownBlock = A.vL.ownBlock ∨ v6.ownBlock = some w.heap.size) :
    LwAt (w6.setCell ⟨W, 2, none⟩ v6) W (recol w col 3) { A with vL := v6, lists := A.lists ++ [v] } ∧ Stp w (w6.setCell ⟨W, 2, none⟩ v6) col (recol w col 3) ∧ (∀ u k m, GAt w col u k m → GAt (w6.setCell ⟨W, 2, none⟩ v6) (recol w col 3) u k m) := by
  obtain ⟨h2, hs, hb, ho2, hG⟩ := h.grow (j := 2) (d := 3) (by omega) (by omega) (by omega) (h.ls id) ho hg hw
  refine ⟨⟨h2.ltW, h2.cW, fun _ => hb, fun _ => h2.ps (by omega), fun _ => h2.rs (by omega), fun _ => by simpa using ho2, fun _ => h2.ms (by omega), fun _ k u m hu hm => ?_, fun k x hx _ => h2.pg k x hx (by omega), fun k x hx _ => h2.pr k x hx (by omega)⟩, hs, hG⟩
  have hk : k < A.marks.length := (List.getElem?_eq_some_iff.1 hm).1
  have hu2 : A.lists[k]? = some u := by
    have : (A.lists ++ [v])[k]? = some u := hu
    rwa [List.getElem?_append_left (by omega)] at this
  exact h2.ml (by omega) k u m hu2 hm
theorem LwX.addM {w w6 : World} {W : Nat} {col : Nat → Nat} {A : Lw} (h : LwAt w W col A) {v6 : Value} {m : Int} (hmk : ∀ v, A.lists[A.marks.length]? = some v → MkAt w col v m) (ho : w6.ownsRow 0 3 1 v6 (A.marks.length + 1) (A.marks.map (Value.int .i64) ++ [.int .i64 m]))
    (hg : w.grownBy w6 A.vM.ownBlock) (hw : v6.ownBlock = A.vM.ownBlock ∨ v6.ownBlock = some w.heap.size) :
    LwAt (w6.setCell ⟨W, 3, none⟩ v6) W (recol w col 4) { A with vM := v6, marks := A.marks ++ [m] } ∧ Stp w (w6.setCell ⟨W, 3, none⟩ v6) col (recol w col 4) ∧ (∀ u k n, GAt w col u k n → GAt (w6.setCell ⟨W, 3, none⟩ v6) (recol w col 4) u k n) := by
  obtain ⟨h2, hs, hb, ho2, hG⟩ := h.grow (j := 3) (d := 4) (by omega) (by omega) (by omega) (h.ms id) ho hg hw
  refine ⟨⟨h2.ltW, h2.cW, fun _ => hb, fun _ => h2.ps (by omega), fun _ => h2.rs (by omega), fun _ => h2.ls (by omega), fun _ => by simpa using ho2, fun _ k u n hu hm => ?_, fun k x hx _ => h2.pg k x hx (by omega), fun k x hx _ => h2.pr k x hx (by omega)⟩, hs, hG⟩
  have hm' : (A.marks ++ [m])[k]? = some n := hm
  rw [List.getElem?_append] at hm'
  split at hm'
  · exact h2.ml (by omega) k u n hu hm'
  · have hk0 : k = A.marks.length := by
      have := (List.getElem?_eq_some_iff.1 hm').1
      simp at this; omega
    subst hk0
    simp at hm'; subst hm'
    have hc : Chg (fun b => b = W ∨ A.vM.ownBlock = some b) w (w6.setCell ⟨W, 3, none⟩ v6) :=
      Chg.setCell (S := fun b => b = W ∨ A.vM.ownBlock = some b) (Chg.of_grown hg (fun k hk => Or.inr hk)) (p := ⟨W, 3, none⟩) (Or.inl (Or.inl rfl)) _
    refine (hmk u hu).chg hc ?_ 4
    rintro b hb (rfl | hb2)
    · rw [h.cW]; omega
    · rw [(h.ms id).2 b hb2]; omega

/-- Two proxies have come. -/
theorem LwX.addX {w w1 w2 : World} {W : Nat} {col : Nat → Nat} {A : Lw} (h : LwAt w W col A) {q : Nat} {g : Pg} {r : Nat} {s : Pr} {L : Lay} (hE1 : Ext w w1) (hP : PgAt w1 q g) (hq : ∀ b, PFoot q g b → w.heap.size ≤ b)
    (hE2 : Ext w1 w2) (hR : PrAt w2 r s L) (hr : ∀ b, Foot r L b → w1.heap.size ≤ b) :
    ∃ col', LwAt w2 W col' { A with xs := A.xs ++ [⟨q, g, r, s, L⟩] } ∧ Stp w w2 col col' := by
  have h1 := h.stay (S := fun _ => False) (Chg.of_ext hE1) (fun _ _ f => f.elim) (7 + 2 * A.xs.length)
  have h2 := h1.stay (S := fun _ => False) (Chg.of_ext hE2) (fun _ _ f => f.elim) (8 + 2 * A.xs.length)
  have t1 : Stp w w1 col (recol w col (7 + 2 * A.xs.length)) := Stp.of (S := fun _ => False) (Chg.of_ext hE1) (fun _ _ f => f.elim) _
  have t2 : Stp w1 w2 (recol w col (7 + 2 * A.xs.length)) (recol w1 (recol w col (7 + 2 * A.xs.length)) (8 + 2 * A.xs.length)) := Stp.of (S := fun _ => False) (Chg.of_ext hE2) (fun _ _ f => f.elim) _
  have cut : ∀ {k : Nat} {x : Pa}, (A.xs ++ [⟨q, g, r, s, L⟩])[k]? = some x → A.xs[k]? = some x ∨ (k = A.xs.length ∧ x = ⟨q, g, r, s, L⟩) := by
    intro k x hx
    rw [List.getElem?_append] at hx
    split at hx
    · exact Or.inl hx
    · have := (List.getElem?_eq_some_iff.1 hx).1
      have hk : k = A.xs.length := by simp at this; omega
      subst hk; simp at hx; exact Or.inr ⟨rfl, hx.symm⟩
  refine ⟨_, ⟨h2.ltW, h2.cW, h2.blk, h2.ps, h2.rs, h2.ls, h2.ms, h2.ml, fun k x hx hn => ?_, fun k x hx hn => ?_⟩, t1.trans t2⟩
  · rcases cut hx with hx | ⟨rfl, rfl⟩
    · exact h2.pg k x hx hn
    · exact ⟨hP.ext hE2, fun b hb => by rw [recol_old (hP.lt b hb), recol_new (hq b hb)]⟩
  · rcases cut hx with hx | ⟨rfl, rfl⟩
    · exact h2.pr k x hx hn
    · exact ⟨hR, fun b hb => by rw [recol_new (hr b hb)]⟩

/-- The owner has written one more behind it. -/
theorem LwX.addG {w w6 : World} {W : Nat} {col : Nat → Nat} {A : Lw} (h : LwAt w W col A) {v v6 : Value} {n : Nat} {m : Int} (hG : GAt w col v n m) (hp : Pres A v n m)
    (ho : w6.ownsRow 0 42 4 v6 (n + 1) ((List.replicate n (mkV m)).flatten ++ mkV m)) (hg : w.grownBy w6 v.ownBlock) (hw : v6.ownBlock = v.ownBlock ∨ (v6.ownBlock = some w.heap.size ∧ w.grownBy w6 none)) :
    LwAt w6 W (recol w col 5) A ∧ Stp w w6 col (recol w col 5) ∧ GAt w6 (recol w col 5) v6 (n + 1) m ∧ Pres A v6 (n + 1) m := by
  have hc : Chg (fun b => v.ownBlock = some b) w w6 := Chg.of_grown hg (fun k hk => hk)
  have h2 := (h.weaken (Y := fun c => c = 5) (fun _ e => e.elim)).stay hc (fun b _ hb => hG.2 b hb) 5
  have hG6 : GAt w6 (recol w col 5) v6 (n + 1) m := by
    refine ⟨by rw [← mks_snoc]; exact ho, fun b hb => ?_⟩
    rcases hw with h1 | ⟨h1, -⟩
    · have hb2 := h1.symm.trans hb
      rw [recol_old (hG.1.lt b hb2).2]; exact hG.2 b hb2
    · rw [h1] at hb; simp at hb; exact recol_new (by omega)
  have hmk : ∀ (k : Nat) u m', A.lists[k]? = some u → A.marks[k]? = some m' → MkAt w6 (recol w col 5) u m' := by
    intro k u m' hu hm
    have h0 := h.ml id k u m' hu hm
    rcases hw with hw | ⟨-, hw⟩
    · obtain ⟨a, n', cap', e, hn, hr⟩ := h0
      refine ⟨a, n', cap', e, hn, fun hpos => ?_⟩
      obtain ⟨b, rfl, hb, hcol, hcell⟩ := hr hpos
      refine ⟨b, rfl, Nat.lt_of_lt_of_le hb hc.size, by rw [recol_old hb]; exact hcol, fun i hi r hr4 => ?_⟩
      by_cases hvb : v.ownBlock = some b
      · obtain ⟨hle, rfl⟩ := hp k u m' hu hm b _ n' cap' e (by rw [e]; rfl) hvb hpos
        obtain ⟨a6, cap6, e6, ha6⟩ := own_form ho
        obtain ⟨b6, rfl⟩ := ha6 (by omega)
        have hb6 : b6 = b := by
          rw [e6] at hw; rw [hvb] at hw; simpa [Value.ownBlock] using hw
        subst hb6
        have ho' := ho
        rw [e6, mks_snoc] at ho'
        rw [ho'.cellAt (i * 4 + r) (by have : (i + 1) * 4 ≤ (n + 1) * 4 := Nat.mul_le_mul_right 4 (by omega); omega)]
        exact mks_get (n + 1) _ i r (by omega) hr4
      · rw [World.cell?_of_block (hc.block b hb hvb)]
        exact hcell i hi r hr4
    · exact h0.chg (S := fun _ => False) (Chg.of_grown hw (fun k hk => by simp at hk)) (fun _ _ f => f.elim) 5
  refine ⟨⟨h2.ltW, h2.cW, fun _ => h2.blk (by omega), fun _ => h2.ps (by omega), fun _ => h2.rs (by omega), fun _ => h2.ls (by omega), fun _ => h2.ms (by omega), fun _ => hmk, fun k x hx _ => h2.pg k x hx (by omega), fun k x hx _ => h2.pr k x hx (by omega)⟩,
    Stp.of hc (fun b _ hb => by rw [hG.2 b hb]; omega) 5, hG6, ?_⟩
  intro k u m' hu hm b a n' cap' e hb1 hb2 hpos
  rcases hw with hw | ⟨hw, -⟩
  · have := hp k u m' hu hm b a n' cap' e hb1 (hw.symm.trans hb2) hpos
    exact ⟨by omega, this.2⟩
  · exfalso
    obtain ⟨a0, n0, cap0, e0, -, hr⟩ := h.ml id k u m' hu hm
    rw [e] at e0
    simp at e0
    obtain ⟨rfl, rfl, rfl⟩ := e0
    obtain ⟨b0, rfl, hb0, -, -⟩ := hr hpos
    rw [e] at hb1
    rw [hw] at hb2
    simp [Value.ownBlock] at hb1 hb2
    omega

theorem GAt.ext {w w' : World} {col : Nat → Nat} {v : Value} {n : Nat} {m : Int} (h : GAt w col v n m) (hE : Ext w w') : GAt w' (recol w col 5) v n m :=
  h.chg (S := fun _ => False) (Chg.of_ext hE) (fun _ _ f => f.elim) 5
theorem Pres.add {w : World} {col : Nat → Nat} {A : Lw} {v : Value} {n : Nat} {m : Int} (hG : GAt w col v n m) (hp : Pres A v n m) (hlm : A.lists.length = A.marks.length) (vL vM : Value) :
    Pres { A with vL := vL, lists := A.lists ++ [v], vM := vM, marks := A.marks ++ [m] } v n m := by
  intro k v' m' hv hm b a n' cap' e hb1 hb2 hpos
  have hv' : (A.lists ++ [v])[k]? = some v' := hv
  have hm' : (A.marks ++ [m])[k]? = some m' := hm
  by_cases hk : k < A.lists.length
  · rw [List.getElem?_append_left hk] at hv'
    rw [List.getElem?_append_left (by omega)] at hm'
    exact hp k v' m' hv' hm' b a n' cap' e hb1 hb2 hpos
  · have := (List.getElem?_eq_some_iff.1 hv').1
    have hk0 : k = A.lists.length := by simp at this; omega
    subst hk0
    simp at hv'
    rw [hlm] at hm'
    simp at hm'
    subst hv' hm'
    obtain ⟨a2, cap2, e2, -⟩ := own_form hG.1
    rw [e2] at e
    simp at e
    exact ⟨by omega, rfl⟩
theorem Pres.ext_vs {A B : Lw} {v : Value} {n : Nat} {m : Int} (hp : Pres A v n m) (hl : B.lists = A.lists) (hm : B.marks = A.marks) : Pres B v n m := by
  intro k v' m' h1 h2; rw [hl] at h1; rw [hm] at h2; exact hp k v' m' h1 h2
end Go.Proofs.YtjhihliciadipabGreat

namespace Go.Proofs.YtjhihliciadipabGreat
open Go.RowKit

/-- Where an append lays the slice: where it lay, or in a new block, and then nothing old has turned. -/
theorem append_whereS {P : Program} (w : World) (t ty e : TypeId) (i : TypeInfo) (z : Value) (ht : P.underlying t = some (.slice e)) (hi : P.info? e = some i) (hz : i.zero = some z)
    (v : Value) (n : Nat) (xs : List Value) (hown : w.ownsRow 0 e i.size v n xs)
    (a : Addr) (m c : Nat) (news : List Value) (hl : news.length = m * i.size) (hnews : ∀ j u, news[j]? = some u → w.cell? (a.add j) = some u) (h1 : ∀ u ∈ news, u.oneCell' = true) (hm : 0 < m)
    (h63 : n + m ≤ maxLen) (hbytes : (n + m) * i.bytes ≤ 140737488355328) {v' : Value} {w' : World} (hr' : (Builtin.append_ #[t, t] ty #[v, .slice (some a) m c]).run P w = .ok v' w') :
    v'.ownBlock = v.ownBlock ∨ (v'.ownBlock = some w.heap.size ∧ w.grownBy w' none) := by
  have hsmall : n + m ≤ 9223372036854775807 := by simp only [maxLen] at h63; omega
  rcases hown.2 with ⟨rfl, rfl⟩ | ⟨g, cap, cur, rfl, hbg, hg, hnc, hcm, hcs, htake⟩
  · have hr := run_append_nil (P := P) w t ty e i z ht hi hz a m c news hl hnews (by omega) (by omega) (by have hb := hbytes; simp only [Nat.zero_add] at hb; omega)
    rw [hr] at hr'
    simp only [Result.ok.injEq] at hr'
    right; rw [← hr'.1, ← hr'.2]; exact ⟨rfl, ⟨rfl, rfl, rfl, by simp, fun k hk _ => Below.heap_alloc w.drew _ k hk⟩⟩
  · by_cases hroom : n + m ≤ cap
    · have hfit : n * i.size + news.length ≤ cur.size := by rw [hl, hcs, ← Nat.add_mul]; exact Nat.mul_le_mul_right _ hroom
      have hr := run_append_room (P := P) w t ty e i ht hi g n cap cur hg a m c news hl hnews h1 hroom hfit
      rw [hr] at hr'
      simp only [Result.ok.injEq] at hr'
      left; rw [← hr'.1]; rfl
    · have holds : ∀ j u, xs[j]? = some u → w.cell? ((⟨g, 0, none⟩ : Addr).add j) = some u := hown.cells (g := g) rfl
      have hr := run_append_grow (P := P) w t ty e i z ht hi hz ⟨g, 0, none⟩ n cap xs hown.1 holds a m c news hl hnews (by omega) (by omega) (growslice_fits (by omega) hbytes)
      rw [hr] at hr'
      simp only [Result.ok.injEq] at hr'
      right; rw [← hr'.1, ← hr'.2]; exact ⟨rfl, ⟨rfl, rfl, rfl, by simp, fun k hk _ => Below.heap_alloc w.drew _ k hk⟩⟩

/-- One more element behind an owned slice, and where it lies. -/
theorem app_oneS {t e : TypeId} {z : Value} {sz bytes : Nat} (ht : Tryz.prog.underlying t = some (.slice e))
    (hinfo : (Tryz.prog.info? e).map (fun i => (i.zero, i.size, i.bytes)) = some (some z, sz, bytes)) (hzs : z.cells.size = sz) (hsz : 0 < sz) (hby : bytes ≤ 112)
    (w : World) {ops : Array Oper} {rest : List Oper} {o : Oper} {a : Act} {Q : Exit → Act → World → Prop} (hgd : o.guard = none) (s x : Operand)
    (ho : o.op = .call { callee := .builtin .append, args := #[s, x], argTypes := #[t, t] })
    {base : Nat} {v : Value} {n : Nat} {xs : List Value} (hs : a.eval s = v) (hown : w.ownsRow base e sz v n xs)
    {g : Nat} (news : List Value) (hx : a.eval x = .slice (some ⟨g, 0, none⟩) 1 1) (hl : news.length = sz) (hnews : ∀ j u, news[j]? = some u → w.cell? ((⟨g, 0, none⟩ : Addr).add j) = some u)
    (h1 : ∀ u ∈ news, u.oneCell' = true) (hn : n ≤ 1000000000) (hbase : base ≤ w.heap.size)
    (h : ∀ v' w', w'.ownsRow base e sz v' (n + 1) (xs ++ news) → w.grownBy w' v.ownBlock → (v'.ownBlock = v.ownBlock ∨ (v'.ownBlock = some w.heap.size ∧ w.grownBy w' none)) → wpList Tryz.prog ops Q rest (a.put o.dst v') w') :
    wpList Tryz.prog ops Q (o :: rest) a w := by
  obtain ⟨i, hi, hz0, hz1, hz2⟩ := info_parts hinfo
  have hb2 : (n + 1) * bytes ≤ 140737488355328 := by
    have : (n + 1) * bytes ≤ 1000000001 * 112 := Nat.mul_le_mul (by omega) hby
    omega
  refine wpList_plain hgd fun K hK => ?_
  obtain ⟨v', w', hr, h2, h3, h4⟩ := run_append_own (P := Tryz.prog) w base t o.type e i z sz bytes ht hi hz0 hz1 hz2 hzs hsz v n xs hown ⟨g, 0, none⟩ 1 1 news (by simpa using hl) hnews h1 (by unfold maxLen; omega) hb2 hbase
  have hw := append_whereS w t o.type e i z ht hi hz0 v n xs (by rw [hz1]; exact own_base hown (Nat.zero_le _)) ⟨g, 0, none⟩ 1 1 news (by rw [hz1]; simpa using hl) hnews h1 (by omega) (by unfold maxLen; omega) (by rw [hz2]; exact hb2) hr
  unfold Oper.wp execOp
  simp only [ho, resolve, invoke, builtin, Sem.run_bind, Sem.run_pure, Result.andThen_ok, List.map_toArray, List.map_cons, List.map_nil, hs, hx, hr]
  exact hK _ _ (h v' w' h2 h3 hw)

/-- Where an append lays a long slice. -/
theorem append_whereW {P : Program} (w : World) (t ty e : TypeId) (i : TypeInfo) (z : Value) (ht : P.underlying t = some (.slice e)) (hi : P.info? e = some i) (hz : i.zero = some z)
    (v : Value) (n : Nat) (xs : List Value) (hown : w.ownsRow 0 e i.size v n xs)
    (a : Addr) (m c : Nat) (news : List Value) (hl : news.length = m * i.size) (hnews : ∀ j u, news[j]? = some u → w.cell? (a.add j) = some u) (h1 : ∀ u ∈ news, u.oneCell' = true) (hm : 0 < m)
    (h63 : n + m ≤ maxLen) (hbytes : ((n + m) + (n + m) / 4 + 192) * i.bytes ≤ 281474976710656) {v' : Value} {w' : World} (hr' : (Builtin.append_ #[t, t] ty #[v, .slice (some a) m c]).run P w = .ok v' w') :
    v'.ownBlock = v.ownBlock ∨ v'.ownBlock = some w.heap.size := by
  have hsmall : n + m ≤ 9223372036854775807 := by simp only [maxLen] at h63; omega
  rcases hown.2 with ⟨rfl, rfl⟩ | ⟨g, cap, cur, rfl, hbg, hg, hnc, hcm, hcs, htake⟩
  · have hr := run_append_nil (P := P) w t ty e i z ht hi hz a m c news hl hnews (by omega) (by omega) (by have hb := hbytes; simp only [Nat.zero_add] at hb; exact Nat.le_trans (Nat.mul_le_mul_right _ (by omega)) hb)
    rw [hr] at hr'
    simp only [Result.ok.injEq] at hr'
    right; rw [← hr'.1]; rfl
  · by_cases hroom : n + m ≤ cap
    · have hfit : n * i.size + news.length ≤ cur.size := by rw [hl, hcs, ← Nat.add_mul]; exact Nat.mul_le_mul_right _ hroom
      have hr := run_append_room (P := P) w t ty e i ht hi g n cap cur hg a m c news hl hnews h1 hroom hfit
      rw [hr] at hr'
      simp only [Result.ok.injEq] at hr'
      left; rw [← hr'.1]; rfl
    · have holds : ∀ j u, xs[j]? = some u → w.cell? ((⟨g, 0, none⟩ : Addr).add j) = some u := hown.cells (g := g) rfl
      have hr := run_append_grow (P := P) w t ty e i z ht hi hz ⟨g, 0, none⟩ n cap xs hown.1 holds a m c news hl hnews (by omega) (by omega) (growslice_fits_wide (by omega) hbytes)
      rw [hr] at hr'
      simp only [Result.ok.injEq] at hr'
      right; rw [← hr'.1]; rfl
/-- One more element behind a long slice. -/
theorem app_oneW {t e : TypeId} {z : Value} {sz bytes : Nat} (ht : Tryz.prog.underlying t = some (.slice e))
    (hinfo : (Tryz.prog.info? e).map (fun i => (i.zero, i.size, i.bytes)) = some (some z, sz, bytes)) (hzs : z.cells.size = sz) (hsz : 0 < sz) (hby : bytes ≤ 24)
    (w : World) {ops : Array Oper} {rest : List Oper} {o : Oper} {a : Act} {Q : Exit → Act → World → Prop} (hgd : o.guard = none) (s x : Operand)
    (ho : o.op = .call { callee := .builtin .append, args := #[s, x], argTypes := #[t, t] })
    {base : Nat} {v : Value} {n : Nat} {xs : List Value} (hs : a.eval s = v) (hown : w.ownsRow base e sz v n xs)
    {g : Nat} (news : List Value) (hx : a.eval x = .slice (some ⟨g, 0, none⟩) 1 1) (hl : news.length = sz) (hnews : ∀ j u, news[j]? = some u → w.cell? ((⟨g, 0, none⟩ : Addr).add j) = some u)
    (h1 : ∀ u ∈ news, u.oneCell' = true) (hn : n ≤ 8000000000000) (hbase : base ≤ w.heap.size)
    (h : ∀ v' w', w'.ownsRow base e sz v' (n + 1) (xs ++ news) → w.grownBy w' v.ownBlock → (v'.ownBlock = v.ownBlock ∨ v'.ownBlock = some w.heap.size) → wpList Tryz.prog ops Q rest (a.put o.dst v') w') :
    wpList Tryz.prog ops Q (o :: rest) a w := by
  obtain ⟨i, hi, hz0, hz1, hz2⟩ := info_parts hinfo
  have hb2 : ((n + 1) + (n + 1) / 4 + 192) * bytes ≤ 281474976710656 := by
    have h5 : (n + 1) + (n + 1) / 4 + 192 ≤ 10000000000500 := by omega
    have : ((n + 1) + (n + 1) / 4 + 192) * bytes ≤ 10000000000500 * 24 := Nat.mul_le_mul h5 hby
    omega
  refine wpList_plain hgd fun K hK => ?_
  obtain ⟨v', w', hr, h2, h3, h4⟩ := run_append_own_wide (P := Tryz.prog) w base t o.type e i z sz bytes ht hi hz0 hz1 hz2 hzs hsz v n xs hown ⟨g, 0, none⟩ 1 1 news (by simpa using hl) hnews h1 (by unfold maxLen; omega) hb2 hbase
  have hw := append_whereW w t o.type e i z ht hi hz0 v n xs (by rw [hz1]; exact own_base hown (Nat.zero_le _)) ⟨g, 0, none⟩ 1 1 news (by rw [hz1]; simpa using hl) hnews h1 (by omega) (by unfold maxLen; omega) (by rw [hz2]; exact hb2) hr
  unfold Oper.wp execOp
  simp only [ho, resolve, invoke, builtin, Sem.run_bind, Sem.run_pure, Result.andThen_ok, List.map_toArray, List.map_cons, List.map_nil, hs, hx, hr]
  exact hK _ _ (h v' w' h2 h3 hw)

theorem infoPtrP : (Tryz.prog.info? 38).map (fun i => (i.zero, i.size, i.bytes)) = some (some (.pointer none), 1, 8) := by kernel_rfl
theorem infoPtrR : (Tryz.prog.info? 39).map (fun i => (i.zero, i.size, i.bytes)) = some (some (.pointer none), 1, 8) := by kernel_rfl
theorem infoLst : (Tryz.prog.info? 40).map (fun i => (i.zero, i.size, i.bytes)) = some (some (.slice none 0 0), 1, 24) := by kernel_rfl
theorem ptrs_one (a : Option Addr) : ∀ u ∈ [Value.pointer a], u.oneCell' = true := by intro u hu; simp at hu; subst hu; rfl
theorem lsts_one (a : Option Addr) (n cap : Nat) : ∀ u ∈ [Value.slice a n cap], u.oneCell' = true := by intro u hu; simp at hu; subst hu; rfl
end Go.Proofs.YtjhihliciadipabGreat

namespace Go.Proofs.YtjhihliciadipabGreat
open Go.RowKit

/-- In the midst of keep: the list g has been laid down k times, and is k marks long. -/
structure KMid (w wr : World) (W : Nat) (col : Nat → Nat) (A : Lw) (C : Int) (g : Value) (k : Nat) (col' : Nat → Nat) (A' : Lw) : Prop where
  at' : LwAt wr W col' A'
  fit : Fit A' C
  stp : Stp w wr col col'
  len : A'.lists.length = A.lists.length + k
  xs : A'.xs = A.xs
  gat : GAt wr col' g k A.lists.length
  pre : Pres A' g k A.lists.length
def KInv (w wr : World) (W : Nat) (col : Nat → Nat) (A : Lw) (C : Int) (g : Value) (k : Nat) : Prop := ∃ col' A', KMid w wr W col A C g k col' A'

/-- The world's own cells, as the walk takes them. -/
theorem LwX.cells {w : World} {W : Nat} {col : Nat → Nat} {A : Lw} (h : LwAt w W col A) :
    ∃ aL capL aM capM, A.vL = .slice aL A.lists.length capL ∧ A.vM = .slice aM A.marks.length capM := by
  obtain ⟨aL, capL, h1, -⟩ := own_form (h.ls id).1
  obtain ⟨aM, capM, h2, -⟩ := own_form (h.ms id).1
  exact ⟨aL, capL, aM, capM, h1, h2⟩
theorem LwX.ne {w : World} {W : Nat} {col : Nat → Nat} {A : Lw} (h : LwAt w W col A) :
    A.vP.ownBlock ≠ some W ∧ A.vR.ownBlock ≠ some W ∧ A.vL.ownBlock ≠ some W ∧ A.vM.ownBlock ≠ some W := by
  have h0 := h.cW
  exact ⟨fun e => by have := (h.ps id).2 W e; omega, fun e => by have := (h.rs id).2 W e; omega, fun e => by have := (h.ls id).2 W e; omega, fun e => by have := (h.ms id).2 W e; omega⟩

theorem fit_add {A : Lw} {C : Int} (h : Fit A C) (v vL vM : Value) {m : Nat} (hm : m ≤ 8000000000000) : Fit { A with vL := vL, lists := A.lists ++ [v], vM := vM, marks := A.marks ++ [(m : Int)] } C :=
  ⟨h.ps, h.rs, by simp [h.lm], fun x hx => by
    rcases List.mem_append.1 hx with h1 | h1
    · exact h.mb x h1
    · simp at h1; subst h1; omega, h.ok⟩
theorem mk_one (m : Int) : ∀ u ∈ mkV m, u.oneCell' = true := by intro u hu; simp [mkV] at hu; rcases hu with rfl | rfl | rfl | rfl <;> rfl
theorem Blk.new_set (w : World) (p : Addr) (u : Value) (T : TypeId) (arr : Array Value) : Blk ((w.setCell p u).alloc (.cells arr T)) w.heap.size T arr := by
  have h := Blk.new (w.setCell p u) T arr
  have e : (w.setCell p u).heap.size = w.heap.size := by simp [World.setCell]
  rwa [e] at h
theorem addL' {wr w1 : World} {W : Nat} {colr : Nat → Nat} {Ar : Lw} {C : Int} {aL a1 : Option Addr} {capL n1 cap1 : Nat} {g : Value} (hL : LwAt wr W colr Ar) (hF : Fit Ar C) (hvL : Ar.vL = .slice aL Ar.lists.length capL)
    (ho1 : w1.ownsRow 0 40 1 (.slice a1 n1 cap1) (Ar.lists.length + 1) (Ar.lists ++ [g])) (hg1 : (wr.alloc (.cells #[g] 40)).grownBy w1 (Value.slice aL Ar.lists.length capL).ownBlock)
    (hw1 : (Value.slice a1 n1 cap1).ownBlock = (Value.slice aL Ar.lists.length capL).ownBlock ∨ (Value.slice a1 n1 cap1).ownBlock = some (wr.alloc (.cells #[g] 40)).heap.size) :
    ∃ col2, LwAt (w1.setCell ⟨W, 2, none⟩ (.slice a1 n1 cap1)) W col2 { Ar with vL := .slice a1 n1 cap1, lists := Ar.lists ++ [g] } ∧ Stp wr (w1.setCell ⟨W, 2, none⟩ (.slice a1 n1 cap1)) colr col2 ∧
      (∀ u k m, GAt wr colr u k m → GAt (w1.setCell ⟨W, 2, none⟩ (.slice a1 n1 cap1)) col2 u k m) := by
  rw [← hvL] at hg1 hw1
  obtain ⟨h1, h2, h3⟩ := LwX.addL (hL.ext (Ext.new wr (.cells #[g] 40))) hF.lm ho1 hg1 hw1
  exact ⟨_, h1, (Stp.ext (Ext.new _ _)).trans h2, fun u k m hG => h3 u k m (hG.ext (Ext.new _ _))⟩
theorem addM' {wr w1 : World} {W : Nat} {colr : Nat → Nat} {Ar : Lw} {aM a1 : Option Addr} {capM n1 cap1 : Nat} {m : Int} (hL : LwAt wr W colr Ar) (hvM : Ar.vM = .slice aM Ar.marks.length capM)
    (hmk : ∀ v, Ar.lists[Ar.marks.length]? = some v → MkAt wr colr v m)
    (ho1 : w1.ownsRow 0 3 1 (.slice a1 n1 cap1) (Ar.marks.length + 1) (Ar.marks.map (Value.int .i64) ++ [.int .i64 m])) (hg1 : (wr.alloc (.cells #[.int .i64 m] 3)).grownBy w1 (Value.slice aM Ar.marks.length capM).ownBlock)
    (hw1 : (Value.slice a1 n1 cap1).ownBlock = (Value.slice aM Ar.marks.length capM).ownBlock ∨ (Value.slice a1 n1 cap1).ownBlock = some (wr.alloc (.cells #[.int .i64 m] 3)).heap.size) :
    ∃ col2, LwAt (w1.setCell ⟨W, 3, none⟩ (.slice a1 n1 cap1)) W col2 { Ar with vM := .slice a1 n1 cap1, marks := Ar.marks ++ [m] } ∧ Stp wr (w1.setCell ⟨W, 3, none⟩ (.slice a1 n1 cap1)) colr col2 ∧
      (∀ u k n, GAt wr colr u k n → GAt (w1.setCell ⟨W, 3, none⟩ (.slice a1 n1 cap1)) col2 u k n) := by
  rw [← hvM] at hg1 hw1
  obtain ⟨h1, h2, h3⟩ := LwX.addM (hL.ext (Ext.new wr (.cells #[.int .i64 m] 3))) (fun v hv => (hmk v hv).chg (S := fun _ => False) (Chg.of_ext (Ext.new _ _)) (fun _ _ f => f.elim) 5) ho1 hg1 hw1
  exact ⟨_, h1, (Stp.ext (Ext.new _ _)).trans h2, fun u k m hG => h3 u k m (hG.ext (Ext.new _ _))⟩

set_option maxRecDepth 100000 in
set_option maxHeartbeats 4000000 in
theorem keep_nil (W : Nat) (col : Nat → Nat) (A : Lw) (C : Int) (w : World) (h : LwAt w W col A) (hf : Fit A C) (hl : A.lists.length ≤ 7999999999000) :
    Calls Tryz.prog 39 #[.pointer (some ⟨W, 0, none⟩), .slice none 0 0] w fun e w' => e = .returned (.tuple #[]) ∧
      ∃ col' A', LwAt w' W col' A' ∧ Fit A' C ∧ Stp w w' col col' ∧ A'.lists.length = A.lists.length + 4 ∧ A'.xs = A.xs := by
  obtain ⟨aL0, capL0, aM0, capM0, hvL0, hvM0⟩ := h.cells
  have hcL : w.cell? ⟨W, 2, none⟩ = some A.vL := (h.blk id).cell 2
  rw [hvL0] at hcL
  have HI : Hid (KInv w w W col A C (.slice none 0 0) 0) := ⟨col, A, h, hf, Stp.refl _ _, rfl, rfl, GAt.nil _ _ _, Pres.nil _ _⟩
  clear hvL0 hvM0 h hf
  go_enter Tryz.func39, Tryz.ntmps39
  go_wp2_with fail
  go_loop [5] (fun k => k = .int .i64 0) (fun _ => 0)
  case atStart => rfl
  case round =>
    subst hrel
    go_wp2_with fail
    clear hcL
    go_loopw [6, 7] (fun g i wr => ∃ K : Nat, K ≤ 3 ∧ i = .int .i64 K ∧ Hid (KInv w wr W col A C g K)) (fun _ i _ => 3 - (intOf i).toNat)
    case atStart => exact ⟨0, by omega, rfl, HI⟩
    case round =>
      rename_i gv iv
      obtain ⟨K, hK, rfl, HI2⟩ := hrel
      obtain ⟨colr, Ar, hM⟩ := HI2.out
      obtain ⟨hLr, hFr, hSr, hlr, hxr, hGr, hPr⟩ := hM
      have HL := hide hLr
      have HF := hide hFr
      have HS := hide hSr
      have HN := hide hlr
      have HX := hide hxr
      have HG := hide hGr
      have HP := hide hPr
      obtain ⟨aL, capL, aM, capM, hvL, hvM⟩ := hLr.cells
      obtain ⟨aG, capG, hvG, -⟩ := own_form hGr.1
      subst hvG
      have hB := hLr.blk id
      have hlt := hLr.ltW
      have cL : wr.cell? ⟨W, 2, none⟩ = some (.slice aL Ar.lists.length capL) := by rw [← hvL]; exact hB.cell 2
      have cM : wr.cell? ⟨W, 3, none⟩ = some (.slice aM Ar.marks.length capM) := by rw [← hvM]; exact hB.cell 3
      have hoL := (hLr.ls id).1
      have hneL := hLr.ne.2.2.1
      have hneM := hLr.ne.2.2.2
      rw [hvL] at hoL hneL
      rw [hvM] at hneM
      have hb1 : Ar.lists.length ≤ 8000000000000 := by omega
      have hnn : (A.lists.length : Int) ≤ 8000000000000 := by omega
      have hb2 : Ar.marks.length ≤ 8000000000000 := by rw [← hFr.lm]; omega
      have HVL := hide hvL
      have HVM := hide hvM
      clear hvL hvM hLr hFr hSr hlr hxr hGr hPr HI HI2
      by_cases hlt3 : K < 3
      · have hlt3' : (K : Int) < 3 := by omega
        go_wp2_with (at_builtin; first | (refine app_oneW Tryz.underlying28 infoLst rfl (by decide) (by decide) _ rfl _ _ rfl (by rfl) (hoL.alloc _) [.slice aG K capG] rfl rfl (news_new _ _ _) (lsts_one _ _ _) (by omega) (Nat.zero_le _) ?_; intro v1 w1 ho1 hg1 hw1; obtain ⟨a1, cap1, rfl, hx1⟩ := own_form ho1; clear hx1; have hB1 : Blk w1 W 31 _ := (hB.ext (Ext.new _ _)).grown hg1 hneL; have c12 : w1.cell? ⟨W, 2, none⟩ = some (.slice aL Ar.lists.length capL) := (by rw [← HVL.out]; exact hB1.cell 2); have c13 : w1.cell? ⟨W, 3, none⟩ = some (.slice aM Ar.marks.length capM) := (by rw [← HVM.out]; exact hB1.cell 3); have f1 := hB1.frozen; have hlt1 := hB1.lt; obtain ⟨col2, hq2, hS2, hG2⟩ := addL' HL.out HF.out HVL.out ho1 hg1 hw1; have HL2 := hide hq2; have hoM2 : ((w1.setCell ⟨W, 2, none⟩ (.slice a1 (Ar.lists.length + 1) cap1))).ownsRow 0 3 1 (.slice aM Ar.marks.length capM) Ar.marks.length (Ar.marks.map (Value.int .i64)) := (by rw [← HVM.out]; exact (hq2.ms id).1); have hB2 := hq2.blk id; have HS2 := hide hS2; have HG2 := hide hG2; clear hq2 hS2 hG2) | (refine app_oneW Tryz.underlying29 infoInt rfl (by decide) (by decide) _ rfl _ _ rfl (by rfl) (hoM2.alloc _) [.int .i64 A.lists.length] rfl rfl (news_blk (l := [.int .i64 A.lists.length]) (Blk.new_set _ _ _ _ _)) (ints_one _) (by omega) (Nat.zero_le _) ?_; intro v3 w3 ho3 hg3 hw3; obtain ⟨a3, cap3, rfl, hx3⟩ := own_form ho3; clear hx3; have hB3 : Blk w3 W 31 _ := (hB2.ext (Ext.new _ _)).grown hg3 hneM; have c33 : w3.cell? ⟨W, 3, none⟩ = some Ar.vM := hB3.cell 3; have f3 := hB3.frozen; have hlt3 := hB3.lt))
        obtain ⟨colB, hLB, hSB, hGB⟩ := addM' HL2.out HVM.out (m := A.lists.length) (fun v hv => by
          have e : Ar.lists.length = Ar.marks.length := HF.out.lm
          have hv' : (Ar.lists ++ [Value.slice aG K capG])[Ar.marks.length]? = some v := hv
          rw [← e] at hv'
          simp at hv'
          subst hv'
          exact (HG2.out _ _ _ HG.out).mk (by omega)) ho3 hg3 hw3
        have hG4 := hGB _ _ _ (HG2.out _ _ _ HG.out)
        have hP4 := Pres.add HG.out HP.out HF.out.lm (.slice a1 (Ar.lists.length + 1) cap1) (.slice a3 (Ar.marks.length + 1) cap3)
        have hS4 := (HS.out.trans HS2.out).trans hSB
        clear hB1 c12 c13 f1 hlt1 hB2 hoM2 HL2 HS2 HG2 hB3 c33 f3 hlt3 ho1 hg1 hw1 cL cM hoL
        refine (mark_any A.lists.length _ (by omega) hnn).mono ?_
        rintro e w5 ⟨rfl, hE5⟩
        have hL5 := hLB.ext hE5
        have hG5 := hG4.ext hE5
        have hS5 := hS4.trans (Stp.ext hE5)
        have hL6 := hL5.ext (Ext.new w5 (.cells #[.int .i64 (-1), .int .i64 A.lists.length, .int .i64 (-A.lists.length), .int .i64 A.lists.length] 42))
        have hG6 := hG5.ext (Ext.new w5 (.cells #[.int .i64 (-1), .int .i64 A.lists.length, .int .i64 (-A.lists.length), .int .i64 A.lists.length] 42))
        have hS6 := hS5.trans (Stp.ext (Ext.new w5 (.cells #[.int .i64 (-1), .int .i64 A.lists.length, .int .i64 (-A.lists.length), .int .i64 A.lists.length] 42)))
        have HL6 := hide hL6
        have HG6 := hide hG6
        have HS6 := hide hS6
        have HP4 := hide hP4
        clear hL5 hG5 hS5 hLB hSB hGB hG4 hP4 hS4 hL6 hG6 hS6
        go_wp2_with (at_builtin; refine app_oneS Tryz.underlying40 infoEntry rfl (by decide) (by decide) _ rfl _ _ rfl (by rfl) HG6.out.1 (mkV A.lists.length) rfl rfl (news_new _ _ _) (mk_one _) (by omega) (Nat.zero_le _) ?_; intro v7 w7 ho7 hg7 hw7)
        obtain ⟨q1, q2, q3, q4⟩ := LwX.addG HL6.out HG6.out HP4.out ho7 hg7 hw7
        exact ⟨⟨K + 1, by omega, by go_num, hide ⟨_, _, ⟨q1, fit_add HF.out _ _ _ (by omega), HS6.out.trans q2, by simp; have := HN.out; omega, HX.out, q3, q4⟩⟩⟩, by simp [intOf]; omega⟩
      · have hK3 : K = 3 := by omega
        subst hK3
        go_wp2_with (at_builtin; first | (refine app_oneW Tryz.underlying28 infoLst rfl (by decide) (by decide) _ rfl _ _ rfl (by rfl) (hoL.alloc _) [.slice aG 3 capG] rfl rfl (news_new _ _ _) (lsts_one _ _ _) (by omega) (Nat.zero_le _) ?_; intro v1 w1 ho1 hg1 hw1; obtain ⟨a1, cap1, rfl, hx1⟩ := own_form ho1; clear hx1; have hB1 : Blk w1 W 31 _ := (hB.ext (Ext.new _ _)).grown hg1 hneL; have c12 : w1.cell? ⟨W, 2, none⟩ = some (.slice aL Ar.lists.length capL) := (by rw [← HVL.out]; exact hB1.cell 2); have c13 : w1.cell? ⟨W, 3, none⟩ = some (.slice aM Ar.marks.length capM) := (by rw [← HVM.out]; exact hB1.cell 3); have f1 := hB1.frozen; have hlt1 := hB1.lt; obtain ⟨col2, hq2, hS2, hG2⟩ := addL' HL.out HF.out HVL.out ho1 hg1 hw1; have HL2 := hide hq2; have hoM2 : ((w1.setCell ⟨W, 2, none⟩ (.slice a1 (Ar.lists.length + 1) cap1))).ownsRow 0 3 1 (.slice aM Ar.marks.length capM) Ar.marks.length (Ar.marks.map (Value.int .i64)) := (by rw [← HVM.out]; exact (hq2.ms id).1); have hB2 := hq2.blk id; have HS2 := hide hS2; have HG2 := hide hG2; clear hq2 hS2 hG2) | (refine app_oneW Tryz.underlying29 infoInt rfl (by decide) (by decide) _ rfl _ _ rfl (by rfl) (hoM2.alloc _) [.int .i64 A.lists.length] rfl rfl (news_blk (l := [.int .i64 A.lists.length]) (Blk.new_set _ _ _ _ _)) (ints_one _) (by omega) (Nat.zero_le _) ?_; intro v3 w3 ho3 hg3 hw3; obtain ⟨a3, cap3, rfl, hx3⟩ := own_form ho3; clear hx3; have hB3 : Blk w3 W 31 _ := (hB2.ext (Ext.new _ _)).grown hg3 hneM; have c33 : w3.cell? ⟨W, 3, none⟩ = some Ar.vM := hB3.cell 3; have f3 := hB3.frozen; have hlt3 := hB3.lt))
        obtain ⟨colB, hLB, hSB, hGB⟩ := addM' HL2.out HVM.out (m := A.lists.length) (fun v hv => by
          have e : Ar.lists.length = Ar.marks.length := HF.out.lm
          have hv' : (Ar.lists ++ [Value.slice aG 3 capG])[Ar.marks.length]? = some v := hv
          rw [← e] at hv'
          simp at hv'
          subst hv'
          exact (HG2.out _ _ _ HG.out).mk (by omega)) ho3 hg3 hw3
        go_end0
        exact ⟨rfl, _, _, hLB, fit_add HF.out _ _ _ (by omega), (HS.out.trans HS2.out).trans hSB, by simp; have := HN.out; omega, HX.out⟩
end Go.Proofs.YtjhihliciadipabGreat

namespace Go.Proofs.YtjhihliciadipabGreat
open Go.RowKit

theorem own_setCell {w : World} {base : Nat} {e : TypeId} {sz g n cap : Nat} {xs : List Value} (h : w.ownsRow base e sz (.slice (some ⟨g, 0, none⟩) n cap) n xs) (j : Nat) (hj : j < n * sz) (u : Value) :
    (w.setCell ⟨g, j, none⟩ u).ownsRow base e sz (.slice (some ⟨g, 0, none⟩) n cap) n (xs.set j u) := by
  obtain ⟨cur, hB, h1, h2, h3, h4, h5⟩ := own_blk h
  have hB2 := hB.set j u
  refine ⟨by rw [List.length_set]; exact h.1, .inr ⟨g, cap, cur.setIfInBounds j u, rfl, h5, hB2, h3, h4, by simpa using h1, ?_⟩⟩
  rw [← h2, Array.toList_setIfInBounds, List.take_set]

/-- In the midst of the first loop: k entries are written over. -/
def Rk (m : Int) (rows : List (Int × Int × Int × Int)) (k : Nat) : List (List Value) := List.replicate k (mkV m) ++ (rows.drop k).map erV
theorem Rk_len (m : Int) (rows : List (Int × Int × Int × Int)) (k : Nat) : ∀ r ∈ Rk m rows k, r.length = 4 := by
  intro r hr
  rcases List.mem_append.1 hr with h | h
  · rw [List.mem_replicate] at h; rw [h.2]; rfl
  · exact ers_len _ r h
theorem Rk_zero (m : Int) (rows : List (Int × Int × Int × Int)) : Rk m rows 0 = rows.map erV := by simp [Rk]
theorem Rk_all (m : Int) (rows : List (Int × Int × Int × Int)) : Rk m rows rows.length = List.replicate rows.length (mkV m) := by simp [Rk]
theorem Rk_get (m : Int) (rows : List (Int × Int × Int × Int)) (k : Nat) (hk : k < rows.length) : (Rk m rows k)[k]? = some (erV rows[k]) := by
  unfold Rk
  rw [List.getElem?_append_right (by simp)]
  simp [hk]
theorem Rk_succ (m : Int) (rows : List (Int × Int × Int × Int)) (k : Nat) (hk : k < rows.length) : (Rk m rows k).set k (mkV m) = Rk m rows (k + 1) := by
  unfold Rk
  rw [List.set_append_right _ _ (by simp), List.drop_eq_getElem_cons hk, List.replicate_succ']
  simp only [List.length_replicate, Nat.sub_self, List.map_cons, List.set_cons_zero, List.append_assoc, List.singleton_append]
theorem own_store4 {w : World} {e : TypeId} {g n cap : Nat} {R : List (List Value)} (hR : ∀ r ∈ R, r.length = 4) (h : w.ownsRow 0 e 4 (.slice (some ⟨g, 0, none⟩) n cap) n R.flatten) {i : Nat} (hi : i < n) {r0 r1 r2 r3 : Value} (hrow : R[i]? = some [r0, r1, r2, r3]) (u0 u1 u2 u3 : Value) :
    ((((w.setCell ⟨g, i * 4, none⟩ u0).setCell ⟨g, i * 4 + 1, none⟩ u1).setCell ⟨g, i * 4 + 2, none⟩ u2).setCell ⟨g, i * 4 + 3, none⟩ u3).ownsRow 0 e 4 (.slice (some ⟨g, 0, none⟩) n cap) n (R.set i [u0, u1, u2, u3]).flatten := by
  have hb : (i + 1) * 4 ≤ n * 4 := Nat.mul_le_mul_right 4 hi
  have hil := (List.getElem?_eq_some_iff.1 hrow).1
  have s0 := own_setCell h (i * 4) (by omega) u0
  have e0 := flat_set 4 R hR i 0 (by omega) u0 _ hrow
  rw [Nat.add_zero] at e0
  rw [e0] at s0
  have hset : ∀ (R' : List (List Value)) (row : List Value), (∀ r ∈ R', r.length = 4) → row.length = 4 → ∀ r ∈ R'.set i row, r.length = 4 := by
    intro R' row h1 h2 r hr
    rcases List.mem_or_eq_of_mem_set hr with h3 | rfl
    · exact h1 r h3
    · exact h2
  have R1 := hset R ([r0, r1, r2, r3].set 0 u0) hR rfl
  have s1 := own_setCell s0 (i * 4 + 1) (by omega) u1
  rw [flat_set 4 _ R1 i 1 (by omega) u1 [u0, r1, r2, r3] (by simp [hil]), List.set_set] at s1
  replace s1 : (((w.setCell ⟨g, i * 4, none⟩ u0).setCell ⟨g, i * 4 + 1, none⟩ u1)).ownsRow 0 e 4 (.slice (some ⟨g, 0, none⟩) n cap) n (R.set i [u0, u1, r2, r3]).flatten := s1
  have R2 := hset R [u0, u1, r2, r3] hR rfl
  have s2 := own_setCell s1 (i * 4 + 2) (by omega) u2
  rw [flat_set 4 _ R2 i 2 (by omega) u2 [u0, u1, r2, r3] (by simp [hil]), List.set_set] at s2
  replace s2 : (((w.setCell ⟨g, i * 4, none⟩ u0).setCell ⟨g, i * 4 + 1, none⟩ u1).setCell ⟨g, i * 4 + 2, none⟩ u2).ownsRow 0 e 4 (.slice (some ⟨g, 0, none⟩) n cap) n (R.set i [u0, u1, u2, r3]).flatten := s2
  have R3 := hset R [u0, u1, u2, r3] hR rfl
  have s3 := own_setCell s2 (i * 4 + 3) (by omega) u3
  rw [flat_set 4 _ R3 i 3 (by omega) u3 [u0, u1, u2, r3] (by simp [hil]), List.set_set] at s3
  exact s3

/-- No list that came out lies in the block b. -/
def Clear (A : Lw) (b : Nat) : Prop := ∀ (k : Nat) v m, A.lists[k]? = some v → A.marks[k]? = some m → ∀ a n cap, v = .slice a n cap → 0 < n → v.ownBlock ≠ some b

/-- The owner writes in a list that just came out. -/
theorem LwX.write {w w' : World} {W : Nat} {col : Nat → Nat} {A : Lw} (h : LwAt w W col A) {g : Nat} (hg : g < w.heap.size) (hcol : col g = 5) (hcl : Clear A g) (hc : Chg (fun b => b = g) w w') :
    LwAt w' W (recol w col 5) A ∧ Stp w w' col (recol w col 5) := by
  have h2 := (h.weaken (Y := fun c => c = 5) (fun _ e => e.elim)).stay hc (fun b _ hb => by subst hb; exact hcol) 5
  refine ⟨⟨h2.ltW, h2.cW, fun _ => h2.blk (by omega), fun _ => h2.ps (by omega), fun _ => h2.rs (by omega), fun _ => h2.ls (by omega), fun _ => h2.ms (by omega), fun _ k u m hu hm => ?_, fun k x hx _ => h2.pg k x hx (by omega), fun k x hx _ => h2.pr k x hx (by omega)⟩,
    Stp.of hc (fun b _ hb => by subst hb; rw [hcol]; omega) 5⟩
  obtain ⟨a, n, cap, e, hn, hr⟩ := h.ml id k u m hu hm
  refine ⟨a, n, cap, e, hn, fun hpos => ?_⟩
  obtain ⟨b, rfl, hb, hcb, hcell⟩ := hr hpos
  refine ⟨b, rfl, Nat.lt_of_lt_of_le hb hc.size, by rw [recol_old hb]; exact hcb, fun i hi r hr4 => ?_⟩
  rw [World.cell?_of_block (hc.block b hb (fun e2 => hcl k u m hu hm _ n cap e hpos (by rw [e]; subst e2; rfl)))]
  exact hcell i hi r hr4

/-- In the midst of keep: the list g has been laid down k times, and is n0 + k marks long. -/
structure KMidN (n0 : Nat) (w wr : World) (W : Nat) (col : Nat → Nat) (A : Lw) (C : Int) (g : Value) (k : Nat) (col' : Nat → Nat) (A' : Lw) : Prop where
  at' : LwAt wr W col' A'
  fit : Fit A' C
  stp : Stp w wr col col'
  len : A'.lists.length = A.lists.length + k
  xs : A'.xs = A.xs
  gat : GAt wr col' g (n0 + k) A.lists.length
  pre : Pres A' g (n0 + k) A.lists.length
def KInvN (n0 : Nat) (w wr : World) (W : Nat) (col : Nat → Nat) (A : Lw) (C : Int) (g : Value) (k : Nat) : Prop := ∃ col' A', KMidN n0 w wr W col A C g k col' A'
/-- In the first loop. -/
def KOne (w wr : World) (W : Nat) (col : Nat → Nat) (A : Lw) (v : Value) (rows : List (Int × Int × Int × Int)) (k : Nat) : Prop :=
  ∃ col', LwAt wr W col' A ∧ Stp w wr col col' ∧ wr.ownsRow 0 42 4 v rows.length (Rk A.lists.length rows k).flatten ∧ ∀ b, v.ownBlock = some b → col' b = 5

set_option maxRecDepth 100000 in
set_option maxHeartbeats 4000000 in
theorem lkeep_any (W : Nat) (col : Nat → Nat) (A : Lw) (C : Int) (v : Value) (rows : List (Int × Int × Int × Int)) (w : World) (h : LwAt w W col A) (hf : Fit A C) (hl : A.lists.length ≤ 7999999999000)
    (hov : w.ownsRow 0 42 4 v rows.length (rows.map erV).flatten) (hcol : ∀ b, v.ownBlock = some b → col b = 5 ∧ Clear A b) (hr : rows.length ≤ 1000000) :
    Calls Tryz.prog 39 #[.pointer (some ⟨W, 0, none⟩), v] w fun e w' => e = .returned (.tuple #[]) ∧
      ∃ col' A', LwAt w' W col' A' ∧ Fit A' C ∧ Stp w w' col col' ∧ A'.lists.length = A.lists.length + 4 ∧ A'.xs = A.xs := by
  obtain ⟨aL0, capL0, aM0, capM0, hvL0, hvM0⟩ := h.cells
  have hcL : w.cell? ⟨W, 2, none⟩ = some A.vL := (h.blk id).cell 2
  rw [hvL0] at hcL
  have HI0 : Hid (KOne w w W col A v rows 0) := ⟨col, h, Stp.refl _ _, by rw [Rk_zero]; exact hov, fun b hb => (hcol b hb).1⟩
  have HCL : Hid (∀ b, v.ownBlock = some b → Clear A b) := fun b hb => (hcol b hb).2
  have HF0 := hide hf
  obtain ⟨aV, capV, hvV, hgV⟩ := own_form hov
  subst hvV
  have hnn0 : (A.lists.length : Int) ≤ 8000000000000 := by omega
  clear hvL0 hvM0 h hf hov hcol
  go_enter Tryz.func39, Tryz.ntmps39
  go_wp2_with fail
  go_loopw [5] (fun i wr => ∃ k : Nat, k ≤ rows.length ∧ i = .int .i64 k ∧ Hid (KOne w wr W col A (.slice aV rows.length capV) rows k)) (fun i _ => rows.length - (intOf i).toNat)
  case atStart => exact ⟨0, Nat.zero_le _, rfl, HI0⟩
  case round =>
   obtain ⟨k, hk, rfl, HK1⟩ := hrel
   by_cases hlt1 : k < rows.length
   · obtain ⟨g, rfl⟩ := hgV (by omega)
     have hlt1' : (k : Int) < rows.length := by omega
     clear hgV
     go_wp2_with fail
     refine (mark_any A.lists.length _ (by omega) hnn0).mono ?_
     rintro e w5 ⟨rfl, hE5⟩
     obtain ⟨col1, hL1, hS1, ho1, hc1⟩ := HK1.out
     have hL5 := hL1.ext hE5
     have hS5 := hS1.trans (Stp.ext hE5)
     have ho5 := own_ext ho1 hE5
     have hg5 : recol wr col1 5 g = 5 := by rw [recol_old (ho1.lt g rfl).2]; exact hc1 g rfl
     have hgl5 := (ho5.lt g rfl).2
     have hb4 : (k + 1) * 4 ≤ rows.length * 4 := Nat.mul_le_mul_right 4 hlt1
     have hce : ∀ r, r < 4 → w5.cell? ⟨g, k * 4 + r, none⟩ = (erV rows[k])[r]? := by
       intro r hr
       rw [ho5.cellAt (k * 4 + r) (by omega), flat_get 4 _ (Rk_len _ _ _) k r hr, Rk_get _ _ _ hlt1]; rfl
     have q0 : w5.cell? ⟨g, k * 4, none⟩ = some (.int .i64 rows[k].1) := hce 0 (by omega)
     have q1 : w5.cell? ⟨g, k * 4 + 1, none⟩ = some (.int .i64 rows[k].2.1) := hce 1 (by omega)
     have q2 : w5.cell? ⟨g, k * 4 + 2, none⟩ = some (.int .i64 rows[k].2.2.1) := hce 2 (by omega)
     have q3 : w5.cell? ⟨g, k * 4 + 3, none⟩ = some (.int .i64 rows[k].2.2.2) := hce 3 (by omega)
     obtain ⟨cur5, hB5, -⟩ := own_blk ho5
     have f5 := hB5.frozen
     have ho6 := own_store4 (Rk_len _ _ _) ho5 hlt1 (Rk_get _ _ _ hlt1) (.int .i64 (-1)) (.int .i64 A.lists.length) (.int .i64 (-A.lists.length)) (.int .i64 A.lists.length)
     have hC6 : Chg (fun b => b = g) w5 ((((w5.setCell ⟨g, k * 4, none⟩ (.int .i64 (-1))).setCell ⟨g, k * 4 + 1, none⟩ (.int .i64 A.lists.length)).setCell ⟨g, k * 4 + 2, none⟩ (.int .i64 (-A.lists.length))).setCell ⟨g, k * 4 + 3, none⟩ (.int .i64 A.lists.length)) :=
       Chg.setCell (S := fun b => b = g) (Chg.setCell (S := fun b => b = g) (Chg.setCell (S := fun b => b = g) (Chg.setCell (S := fun b => b = g) (Chg.refl _ _) (p := ⟨g, k * 4, none⟩) (Or.inl rfl) _) (p := ⟨g, k * 4 + 1, none⟩) (Or.inl rfl) _) (p := ⟨g, k * 4 + 2, none⟩) (Or.inl rfl) _) (p := ⟨g, k * 4 + 3, none⟩) (Or.inl rfl) _
     obtain ⟨hL6, hS6⟩ := hL5.write hgl5 hg5 (HCL.out g rfl) hC6
     have HK2 : Hid (KOne w ((((w5.setCell ⟨g, k * 4, none⟩ (.int .i64 (-1))).setCell ⟨g, k * 4 + 1, none⟩ (.int .i64 A.lists.length)).setCell ⟨g, k * 4 + 2, none⟩ (.int .i64 (-A.lists.length))).setCell ⟨g, k * 4 + 3, none⟩ (.int .i64 A.lists.length)) W col A (.slice (some ⟨g, 0, none⟩) rows.length capV) rows (k + 1)) :=
       ⟨_, hL6, hS5.trans hS6, by rw [← Rk_succ _ _ _ hlt1]; exact ho6, fun b hb => by
         simp [Value.ownBlock] at hb; subst hb
         rw [recol_old hgl5]; exact hg5⟩
     generalize rows[k] = rk at *
     clear hL1 hS1 ho1 hc1 hL5 hS5 ho5 hce hB5 ho6 hC6 hL6 hS6 HK1
     go_wp2_with fail
     exact ⟨⟨k + 1, by omega, by go_num, HK2⟩, by simp [intOf]; omega⟩
   · have hk2 : k = rows.length := by omega
     subst hk2
     have HI : Hid (KInvN rows.length w wr W col A C (.slice aV rows.length capV) 0) := by
       obtain ⟨col1, hL1, hS1, ho1, hc1⟩ := HK1.out
       refine ⟨col1, A, hL1, HF0.out, hS1, rfl, rfl, ⟨by rw [Rk_all] at ho1; exact ho1, hc1⟩, ?_⟩
       intro k v' m' hv hm b a n' cap' e hb1 hb2 hpos
       exact absurd hb1 (HCL.out b hb2 k v' m' hv hm a n' cap' e hpos)
     clear hgV HK1 HI0 HCL HF0
     go_wp2_with fail
     clear hcL
     go_loopw [6, 7] (fun g i wr => ∃ K : Nat, K ≤ 3 ∧ i = .int .i64 K ∧ Hid (KInvN rows.length w wr W col A C g K)) (fun _ i _ => 3 - (intOf i).toNat)
     case atStart => exact ⟨0, by omega, rfl, HI⟩
     case round =>
       rename_i gv iv
       obtain ⟨K, hK, rfl, HI2⟩ := hrel
       obtain ⟨colr, Ar, hM⟩ := HI2.out
       obtain ⟨hLr, hFr, hSr, hlr, hxr, hGr, hPr⟩ := hM
       have HL := hide hLr
       have HF := hide hFr
       have HS := hide hSr
       have HN := hide hlr
       have HX := hide hxr
       have HG := hide hGr
       have HP := hide hPr
       obtain ⟨aL, capL, aM, capM, hvL, hvM⟩ := hLr.cells
       obtain ⟨aG, capG, hvG, -⟩ := own_form hGr.1
       subst hvG
       have hB := hLr.blk id
       have hlt := hLr.ltW
       have cL : wr.cell? ⟨W, 2, none⟩ = some (.slice aL Ar.lists.length capL) := by rw [← hvL]; exact hB.cell 2
       have cM : wr.cell? ⟨W, 3, none⟩ = some (.slice aM Ar.marks.length capM) := by rw [← hvM]; exact hB.cell 3
       have hoL := (hLr.ls id).1
       have hneL := hLr.ne.2.2.1
       have hneM := hLr.ne.2.2.2
       rw [hvL] at hoL hneL
       rw [hvM] at hneM
       have hb1 : Ar.lists.length ≤ 8000000000000 := by omega
       have hnn : (A.lists.length : Int) ≤ 8000000000000 := by omega
       have hb2 : Ar.marks.length ≤ 8000000000000 := by rw [← hFr.lm]; omega
       have HVL := hide hvL
       have HVM := hide hvM
       clear hvL hvM hLr hFr hSr hlr hxr hGr hPr HI HI2
       by_cases hlt3 : K < 3
       · have hlt3' : (K : Int) < 3 := by omega
         go_wp2_with (at_builtin; first | (refine app_oneW Tryz.underlying28 infoLst rfl (by decide) (by decide) _ rfl _ _ rfl (by rfl) (hoL.alloc _) [.slice aG (rows.length + K) capG] rfl rfl (news_new _ _ _) (lsts_one _ _ _) (by omega) (Nat.zero_le _) ?_; intro v1 w1 ho1 hg1 hw1; obtain ⟨a1, cap1, rfl, hx1⟩ := own_form ho1; clear hx1; have hB1 : Blk w1 W 31 _ := (hB.ext (Ext.new _ _)).grown hg1 hneL; have c12 : w1.cell? ⟨W, 2, none⟩ = some (.slice aL Ar.lists.length capL) := (by rw [← HVL.out]; exact hB1.cell 2); have c13 : w1.cell? ⟨W, 3, none⟩ = some (.slice aM Ar.marks.length capM) := (by rw [← HVM.out]; exact hB1.cell 3); have f1 := hB1.frozen; have hlt1 := hB1.lt; obtain ⟨col2, hq2, hS2, hG2⟩ := addL' HL.out HF.out HVL.out ho1 hg1 hw1; have HL2 := hide hq2; have hoM2 : ((w1.setCell ⟨W, 2, none⟩ (.slice a1 (Ar.lists.length + 1) cap1))).ownsRow 0 3 1 (.slice aM Ar.marks.length capM) Ar.marks.length (Ar.marks.map (Value.int .i64)) := (by rw [← HVM.out]; exact (hq2.ms id).1); have hB2 := hq2.blk id; have HS2 := hide hS2; have HG2 := hide hG2; clear hq2 hS2 hG2) | (refine app_oneW Tryz.underlying29 infoInt rfl (by decide) (by decide) _ rfl _ _ rfl (by rfl) (hoM2.alloc _) [.int .i64 A.lists.length] rfl rfl (news_blk (l := [.int .i64 A.lists.length]) (Blk.new_set _ _ _ _ _)) (ints_one _) (by omega) (Nat.zero_le _) ?_; intro v3 w3 ho3 hg3 hw3; obtain ⟨a3, cap3, rfl, hx3⟩ := own_form ho3; clear hx3; have hB3 : Blk w3 W 31 _ := (hB2.ext (Ext.new _ _)).grown hg3 hneM; have c33 : w3.cell? ⟨W, 3, none⟩ = some Ar.vM := hB3.cell 3; have f3 := hB3.frozen; have hlt3 := hB3.lt))
         obtain ⟨colB, hLB, hSB, hGB⟩ := addM' HL2.out HVM.out (m := A.lists.length) (fun v hv => by
           have e : Ar.lists.length = Ar.marks.length := HF.out.lm
           have hv' : (Ar.lists ++ [Value.slice aG (rows.length + K) capG])[Ar.marks.length]? = some v := hv
           rw [← e] at hv'
           simp at hv'
           subst hv'
           exact (HG2.out _ _ _ HG.out).mk (by omega)) ho3 hg3 hw3
         have hG4 := hGB _ _ _ (HG2.out _ _ _ HG.out)
         have hP4 := Pres.add HG.out HP.out HF.out.lm (.slice a1 (Ar.lists.length + 1) cap1) (.slice a3 (Ar.marks.length + 1) cap3)
         have hS4 := (HS.out.trans HS2.out).trans hSB
         clear hB1 c12 c13 f1 hlt1 hB2 hoM2 HL2 HS2 HG2 hB3 c33 f3 hlt3 ho1 hg1 hw1 cL cM hoL
         refine (mark_any A.lists.length _ (by omega) hnn).mono ?_
         rintro e w5 ⟨rfl, hE5⟩
         have hL5 := hLB.ext hE5
         have hG5 := hG4.ext hE5
         have hS5 := hS4.trans (Stp.ext hE5)
         have hL6 := hL5.ext (Ext.new w5 (.cells #[.int .i64 (-1), .int .i64 A.lists.length, .int .i64 (-A.lists.length), .int .i64 A.lists.length] 42))
         have hG6 := hG5.ext (Ext.new w5 (.cells #[.int .i64 (-1), .int .i64 A.lists.length, .int .i64 (-A.lists.length), .int .i64 A.lists.length] 42))
         have hS6 := hS5.trans (Stp.ext (Ext.new w5 (.cells #[.int .i64 (-1), .int .i64 A.lists.length, .int .i64 (-A.lists.length), .int .i64 A.lists.length] 42)))
         have HL6 := hide hL6
         have HG6 := hide hG6
         have HS6 := hide hS6
         have HP4 := hide hP4
         clear hL5 hG5 hS5 hLB hSB hGB hG4 hP4 hS4 hL6 hG6 hS6
         go_wp2_with (at_builtin; refine app_oneS Tryz.underlying40 infoEntry rfl (by decide) (by decide) _ rfl _ _ rfl (by rfl) HG6.out.1 (mkV A.lists.length) rfl rfl (news_new _ _ _) (mk_one _) (by omega) (Nat.zero_le _) ?_; intro v7 w7 ho7 hg7 hw7)
         obtain ⟨q1, q2, q3, q4⟩ := LwX.addG HL6.out HG6.out HP4.out ho7 hg7 hw7
         exact ⟨⟨K + 1, by omega, by go_num, hide ⟨_, _, ⟨q1, fit_add HF.out _ _ _ (by omega), HS6.out.trans q2, by simp; have := HN.out; omega, HX.out, q3, q4⟩⟩⟩, by simp [intOf]; omega⟩
       · have hK3 : K = 3 := by omega
         subst hK3
         go_wp2_with (at_builtin; first | (refine app_oneW Tryz.underlying28 infoLst rfl (by decide) (by decide) _ rfl _ _ rfl (by rfl) (hoL.alloc _) [.slice aG (rows.length + 3) capG] rfl rfl (news_new _ _ _) (lsts_one _ _ _) (by omega) (Nat.zero_le _) ?_; intro v1 w1 ho1 hg1 hw1; obtain ⟨a1, cap1, rfl, hx1⟩ := own_form ho1; clear hx1; have hB1 : Blk w1 W 31 _ := (hB.ext (Ext.new _ _)).grown hg1 hneL; have c12 : w1.cell? ⟨W, 2, none⟩ = some (.slice aL Ar.lists.length capL) := (by rw [← HVL.out]; exact hB1.cell 2); have c13 : w1.cell? ⟨W, 3, none⟩ = some (.slice aM Ar.marks.length capM) := (by rw [← HVM.out]; exact hB1.cell 3); have f1 := hB1.frozen; have hlt1 := hB1.lt; obtain ⟨col2, hq2, hS2, hG2⟩ := addL' HL.out HF.out HVL.out ho1 hg1 hw1; have HL2 := hide hq2; have hoM2 : ((w1.setCell ⟨W, 2, none⟩ (.slice a1 (Ar.lists.length + 1) cap1))).ownsRow 0 3 1 (.slice aM Ar.marks.length capM) Ar.marks.length (Ar.marks.map (Value.int .i64)) := (by rw [← HVM.out]; exact (hq2.ms id).1); have hB2 := hq2.blk id; have HS2 := hide hS2; have HG2 := hide hG2; clear hq2 hS2 hG2) | (refine app_oneW Tryz.underlying29 infoInt rfl (by decide) (by decide) _ rfl _ _ rfl (by rfl) (hoM2.alloc _) [.int .i64 A.lists.length] rfl rfl (news_blk (l := [.int .i64 A.lists.length]) (Blk.new_set _ _ _ _ _)) (ints_one _) (by omega) (Nat.zero_le _) ?_; intro v3 w3 ho3 hg3 hw3; obtain ⟨a3, cap3, rfl, hx3⟩ := own_form ho3; clear hx3; have hB3 : Blk w3 W 31 _ := (hB2.ext (Ext.new _ _)).grown hg3 hneM; have c33 : w3.cell? ⟨W, 3, none⟩ = some Ar.vM := hB3.cell 3; have f3 := hB3.frozen; have hlt3 := hB3.lt))
         obtain ⟨colB, hLB, hSB, hGB⟩ := addM' HL2.out HVM.out (m := A.lists.length) (fun v hv => by
           have e : Ar.lists.length = Ar.marks.length := HF.out.lm
           have hv' : (Ar.lists ++ [Value.slice aG (rows.length + 3) capG])[Ar.marks.length]? = some v := hv
           rw [← e] at hv'
           simp at hv'
           subst hv'
           exact (HG2.out _ _ _ HG.out).mk (by omega)) ho3 hg3 hw3
         go_end0
         exact ⟨rfl, _, _, hLB, fit_add HF.out _ _ _ (by omega), (HS.out.trans HS2.out).trans hSB, by simp; have := HN.out; omega, HX.out⟩

end Go.Proofs.YtjhihliciadipabGreat
