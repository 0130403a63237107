import Derived.Test.YtjhihliciadipaaK4
set_option linter.unusedVariables false
set_option linter.unusedSimpArgs false
set_option linter.unnecessarySimpa false
namespace Go.Proofs.Ytjhihliciadipaa
open Go.RowKit

/-! A play in memory. -/
structure Fe where
  path : Int
  tag : Int
  tot : Int
  off : Int
  len : Int
  deriving DecidableEq
structure Rp where
  tag : Int
  tot : Int
  off : Int
  body : ByteArray
structure Pl where
  q : Nat
  g : Pg
  st : St
  jobs : List Fe
  away : List Bool
  paths : List Int
  texts : List ByteArray
  taken : List ByteArray
  sent : List Rp
  dst : List Int
  bad : Bool
  ans : ByteArray
/-- Its slices' values. -/
structure Pv where
  p : Value
  t : Value
  k : Value
  s : Value
  o : Value

def feV (f : Fe) : List Value := [.int .i64 f.path, .int .i64 f.tag, .int .i64 f.tot, .int .i64 f.off, .int .i64 f.len]
def rpV (r : Rp) : List Value := [.int .i64 r.tag, .int .i64 r.tot, .int .i64 r.off, .string r.body]
def plV (P : Pl) (V : Pv) : List Value :=
  [.pointer (some ⟨P.q, 0, none⟩), .int .i64 P.st.m, .int .i64 P.st.b, .int .i64 P.st.wi, .int .i64 P.st.c, .int .i64 P.st.t] ++ ((P.jobs.map feV).flatten ++ (P.away.map .bool ++ [V.p, V.t, V.k, V.s, V.o, .bool P.bad, .string P.ans]))
theorem fes_len (l : List Fe) : ∀ r ∈ l.map feV, r.length = 5 := by intro r hr; rw [List.mem_map] at hr; obtain ⟨j, _, rfl⟩ := hr; rfl
theorem rps_len (l : List Rp) : ∀ r ∈ l.map rpV, r.length = 4 := by intro r hr; rw [List.mem_map] at hr; obtain ⟨j, _, rfl⟩ := hr; rfl

def recolK (w : World) (col : Nat → Nat) (c : Nat) (b : Nat) : Nat := if b < w.heap.size then col b else c
theorem recolK_old {w : World} {col : Nat → Nat} {c b : Nat} (h : b < w.heap.size) : recolK w col c b = col b := by unfold recolK; rw [if_pos h]
theorem recolK_new {w : World} {col : Nat → Nat} {c b : Nat} (h : w.heap.size ≤ b) : recolK w col c b = c := by unfold recolK; rw [if_neg (by omega)]

/-- The play in memory, but for the parts whose colours X has: its own block has the colour k, its slices those behind it, its proxy k + 6. -/
structure PlX (w : World) (y : Nat) (col : Nat → Nat) (k : Nat) (P : Pl) (V : Pv) (X : Nat → Prop) : Prop where
  lt : y < w.heap.size
  c0 : col y = k
  blk : ¬ X k → Blk w y 38 (plV P V).toArray
  pp : ¬ X (k + 1) → w.ownsRow 0 3 1 V.p P.paths.length (P.paths.map (.int .i64)) ∧ ∀ b, V.p.ownBlock = some b → col b = k + 1
  tt : ¬ X (k + 2) → w.ownsRow 0 9 1 V.t P.texts.length (P.texts.map .string) ∧ ∀ b, V.t.ownBlock = some b → col b = k + 2
  kk : ¬ X (k + 3) → w.ownsRow 0 9 1 V.k P.taken.length (P.taken.map .string) ∧ ∀ b, V.k.ownBlock = some b → col b = k + 3
  ss : ¬ X (k + 4) → w.ownsRow 0 42 4 V.s P.sent.length (P.sent.map rpV).flatten ∧ ∀ b, V.s.ownBlock = some b → col b = k + 4
  oo : ¬ X (k + 5) → w.ownsRow 0 3 1 V.o P.dst.length (P.dst.map (.int .i64)) ∧ ∀ b, V.o.ownBlock = some b → col b = k + 5
  pg : ¬ X (k + 6) → PgAt w P.q P.g ∧ ∀ b, PFoot P.q P.g b → col b = k + 6
  nj : P.jobs.length = 3
  na : P.away.length = 3
abbrev PlAt (w : World) (y : Nat) (col : Nat → Nat) (k : Nat) (P : Pl) (V : Pv) : Prop := PlX w y col k P V (fun _ => False)

theorem PlX.weaken {w : World} {y : Nat} {col : Nat → Nat} {k : Nat} {P : Pl} {V : Pv} {X Y : Nat → Prop} (h : PlX w y col k P V X) (hXY : ∀ c, X c → Y c) : PlX w y col k P V Y :=
  ⟨h.lt, h.c0, fun n => h.blk (fun e => n (hXY _ e)), fun n => h.pp (fun e => n (hXY _ e)), fun n => h.tt (fun e => n (hXY _ e)), fun n => h.kk (fun e => n (hXY _ e)), fun n => h.ss (fun e => n (hXY _ e)),
    fun n => h.oo (fun e => n (hXY _ e)), fun n => h.pg (fun e => n (hXY _ e)), h.nj, h.na⟩
/-- What has turned has a colour of X: all the rest stays. -/
theorem PlX.stay {S : Nat → Prop} {w w' : World} {y : Nat} {col : Nat → Nat} {k : Nat} {P : Pl} {V : Pv} {X : Nat → Prop} (h : PlX w y col k P V X) (hc : Chg S w w') (hS : ∀ b, b < w.heap.size → S b → X (col b)) (c : Nat) :
    PlX w' y (recolK w col c) k P V X := by
  have own : ∀ {e : TypeId} {sz : Nat} {v : Value} {n : Nat} {xs : List Value} (d : Nat), (¬ X d → w.ownsRow 0 e sz v n xs ∧ ∀ b, v.ownBlock = some b → col b = d) → ¬ X d →
      w'.ownsRow 0 e sz v n xs ∧ ∀ b, v.ownBlock = some b → recolK w col c b = d := by
    intro e sz v n xs d hh hx
    obtain ⟨h1, h2⟩ := hh hx
    refine ⟨own_chg h1 hc (fun b hb hs => hx ?_), fun b hb => ?_⟩
    · have := hS b (h1.lt b hb).2 hs; rwa [h2 b hb] at this
    · rw [recolK_old (h1.lt b hb).2]; exact h2 b hb
  refine ⟨Nat.lt_of_lt_of_le h.lt hc.size, by rw [recolK_old h.lt]; exact h.c0, fun hx => (h.blk hx).chg hc (fun hs => hx (by have := hS y h.lt hs; rwa [h.c0] at this)), own _ h.pp, own _ h.tt, own _ h.kk, own _ h.ss, own _ h.oo,
    fun hx => ?_, h.nj, h.na⟩
  obtain ⟨h1, h2⟩ := h.pg hx
  refine ⟨h1.chg hc (fun b hb hs => hx ?_), fun b hb => ?_⟩
  · have := hS b (h1.lt b hb) hs; rwa [h2 b hb] at this
  · rw [recolK_old (h1.lt b hb)]; exact h2 b hb
theorem PlX.ext {w w' : World} {y : Nat} {col : Nat → Nat} {k : Nat} {P : Pl} {V : Pv} {X : Nat → Prop} (h : PlX w y col k P V X) (hE : Ext w w') (c : Nat) : PlX w' y (recolK w col c) k P V X :=
  h.stay (S := fun _ => False) (Chg.of_ext hE) (fun _ _ f => f.elim) c

/-- What a step of the play does to all that is outside it: nothing of another colour turns; old blocks keep their colours. -/
structure StK (w w' : World) (col col' : Nat → Nat) (k : Nat) : Prop where
  chg : Chg (fun b => k ≤ col b ∧ col b ≤ k + 6) w w'
  col : ∀ b, b < w.heap.size → col' b = col b
theorem StK.of {S : Nat → Prop} {w w' : World} {col : Nat → Nat} {k : Nat} (hc : Chg S w w') (hS : ∀ b, b < w.heap.size → S b → k ≤ col b ∧ col b ≤ k + 6) (c : Nat) : StK w w' col (recolK w col c) k :=
  ⟨hc.mono hS, fun b hb => recolK_old hb⟩
theorem StK.trans {w w1 w2 : World} {col col1 col2 : Nat → Nat} {k : Nat} (h : StK w w1 col col1 k) (j : StK w1 w2 col1 col2 k) : StK w w2 col col2 k :=
  ⟨h.chg.trans' (j.chg.mono (fun b _ hb => by
      by_cases hlt : b < w.heap.size
      · left; rw [h.col b hlt] at hb; exact hb
      · right; omega)), fun b hb => (j.col b (Nat.lt_of_lt_of_le hb h.chg.size)).trans (h.col b hb)⟩
theorem StK.refl (w : World) (col : Nat → Nat) (k : Nat) : StK w w col col k := ⟨Chg.refl _ _, fun _ _ => rfl⟩
theorem StK.ext {w w' : World} {col : Nat → Nat} {k : Nat} (hE : Ext w w') (c : Nat) : StK w w' col (recolK w col c) k := StK.of (S := fun _ => False) (Chg.of_ext hE) (fun _ _ f => f.elim) c

/-- The proxy has made a step. -/
theorem PlX.pgS {w w' : World} {y : Nat} {col : Nat → Nat} {k : Nat} {P : Pl} {V : Pv} (h : PlAt w y col k P V) {g' : Pg} (hP : PgAt w' P.q g') (hM : PMvs w w' P.q P.g g') :
    PlAt w' y (recolK w col (k + 6)) k { P with g := g' } V ∧ StK w w' col (recolK w col (k + 6)) k := by
  have hx := h.pg id
  have h2 := (h.weaken (Y := fun c => c = k + 6) (fun _ e => e.elim)).stay hM.chg (fun b _ hb => hx.2 b hb) (k + 6)
  refine ⟨⟨h2.lt, h2.c0, fun _ => h2.blk (by omega), fun _ => h2.pp (by omega), fun _ => h2.tt (by omega), fun _ => h2.kk (by omega), fun _ => h2.ss (by omega), fun _ => h2.oo (by omega), fun _ => ⟨hP, fun b hb => ?_⟩, h2.nj, h2.na⟩,
    StK.of hM.chg (fun b _ hb => by rw [hx.2 b hb]; omega) _⟩
  rcases hM.foot b hb with h1 | h1
  · rw [recolK_old (hx.1.lt b h1)]; exact hx.2 b h1
  · exact recolK_new h1

/-- One cell of the play's own block is stored; its slices stay where they are. -/
theorem PlX.own {w : World} {y : Nat} {col : Nat → Nat} {k : Nat} {P : Pl} {V : Pv} (h : PlAt w y col k P V) (r : Nat) (u : Value) (P' : Pl) (hrow : (plV P V).set r u = plV P' V)
    (e1 : P'.paths = P.paths) (e2 : P'.texts = P.texts) (e3 : P'.taken = P.taken) (e4 : P'.sent = P.sent) (e5 : P'.dst = P.dst) (e6 : P'.q = P.q) (e7 : P'.g = P.g) (nj : P'.jobs.length = 3) (na : P'.away.length = 3) :
    PlAt (w.setCell ⟨y, r, none⟩ u) y (recolK w col 0) k P' V ∧ StK w (w.setCell ⟨y, r, none⟩ u) col (recolK w col 0) k := by
  have hC : Chg (fun b => b = y) w (w.setCell ⟨y, r, none⟩ u) := Chg.setCell (S := fun b => b = y) (Chg.refl _ _) (p := ⟨y, r, none⟩) (Or.inl rfl) _
  have h2 := (h.weaken (Y := fun c => c = k) (fun _ e => e.elim)).stay hC (fun b _ hb => by rw [hb]; exact h.c0) 0
  refine ⟨⟨h2.lt, h2.c0, fun _ => ?_, fun _ => by rw [e1]; exact h2.pp (by omega), fun _ => by rw [e2]; exact h2.tt (by omega), fun _ => by rw [e3]; exact h2.kk (by omega), fun _ => by rw [e4]; exact h2.ss (by omega),
    fun _ => by rw [e5]; exact h2.oo (by omega), fun _ => by rw [e6, e7]; exact h2.pg (by omega), nj, na⟩, StK.of hC (fun b _ hb => by rw [hb, h.c0]; omega) _⟩
  have := (h.blk id).set r u
  rw [List.setIfInBounds_toArray, hrow] at this
  exact this
end Go.Proofs.Ytjhihliciadipaa
