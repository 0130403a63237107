import Derived.Test.YtpiopalfnjohfaaHeadP
import Derived.Test.YtpiopalfnjohfaaRep
import Derived.Test.YtpiopalfnjohfaaOver
set_option linter.unusedVariables false
set_option linter.unusedSimpArgs false
set_option linter.unnecessarySimpa false
namespace Go.Proofs.Ytpiopalfnjohfaa

/-- What is so of one transfer between any two steps. -/
structure MvGood (B tri : Int) (m : Mv) : Prop where
  ok : MvOk m
  f0 : 0 ≤ m.fails
  f1 : m.fails ≤ 4
  f2 : m.lost = false → m.fails < tri
  p0 : 0 ≤ m.path
  p1 : m.path < 4
  has : HasOk B m
  tk : m.taken ≤ lenL m
  sh : m.shown = false → m.taken = 0
  op : m.tag = 0 → m.lost = false → m.shown = false

/-- What is so of the document's proxy between any two steps. -/
structure Good (s : Pr) (C : Int) : Prop where
  inv : Inv s C
  ts : ∀ m ∈ s.ts, MvGood s.blk s.tri m
  nj : s.jobs.length = s.mir.toNat
  nl : s.latest.length = 4
  lat : ∀ v ∈ s.latest, 0 ≤ v.2 ∧ v.2 ≤ 1000
  jobs : ∀ j ∈ s.jobs, 0 ≤ j.path ∧ j.path < 4 ∧ 0 ≤ j.k ∧ j.k ≤ 100000
  cache : ∀ x ∈ s.cache, (x.body.size : Int) = sizeL s.blk x.tot x.k

theorem Good.fl {s : Pr} {C : Int} (h : Good s C) : ∀ m ∈ s.ts, 0 ≤ m.fails ∧ m.fails ≤ 1000 := fun m hm => ⟨(h.ts m hm).f0, by have := (h.ts m hm).f1; omega⟩

theorem Good.mono {s : Pr} {C D : Int} (h : Good s C) (hCD : C ≤ D) : Good s D := ⟨h.inv.mono hCD, h.ts, h.nj, h.nl, h.lat, h.jobs, h.cache⟩
end Go.Proofs.Ytpiopalfnjohfaa

namespace Go.Proofs.Ytpiopalfnjohfaa
open Go.RowKit

/-- The program's proxy, as far as the first stage goes: its transfers' path and range, and where their slice lies. -/
structure Pg where
  m : Int
  b : Int
  wi : Int
  c : Int
  t : Int
  trs : List (Int × Int × Int × Int)
  v : Value
def trV (x : Int × Int × Int × Int) : List Value := [.int .i64 x.1, .int .i64 x.2.1, .int .i64 x.2.2.1, .int .i64 x.2.2.2, .bool false, .bool false, .int .i64 0, .int .i64 0, .int .i64 0, .int .i64 0, .int .i64 0]
def pgV (g : Pg) : List Value := [.int .i64 g.m, .int .i64 g.b, .int .i64 g.wi, .int .i64 g.c, .int .i64 g.t, .int .i64 0, .int .i64 0, .int .i64 0, .int .i64 0, .int .i64 0, .int .i64 0, .int .i64 0, .int .i64 0, g.v]
structure PgAt (w : World) (q : Nat) (g : Pg) : Prop where
  blk : Blk w q 83 (pgV g).toArray
  ts : w.ownsRow 0 77 11 g.v g.trs.length (g.trs.map trV).flatten
  np : g.v.ownBlock ≠ some q
def PFoot (q : Nat) (g : Pg) (b : Nat) : Prop := b = q ∨ g.v.ownBlock = some b
theorem trs_len (l : List (Int × Int × Int × Int)) : ∀ r ∈ l.map trV, r.length = 11 := by intro r hr; rw [List.mem_map] at hr; obtain ⟨j, _, rfl⟩ := hr; rfl
theorem PgAt.lt {w : World} {q : Nat} {g : Pg} (h : PgAt w q g) : ∀ b, PFoot q g b → b < w.heap.size := by
  rintro b (rfl | hb)
  · exact h.blk.lt
  · exact (h.ts.lt b hb).2
theorem PgAt.chg {S : Nat → Prop} {w w' : World} {q : Nat} {g : Pg} (h : PgAt w q g) (hc : Chg S w w') (hs : ∀ b, PFoot q g b → ¬ S b) : PgAt w' q g :=
  ⟨h.blk.chg hc (hs q (Or.inl rfl)), own_chg h.ts hc (fun k hk => hs k (Or.inr hk)), h.np⟩
theorem PgAt.ext {w w' : World} {q : Nat} {g : Pg} (h : PgAt w q g) (hc : Ext w w') : PgAt w' q g :=
  h.chg (S := fun _ => False) (Chg.of_ext hc) (fun _ _ => id)
theorem PgAt.cellT {w : World} {q : Nat} {g : Pg} (h : PgAt w q g) {i : Nat} (hi : i < g.trs.length)
    {k cap : Nat} (hT : g.v = .slice (some ⟨k, 0, none⟩) g.trs.length cap) (r : Nat) (hr : r < 11) : w.cell? ⟨k, i * 11 + r, none⟩ = (trV g.trs[i])[r]? := by
  have hts := h.ts
  rw [hT] at hts
  rw [hts.cellAt (i * 11 + r) (by have : (i + 1) * 11 ≤ g.trs.length * 11 := Nat.mul_le_mul_right 11 hi; omega), flat_get 11 _ (trs_len _) i r hr, List.getElem?_map]; simp [hi]

/-- What has turned lies in the proxy; what it now has is what it had, or new. -/
structure PMvs (w w' : World) (q : Nat) (g g' : Pg) : Prop where
  chg : Chg (PFoot q g) w w'
  foot : ∀ b, PFoot q g' b → PFoot q g b ∨ w.heap.size ≤ b
theorem PMvs.of_ext {w w' : World} {q : Nat} {g : Pg} (h : Ext w w') : PMvs w w' q g g := ⟨Chg.of_ext h, fun b h => Or.inl h⟩

theorem PMvs.trans {w w1 w2 : World} {q : Nat} {g g1 g2 : Pg} (h : PMvs w w1 q g g1) (k : PMvs w1 w2 q g1 g2) : PMvs w w2 q g g2 :=
  ⟨h.chg.trans' (k.chg.mono (fun b _ hb => h.foot b hb)), fun b hb => by
    rcases k.foot b hb with h1 | h1
    · exact h.foot b h1
    · exact Or.inr (Nat.le_trans h.chg.size h1)⟩
/-- What a call of the document's proxy leaves behind: it has n transfers then. -/
def RStep (w w' : World) (p : Nat) (s : Pr) (L : Lay) (n : Nat) (C : Int) : Prop := ∃ s' L', s'.ts.length = n ∧ PrAt w' p s' L' ∧ Mvs w w' p L L' ∧ Good s' (C + 8193)
theorem RStep.ext {w w' : World} {p : Nat} {s : Pr} {L : Lay} {C : Int} (h : PrAt w p s L) (hg : Good s C) (hE : Ext w w') : RStep w w' p s L s.ts.length C :=
  ⟨s, L, rfl, h.ext hE, Mvs.of_ext hE, hg.mono (by omega)⟩

/-- What a call of the program's proxy leaves behind: it has n transfers then. -/
def PStep (w w' : World) (q : Nat) (g : Pg) (n : Nat) : Prop := ∃ g', g'.trs.length = n ∧ PgAt w' q g' ∧ PMvs w w' q g g'
theorem PStep.ext {w w' : World} {q : Nat} {g : Pg} (h : PgAt w q g) (hE : Ext w w') : PStep w w' q g g.trs.length := ⟨g, rfl, h.ext hE, PMvs.of_ext hE⟩

def ansA (n : Nat) (path : Int) : Int × Int := if path < 0 ∨ 4 ≤ path then (0, 2) else if n = 8 then (0, 3) else (n, 0)
def cntA (n : Nat) (path : Int) : Nat := if path < 0 ∨ 4 ≤ path then n else if n = 8 then n else n + 1

def NextRet (e : Ending) : Prop := ∃ (a b c d f : Int) (i : Bool) (n : Int), e = .returned (.tuple #[fetAgg a b c d f, .bool i, .int .i64 n])
def IntRet (e : Ending) : Prop := ∃ n : Int, e = .returned (.int .i64 n)
def HeadRet (e : Ending) : Prop := ∃ (a b c d f : Int) (n : Int), e = .returned (.tuple #[headAgg a b c d f, .int .i64 n])
def TakeRet (e : Ending) : Prop := ∃ (b : ByteArray) (n : Int), e = .returned (.tuple #[.string b, .int .i64 n])
def TwoRet (e : Ending) : Prop := ∃ a b : Int, e = .returned (.tuple #[.int .i64 a, .int .i64 b])
end Go.Proofs.Ytpiopalfnjohfaa
