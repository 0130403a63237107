import Derived.Test.YtjhihliciadipabGreatHeadP
import Derived.Test.YtjhihliciadipabGreatRep
import Derived.Test.YtjhihliciadipabGreatOver
import Derived.Test.YtjhihliciadipabGreatPdef
set_option linter.unusedVariables false
set_option linter.unusedSimpArgs false
set_option linter.unnecessarySimpa false
namespace Go.Proofs.YtjhihliciadipabGreat

/-- What is so of one transfer between any two steps. -/
structure MvGood (B tri : Int) (m : Mv) : Prop where
  ok : MvOk m
  f0 : 0 ≤ m.fails
  f1 : m.fails ≤ 4
  f2 : m.lost = false → m.fails < tri
  p0 : 0 ≤ m.path
  p1 : m.path < 4
  has : HasOk B m
  tk : m.taken ≤ lenL m
  sh : m.shown = false → m.taken = 0
  op : m.tag = 0 → m.lost = false → m.shown = false

/-- What is so of the document's proxy between any two steps. -/
structure Good (s : Pr) (C : Int) : Prop where
  inv : Inv s C
  ts : ∀ m ∈ s.ts, MvGood s.blk s.tri m
  nj : s.jobs.length = s.mir.toNat
  nl : s.latest.length = 4
  lat : ∀ v ∈ s.latest, 0 ≤ v.2 ∧ v.2 ≤ 1000
  jobs : ∀ j ∈ s.jobs, 0 ≤ j.path ∧ j.path < 4 ∧ 0 ≤ j.k ∧ j.k ≤ 100000
  cache : ∀ x ∈ s.cache, (x.body.size : Int) = sizeL s.blk x.tot x.k

theorem Good.fl {s : Pr} {C : Int} (h : Good s C) : ∀ m ∈ s.ts, 0 ≤ m.fails ∧ m.fails ≤ 1000 := fun m hm => ⟨(h.ts m hm).f0, by have := (h.ts m hm).f1; omega⟩

theorem Good.mono {s : Pr} {C D : Int} (h : Good s C) (hCD : C ≤ D) : Good s D := ⟨h.inv.mono hCD, h.ts, h.nj, h.nl, h.lat, h.jobs, h.cache⟩
end Go.Proofs.YtjhihliciadipabGreat

namespace Go.Proofs.YtjhihliciadipabGreat
open Go.RowKit

/-- What a call of the document's proxy leaves behind: it has n transfers then. -/
def RStep (w w' : World) (p : Nat) (s : Pr) (L : Lay) (n : Nat) (C : Int) : Prop := ∃ s' L', s'.ts.length = n ∧ PrAt w' p s' L' ∧ Mvs w w' p L L' ∧ Good s' (C + 8193)
theorem RStep.ext {w w' : World} {p : Nat} {s : Pr} {L : Lay} {C : Int} (h : PrAt w p s L) (hg : Good s C) (hE : Ext w w') : RStep w w' p s L s.ts.length C :=
  ⟨s, L, rfl, h.ext hE, Mvs.of_ext hE, hg.mono (by omega)⟩

def ansA (n : Nat) (path : Int) : Int × Int := if path < 0 ∨ 4 ≤ path then (0, 2) else if n = 8 then (0, 3) else (n, 0)
def cntA (n : Nat) (path : Int) : Nat := if path < 0 ∨ 4 ≤ path then n else if n = 8 then n else n + 1

def NextRet (e : Ending) : Prop := ∃ (a b c d f : Int) (i : Bool) (n : Int), e = .returned (.tuple #[fetAgg a b c d f, .bool i, .int .i64 n])
def IntRet (e : Ending) : Prop := ∃ n : Int, e = .returned (.int .i64 n)
def HeadRet (e : Ending) : Prop := ∃ (a b c d f : Int) (n : Int), e = .returned (.tuple #[headAgg a b c d f, .int .i64 n])
def TakeRet (e : Ending) : Prop := ∃ (b : ByteArray) (n : Int), e = .returned (.tuple #[.string b, .int .i64 n])
def TwoRet (e : Ending) : Prop := ∃ a b : Int, e = .returned (.tuple #[.int .i64 a, .int .i64 b])
end Go.Proofs.YtjhihliciadipabGreat
