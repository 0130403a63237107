import Derived.Test.YtjhihliciadipabGreatKit
set_option linter.unusedVariables false
set_option linter.unusedSimpArgs false
set_option linter.unnecessarySimpa false
namespace Go.Proofs.YtjhihliciadipabGreat
open Go.RowKit

/-! The program's proxy: what its cells hold. -/

structure Hd where
  st : Int
  tag : Int
  tot : Int
  frm : Int
  len : Int
  deriving DecidableEq
structure Tr where
  path : Int
  kind : Int
  fst : Int
  lst : Int
  bound : Bool
  shown : Bool
  lost : Bool
  hd : Hd
  taken : Int
  fails : Int
  held : List ByteArray
structure Er where
  path : Int
  tag : Int
  tot : Int
  blk : Int
  deriving DecidableEq
structure Px where
  mir : Int
  blk : Int
  win : Int
  cap : Int
  tri : Int
  lat : List (Int × Int)
  trs : List Tr
  busy : List Bool
  ers : List Er
  cac : List (Er × ByteArray)
/-- Where the transfers and the cache's blocks lie. -/
structure Vs where
  t : Value
  c : Value
/-- The proxy, and where its slices lie. -/
structure Pg where
  s : Px
  v : Vs
abbrev Pg.trs (g : Pg) : List Tr := g.s.trs

def trV (t : Tr) : List Value :=
  [.int .i64 t.path, .int .i64 t.kind, .int .i64 t.fst, .int .i64 t.lst, .bool t.bound, .bool t.shown, .bool t.lost, .int .i64 t.hd.st, .int .i64 t.hd.tag, .int .i64 t.hd.tot, .int .i64 t.hd.frm, .int .i64 t.hd.len,
    .int .i64 t.taken, .int .i64 t.fails] ++ t.held.map .string
def pverV (v : Int × Int) : List Value := [.int .i64 v.1, .int .i64 v.2]
def perV (e : Er) : List Value := [.int .i64 e.path, .int .i64 e.tag, .int .i64 e.tot, .int .i64 e.blk]
def setV (s : Px) : List Value := [.int .i64 s.mir, .int .i64 s.blk, .int .i64 s.win, .int .i64 s.cap, .int .i64 s.tri]
def caV (x : Er × ByteArray) : List Value := [.int .i64 x.1.path, .int .i64 x.1.tag, .int .i64 x.1.tot, .int .i64 x.1.blk, .string x.2]
def pgV (g : Pg) : List Value := setV g.s ++ ((g.s.lat.map pverV).flatten ++ (g.v.t :: (g.s.busy.map .bool ++ ((g.s.ers.map perV).flatten ++ [.int .i64 g.s.cap, g.v.c]))))
/-- How many bytes are in the cache. -/
def usedC (l : List (Er × ByteArray)) : Int := l.foldl (fun n x => n + (x.2.size : Int)) 0

structure TrOk (t : Tr) : Prop where
  p0 : 0 ≤ t.path
  p1 : t.path < 4
  f0 : 0 ≤ t.fst
  f1 : t.fst ≤ 999999
  l0 : 0 ≤ t.lst
  l1 : t.lst ≤ 999999
  hl : t.held.length = 4
  hb : ∀ b ∈ t.held, b.size ≤ 16
  r0 : 0 ≤ t.hd.frm
  n0 : 0 ≤ t.hd.len
  n1 : t.hd.frm + t.hd.len ≤ 1000
  k0 : 0 ≤ t.taken
  k1 : t.taken ≤ t.hd.len
  a0 : 0 ≤ t.fails
  a1 : t.fails ≤ 4
  a2 : t.lost = false → t.fails < 4
  sh : t.shown = false → t.taken = 0
  op : t.bound = false → t.lost = false → t.shown = false
  o0 : 0 ≤ t.hd.tot
  o1 : t.hd.tot ≤ 1000

structure Fair (s : Px) : Prop where
  m1 : 1 ≤ s.mir
  m2 : s.mir ≤ 3
  B1 : 1 ≤ s.blk
  B2 : s.blk ≤ 16
  W1 : 1 ≤ s.win
  W2 : s.win ≤ 4
  c1 : 0 ≤ s.cap
  c2 : s.cap ≤ 256
  t1 : 1 ≤ s.tri
  t2 : s.tri ≤ 4

structure POk (s : Px) : Prop where
  fair : Fair s
  nl : s.lat.length = 4
  lat : ∀ v ∈ s.lat, 0 ≤ v.1 ∧ v.1 ≤ 99 ∧ 0 ≤ v.2 ∧ v.2 ≤ 1000
  nt : s.trs.length ≤ 8
  ts : ∀ t ∈ s.trs, TrOk t
  nb : s.busy.length = 3
  ne : s.ers.length = 3
  ers : ∀ e ∈ s.ers, 0 ≤ e.path ∧ e.path < 4 ∧ 0 ≤ e.blk ∧ e.blk ≤ 1000
  cl : s.cac.length ≤ 257
  cb : ∀ x ∈ s.cac, x.2.size ≤ 16
/-- The cache between two calls. -/
structure COk (s : Px) : Prop where
  c1 : ∀ x ∈ s.cac, 1 ≤ x.2.size
  cu : usedC s.cac ≤ s.cap

theorem Fair.withTrs {s : Px} (h : Fair s) (l : List Tr) : Fair { s with trs := l } := ⟨h.m1, h.m2, h.B1, h.B2, h.W1, h.W2, h.c1, h.c2, h.t1, h.t2⟩
theorem POk.withTrs {s : Px} (h : POk s) {l : List Tr} (hn : l.length ≤ 8) (hl : ∀ t ∈ l, TrOk t) : POk { s with trs := l } := ⟨h.fair.withTrs l, h.nl, h.lat, hn, hl, h.nb, h.ne, h.ers, h.cl, h.cb⟩

theorem trs_len {l : List Tr} (h : ∀ t ∈ l, TrOk t) : ∀ r ∈ l.map trV, r.length = 18 := by
  intro r hr; rw [List.mem_map] at hr; obtain ⟨j, hj, rfl⟩ := hr; simp [trV, (h j hj).hl]
theorem pvers_len (l : List (Int × Int)) : ∀ r ∈ l.map pverV, r.length = 2 := by intro r hr; rw [List.mem_map] at hr; obtain ⟨j, _, rfl⟩ := hr; rfl
theorem cas_len (l : List (Er × ByteArray)) : ∀ r ∈ l.map caV, r.length = 5 := by intro r hr; rw [List.mem_map] at hr; obtain ⟨j, _, rfl⟩ := hr; rfl
theorem pers_len (l : List Er) : ∀ r ∈ l.map perV, r.length = 4 := by intro r hr; rw [List.mem_map] at hr; obtain ⟨j, _, rfl⟩ := hr; rfl

/-- The proxy in memory; its cache may be too full. -/
structure PgW (w : World) (q : Nat) (g : Pg) : Prop where
  blk : Blk w q 97 (pgV g).toArray
  ts : w.ownsRow 0 109 18 g.v.t g.s.trs.length (g.s.trs.map trV).flatten
  cs : w.ownsRow 0 167 5 g.v.c g.s.cac.length (g.s.cac.map caV).flatten
  np : g.v.t.ownBlock ≠ some q
  nc : g.v.c.ownBlock ≠ some q
  nt : ∀ b, g.v.t.ownBlock = some b → g.v.c.ownBlock ≠ some b
  ok : POk g.s
structure PgAt (w : World) (q : Nat) (g : Pg) : Prop extends PgW w q g where
  cok : COk g.s
def PFoot (q : Nat) (g : Pg) (b : Nat) : Prop := b = q ∨ g.v.t.ownBlock = some b ∨ g.v.c.ownBlock = some b
theorem PgW.lt {w : World} {q : Nat} {g : Pg} (h : PgW w q g) : ∀ b, PFoot q g b → b < w.heap.size := by
  rintro b (rfl | hb | hb)
  · exact h.blk.lt
  · exact (h.ts.lt b hb).2
  · exact (h.cs.lt b hb).2
theorem PgAt.lt {w : World} {q : Nat} {g : Pg} (h : PgAt w q g) : ∀ b, PFoot q g b → b < w.heap.size := h.toPgW.lt
theorem PgW.chg {S : Nat → Prop} {w w' : World} {q : Nat} {g : Pg} (h : PgW w q g) (hc : Chg S w w') (hs : ∀ b, PFoot q g b → ¬ S b) : PgW w' q g :=
  ⟨h.blk.chg hc (hs q (Or.inl rfl)), own_chg h.ts hc (fun k hk => hs k (Or.inr (Or.inl hk))), own_chg h.cs hc (fun k hk => hs k (Or.inr (Or.inr hk))), h.np, h.nc, h.nt, h.ok⟩
theorem PgW.ext {w w' : World} {q : Nat} {g : Pg} (h : PgW w q g) (hc : Ext w w') : PgW w' q g :=
  h.chg (S := fun _ => False) (Chg.of_ext hc) (fun _ _ => id)
theorem PgAt.chg {S : Nat → Prop} {w w' : World} {q : Nat} {g : Pg} (h : PgAt w q g) (hc : Chg S w w') (hs : ∀ b, PFoot q g b → ¬ S b) : PgAt w' q g := ⟨h.toPgW.chg hc hs, h.cok⟩
theorem PgAt.ext {w w' : World} {q : Nat} {g : Pg} (h : PgAt w q g) (hc : Ext w w') : PgAt w' q g := ⟨h.toPgW.ext hc, h.cok⟩

/-- What has turned lies in the proxy; what it now has is what it had, or new. -/
structure PMvs (w w' : World) (q : Nat) (g g' : Pg) : Prop where
  chg : Chg (PFoot q g) w w'
  foot : ∀ b, PFoot q g' b → PFoot q g b ∨ w.heap.size ≤ b
theorem PMvs.of_ext {w w' : World} {q : Nat} {g : Pg} (h : Ext w w') : PMvs w w' q g g := ⟨Chg.of_ext h, fun b h => Or.inl h⟩
theorem PMvs.refl {w : World} {q : Nat} {g : Pg} : PMvs w w q g g := ⟨Chg.refl _ _, fun b h => Or.inl h⟩
theorem PMvs.trans {w w1 w2 : World} {q : Nat} {g g1 g2 : Pg} (h : PMvs w w1 q g g1) (k : PMvs w1 w2 q g1 g2) : PMvs w w2 q g g2 :=
  ⟨h.chg.trans' (k.chg.mono (fun b _ hb => h.foot b hb)), fun b hb => by
    rcases k.foot b hb with h1 | h1
    · exact h.foot b h1
    · exact Or.inr (Nat.le_trans h.chg.size h1)⟩
/-- The proxy has come to the state s'. -/
def PTo (w w' : World) (q : Nat) (g : Pg) (s' : Px) : Prop := ∃ v', PgAt w' q ⟨s', v'⟩ ∧ PMvs w w' q g ⟨s', v'⟩
theorem PTo.ext {w w' : World} {q : Nat} {g : Pg} (h : PgAt w q g) (hE : Ext w w') : PTo w w' q g g.s := ⟨g.v, h.ext hE, PMvs.of_ext hE⟩
theorem PTo.refl {w : World} {q : Nat} {g : Pg} (h : PgAt w q g) : PTo w w q g g.s := ⟨g.v, h, PMvs.refl⟩
/-- What a call of the program's proxy leaves behind: it has n transfers then. -/
def PStep (w w' : World) (q : Nat) (g : Pg) (n : Nat) : Prop := ∃ g', g'.trs.length = n ∧ PgAt w' q g' ∧ PMvs w w' q g g'
theorem PStep.ext {w w' : World} {q : Nat} {g : Pg} (h : PgAt w q g) (hE : Ext w w') : PStep w w' q g g.trs.length := ⟨g, rfl, h.ext hE, PMvs.of_ext hE⟩
theorem PTo.step {w w' : World} {q : Nat} {g : Pg} {s' : Px} (h : PTo w w' q g s') : PStep w w' q g s'.trs.length := by
  obtain ⟨v', h1, h2⟩ := h; exact ⟨_, rfl, h1, h2⟩

/-! The cells of the proxy. -/
theorem lat_len {s : Px} (h : s.lat.length = 4) : (s.lat.map pverV).flatten.length = 8 := by rw [flat_len 2 _ (pvers_len _)]; simp [h]
theorem ersF_len {s : Px} (h : s.ers.length = 3) : (s.ers.map perV).flatten.length = 12 := by rw [flat_len 4 _ (pers_len _)]; simp [h]
theorem PgW.cSet {w : World} {q : Nat} {g : Pg} (h : PgW w q g) (r : Nat) (hr : r < 5) : w.cell? ⟨q, r, none⟩ = (setV g.s)[r]? := by
  rw [h.blk.cell]; unfold pgV; rw [List.getElem?_toArray, List.getElem?_append_left (by simpa [setV] using hr)]
theorem PgW.cLat {w : World} {q : Nat} {g : Pg} (h : PgW w q g) (i r : Nat) (v : Int × Int) (hv : g.s.lat[i]? = some v) (hr : r < 2) : w.cell? ⟨q, 5 + (i * 2 + r), none⟩ = (pverV v)[r]? := by
  have hi : i < 4 := by have := (List.getElem?_eq_some_iff.1 hv).1; rw [h.ok.nl] at this; exact this
  have hs : (setV g.s).length = 5 := rfl
  rw [h.blk.cell]; unfold pgV
  rw [List.getElem?_toArray, List.getElem?_append_right (by omega), hs, show 5 + (i * 2 + r) - 5 = i * 2 + r from by omega, List.getElem?_append_left (by rw [lat_len h.ok.nl]; omega), flat_get 2 _ (pvers_len _) i r hr]
  simp [hv]
theorem PgW.cV {w : World} {q : Nat} {g : Pg} (h : PgW w q g) : w.cell? ⟨q, 13, none⟩ = some g.v.t := by
  have hs : (setV g.s).length = 5 := rfl
  rw [h.blk.cell]; unfold pgV
  rw [List.getElem?_toArray, List.getElem?_append_right (by omega), hs, List.getElem?_append_right (by rw [lat_len h.ok.nl]; omega), lat_len h.ok.nl]
  simp
theorem PgW.cBusy {w : World} {q : Nat} {g : Pg} (h : PgW w q g) (i : Nat) (b : Bool) (hb : g.s.busy[i]? = some b) : w.cell? ⟨q, 14 + i, none⟩ = some (.bool b) := by
  have hi : i < 3 := by have := (List.getElem?_eq_some_iff.1 hb).1; rw [h.ok.nb] at this; exact this
  have hs : (setV g.s).length = 5 := rfl
  rw [h.blk.cell]; unfold pgV
  rw [List.getElem?_toArray, List.getElem?_append_right (by omega), hs, List.getElem?_append_right (by rw [lat_len h.ok.nl]; omega), lat_len h.ok.nl, show 14 + i - 5 - 8 = i + 1 from by omega,
    List.getElem?_cons_succ, List.getElem?_append_left (by simpa [h.ok.nb] using hi)]
  simp [hb]
theorem PgW.cEr {w : World} {q : Nat} {g : Pg} (h : PgW w q g) (i r : Nat) (e : Er) (he : g.s.ers[i]? = some e) (hr : r < 4) : w.cell? ⟨q, 17 + (i * 4 + r), none⟩ = (perV e)[r]? := by
  have hs : (setV g.s).length = 5 := rfl
  rw [h.blk.cell]; unfold pgV
  rw [List.getElem?_toArray, List.getElem?_append_right (by omega), hs, List.getElem?_append_right (by rw [lat_len h.ok.nl]; omega), lat_len h.ok.nl, show 17 + (i * 4 + r) - 5 - 8 = (i * 4 + r + 3) + 1 from by omega,
    List.getElem?_cons_succ, List.getElem?_append_right (by simp [h.ok.nb]), show i * 4 + r + 3 - (g.s.busy.map Value.bool).length = i * 4 + r from by simp [h.ok.nb], List.getElem?_append_left (by rw [ersF_len h.ok.ne]; have hi : i < 3 := (by have := (List.getElem?_eq_some_iff.1 he).1; rw [h.ok.ne] at this; exact this); omega), flat_get 4 _ (pers_len _) i r hr]
  simp [he]
theorem PgW.cCap {w : World} {q : Nat} {g : Pg} (h : PgW w q g) : w.cell? ⟨q, 29, none⟩ = some (.int .i64 g.s.cap) := by
  have hs : (setV g.s).length = 5 := rfl
  rw [h.blk.cell]; unfold pgV
  rw [List.getElem?_toArray, List.getElem?_append_right (by omega), hs, List.getElem?_append_right (by rw [lat_len h.ok.nl]; omega), lat_len h.ok.nl, List.getElem?_cons_succ, List.getElem?_append_right (by simp [h.ok.nb]),
    List.getElem?_append_right (by rw [ersF_len h.ok.ne]; simp [h.ok.nb]), ersF_len h.ok.ne]
  simp [h.ok.nb]
theorem PgW.cC {w : World} {q : Nat} {g : Pg} (h : PgW w q g) : w.cell? ⟨q, 30, none⟩ = some g.v.c := by
  have hs : (setV g.s).length = 5 := rfl
  rw [h.blk.cell]; unfold pgV
  rw [List.getElem?_toArray, List.getElem?_append_right (by omega), hs, List.getElem?_append_right (by rw [lat_len h.ok.nl]; omega), lat_len h.ok.nl, List.getElem?_cons_succ, List.getElem?_append_right (by simp [h.ok.nb]),
    List.getElem?_append_right (by rw [ersF_len h.ok.ne]; simp [h.ok.nb]), ersF_len h.ok.ne]
  simp [h.ok.nb]

/-! One cell of the proxy's own block is stored. -/
theorem PgAt.own {w : World} {q : Nat} {g : Pg} (h : PgAt w q g) (r : Nat) (u : Value) (g' : Pg) (hv : g'.v = g.v) (ht : g'.s.trs = g.s.trs) (hc : g'.s.cac = g.s.cac) (hcap : g'.s.cap = g.s.cap) (hrow : (pgV g).set r u = pgV g') (ok : POk g'.s) :
    PgAt (w.setCell ⟨q, r, none⟩ u) q g' ∧ PMvs w (w.setCell ⟨q, r, none⟩ u) q g g' := by
  have hC : Chg (fun b => b = q) w (w.setCell ⟨q, r, none⟩ u) := Chg.setCell (S := fun b => b = q) (Chg.refl _ _) (p := ⟨q, r, none⟩) (Or.inl rfl) _
  refine ⟨⟨⟨?_, ?_, ?_, by rw [hv]; exact h.np, by rw [hv]; exact h.nc, by rw [hv]; exact h.nt, ok⟩, ⟨by rw [hc]; exact h.cok.c1, by rw [hc, hcap]; exact h.cok.cu⟩⟩, hC.mono (fun b _ hb => Or.inl hb), fun b hb => Or.inl ?_⟩
  · have := h.blk.set r u
    rw [List.setIfInBounds_toArray, hrow] at this
    exact this
  · rw [hv, ht]
    exact own_chg h.ts hC (fun k hk e => h.np (e ▸ hk))
  · rw [hv, hc]
    exact own_chg h.cs hC (fun k hk e => h.nc (e ▸ hk))
  · unfold PFoot at *; rw [hv] at hb; exact hb
theorem pgV_lat (g : Pg) (hl : g.s.lat.length = 4) (i r : Nat) (v v' : Int × Int) (u : Value) (hv : g.s.lat[i]? = some v) (hr : r < 2) (hrow : (pverV v).set r u = pverV v') :
    (pgV g).set (5 + (i * 2 + r)) u = pgV { g with s := { g.s with lat := g.s.lat.set i v' } } := by
  have hi : i < 4 := by have := (List.getElem?_eq_some_iff.1 hv).1; omega
  have hs : (setV g.s).length = 5 := rfl
  unfold pgV
  rw [List.set_append_right _ _ (by omega), hs, show 5 + (i * 2 + r) - 5 = i * 2 + r from by omega, List.set_append_left _ _ (by rw [lat_len hl]; omega), flat_set 2 _ (pvers_len _) i r hr u (pverV v) (by simp [hv]), hrow, ← List.map_set]
  rfl
theorem pgV_busy (g : Pg) (hl : g.s.lat.length = 4) (hb : g.s.busy.length = 3) (i : Nat) (hi : i < 3) (b' : Bool) :
    (pgV g).set (14 + i) (.bool b') = pgV { g with s := { g.s with busy := g.s.busy.set i b' } } := by
  have hs : (setV g.s).length = 5 := rfl
  unfold pgV
  rw [List.set_append_right _ _ (by omega), hs, List.set_append_right _ _ (by rw [lat_len hl]; omega), lat_len hl, show 14 + i - 5 - 8 = i + 1 from by omega, List.set_cons_succ, List.set_append_left _ _ (by simpa [hb] using hi), ← List.map_set]
  rfl
theorem pgV_er (g : Pg) (hl : g.s.lat.length = 4) (hb : g.s.busy.length = 3) (i r : Nat) (e e' : Er) (u : Value) (he : g.s.ers[i]? = some e) (hr : r < 4) (hrow : (perV e).set r u = perV e') :
    (pgV g).set (17 + (i * 4 + r)) u = pgV { g with s := { g.s with ers := g.s.ers.set i e' } } := by
  have hs : (setV g.s).length = 5 := rfl
  unfold pgV
  rw [List.set_append_right _ _ (by omega), hs, List.set_append_right _ _ (by rw [lat_len hl]; omega), lat_len hl, show 17 + (i * 4 + r) - 5 - 8 = (i * 4 + r + 3) + 1 from by omega, List.set_cons_succ,
    List.set_append_right _ _ (by simp [hb]), show i * 4 + r + 3 - (g.s.busy.map Value.bool).length = i * 4 + r from by simp [hb], List.set_append_left _ _ (by rw [flat_len 4 _ (pers_len _), List.length_map]; have hi : i < g.s.ers.length := (List.getElem?_eq_some_iff.1 he).1; have : (i + 1) * 4 ≤ g.s.ers.length * 4 := Nat.mul_le_mul_right 4 hi; omega), flat_set 4 _ (pers_len _) i r hr u (perV e) (by simp [he]), hrow, ← List.map_set]
  rfl

/-! One transfer, by the block and the offset at which it lies. -/
structure TrAt (w : World) (b o : Nat) (t : Tr) : Prop where
  blk : ∃ T arr, Blk w b T arr ∧ ∀ r, r < 18 → arr[o + r]? = (trV t)[r]?
  hl : t.held.length = 4
theorem TrAt.c {w : World} {b o : Nat} {t : Tr} (h : TrAt w b o t) (r : Nat) (hr : r < 18 := by omega) : w.cell? ⟨b, o + r, none⟩ = (trV t)[r]? := by
  obtain ⟨T, arr, hB, hr'⟩ := h.blk; rw [hB.cell, hr' r hr]
theorem TrAt.fz {w : World} {b o : Nat} {t : Tr} (h : TrAt w b o t) (i : Nat) : w.frozen? ⟨b, i, none⟩ = false := by
  obtain ⟨T, arr, hB, hr'⟩ := h.blk; exact hB.frozen i
theorem TrAt.lt {w : World} {b o : Nat} {t : Tr} (h : TrAt w b o t) : b < w.heap.size := by obtain ⟨T, arr, hB, hr'⟩ := h.blk; exact hB.lt
theorem TrAt.ch {w : World} {b o : Nat} {t : Tr} (h : TrAt w b o t) (j : Nat) (hj : j < 4) : w.cell? ⟨b, o + 14 + j, none⟩ = some (.string (t.held.getD j ByteArray.empty)) := by
  have := h.c (14 + j)
  rw [Nat.add_assoc, this]
  unfold trV
  rw [List.getElem?_append_right (by simp)]
  simp [h.hl, hj]
theorem TrAt.ext {w w' : World} {b o : Nat} {t : Tr} (h : TrAt w b o t) (hE : Ext w w') : TrAt w' b o t := by
  obtain ⟨T, arr, hB, hr'⟩ := h.blk; exact ⟨⟨T, arr, hB.ext hE, hr'⟩, h.hl⟩
theorem TrAt.chg {S : Nat → Prop} {w w' : World} {b o : Nat} {t : Tr} (h : TrAt w b o t) (hc : Chg S w w') (hs : ¬ S b) : TrAt w' b o t := by
  obtain ⟨T, arr, hB, hr'⟩ := h.blk; exact ⟨⟨T, arr, hB.chg hc hs, hr'⟩, h.hl⟩

/-- All that has turned is the transfer at b, o: it is t' now. -/
structure TrTo (w w' : World) (b o : Nat) (t' : Tr) : Prop where
  chg : Chg (fun x => x = b) w w'
  hl : t'.held.length = 4
  row : ∃ T arr arr', Blk w b T arr ∧ Blk w' b T arr' ∧ arr'.size = arr.size ∧ (∀ r, r < 18 → arr'[o + r]? = (trV t')[r]?) ∧ ∀ i, i < o ∨ o + 18 ≤ i → arr'[i]? = arr[i]?
theorem TrTo.at {w w' : World} {b o : Nat} {t' : Tr} (h : TrTo w w' b o t') : TrAt w' b o t' := by
  obtain ⟨T, arr, arr', h1, h2, h3, h4, h5⟩ := h.row; exact ⟨⟨T, arr', h2, h4⟩, h.hl⟩
theorem TrTo.ext0 {w w' : World} {b o : Nat} {t : Tr} (h : TrAt w b o t) (hE : Ext w w') : TrTo w w' b o t := by
  obtain ⟨T, arr, hB, hr'⟩ := h.blk
  exact ⟨Chg.of_ext hE, h.hl, T, arr, arr, hB, hB.ext hE, rfl, hr', fun _ _ => rfl⟩
theorem TrTo.refl {w : World} {b o : Nat} {t : Tr} (h : TrAt w b o t) : TrTo w w b o t := TrTo.ext0 h (Below.refl _ _)
theorem TrTo.trans {w w1 w2 : World} {b o : Nat} {t1 t2 : Tr} (h : TrTo w w1 b o t1) (k : TrTo w1 w2 b o t2) : TrTo w w2 b o t2 := by
  obtain ⟨T, arr, arr', h1, h2, h3, h4, h5⟩ := h.row
  obtain ⟨T2, arr2, arr2', k1, k2, k3, k4, k5⟩ := k.row
  have : some (Obj.cells arr' T (0, 0)) = some (Obj.cells arr2 T2 (0, 0)) := by unfold Blk at h2 k1; rw [← h2, ← k1]
  simp at this
  obtain ⟨rfl, rfl⟩ := this
  exact ⟨h.chg.trans k.chg, k.hl, T, arr, arr2', h1, k2, k3.trans h3, k4, fun i hi => (k5 i hi).trans (h5 i hi)⟩
theorem TrTo.ext {w w1 w2 : World} {b o : Nat} {t1 : Tr} (h : TrTo w w1 b o t1) (hE : Ext w1 w2) : TrTo w w2 b o t1 := h.trans (TrTo.ext0 h.at hE)
/-- One of its cells is stored. -/
theorem TrTo.set {w w1 : World} {b o : Nat} {t t' : Tr} (h : TrTo w w1 b o t) (r : Nat) (hr : r < 18) (u : Value) (hrow : (trV t).set r u = trV t') (hl : t'.held.length = 4) : TrTo w (w1.setCell ⟨b, o + r, none⟩ u) b o t' := by
  refine h.trans ?_
  obtain ⟨T, arr, hB, hr'⟩ := h.at.blk
  refine ⟨Chg.setCell (S := fun x => x = b) (Chg.refl _ _) (p := ⟨b, o + r, none⟩) (Or.inl rfl) _, hl, T, arr, _, hB, hB.set (o + r) u, by simp, fun i hi => ?_, fun i hi => ?_⟩
  · rw [← hrow, Array.getElem?_setIfInBounds, List.getElem?_set]
    have h0 : (trV t).length = 18 := by simp [trV, h.hl]
    have h1 : o + r < arr.size := by
      have := hr' r hr
      rcases Nat.lt_or_ge (o + r) arr.size with h2 | h2
      · exact h2
      · rw [Array.getElem?_eq_none h2, List.getElem?_eq_getElem (by omega)] at this; simp at this
    by_cases hir : r = i
    · subst hir; simp [h1, h0, hr]
    · rw [if_neg (by omega), if_neg hir, hr' i hi]
  · rw [Array.getElem?_setIfInBounds, if_neg (by omega)]

/-- The transfer number i of a proxy. -/
theorem PgAt.row {w : World} {q : Nat} {g : Pg} (h : PgAt w q g) {i : Nat} {t : Tr} (ht : g.s.trs[i]? = some t) : ∃ k cap, g.v.t = .slice (some ⟨k, 0, none⟩) g.s.trs.length cap ∧ TrAt w k (i * 18) t ∧ k ≠ q := by
  have hi := (List.getElem?_eq_some_iff.1 ht).1
  obtain ⟨aT, cap, hT, ha⟩ := own_form h.ts
  obtain ⟨k, rfl⟩ := ha (by omega)
  have hts := h.ts
  rw [hT] at hts
  obtain ⟨cur, b1, b2, b3, b4, b5, b6⟩ := own_blk hts
  refine ⟨k, cap, hT, ⟨⟨_, cur, b1, fun r hr => ?_⟩, (h.ok.ts t (List.mem_of_getElem? ht)).hl⟩, ?_⟩
  · have hm : i * 18 + r < g.s.trs.length * 18 := by have : (i + 1) * 18 ≤ g.s.trs.length * 18 := Nat.mul_le_mul_right 18 hi; omega
    have h1 : (cur.toList.take (g.s.trs.length * 18))[i * 18 + r]? = cur[i * 18 + r]? := by rw [List.getElem?_take_of_lt hm]; simp
    rw [← h1, b3, flat_get 18 _ (trs_len h.ok.ts) i r hr]
    simp [ht]
  · rintro rfl
    exact h.np (by rw [hT]; rfl)
theorem PgAt.upd {w w' : World} {q : Nat} {g : Pg} (h : PgAt w q g) {i : Nat} {t t' : Tr} (ht : g.s.trs[i]? = some t) {k cap : Nat} (hT : g.v.t = .slice (some ⟨k, 0, none⟩) g.s.trs.length cap) (hto : TrTo w w' k (i * 18) t') (ok : TrOk t') :
    PgAt w' q { g with s := { g.s with trs := g.s.trs.set i t' } } ∧ PMvs w w' q g { g with s := { g.s with trs := g.s.trs.set i t' } } := by
  have hi := (List.getElem?_eq_some_iff.1 ht).1
  have hkq : k ≠ q := by rintro rfl; exact h.np (by rw [hT]; rfl)
  have hok : ∀ x ∈ g.s.trs.set i t', TrOk x := fun x hx => by
    rcases List.mem_or_eq_of_mem_set hx with h1 | rfl
    · exact h.ok.ts x h1
    · exact ok
  have hkc : g.v.c.ownBlock ≠ some k := h.nt k (by rw [hT]; rfl)
  refine ⟨⟨⟨h.blk.chg hto.chg (fun e => hkq e.symm), ?_, own_chg h.cs hto.chg (fun x hx e => hkc (e ▸ hx)), h.np, h.nc, h.nt, h.ok.withTrs (by simpa using h.ok.nt) hok⟩, ⟨h.cok.c1, h.cok.cu⟩⟩, hto.chg.mono (fun b _ hb => Or.inr (Or.inl (by rw [hT, hb]; rfl))), fun b hb => Or.inl hb⟩
  have hts := h.ts
  show w'.ownsRow 0 109 18 g.v.t (g.s.trs.set i t').length ((g.s.trs.set i t').map trV).flatten
  rw [hT] at hts ⊢
  obtain ⟨cur, b1, b2, b3, b4, b5, b6⟩ := own_blk hts
  obtain ⟨T, arr, arr', h1, h2, h3, h4, h5⟩ := hto.row
  have : some (Obj.cells cur 109 (0, 0)) = some (Obj.cells arr T (0, 0)) := by unfold Blk at h1 b1; rw [← b1, ← h1]
  simp at this
  obtain ⟨rfl, rfl⟩ := this
  refine ⟨?_, .inr ⟨k, cap, arr', by simp, b6, h2, by simpa using b4, b5, by rw [h3]; exact b2, ?_⟩⟩
  · rw [flat_len 18 _ (trs_len hok)]; simp
  · apply List.ext_getElem?
    intro j
    rw [List.length_set]
    by_cases hj : j < g.s.trs.length * 18
    · rw [List.getElem?_take_of_lt hj]
      obtain ⟨a, c, hc, rfl⟩ : ∃ a c, c < 18 ∧ j = a * 18 + c := ⟨j / 18, j % 18, by omega, by omega⟩
      rw [flat_get 18 _ (trs_len hok) a c hc, List.getElem?_map, List.getElem?_set, Array.getElem?_toList]
      by_cases hia : i = a
      · subst hia
        rw [h4 c hc]; simp [hi]
      · rw [h5 _ (by omega), if_neg hia]
        have h6 : (cur.toList.take (g.s.trs.length * 18))[a * 18 + c]? = cur[a * 18 + c]? := by rw [List.getElem?_take_of_lt hj]; simp
        rw [← h6, b3, flat_get 18 _ (trs_len h.ok.ts) a c hc, List.getElem?_map]
    · rw [List.getElem?_eq_none (by rw [List.length_take]; omega), List.getElem?_eq_none (by rw [flat_len 18 _ (trs_len hok)]; simp; omega)]
end Go.Proofs.YtjhihliciadipabGreat

namespace Go.Proofs.YtjhihliciadipabGreat
open Go.RowKit

/-! What the program's functions reckon, as plain functions. -/

def atM (n most : Int) : Int := if most < n then most else n
def noBytes : List ByteArray := [ByteArray.empty, ByteArray.empty, ByteArray.empty, ByteArray.empty]
def partH (tag tot frm en : Int) : Hd := if atM en tot ≤ frm then ⟨416, tag, tot, 0, 0⟩ else ⟨206, tag, tot, frm, atM en tot - frm⟩
def headR (kind fst lst tag tot : Int) : Hd :=
  if kind = 1 then partH tag tot fst (lst + 1) else if kind = 2 then partH tag tot fst tot else if kind = 3 then partH tag tot (tot - atM lst tot) tot else ⟨200, tag, tot, 0, tot⟩
def stT (t : Tr) : Int := if t.lost then 4 else if !t.bound then 1 else if t.taken = t.hd.len then 3 else 2
def winT (B W : Int) (t : Tr) : Int × Int :=
  if t.lost then (0, 0) else if !t.bound then (0, 1) else if t.taken = t.hd.len then (0, 0) else
    ((t.hd.frm + t.taken) / B, atM ((t.hd.frm + t.hd.len - 1) / B + 1) ((t.hd.frm + t.taken) / B + W))
def heldAt (t : Tr) (k : Int) : ByteArray := t.held.getD (k % 4).toNat ByteArray.empty
def wantsT (B W : Int) (t : Tr) (e : Er) : Bool :=
  t.path == e.path && (t.hd.tag == e.tag && t.hd.tot == e.tot) && decide ((winT B W t).1 ≤ e.blk) && decide (e.blk < (winT B W t).2) && (heldAt t e.blk).toList.isEmpty
def bindT (t : Tr) (v : Int × Int) : Tr := { t with bound := true, hd := headR t.kind t.fst t.lst v.1 v.2, fails := 0, held := noBytes }
def followsT (t : Tr) (v : Int × Int) : Bool := if t.lost then false else if !t.bound then true else !t.shown && !(t.hd.tag == v.1 && t.hd.tot == v.2)
def holdT (t : Tr) (k : Int) (body : ByteArray) : Tr := { t with held := t.held.set (k % 4).toNat body }
def loseT (t : Tr) : Tr := { t with lost := true, held := noBytes, hd := if t.shown then t.hd else ⟨502, 0, 0, 0, 0⟩ }
def pfailT (tri : Int) (t : Tr) : Tr := if tri ≤ t.fails + 1 then loseT { t with fails := t.fails + 1 } else { t with fails := t.fails + 1 }
def pheldSum (l : List ByteArray) : Int := l.foldl (fun n b => n + (b.size : Int)) 0
/-- What is held without a gap of the blocks from k on, n of them at most. -/
def runT (t : Tr) : Int → Nat → ByteArray
  | _, 0 => ByteArray.empty
  | k, n + 1 => if (heldAt t k).toList.isEmpty then ByteArray.empty else heldAt t k ++ runT t (k + 1) n
/-- The blocks from k on, n of them, are let go of, but for those from a up to b. -/
def goT (a b : Int) (t : Tr) (k : Int) (n : Nat) : Tr := (List.range n).foldl (fun t j => if a ≤ k + (j : Nat) ∧ k + (j : Nat) < b then t else holdT t (k + (j : Nat)) ByteArray.empty) t
def takeN (t : Tr) (run frm n : Int) : Int := atM (atM (run - frm) (t.hd.len - t.taken)) n
def takeT (B W n : Int) (t : Tr) : ByteArray × Tr :=
  let a := (winT B W t).1
  let c := ((winT B W t).2 - a).toNat
  let run := runT t a c
  let frm := t.hd.frm + t.taken - a * B
  if (run.size : Int) ≤ frm then (ByteArray.empty, t) else
    let k := takeN t run.size frm n
    let t1 := { t with taken := t.taken + k }
    (run.extract frm.toNat (frm + k).toNat, goT (winT B W t1).1 (winT B W t1).2 t1 a c)

/-- How many bytes block k of a version has. -/
def blkLen (tot k B : Int) : Int := if tot - k * B < 0 then 0 else atM (tot - k * B) B
def fairV (tag tot : Int) : Bool := decide (1 ≤ tag) && decide (tag ≤ 99) && decide (0 ≤ tot) && decide (tot ≤ 1000)
def fetchE (B : Int) (e : Er) : Int × Int × Int × Int × Int := (e.path, e.tag, e.tot, e.blk * B, if e.tag = 0 then B else blkLen e.tot e.blk B)
def sensible (B : Int) (e : Er) (tag tot off : Int) (n : Nat) : Bool := fairV tag tot && (off == e.blk * B && (n : Int) == blkLen tot e.blk B)

def hasM (s : Px) (m : Int) : Bool := decide (0 ≤ m) && decide (m < s.mir)
def hasT (s : Px) (id : Int) : Bool := decide (0 ≤ id) && decide (id < s.trs.length)
def isSentL (s : Px) (e : Er) : Bool := (s.busy.zip s.ers).any (fun x => x.1 && x.2 == e)
def ofT (t : Tr) (k : Int) : Er := ⟨t.path, t.hd.tag, t.hd.tot, k⟩
/-- The errands for the blocks that a transfer wants. -/
def wantedL (B W : Int) (t : Tr) : List Er :=
  ((List.range ((winT B W t).2 - (winT B W t).1).toNat).filter (fun j => (heldAt t ((winT B W t).1 + (j : Nat))).toList.isEmpty)).map (fun j => ofT t ((winT B W t).1 + (j : Nat)))
def errOf (s : Px) (t : Tr) : Option Er := (wantedL s.blk s.win t).find? (fun e => !isSentL s e)
def nextE (s : Px) : Option Er := s.trs.findSome? (errOf s)
def failedS (s : Px) (e : Er) : Px := { s with trs := s.trs.map (fun t => if wantsT s.blk s.win t e then pfailT s.tri t else t) }
def renewS (s : Px) (path : Int) (v : Int × Int) : Px := { s with lat := s.lat.set path.toNat v, trs := s.trs.map (fun t => if t.path == path && followsT t v then bindT t v else t) }
/-! The cache: the block that was used last is at the end. -/
def findC (l : List (Er × ByteArray)) (e : Er) : Nat := l.findIdx (fun x => x.1 == e)
def evictC (cap : Int) : List (Er × ByteArray) → List (Er × ByteArray)
  | [] => []
  | x :: l => if cap < usedC (x :: l) then evictC cap l else x :: l
def putC (cap : Int) (l : List (Er × ByteArray)) (e : Er) (b : ByteArray) : List (Er × ByteArray) := if cap < (b.size : Int) then l else evictC cap (l.eraseIdx (findC l e) ++ [(e, b)])
def useC (l : List (Er × ByteArray)) (e : Er) : ByteArray × List (Er × ByteArray) :=
  match l[findC l e]? with
  | none => (ByteArray.empty, l)
  | some x => (x.2, l.eraseIdx (findC l e) ++ [x])
def plookE (ct : List (Er × ByteArray) × Tr) (e : Er) : List (Er × ByteArray) × Tr :=
  ((useC ct.1 e).2, if (useC ct.1 e).1.toList.isEmpty then ct.2 else holdT ct.2 e.blk (useC ct.1 e).1)
def plookT (B W : Int) (c : List (Er × ByteArray)) (t : Tr) : List (Er × ByteArray) × Tr := (wantedL B W t).foldl plookE (c, t)
/-- The first i transfers have looked into the cache. -/
def plookTo (s : Px) : Nat → Px
  | 0 => s
  | i + 1 => match (plookTo s i).trs[i]? with
    | some t => { plookTo s i with cac := (plookT s.blk s.win (plookTo s i).cac t).1, trs := (plookTo s i).trs.set i (plookT s.blk s.win (plookTo s i).cac t).2 }
    | none => plookTo s i
def plookS (s : Px) : Px := plookTo s s.trs.length
def delivS (s : Px) (e : Er) (body : ByteArray) : Px :=
  if body.toList.isEmpty then s else { s with trs := s.trs.map (fun t => if wantsT s.blk s.win t e then { holdT t e.blk body with fails := 0 } else t), cac := putC s.cap s.cac e body }
def noEr : Er := ⟨0, 0, 0, 0⟩
def freeS (s : Px) (m : Nat) : Px := { s with busy := s.busy.set m false, ers := s.ers.set m noEr }
def answS (s : Px) (e : Er) (tag tot off : Int) (body : ByteArray) : Px :=
  if sensible s.blk e tag tot off body.size then
    delivS (if tag = e.tag ∧ tot = e.tot then s else failedS (renewS s e.path (tag, tot)) e) ⟨e.path, tag, tot, e.blk⟩ body
  else failedS s e

/-! The calls: what is answered, and the state behind them. -/
def newS (m b wi c t : Int) : Px := ⟨m, b, wi, c, t, [(0, 0), (0, 0), (0, 0), (0, 0)], [], [false, false, false], [noEr, noEr, noEr, noEr].take 3, []⟩
/-- A new transfer of a path that has a latest version or none. -/
def askT (path : Int) (r : Int × Int × Int) (v : Int × Int) : Tr :=
  let t : Tr := ⟨path, r.1, r.2.1, r.2.2, false, false, false, ⟨0, 0, 0, 0, 0⟩, 0, 0, noBytes⟩
  if v.1 = 0 then t else bindT t v
def nextA (s : Px) (m : Int) : (Int × Int × Int × Int × Int) × Bool × Int :=
  if hasM s m = false then ((0, 0, 0, 0, 0), false, 4) else if s.busy.getD m.toNat false then ((0, 0, 0, 0, 0), false, 5) else
    match nextE s with
    | none => ((0, 0, 0, 0, 0), false, 0)
    | some e => (fetchE s.blk e, true, 0)
def nextS (s : Px) (m : Int) : Px :=
  if hasM s m = false then s else if s.busy.getD m.toNat false then s else
    match nextE s with
    | none => s
    | some e => { s with busy := s.busy.set m.toNat true, ers := s.ers.set m.toNat e }
def endA (s : Px) (m : Int) : Int := if hasM s m = false then 4 else if s.busy.getD m.toNat false then 0 else 6
def replyP (s : Px) (m tag tot off : Int) (body : ByteArray) : Px := if endA s m = 0 then plookS (answS (freeS s m.toNat) (s.ers.getD m.toNat noEr) tag tot off body) else s
def failP (s : Px) (m : Int) : Px := if endA s m = 0 then plookS (failedS (freeS s m.toNat) (s.ers.getD m.toNat noEr)) else s
def setT (s : Px) (i : Nat) (t : Tr) : Px := { s with trs := s.trs.set i t }
def openT (t : Tr) : Bool := !t.bound && !t.lost
theorem Blk.new2' (w : World) (o : Obj) (T : TypeId) (arr : Array Value) : Blk ((w.alloc o).alloc (.cells arr T)) (w.heap.size + 1) T arr := by
  have := Blk.new (w.alloc o) T arr
  simpa using this
theorem Ext.new2' (w : World) (o o' : Obj) : Ext w ((w.alloc o).alloc o') := Ext.trans' (Ext.new w o) (Ext.new _ _)
end Go.Proofs.YtjhihliciadipabGreat
