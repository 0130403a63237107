import Derived.Test.YtjhihliciadipabGreatPask
import Derived.Test.YtjhihliciadipabGreatPcall
import Derived.Test.YtjhihliciadipabGreatPtell
import Derived.Test.YtjhihliciadipabGreatPnew
import Derived.Test.YtjhihliciadipabGreatLawK
import Derived.Deep.RegionHeld3
import Derived.BigQuiet
set_option linter.unusedVariables false
set_option linter.unusedSimpArgs false
set_option linter.unnecessarySimpa false
namespace Go.Proofs.YtjhihliciadipabGreat
open Go.RowKit

theorem PTo.then {w w1 w2 : World} {q : Nat} {g : Pg} {s : Px} (h : PTo w w1 q g s) (hE : Ext w1 w2) : PTo w w2 q g s := by
  obtain ⟨v, h1, h2⟩ := h
  exact ⟨v, h1.ext hE, h2.ext hE⟩
theorem PTo.chg {w w1 : World} {q : Nat} {g : Pg} {s : Px} (h : PTo w w1 q g s) : Chg (PFoot q g) w w1 := by
  obtain ⟨v, h1, h2⟩ := h
  exact h2.chg
theorem AskX (q : Nat) (g : Pg) (path : Int) (r : ByteArray) (w : World) (h : PgAt w q g) (hr : r.size ≤ 9223372036854775807) :
    Calls Tryz.prog 18 #[.pointer (some ⟨q, 0, none⟩), .int .i64 path, .string r] w fun e w' =>
      e = .returned (.tuple #[.int .i64 (askA g.s.trs.length path).1, .int .i64 (askA g.s.trs.length path).2]) ∧ PTo w w' q g (askS g.s path r) := by
  have hn := h.ok.nt
  unfold askA askS
  by_cases hp : path < 0 ∨ 4 ≤ path
  · rw [if_pos hp, if_pos hp]
    refine (AskP_no q path r w hp).mono ?_
    rintro e w' ⟨rfl, rfl⟩
    exact ⟨rfl, PTo.refl h⟩
  · rw [if_neg hp, if_neg hp]
    by_cases h8 : g.s.trs.length = 8
    · rw [if_pos h8, if_pos h8]
      refine (AskP_full q g path r w h (by omega) (by omega) h8).mono ?_
      rintro e w' ⟨rfl, rfl⟩
      exact ⟨rfl, PTo.refl h⟩
    · rw [if_neg h8, if_neg h8]
      obtain ⟨k, rfl⟩ := Int.eq_ofNat_of_zero_le (show 0 ≤ path by omega)
      rw [Int.toNat_natCast]
      refine (AskP_new q g k r w h hr (by omega) (by omega)).mono ?_
      rintro e w' ⟨rfl, hP⟩
      exact ⟨rfl, hP⟩
end Go.Proofs.YtjhihliciadipabGreat

namespace Go.Proofs.YtjhihliciadipabGreat
open Go.RowKit

/-- A step's struct. -/
structure Op where
  kind : Int
  k : Int
  a : Int
  b : Int
  c : Int
  d : Int
  e : Int
  s : ByteArray
def opV (o : Op) : List Value := [.int .i64 o.kind, .int .i64 o.k, .int .i64 o.a, .int .i64 o.b, .int .i64 o.c, .int .i64 o.d, .int .i64 o.e, .string o.s]
/-- What is so of a step that came in. -/
structure OpOk (o : Op) : Prop where
  k0 : -9223372036854775808 ≤ o.k
  k1 : o.k ≤ 9223372036854775807
  b1 : o.b ≤ 9223372036854775807
  s : o.s.size ≤ 9223372036854775807

/-- The answer is the document's. -/
def LRet (kind : Int) (e : Ending) : Prop := e = .returned (.bool true)
theorem LRet.yes (kind : Int) : LRet kind (.returned (.bool true)) := rfl

theorem LPost.ext {w w1 w2 : World} {W : Nat} {col : Nat → Nat} {A : Lw} {C : Int} (hE : Ext w w1) (h : LPost w1 w2 W (recol w col 5) A C) : LPost w w2 W col A C := by
  obtain ⟨col', A', h1, h2, h3, h4⟩ := h
  exact ⟨col', A', h1, h2, (Stp.ext hE).trans h3, h4⟩
theorem RRel.then {w w1 w2 : World} {p : Nat} {L : Lay} {C : Int} {s : Px} (h : RRel w w1 p L C s) (hE : Ext w1 w2) : RRel w w2 p L C s := by
  obtain ⟨sr, ⟨L', h1, h2, h3⟩, h4⟩ := h
  exact ⟨sr, ⟨L', h1.ext hE, h2.ext hE, h3⟩, h4⟩
theorem RRel.chg {w w1 : World} {p : Nat} {L : Lay} {C : Int} {s : Px} (h : RRel w w1 p L C s) : Chg (Foot p L) w w1 := by
  obtain ⟨sr, ⟨L', h1, h2, h3⟩, h4⟩ := h
  exact h2.chg

set_option maxRecDepth 100000 in
set_option maxHeartbeats 2000000 in
theorem moves_ask (W : Nat) (col : Nat → Nat) (A : Lw) (C : Int) (k : Nat) (x : Pa) (K a b c d e : Int) (s : ByteArray) (w : World) (h : LwAt w W col A) (hf : Fit A C) (hk : A.xs[k]? = some x) (hC : C ≤ 20000000000000000) (hs : s.size ≤ 9223372036854775807) :
    Calls Tryz.prog 11 #[.pointer (some ⟨x.q, 0, none⟩), .pointer (some ⟨x.r, 0, none⟩), .agg #[.int .i64 2, .int .i64 K, .int .i64 a, .int .i64 b, .int .i64 c, .int .i64 d, .int .i64 e, .string s]] w fun e w' =>
      LRet 2 e ∧ LPost w w' W col A C := by
  have hok := hf.ok x (List.mem_of_getElem? hk)
  have hpok : POk x.g.s := (h.pg k x hk id).1.ok
  have hn8 := hf.nts hk
  have hE := Ext.new w (.cells #[.int .i64 2, .int .i64 K, .int .i64 a, .int .i64 b, .int .i64 c, .int .i64 d, .int .i64 e, .string s] 33)
  have hB := Blk.new w 33 #[.int .i64 2, .int .i64 K, .int .i64 a, .int .i64 b, .int .i64 c, .int .i64 d, .int .i64 e, .string s]
  have h1 := h.ext hE
  have hlt := (h.pg k x hk id).1.lt
  have hlr := (h.pr k x hk id).1.lt
  go_enter Tryz.func11, Tryz.ntmps11
  go_wp2_with fail
  refine (AskX x.q x.g a s _ (h1.pg k x hk id).1 hs).mono ?_
  rintro e1 w1 ⟨rfl, hP⟩
  have hB1 := hB.chg hP.chg (fun hb => by have := hlt _ hb; omega)
  have k2 : w1.cell? ⟨w.heap.size, 2, none⟩ = some (.int .i64 a) := hB1.cell 2
  have k7 : w1.cell? ⟨w.heap.size, 7, none⟩ = some (.string s) := hB1.cell 7
  go_wp2_with fail
  refine (AskD x.r x.s x.L C a s _ (pair_mid h1 hk hP) hok.1 hC hs x.g.s hpok hok.2).mono ?_
  rintro e2 w2 ⟨rfl, hR⟩
  have HPost := hide (LPost.ext hE (pair_post h1 hf hk hP hR))
  clear k2 k7 hB1 hB hP hR h1 hE hlt hlr hf h hok hk
  generalize (askA x.g.s.trs.length a).1 = r1
  generalize (askA x.g.s.trs.length a).2 = r2
  go_wp2_with fail
  refine (num_any _ _).mono ?_
  rintro e3 w3 ⟨rfl, rfl⟩
  go_wp2_with fail
  go_ret
  exact ⟨LRet.yes 2, HPost.out⟩
end Go.Proofs.YtjhihliciadipabGreat

namespace Go.Proofs.YtjhihliciadipabGreat
open Go.RowKit

theorem Blk.new2 (w : World) (T1 : TypeId) (a1 : Array Value) (T : TypeId) (arr : Array Value) : Blk ((w.alloc (.cells a1 T1)).alloc (.cells arr T)) (w.heap.size + 1) T arr := by
  have h := Blk.new (w.alloc (.cells a1 T1)) T arr
  have e : (w.alloc (.cells a1 T1)).heap.size = w.heap.size + 1 := by simp
  rwa [e] at h

set_option maxRecDepth 100000 in
set_option maxHeartbeats 2000000 in
theorem moves_next (W : Nat) (col : Nat → Nat) (A : Lw) (C : Int) (k : Nat) (x : Pa) (K a b c d e : Int) (s : ByteArray) (w : World) (h : LwAt w W col A) (hf : Fit A C) (hk : A.xs[k]? = some x) (hC : C ≤ 20000000000000000) :
    Calls Tryz.prog 11 #[.pointer (some ⟨x.q, 0, none⟩), .pointer (some ⟨x.r, 0, none⟩), .agg #[.int .i64 3, .int .i64 K, .int .i64 a, .int .i64 b, .int .i64 c, .int .i64 d, .int .i64 e, .string s]] w fun e w' =>
      LRet 3 e ∧ LPost w w' W col A C := by
  have hok := hf.ok x (List.mem_of_getElem? hk)
  have hpok : POk x.g.s := (h.pg k x hk id).1.ok
  have hE := Ext.new w (.cells #[.int .i64 3, .int .i64 K, .int .i64 a, .int .i64 b, .int .i64 c, .int .i64 d, .int .i64 e, .string s] 33)
  have hB := Blk.new w 33 #[.int .i64 3, .int .i64 K, .int .i64 a, .int .i64 b, .int .i64 c, .int .i64 d, .int .i64 e, .string s]
  have h1 := h.ext hE
  have hlt := (h.pg k x hk id).1.lt
  have hlr := (h.pr k x hk id).1.lt
  go_enter Tryz.func11, Tryz.ntmps11
  go_wp2_with fail
  have HN := hide (fun w' h' => NextP_any x.q a x.g w' h')
  have HD := hide (fun w' h' => NextD x.r x.s x.L C a w' h' hok.1 x.g.s hpok hok.2)
  generalize nextA x.g.s a = na at *
  generalize nextS x.g.s a = ns at *
  obtain ⟨⟨p1, p2, p3, p4, p5⟩, pi, pn⟩ := na
  unfold fetV at HN HD
  simp only at HN HD
  refine (HN.out _ (h1.pg k x hk id).1).mono ?_
  rintro e1 w1 ⟨rfl, hP⟩
  have hB1 := hB.chg hP.chg (fun hb => by have := hlt _ hb; omega)
  have k2 : w1.cell? ⟨w.heap.size, 2, none⟩ = some (.int .i64 a) := hB1.cell 2
  have hs1 := hP.chg.size
  have hso := hB.lt
  have hb1 := hB1.lt
  unfold fetAgg
  go_wp2_with fail
  have hEx := Ext.new w1 (.cells #[.int .i64 p1, .int .i64 p2, .int .i64 p3, .int .i64 p4, .int .i64 p5] 57)
  have hX := Blk.new w1 57 #[.int .i64 p1, .int .i64 p2, .int .i64 p3, .int .i64 p4, .int .i64 p5]
  generalize w1.alloc (.cells #[.int .i64 p1, .int .i64 p2, .int .i64 p3, .int .i64 p4, .int .i64 p5] 57) = w2 at *
  have hP2 := hP.then hEx
  refine (HD.out _ (pair_mid h1 hk hP2)).mono ?_
  rintro e2 w3 ⟨rfl, hR⟩
  have hX3 := hX.chg hR.chg (fun hb => by have := hlr _ hb; omega)
  have x0 : w3.cell? ⟨w1.heap.size, 0, none⟩ = some (.int .i64 p1) := hX3.cell 0
  have x1 : w3.cell? ⟨w1.heap.size, 1, none⟩ = some (.int .i64 p2) := hX3.cell 1
  have x2 : w3.cell? ⟨w1.heap.size, 2, none⟩ = some (.int .i64 p3) := hX3.cell 2
  have x3 : w3.cell? ⟨w1.heap.size, 3, none⟩ = some (.int .i64 p4) := hX3.cell 3
  have x4 : w3.cell? ⟨w1.heap.size, 4, none⟩ = some (.int .i64 p5) := hX3.cell 4
  have hxl := hX3.lt
  have HPost : Hid (∀ arr : Array Value, LPost w (w3.alloc (.cells arr 57)) W col A C) := fun arr => LPost.ext hE (pair_post h1 hf hk hP2 (hR.then (Ext.new w3 (.cells arr 57))))
  clear k2 hB1 hB hP hP2 hR hE hlr hf h hok hk hX hEx h1 hlt hso hs1 hb1
  unfold fetAgg
  go_wp2_with fail
  all_goals first
    | (go_ret; exact ⟨LRet.yes _, HPost.out _⟩)
    | (refine (num_any _ _).mono ?_
       rintro e3 w4 ⟨rfl, rfl⟩
       go_wp2_with fail
       all_goals (go_ret; exact ⟨LRet.yes _, HPost.out _⟩))

set_option maxRecDepth 100000 in
set_option maxHeartbeats 2000000 in
theorem moves_reply (W : Nat) (col : Nat → Nat) (A : Lw) (C : Int) (k : Nat) (x : Pa) (K a b c d e : Int) (s : ByteArray) (w : World) (h : LwAt w W col A) (hf : Fit A C) (hk : A.xs[k]? = some x) (hC : C ≤ 20000000000000000) (hs : s.size ≤ 9223372036854775807) :
    Calls Tryz.prog 11 #[.pointer (some ⟨x.q, 0, none⟩), .pointer (some ⟨x.r, 0, none⟩), .agg #[.int .i64 4, .int .i64 K, .int .i64 a, .int .i64 b, .int .i64 c, .int .i64 d, .int .i64 e, .string s]] w fun e w' =>
      LRet 4 e ∧ LPost w w' W col A C := by
  have hok := hf.ok x (List.mem_of_getElem? hk)
  have hpok : POk x.g.s := (h.pg k x hk id).1.ok
  have hE := Ext.new w (.cells #[.int .i64 4, .int .i64 K, .int .i64 a, .int .i64 b, .int .i64 c, .int .i64 d, .int .i64 e, .string s] 33)
  have hB := Blk.new w 33 #[.int .i64 4, .int .i64 K, .int .i64 a, .int .i64 b, .int .i64 c, .int .i64 d, .int .i64 e, .string s]
  go_enter Tryz.func11, Tryz.ntmps11
  go_wp2_with fail
  have hE0 := Ext.trans' hE (Ext.new (w.alloc (.cells #[.int .i64 4, .int .i64 K, .int .i64 a, .int .i64 b, .int .i64 c, .int .i64 d, .int .i64 e, .string s] 33)) (.cells #[.int .i64 b, .int .i64 c, .int .i64 d, .string s] 63))
  have hB0 := hB.ext (Ext.new (w.alloc (.cells #[.int .i64 4, .int .i64 K, .int .i64 a, .int .i64 b, .int .i64 c, .int .i64 d, .int .i64 e, .string s] 33)) (.cells #[.int .i64 b, .int .i64 c, .int .i64 d, .string s] 63))
  have hY := Blk.new2 w 33 #[.int .i64 4, .int .i64 K, .int .i64 a, .int .i64 b, .int .i64 c, .int .i64 d, .int .i64 e, .string s] 63 #[.int .i64 b, .int .i64 c, .int .i64 d, .string s]
  generalize (w.alloc (.cells #[.int .i64 4, .int .i64 K, .int .i64 a, .int .i64 b, .int .i64 c, .int .i64 d, .int .i64 e, .string s] 33)).alloc (.cells #[.int .i64 b, .int .i64 c, .int .i64 d, .string s] 63) = w0 at *
  have h1 := h.ext hE0
  have hlt := (h.pg k x hk id).1.lt
  have HD := hide (fun w' h' => ReplyD x.r x.s x.L C a b c d s w' h' hok.1 hC hs x.g.s hpok hok.2)
  have HN := hide (fun w' h' => ReplyP_any x.q a b c d s x.g w' h' hs)
  generalize endA x.g.s a = pn at *
  refine (HN.out _ (h1.pg k x hk id).1).mono ?_
  rintro e1 w1 ⟨rfl, hP⟩
  have hB1 := hB0.chg hP.chg (fun hb => by have := hlt _ hb; omega)
  have hY1 := hY.chg hP.chg (fun hb => by have := hlt _ hb; omega)
  have k2 : w1.cell? ⟨w.heap.size, 2, none⟩ = some (.int .i64 a) := hB1.cell 2
  have y0 : w1.cell? ⟨w.heap.size + 1, 0, none⟩ = some (.int .i64 b) := hY1.cell 0
  have y1 : w1.cell? ⟨w.heap.size + 1, 1, none⟩ = some (.int .i64 c) := hY1.cell 1
  have y2 : w1.cell? ⟨w.heap.size + 1, 2, none⟩ = some (.int .i64 d) := hY1.cell 2
  have y3 : w1.cell? ⟨w.heap.size + 1, 3, none⟩ = some (.string s) := hY1.cell 3
  go_wp2_with fail
  refine (HD.out _ (pair_mid h1 hk hP)).mono ?_
  rintro e2 w3 ⟨rfl, hR⟩
  have HPost := hide (LPost.ext hE0 (pair_post h1 hf hk hP hR))
  clear k2 hB1 hB hP hR hE hf h hok hk hY hY1 y0 y1 y2 y3 hE0 hB0 h1 hlt
  go_wp2_with fail
  refine (num_any _ _).mono ?_
  rintro e3 w4 ⟨rfl, rfl⟩
  go_wp2_with fail
  all_goals (go_ret; exact ⟨LRet.yes _, HPost.out⟩)

set_option maxRecDepth 100000 in
set_option maxHeartbeats 2000000 in
theorem moves_fail (W : Nat) (col : Nat → Nat) (A : Lw) (C : Int) (k : Nat) (x : Pa) (K a b c d e : Int) (s : ByteArray) (w : World) (h : LwAt w W col A) (hf : Fit A C) (hk : A.xs[k]? = some x) (hC : C ≤ 20000000000000000) :
    Calls Tryz.prog 11 #[.pointer (some ⟨x.q, 0, none⟩), .pointer (some ⟨x.r, 0, none⟩), .agg #[.int .i64 5, .int .i64 K, .int .i64 a, .int .i64 b, .int .i64 c, .int .i64 d, .int .i64 e, .string s]] w fun e w' =>
      LRet 5 e ∧ LPost w w' W col A C := by
  have hok := hf.ok x (List.mem_of_getElem? hk)
  have hpok : POk x.g.s := (h.pg k x hk id).1.ok
  have hE := Ext.new w (.cells #[.int .i64 5, .int .i64 K, .int .i64 a, .int .i64 b, .int .i64 c, .int .i64 d, .int .i64 e, .string s] 33)
  have hB := Blk.new w 33 #[.int .i64 5, .int .i64 K, .int .i64 a, .int .i64 b, .int .i64 c, .int .i64 d, .int .i64 e, .string s]
  have h1 := h.ext hE
  have hlt := (h.pg k x hk id).1.lt
  go_enter Tryz.func11, Tryz.ntmps11
  go_wp2_with fail
  have HD := hide (fun w' h' => FailD x.r x.s x.L C a w' h' hok.1 hC x.g.s hpok hok.2)
  have HN := hide (fun w' h' => FailP_any x.q a x.g w' h')
  generalize endA x.g.s a = pn at *
  refine (HN.out _ (h1.pg k x hk id).1).mono ?_
  rintro e1 w1 ⟨rfl, hP⟩
  have hB1 := hB.chg hP.chg (fun hb => by have := hlt _ hb; omega)
  have k2 : w1.cell? ⟨w.heap.size, 2, none⟩ = some (.int .i64 a) := hB1.cell 2
  go_wp2_with fail
  refine (HD.out _ (pair_mid h1 hk hP)).mono ?_
  rintro e2 w3 ⟨rfl, hR⟩
  have HPost := hide (LPost.ext hE (pair_post h1 hf hk hP hR))
  clear k2 hB1 hB hP hR hE hf h hok hk h1 hlt
  go_wp2_with fail
  refine (num_any _ _).mono ?_
  rintro e3 w4 ⟨rfl, rfl⟩
  go_wp2_with fail
  all_goals (go_ret; exact ⟨LRet.yes _, HPost.out⟩)
end Go.Proofs.YtjhihliciadipabGreat

namespace Go.Proofs.YtjhihliciadipabGreat
open Go.RowKit

set_option maxRecDepth 100000 in
set_option maxHeartbeats 2000000 in
theorem cache_used (W : Nat) (col : Nat → Nat) (A : Lw) (C : Int) (k : Nat) (x : Pa) (K a b c d e : Int) (s : ByteArray) (w : World) (h : LwAt w W col A) (hf : Fit A C) (hk : A.xs[k]? = some x) (hC : C ≤ 20000000000000000) :
    Calls Tryz.prog 13 #[.pointer (some ⟨W, 0, none⟩), .pointer (some ⟨x.q, 0, none⟩), .pointer (some ⟨x.r, 0, none⟩), .agg #[.int .i64 10, .int .i64 K, .int .i64 a, .int .i64 b, .int .i64 c, .int .i64 d, .int .i64 e, .string s]] w fun e w' =>
      LRet 10 e ∧ LPost w w' W col A C := by
  have hok := hf.ok x (List.mem_of_getElem? hk)
  have hpok : POk x.g.s := (h.pg k x hk id).1.ok
  have hE := Ext.new w (.cells #[.int .i64 10, .int .i64 K, .int .i64 a, .int .i64 b, .int .i64 c, .int .i64 d, .int .i64 e, .string s] 33)
  go_enter Tryz.func13, Tryz.ntmps13
  go_wp2_with fail
  have HN := hide (fun w' h' => UsedP_any x.q x.g w' h')
  have HD := hide (fun w' h' => UsedD x.r x.s x.L C w' h' hok.1 x.g.s hok.2)
  generalize usedC x.g.s.cac = un at *
  refine (HN.out _ ((h.pg k x hk id).1.ext hE)).mono ?_
  rintro e1 w1 ⟨rfl, rfl⟩
  go_wp2_with fail
  have hP2 := PTo.ext (h.pg k x hk id).1 hE
  refine (HD.out _ (pair_mid h hk hP2)).mono ?_
  rintro e2 w3 ⟨rfl, hR⟩
  have HPost := hide (pair_post h hf hk hP2 hR)
  clear hP2 hR hE hf h hok hk
  go_wp2_with fail
  all_goals (go_ret; exact ⟨LRet.yes _, HPost.out⟩)

def er4 (e : Er) : Int × Int × Int × Int := (e.path, e.tag, e.tot, e.blk)
theorem clear_new {w : World} {W : Nat} {col : Nat → Nat} {A : Lw} (h : LwAt w W col A) {b : Nat} (hb : w.heap.size ≤ b) : Clear A b := by
  intro k v m hv hm a n cap e hn hx
  obtain ⟨a', n', cap', e', -, hr⟩ := h.ml id k v m hv hm
  rw [e] at e'
  simp only [Value.slice.injEq] at e'
  obtain ⟨rfl, rfl, rfl⟩ := e'
  obtain ⟨b', e2, hb', -, -⟩ := hr hn
  rw [e, e2] at hx
  simp [Value.ownBlock] at hx
  omega
theorem fairB_no {m b wi c t : Int} (hf : fairB m b wi c t = false) : m < 1 ∨ 3 < m ∨ b < 1 ∨ 16 < b ∨ wi < 1 ∨ 4 < wi ∨ c < 0 ∨ 256 < c ∨ t < 1 ∨ 4 < t := by
  unfold fairB at hf
  simp only [Bool.and_eq_false_iff, decide_eq_false_iff_not] at hf
  omega

set_option maxRecDepth 100000 in
set_option maxHeartbeats 2000000 in
theorem cache_entries (W : Nat) (col : Nat → Nat) (A : Lw) (C : Int) (k : Nat) (x : Pa) (K a b c d e : Int) (s : ByteArray) (w : World) (h : LwAt w W col A) (hf : Fit A C) (hk : A.xs[k]? = some x) (hC : C ≤ 20000000000000000)
    (hl : A.lists.length ≤ 7999999999000) :
    Calls Tryz.prog 13 #[.pointer (some ⟨W, 0, none⟩), .pointer (some ⟨x.q, 0, none⟩), .pointer (some ⟨x.r, 0, none⟩), .agg #[.int .i64 11, .int .i64 K, .int .i64 a, .int .i64 b, .int .i64 c, .int .i64 d, .int .i64 e, .string s]] w fun e w' =>
      LRet 11 e ∧ LPost w w' W col A C := by
  have hok := hf.ok x (List.mem_of_getElem? hk)
  have hpok : POk x.g.s := (h.pg k x hk id).1.ok
  have hE := Ext.new w (.cells #[.int .i64 11, .int .i64 K, .int .i64 a, .int .i64 b, .int .i64 c, .int .i64 d, .int .i64 e, .string s] 33)
  go_enter Tryz.func13, Tryz.ntmps13
  go_wp2_with fail
  have HN := hide (fun w' h' => EntriesP_any x.q x.g w' h')
  have HD := hide (fun w' h' => EntriesD x.r x.s x.L C w' h' hok.1 hC x.g.s hok.2)
  have hlen : (x.g.s.cac.map Prod.fst).length ≤ 1000000 := by have := hpok.cl; simp; omega
  generalize x.g.s.cac.map Prod.fst = l at *
  have hPr := fun (w' : World) (hE' : Ext w w') => (h.pr k x hk id).1.ext hE'
  refine (HN.out _ ((h.pg k x hk id).1.ext hE)).mono ?_
  rintro e1 w1 ⟨⟨v1, rfl, ho1⟩, hE1⟩
  have hX1 := Ext.trans' hE hE1
  obtain ⟨a1, cap1, hv1, -⟩ := own_form ho1
  subst hv1
  go_wp2_with fail
  refine (HD.out _ (hPr _ hX1)).mono ?_
  rintro e2 w3 ⟨⟨v, rfl, hov⟩, hE3⟩
  have hX3 := Ext.trans' hX1 hE3
  obtain ⟨av, capv, hv, -⟩ := own_form hov
  subst hv
  have ho3 := own_base (own_ext ho1 hE3) (Nat.zero_le _)
  have hov0 := own_base hov (Nat.zero_le _)
  have e1 : l.map perV = (l.map er4).map erV := by rw [List.map_map]; rfl
  have e2 : l.length = (l.map er4).length := by simp
  have hcol : ∀ b, (Value.slice a1 l.length cap1).ownBlock = some b → recol w col 5 b = 5 ∧ Clear A b := by
    intro b hb
    have hbw : w.heap.size ≤ b := by have := (ho1.lt b hb).1; have := hE.size; omega
    refine ⟨recol_new hbw, ?_⟩
    exact clear_new h hbw
  have HK := hide (fun (w' : World) (hE' : Ext w3 w') => lkeep_any W (recol w col 5) A C (.slice a1 l.length cap1) (l.map er4) w' (h.ext (Ext.trans' hX3 hE')) hf hl (by rw [← e1, ← e2]; exact own_ext ho3 hE') hcol (by rw [← e2]; exact hlen))
  have HS := hide (same_any (.slice a1 l.length cap1) (.slice av l.length capv) (l.map er4) (l.map er4) _ (by rw [← e1, ← e2]; exact ho3) (by rw [← e1, ← e2]; exact hov0) (by rw [← e2]; omega) (by rw [← e2]; omega))
  have HX3 := hide hX3
  clear HN HD hPr ho1 hov ho3 hov0 e1 e2 hcol hX1 hX3 hE1 hE3 hE hok hpok hk h
  go_wp2_with fail
  refine HS.out.mono ?_
  rintro e3 w4 ⟨rfl, hE4⟩
  simp only [decide_true]
  go_wp2_with fail
  refine (HK.out _ hE4).mono ?_
  rintro e4 w5 ⟨rfl, col', A', h5, f5, s5, l5, x5⟩
  have HPost : Hid (LPost w w5 W col A C) := ⟨col', A', h5, f5.mono (by omega), (Stp.ext (Ext.trans' HX3.out hE4)).trans s5, by omega, by rw [x5]; omega⟩
  clear h5 f5 s5 l5 x5 hE4 hf HK HS HX3
  go_wp2_with fail
  go_ret
  exact ⟨LRet.yes _, HPost.out⟩

theorem fit_new {A : Lw} {C : Int} (h : Fit A C) (vP vR : Value) (x : Pa) (hx : Good x.s C ∧ Rel x.g.s x.s) :
    Fit { A with xs := A.xs ++ [x], vP := vP, ps := A.ps ++ [x.q], vR := vR, rs := A.rs ++ [x.r] } C :=
  ⟨by simp [h.ps], by simp [h.rs], h.lm, h.mb, fun y hy => by
    rcases List.mem_append.1 hy with h1 | h1
    · exact h.ok y h1
    · simp at h1; subst h1; exact hx⟩
theorem fairB_yes {m b wi c t : Int} (h : fairB m b wi c t = true) : 1 ≤ m ∧ m ≤ 3 ∧ 1 ≤ b ∧ b ≤ 16 ∧ 1 ≤ wi ∧ wi ≤ 4 ∧ 0 ≤ c ∧ c ≤ 256 ∧ 1 ≤ t ∧ t ≤ 4 := by
  unfold fairB at h
  simp at h
  omega

set_option maxRecDepth 100000 in
set_option maxHeartbeats 2000000 in
theorem news_no (W : Nat) (col : Nat → Nat) (A : Lw) (C : Int) (K a b c d e : Int) (s : ByteArray) (w : World) (h : LwAt w W col A) (hf : Fit A C) (hfair : fairB a b c d e = false) :
    Calls Tryz.prog 9 #[.pointer (some ⟨W, 0, none⟩), .agg #[.int .i64 1, .int .i64 K, .int .i64 a, .int .i64 b, .int .i64 c, .int .i64 d, .int .i64 e, .string s]] w fun e w' =>
      LRet 1 e ∧ LPost w w' W col A C := by
  have hE := Ext.new w (.cells #[.int .i64 1, .int .i64 K, .int .i64 a, .int .i64 b, .int .i64 c, .int .i64 d, .int .i64 e, .string s] 33)
  have hE2 := Ext.trans' hE (Ext.new (w.alloc (.cells #[.int .i64 1, .int .i64 K, .int .i64 a, .int .i64 b, .int .i64 c, .int .i64 d, .int .i64 e, .string s] 33)) (.cells #[.int .i64 a, .int .i64 b, .int .i64 c, .int .i64 d, .int .i64 e] 45))
  have hY := Blk.new2 w 33 #[.int .i64 1, .int .i64 K, .int .i64 a, .int .i64 b, .int .i64 c, .int .i64 d, .int .i64 e, .string s] 45 #[.int .i64 a, .int .i64 b, .int .i64 c, .int .i64 d, .int .i64 e]
  go_enter Tryz.func9, Tryz.ntmps9
  go_wp2_with fail
  refine (NewP_no a b c d e _ (fairB_no hfair)).mono ?_
  rintro e1 w1 ⟨rfl, hE1⟩
  have hY1 := hY.ext hE1
  have y0 : w1.cell? ⟨w.heap.size + 1, 0, none⟩ = some (.int .i64 a) := hY1.cell 0
  have y1 : w1.cell? ⟨w.heap.size + 1, 1, none⟩ = some (.int .i64 b) := hY1.cell 1
  have y2 : w1.cell? ⟨w.heap.size + 1, 2, none⟩ = some (.int .i64 c) := hY1.cell 2
  have y3 : w1.cell? ⟨w.heap.size + 1, 3, none⟩ = some (.int .i64 d) := hY1.cell 3
  have y4 : w1.cell? ⟨w.heap.size + 1, 4, none⟩ = some (.int .i64 e) := hY1.cell 4
  go_wp2_with fail
  refine (New_no a b c d e _ hfair).mono ?_
  rintro e2 w3 ⟨rfl, hE3⟩
  have hE4 := Ext.trans' (Ext.trans' hE2 hE1) hE3
  have HPost : Hid (LPost w w3 W col A C) := ⟨_, A, h.ext hE4, hf.mono (by omega), Stp.ext hE4, by omega, by omega⟩
  clear hE hE1 hE2 hE3 hE4 hY hY1 h hf y0 y1 y2 y3 y4
  go_wp2_with fail
  refine (num_any _ _).mono ?_
  rintro e3 w4 ⟨rfl, rfl⟩
  go_wp2_with fail
  go_ret
  exact ⟨LRet.yes 1, HPost.out⟩
end Go.Proofs.YtjhihliciadipabGreat

namespace Go.Proofs.YtjhihliciadipabGreat
open Go.RowKit

theorem addP' {wr w1 : World} {W : Nat} {colr : Nat → Nat} {Ar : Lw} {aL a1 : Option Addr} {capL n1 cap1 q : Nat} (hL : LwAt wr W colr Ar) (hvL : Ar.vP = .slice aL Ar.ps.length capL)
    (ho1 : w1.ownsRow 0 38 1 (.slice a1 n1 cap1) (Ar.ps.length + 1) (Ar.ps.map ptrV ++ [.pointer (some ⟨q, 0, none⟩)])) (hg1 : (wr.alloc (.cells #[.pointer (some ⟨q, 0, none⟩)] 38)).grownBy w1 (Value.slice aL Ar.ps.length capL).ownBlock)
    (hw1 : (Value.slice a1 n1 cap1).ownBlock = (Value.slice aL Ar.ps.length capL).ownBlock ∨ (Value.slice a1 n1 cap1).ownBlock = some (wr.alloc (.cells #[.pointer (some ⟨q, 0, none⟩)] 38)).heap.size) :
    ∃ col2, LwAt (w1.setCell ⟨W, 0, none⟩ (.slice a1 n1 cap1)) W col2 { Ar with vP := .slice a1 n1 cap1, ps := Ar.ps ++ [q] } ∧ Stp wr (w1.setCell ⟨W, 0, none⟩ (.slice a1 n1 cap1)) colr col2 := by
  rw [← hvL] at hg1 hw1
  obtain ⟨h1, h2⟩ := LwX.addP (hL.ext (Ext.new wr (.cells #[.pointer (some ⟨q, 0, none⟩)] 38))) ho1 hg1 hw1
  exact ⟨_, h1, (Stp.ext (Ext.new _ _)).trans h2⟩
theorem addR' {wr w1 : World} {W : Nat} {colr : Nat → Nat} {Ar : Lw} {aL a1 : Option Addr} {capL n1 cap1 q : Nat} (hL : LwAt wr W colr Ar) (hvL : Ar.vR = .slice aL Ar.rs.length capL)
    (ho1 : w1.ownsRow 0 39 1 (.slice a1 n1 cap1) (Ar.rs.length + 1) (Ar.rs.map ptrV ++ [.pointer (some ⟨q, 0, none⟩)])) (hg1 : (wr.alloc (.cells #[.pointer (some ⟨q, 0, none⟩)] 39)).grownBy w1 (Value.slice aL Ar.rs.length capL).ownBlock)
    (hw1 : (Value.slice a1 n1 cap1).ownBlock = (Value.slice aL Ar.rs.length capL).ownBlock ∨ (Value.slice a1 n1 cap1).ownBlock = some (wr.alloc (.cells #[.pointer (some ⟨q, 0, none⟩)] 39)).heap.size) :
    ∃ col2, LwAt (w1.setCell ⟨W, 1, none⟩ (.slice a1 n1 cap1)) W col2 { Ar with vR := .slice a1 n1 cap1, rs := Ar.rs ++ [q] } ∧ Stp wr (w1.setCell ⟨W, 1, none⟩ (.slice a1 n1 cap1)) colr col2 := by
  rw [← hvL] at hg1 hw1
  obtain ⟨h1, h2⟩ := LwX.addR (hL.ext (Ext.new wr (.cells #[.pointer (some ⟨q, 0, none⟩)] 39))) ho1 hg1 hw1
  exact ⟨_, h1, (Stp.ext (Ext.new _ _)).trans h2⟩

set_option maxRecDepth 100000 in
set_option maxHeartbeats 2000000 in
theorem news_yes (W : Nat) (col : Nat → Nat) (A : Lw) (C : Int) (K a b c d e : Int) (s : ByteArray) (w : World) (h : LwAt w W col A) (hf : Fit A C) (hC0 : 0 ≤ C) (hn : A.xs.length ≤ 7999999999000) (hfair : fairB a b c d e = true) :
    Calls Tryz.prog 9 #[.pointer (some ⟨W, 0, none⟩), .agg #[.int .i64 1, .int .i64 K, .int .i64 a, .int .i64 b, .int .i64 c, .int .i64 d, .int .i64 e, .string s]] w fun e w' =>
      LRet 1 e ∧ LPost w w' W col A C := by
  obtain ⟨f1, f2, f3, f4, f5, f6, f7, f8, f9, f10⟩ := fairB_yes hfair
  have hE := Ext.new w (.cells #[.int .i64 1, .int .i64 K, .int .i64 a, .int .i64 b, .int .i64 c, .int .i64 d, .int .i64 e, .string s] 33)
  have hE2 := Ext.trans' hE (Ext.new (w.alloc (.cells #[.int .i64 1, .int .i64 K, .int .i64 a, .int .i64 b, .int .i64 c, .int .i64 d, .int .i64 e, .string s] 33)) (.cells #[.int .i64 a, .int .i64 b, .int .i64 c, .int .i64 d, .int .i64 e] 45))
  have hY := Blk.new2 w 33 #[.int .i64 1, .int .i64 K, .int .i64 a, .int .i64 b, .int .i64 c, .int .i64 d, .int .i64 e, .string s] 45 #[.int .i64 a, .int .i64 b, .int .i64 c, .int .i64 d, .int .i64 e]
  have HF := hide hf
  have hps : A.ps.length ≤ 7999999999000 := by rw [hf.ps]; simpa using hn
  have hrs : A.rs.length ≤ 7999999999000 := by rw [hf.rs]; simpa using hn
  clear hf
  go_enter Tryz.func9, Tryz.ntmps9
  go_wp2_with fail
  refine (NewP_yes a b c d e _ f1 f2 f3 f4 f5 f6 f7 f8 f9 f10).mono ?_
  rintro e1 w1 ⟨q, rfl, hE1, hq, hBq⟩
  have hY1 := hY.ext hE1
  have y0 : w1.cell? ⟨w.heap.size + 1, 0, none⟩ = some (.int .i64 a) := hY1.cell 0
  have y1 : w1.cell? ⟨w.heap.size + 1, 1, none⟩ = some (.int .i64 b) := hY1.cell 1
  have y2 : w1.cell? ⟨w.heap.size + 1, 2, none⟩ = some (.int .i64 c) := hY1.cell 2
  have y3 : w1.cell? ⟨w.heap.size + 1, 3, none⟩ = some (.int .i64 d) := hY1.cell 3
  have y4 : w1.cell? ⟨w.heap.size + 1, 4, none⟩ = some (.int .i64 e) := hY1.cell 4
  have hP1 : PgAt w1 q (newG a b c d e) := hBq
  have hq2 : ∀ x, PFoot q (newG a b c d e) x → w.heap.size ≤ x := by
    rintro x (rfl | hx | hx)
    · have := hE2.size; omega
    · simp [newG, Value.ownBlock] at hx
    · simp [newG, Value.ownBlock] at hx
  go_wp2_with fail
  refine (New_yes a b c d e _ f1 f2 f3 f4 f5 f6 f7 f8 f9 f10).mono ?_
  rintro e2 w3 ⟨p, L, rfl, hE3, hPr, hft⟩
  obtain ⟨col3, hL3, hS3⟩ := h.addX (Ext.trans' hE2 hE1) hP1 hq2 hE3 hPr hft
  have hgood := new_good a b c d e f1 f2 f3 f4 f5 f6 f7 f8 f9 f10
  have HRl : Hid (Rel (newG a b c d e).s (newPr a b c d e)) := rel_new a b c d e f1 f2 f3 f4 f5 f6 f7 f8 f9 f10
  clear hE hE1 hE2 hE3 hY hY1 h y0 y1 y2 y3 y4 hP1 hq2 hPr hft hBq hq f1 f2 f3 f4 f5 f6 f7 f8 f9 f10 hfair
  have HG := hide hgood
  have HL := hide hL3
  have HS := hide hS3
  obtain ⟨aP, capP, hvP, -⟩ := own_form (hL3.ps id).1
  obtain ⟨aR, capR, hvR, -⟩ := own_form (hL3.rs id).1
  have hvP' : A.vP = .slice aP A.ps.length capP := hvP
  have hvR' : A.vR = .slice aR A.rs.length capR := hvR
  have hoP : w3.ownsRow 0 38 1 A.vP A.ps.length (A.ps.map ptrV) := (hL3.ps id).1
  have hB : Blk w3 W 31 #[A.vP, A.vR, A.vL, A.vM] := hL3.blk id
  have hneP : A.vP.ownBlock ≠ some W := hL3.ne.1
  have hneR : A.vR.ownBlock ≠ some W := hL3.ne.2.1
  have hlt := hL3.ltW
  rw [hvP'] at hoP hneP
  rw [hvR'] at hneR
  have cP : w3.cell? ⟨W, 0, none⟩ = some (.slice aP A.ps.length capP) := by rw [← hvP']; exact hB.cell 0
  have HVP := hide hvP'
  have HVR := hide hvR'
  clear hvP hvR hvP' hvR' hgood hL3 hS3
  go_wp2_with fail
  refine (num_any _ _).mono ?_
  rintro e3 w4 ⟨rfl, rfl⟩
  go_wp2_with (at_builtin; first | (refine app_oneW Tryz.underlying26 infoPtrP rfl (by decide) (by decide) _ rfl _ _ rfl (by rfl) (hoP.alloc _) [.pointer (some ⟨q, 0, none⟩)] rfl rfl (news_new _ _ _) (ptrs_one _) (by omega) (Nat.zero_le _) ?_; intro v1 w1' ho1 hg1 hw1; obtain ⟨a1, cap1, rfl, hx1⟩ := own_form ho1; clear hx1; have hB1 : Blk w1' W 31 _ := (hB.ext (Ext.new _ _)).grown hg1 hneP; have c10 : w1'.cell? ⟨W, 0, none⟩ = some (.slice aP A.ps.length capP) := (by rw [← HVP.out]; exact hB1.cell 0); have c11 : w1'.cell? ⟨W, 1, none⟩ = some (.slice aR A.rs.length capR) := (by rw [← HVR.out]; exact hB1.cell 1); have f1 := hB1.frozen; have hlt1 := hB1.lt; obtain ⟨col2, hq2, hS2⟩ := addP' HL.out HVP.out ho1 hg1 hw1; have HL2 := hide hq2; have hoR2 : (w1'.setCell ⟨W, 0, none⟩ (.slice a1 (A.ps.length + 1) cap1)).ownsRow 0 39 1 (.slice aR A.rs.length capR) A.rs.length (A.rs.map ptrV) := (by rw [← HVR.out]; exact (hq2.rs id).1); have hB2 := hq2.blk id; have HS2 := hide hS2; clear hq2 hS2) | (refine app_oneW Tryz.underlying27 infoPtrR rfl (by decide) (by decide) _ rfl _ _ rfl (by rfl) (hoR2.alloc _) [.pointer (some ⟨p, 0, none⟩)] rfl rfl (news_blk (l := [.pointer (some ⟨p, 0, none⟩)]) (Blk.new_set _ _ _ _ _)) (ptrs_one _) (by omega) (Nat.zero_le _) ?_; intro v5 w5 ho5 hg5 hw5; obtain ⟨a5, cap5, rfl, hx5⟩ := own_form ho5; clear hx5; have hB5 : Blk w5 W 31 _ := (hB2.ext (Ext.new _ _)).grown hg5 hneR; have c51 : w5.cell? ⟨W, 1, none⟩ = some A.vR := hB5.cell 1; have f5 := hB5.frozen; have hlt5 := hB5.lt))
  obtain ⟨colB, hLB, hSB⟩ := addR' HL2.out HVR.out ho5 hg5 hw5
  go_ret
  refine ⟨LRet.yes 1, colB, _, hLB, (fit_new HF.out _ _ ⟨q, newG a b c d e, p, newPr a b c d e, L⟩ ⟨HG.out.mono (by omega), HRl.out⟩).mono (by omega), (HS.out.trans HS2.out).trans hSB, by simp, by simp⟩
end Go.Proofs.YtjhihliciadipabGreat

namespace Go.Proofs.YtjhihliciadipabGreat
open Go.RowKit

set_option maxRecDepth 100000 in
set_option maxHeartbeats 2000000 in
theorem tells_state (W : Nat) (col : Nat → Nat) (A : Lw) (C : Int) (k : Nat) (x : Pa) (K a b c d e : Int) (s : ByteArray) (w : World) (h : LwAt w W col A) (hf : Fit A C) (hk : A.xs[k]? = some x) (hC : C ≤ 20000000000000000) :
    Calls Tryz.prog 12 #[.pointer (some ⟨x.q, 0, none⟩), .pointer (some ⟨x.r, 0, none⟩), .agg #[.int .i64 6, .int .i64 K, .int .i64 a, .int .i64 b, .int .i64 c, .int .i64 d, .int .i64 e, .string s]] w fun e w' =>
      LRet 6 e ∧ LPost w w' W col A C := by
  have hok := hf.ok x (List.mem_of_getElem? hk)
  have hpok : POk x.g.s := (h.pg k x hk id).1.ok
  have hn8 := hf.nts hk
  have hE := Ext.new w (.cells #[.int .i64 6, .int .i64 K, .int .i64 a, .int .i64 b, .int .i64 c, .int .i64 d, .int .i64 e, .string s] 33)
  have hB := Blk.new w 33 #[.int .i64 6, .int .i64 K, .int .i64 a, .int .i64 b, .int .i64 c, .int .i64 d, .int .i64 e, .string s]
  have h1 := h.ext hE
  have hlt := (h.pg k x hk id).1.lt
  go_enter Tryz.func12, Tryz.ntmps12
  go_wp2_with fail
  have HD := hide (fun w' h' => StateD x.r x.s x.L C a w' h' hok.1 x.g.s hok.2)
  have HN := hide (fun w' h' => StateP_any x.q a x.g w' h')
  generalize ansT x.g.s a stT = an at *
  obtain ⟨r1, r2⟩ := an
  simp only at HN HD
  refine (HN.out _ (h1.pg k x hk id).1).mono ?_
  rintro e1 w1 ⟨rfl, hEp⟩
  have hP := PTo.ext (h1.pg k x hk id).1 hEp
  have hB1 := hB.chg hP.chg (fun hb => by have := hlt _ hb; omega)
  have k2 : w1.cell? ⟨w.heap.size, 2, none⟩ = some (.int .i64 a) := hB1.cell 2
  go_wp2_with fail
  refine (HD.out _ (pair_mid h1 hk hP)).mono ?_
  rintro e2 w2 ⟨rfl, hR⟩
  have HPost := hide (LPost.ext hE (pair_post h1 hf hk hP hR))
  clear k2 hB1 hB hP hR h1 hE hlt hf h hok hk
  go_wp2_with fail
  all_goals first
    | (go_ret; exact ⟨LRet.yes _, HPost.out⟩)
    | (refine (num_any _ _).mono ?_
       rintro e3 w4 ⟨rfl, rfl⟩
       go_wp2_with fail
       all_goals (go_ret; exact ⟨LRet.yes _, HPost.out⟩))

set_option maxRecDepth 100000 in
set_option maxHeartbeats 2000000 in
theorem tells_held (W : Nat) (col : Nat → Nat) (A : Lw) (C : Int) (k : Nat) (x : Pa) (K a b c d e : Int) (s : ByteArray) (w : World) (h : LwAt w W col A) (hf : Fit A C) (hk : A.xs[k]? = some x) (hC : C ≤ 20000000000000000) :
    Calls Tryz.prog 12 #[.pointer (some ⟨x.q, 0, none⟩), .pointer (some ⟨x.r, 0, none⟩), .agg #[.int .i64 7, .int .i64 K, .int .i64 a, .int .i64 b, .int .i64 c, .int .i64 d, .int .i64 e, .string s]] w fun e w' =>
      LRet 7 e ∧ LPost w w' W col A C := by
  have hok := hf.ok x (List.mem_of_getElem? hk)
  have hpok : POk x.g.s := (h.pg k x hk id).1.ok
  have hn8 := hf.nts hk
  have hE := Ext.new w (.cells #[.int .i64 7, .int .i64 K, .int .i64 a, .int .i64 b, .int .i64 c, .int .i64 d, .int .i64 e, .string s] 33)
  have hB := Blk.new w 33 #[.int .i64 7, .int .i64 K, .int .i64 a, .int .i64 b, .int .i64 c, .int .i64 d, .int .i64 e, .string s]
  have h1 := h.ext hE
  have hlt := (h.pg k x hk id).1.lt
  go_enter Tryz.func12, Tryz.ntmps12
  go_wp2_with fail
  have HD := hide (fun w' h' => HeldD x.r x.s x.L C a w' h' hok.1 x.g.s hok.2)
  have HN := hide (fun w' h' => HeldP_any x.q a x.g w' h')
  generalize ansT x.g.s a (fun t => pheldSum t.held) = an at *
  obtain ⟨r1, r2⟩ := an
  simp only at HN HD
  refine (HN.out _ (h1.pg k x hk id).1).mono ?_
  rintro e1 w1 ⟨rfl, hEp⟩
  have hP := PTo.ext (h1.pg k x hk id).1 hEp
  have hB1 := hB.chg hP.chg (fun hb => by have := hlt _ hb; omega)
  have k2 : w1.cell? ⟨w.heap.size, 2, none⟩ = some (.int .i64 a) := hB1.cell 2
  go_wp2_with fail
  refine (HD.out _ (pair_mid h1 hk hP)).mono ?_
  rintro e2 w2 ⟨rfl, hR⟩
  have HPost := hide (LPost.ext hE (pair_post h1 hf hk hP hR))
  clear k2 hB1 hB hP hR h1 hE hlt hf h hok hk
  go_wp2_with fail
  all_goals first
    | (go_ret; exact ⟨LRet.yes _, HPost.out⟩)
    | (refine (num_any _ _).mono ?_
       rintro e3 w4 ⟨rfl, rfl⟩
       go_wp2_with fail
       all_goals (go_ret; exact ⟨LRet.yes _, HPost.out⟩))

set_option maxRecDepth 100000 in
set_option maxHeartbeats 2000000 in
theorem tells_head (W : Nat) (col : Nat → Nat) (A : Lw) (C : Int) (k : Nat) (x : Pa) (K a b c d e : Int) (s : ByteArray) (w : World) (h : LwAt w W col A) (hf : Fit A C) (hk : A.xs[k]? = some x) (hC : C ≤ 20000000000000000) :
    Calls Tryz.prog 12 #[.pointer (some ⟨x.q, 0, none⟩), .pointer (some ⟨x.r, 0, none⟩), .agg #[.int .i64 8, .int .i64 K, .int .i64 a, .int .i64 b, .int .i64 c, .int .i64 d, .int .i64 e, .string s]] w fun e w' =>
      LRet 8 e ∧ LPost w w' W col A C := by
  have hok := hf.ok x (List.mem_of_getElem? hk)
  have hpok : POk x.g.s := (h.pg k x hk id).1.ok
  have hn8 := hf.nts hk
  have hE := Ext.new w (.cells #[.int .i64 8, .int .i64 K, .int .i64 a, .int .i64 b, .int .i64 c, .int .i64 d, .int .i64 e, .string s] 33)
  have hB := Blk.new w 33 #[.int .i64 8, .int .i64 K, .int .i64 a, .int .i64 b, .int .i64 c, .int .i64 d, .int .i64 e, .string s]
  have h1 := h.ext hE
  have hlt := (h.pg k x hk id).1.lt
  have hlr := (h.pr k x hk id).1.lt
  have hso := hB.lt
  go_enter Tryz.func12, Tryz.ntmps12
  go_wp2_with fail
  have HN := hide (fun w' h' => HeadP_any x.q a x.g w' h')
  have HD := hide (fun w' h' => HeadD x.r x.s x.L C a w' h' hok.1 x.g.s hok.2)
  generalize headA x.g.s a = na at *
  generalize headS x.g.s a = ns at *
  obtain ⟨⟨p1, p2, p3, p4, p5⟩, pn⟩ := na
  simp only at HN HD
  refine (HN.out _ (h1.pg k x hk id).1).mono ?_
  rintro e1 w1 ⟨rfl, hP⟩
  have hB1 := hB.chg hP.chg (fun hb => by have := hlt _ hb; omega)
  have k2 : w1.cell? ⟨w.heap.size, 2, none⟩ = some (.int .i64 a) := hB1.cell 2
  have hb1 := hB1.lt
  unfold headAgg
  go_wp2_with fail
  have hX := Blk.new w1 71 #[.int .i64 p1, .int .i64 p2, .int .i64 p3, .int .i64 p4, .int .i64 p5]
  have hEx := Ext.new w1 (.cells #[.int .i64 p1, .int .i64 p2, .int .i64 p3, .int .i64 p4, .int .i64 p5] 71)
  generalize w1.alloc (.cells #[.int .i64 p1, .int .i64 p2, .int .i64 p3, .int .i64 p4, .int .i64 p5] 71) = w2 at *
  have hP2 := hP.then hEx
  refine (HD.out _ (pair_mid h1 hk hP2)).mono ?_
  rintro e2 w3 ⟨rfl, hR⟩
  have hX3 := hX.chg hR.chg (fun hb => by have := hlr _ hb; omega)
  have x0 : w3.cell? ⟨w1.heap.size, 0, none⟩ = some (.int .i64 p1) := hX3.cell 0
  have x1 : w3.cell? ⟨w1.heap.size, 1, none⟩ = some (.int .i64 p2) := hX3.cell 1
  have x2 : w3.cell? ⟨w1.heap.size, 2, none⟩ = some (.int .i64 p3) := hX3.cell 2
  have x3 : w3.cell? ⟨w1.heap.size, 3, none⟩ = some (.int .i64 p4) := hX3.cell 3
  have x4 : w3.cell? ⟨w1.heap.size, 4, none⟩ = some (.int .i64 p5) := hX3.cell 4
  have hxl := hX3.lt
  have HPost : Hid (∀ arr : Array Value, LPost w (w3.alloc (.cells arr 71)) W col A C) := fun arr => LPost.ext hE (pair_post h1 hf hk hP2 (hR.then (Ext.new w3 (.cells arr 71))))
  clear k2 hB1 hB hP hP2 hR hE hlr hf h hok hk hX hEx h1 hlt hso hb1
  unfold headAgg
  go_wp2_with fail
  all_goals first
    | (go_ret; exact ⟨LRet.yes _, HPost.out _⟩)
    | (refine (num_any _ _).mono ?_
       rintro e3 w4 ⟨rfl, rfl⟩
       go_wp2_with fail
       all_goals (go_ret; exact ⟨LRet.yes _, HPost.out _⟩))

set_option maxRecDepth 100000 in
set_option maxHeartbeats 2000000 in
theorem tells_take (W : Nat) (col : Nat → Nat) (A : Lw) (C : Int) (k : Nat) (x : Pa) (K a b c d e : Int) (s : ByteArray) (w : World) (h : LwAt w W col A) (hf : Fit A C) (hk : A.xs[k]? = some x) (hC : C ≤ 20000000000000000) (hb : b ≤ 9223372036854775807) :
    Calls Tryz.prog 12 #[.pointer (some ⟨x.q, 0, none⟩), .pointer (some ⟨x.r, 0, none⟩), .agg #[.int .i64 9, .int .i64 K, .int .i64 a, .int .i64 b, .int .i64 c, .int .i64 d, .int .i64 e, .string s]] w fun e w' =>
      LRet 9 e ∧ LPost w w' W col A C := by
  have hok := hf.ok x (List.mem_of_getElem? hk)
  have hpok : POk x.g.s := (h.pg k x hk id).1.ok
  have hE := Ext.new w (.cells #[.int .i64 9, .int .i64 K, .int .i64 a, .int .i64 b, .int .i64 c, .int .i64 d, .int .i64 e, .string s] 33)
  have hB := Blk.new w 33 #[.int .i64 9, .int .i64 K, .int .i64 a, .int .i64 b, .int .i64 c, .int .i64 d, .int .i64 e, .string s]
  have h1 := h.ext hE
  have hlt := (h.pg k x hk id).1.lt
  go_enter Tryz.func12, Tryz.ntmps12
  go_wp2_with fail
  have HN := hide (fun w' h' => TakeP_any x.q a b x.g w' h')
  have HD := hide (fun w' h' => TakeD x.r x.s x.L C a b w' h' hok.1 hC hb x.g.s hok.2)
  generalize takeA x.g.s a b = na at *
  generalize ptakeS x.g.s a b = ns at *
  obtain ⟨ps, pn⟩ := na
  simp only at HN HD
  refine (HN.out _ (h1.pg k x hk id).1).mono ?_
  rintro e1 w1 ⟨rfl, hP⟩
  have hB1 := hB.chg hP.chg (fun hb => by have := hlt _ hb; omega)
  have k2 : w1.cell? ⟨w.heap.size, 2, none⟩ = some (.int .i64 a) := hB1.cell 2
  have k3 : w1.cell? ⟨w.heap.size, 3, none⟩ = some (.int .i64 b) := hB1.cell 3
  go_wp2_with fail
  refine (HD.out _ (pair_mid h1 hk hP)).mono ?_
  rintro e2 w3 ⟨rfl, hR⟩
  have HPost := hide (LPost.ext hE (pair_post h1 hf hk hP hR))
  clear k2 k3 hB1 hB hP hR hE hf h hok hk h1 hlt
  go_wp2_with fail
  all_goals first
    | (go_ret; exact ⟨LRet.yes _, HPost.out⟩)
    | (refine (num_any _ _).mono ?_
       rintro e3 w4 ⟨rfl, rfl⟩
       go_wp2_with fail
       all_goals (go_ret; exact ⟨LRet.yes _, HPost.out⟩))
end Go.Proofs.YtjhihliciadipabGreat

namespace Go.Proofs.YtjhihliciadipabGreat
open Go.RowKit

theorem moves_any (W : Nat) (col : Nat → Nat) (A : Lw) (C : Int) (k : Nat) (x : Pa) (kind K a b c d e : Int) (s : ByteArray) (w : World) (h : LwAt w W col A) (hf : Fit A C) (hk : A.xs[k]? = some x) (hC : C ≤ 20000000000000000) (hs : s.size ≤ 9223372036854775807) (h2 : 2 ≤ kind) (h5 : kind ≤ 5) :
    Calls Tryz.prog 11 #[.pointer (some ⟨x.q, 0, none⟩), .pointer (some ⟨x.r, 0, none⟩), .agg #[.int .i64 kind, .int .i64 K, .int .i64 a, .int .i64 b, .int .i64 c, .int .i64 d, .int .i64 e, .string s]] w fun e w' =>
      LRet kind e ∧ LPost w w' W col A C := by
  have : kind = 2 ∨ kind = 3 ∨ kind = 4 ∨ kind = 5 := by omega
  rcases this with rfl | rfl | rfl | rfl
  · exact moves_ask W col A C k x K a b c d e s w h hf hk hC hs
  · exact moves_next W col A C k x K a b c d e s w h hf hk hC
  · exact moves_reply W col A C k x K a b c d e s w h hf hk hC hs
  · exact moves_fail W col A C k x K a b c d e s w h hf hk hC
theorem tells_any (W : Nat) (col : Nat → Nat) (A : Lw) (C : Int) (k : Nat) (x : Pa) (kind K a b c d e : Int) (s : ByteArray) (w : World) (h : LwAt w W col A) (hf : Fit A C) (hk : A.xs[k]? = some x) (hC : C ≤ 20000000000000000) (hb : b ≤ 9223372036854775807) (h6 : 6 ≤ kind) (h9 : kind ≤ 9) :
    Calls Tryz.prog 12 #[.pointer (some ⟨x.q, 0, none⟩), .pointer (some ⟨x.r, 0, none⟩), .agg #[.int .i64 kind, .int .i64 K, .int .i64 a, .int .i64 b, .int .i64 c, .int .i64 d, .int .i64 e, .string s]] w fun e w' =>
      LRet kind e ∧ LPost w w' W col A C := by
  have : kind = 6 ∨ kind = 7 ∨ kind = 8 ∨ kind = 9 := by omega
  rcases this with rfl | rfl | rfl | rfl
  · exact tells_state W col A C k x K a b c d e s w h hf hk hC
  · exact tells_held W col A C k x K a b c d e s w h hf hk hC
  · exact tells_head W col A C k x K a b c d e s w h hf hk hC
  · exact tells_take W col A C k x K a b c d e s w h hf hk hC hb
theorem cache_any (W : Nat) (col : Nat → Nat) (A : Lw) (C : Int) (k : Nat) (x : Pa) (kind K a b c d e : Int) (s : ByteArray) (w : World) (h : LwAt w W col A) (hf : Fit A C) (hk : A.xs[k]? = some x) (hC : C ≤ 20000000000000000) (hl : A.lists.length ≤ 7999999999000) (h10 : 10 ≤ kind) (h11 : kind ≤ 11) :
    Calls Tryz.prog 13 #[.pointer (some ⟨W, 0, none⟩), .pointer (some ⟨x.q, 0, none⟩), .pointer (some ⟨x.r, 0, none⟩), .agg #[.int .i64 kind, .int .i64 K, .int .i64 a, .int .i64 b, .int .i64 c, .int .i64 d, .int .i64 e, .string s]] w fun e w' =>
      LRet kind e ∧ LPost w w' W col A C := by
  have : kind = 10 ∨ kind = 11 := by omega
  rcases this with rfl | rfl
  · exact cache_used W col A C k x K a b c d e s w h hf hk hC
  · exact cache_entries W col A C k x K a b c d e s w h hf hk hC hl

set_option maxRecDepth 100000 in
set_option maxHeartbeats 2000000 in
theorem plays_new (W : Nat) (col : Nat → Nat) (A : Lw) (C : Int) (K a b c d e : Int) (s : ByteArray) (w : World) (h : LwAt w W col A) (hf : Fit A C) (hC0 : 0 ≤ C) (hn : A.xs.length ≤ 7999999999000) :
    Calls Tryz.prog 7 #[.pointer (some ⟨W, 0, none⟩), .agg #[.int .i64 1, .int .i64 K, .int .i64 a, .int .i64 b, .int .i64 c, .int .i64 d, .int .i64 e, .string s]] w fun e w' =>
      LRet 1 e ∧ LPost w w' W col A C := by
  have hE := Ext.new w (.cells #[.int .i64 1, .int .i64 K, .int .i64 a, .int .i64 b, .int .i64 c, .int .i64 d, .int .i64 e, .string s] 33)
  have h1 := h.ext hE
  go_enter Tryz.func7, Tryz.ntmps7
  go_wp2_with fail
  cases hfair : fairB a b c d e
  · refine (news_no W _ A C K a b c d e s _ h1 hf hfair).mono ?_
    rintro e1 w1 ⟨rfl, hP⟩
    have HP := hide (LPost.ext hE hP)
    clear hP h1 hE h hf
    go_wp2_with fail
    go_ret
    exact ⟨LRet.yes 1, HP.out⟩
  · refine (news_yes W _ A C K a b c d e s _ h1 hf hC0 hn hfair).mono ?_
    rintro e1 w1 ⟨rfl, hP⟩
    have HP := hide (LPost.ext hE hP)
    clear hP h1 hE h hf
    go_wp2_with fail
    go_ret
    exact ⟨LRet.yes 1, HP.out⟩

set_option maxRecDepth 100000 in
set_option maxHeartbeats 2000000 in
theorem plays_idle (W : Nat) (col : Nat → Nat) (A : Lw) (C : Int) (kind K a b c d e : Int) (s : ByteArray) (w : World) (h : LwAt w W col A) (hf : Fit A C) (hk1 : kind ≠ 1) (hn : A.xs.length ≤ 7999999999000) (hidle : A.xs.length = 0 ∨ kind < 1 ∨ 11 < kind) :
    Calls Tryz.prog 7 #[.pointer (some ⟨W, 0, none⟩), .agg #[.int .i64 kind, .int .i64 K, .int .i64 a, .int .i64 b, .int .i64 c, .int .i64 d, .int .i64 e, .string s]] w fun e w' =>
      LRet kind e ∧ LPost w w' W col A C := by
  have hE := Ext.new w (.cells #[.int .i64 kind, .int .i64 K, .int .i64 a, .int .i64 b, .int .i64 c, .int .i64 d, .int .i64 e, .string s] 33)
  have h1 := h.ext hE
  have HP : Hid (LPost w (w.alloc (.cells #[.int .i64 kind, .int .i64 K, .int .i64 a, .int .i64 b, .int .i64 c, .int .i64 d, .int .i64 e, .string s] 33)) W col A C) := ⟨_, A, h1, hf.mono (by omega), Stp.ext hE, by omega, by omega⟩
  have hps : A.ps.length = A.xs.length := by rw [hf.ps]; simp
  obtain ⟨aP, capP, hvP, -⟩ := own_form (h.ps id).1
  have cP : w.cell? ⟨W, 0, none⟩ = some A.vP := (h.blk id).cell 0
  rw [hvP, hps] at cP
  have hlt := h.ltW
  have HI := hide hidle
  clear hvP hps h1 hE h hf hidle
  generalize A.xs.length = n at *
  go_enter Tryz.func7, Tryz.ntmps7
  go_wp2_with fail
  all_goals first
    | (go_ret; exact ⟨LRet.yes _, HP.out⟩)
    | (exfalso; have := HI.out; omega)

theorem LwX.drew2 {w : World} {W : Nat} {col : Nat → Nat} {A : Lw} {X : Nat → Prop} (h : LwX w W col A X) : LwX w.drew.drew W col A X :=
  ⟨h.ltW, h.cW, h.blk, h.ps, h.rs, h.ls, h.ms, h.ml, fun k x hx hn => ⟨(h.pg k x hx hn).1.ext (Below.drew (Below.drew (Below.refl _ _))), (h.pg k x hx hn).2⟩, fun k x hx hn => ⟨(h.pr k x hx hn).1.ext (Below.drew (Below.drew (Below.refl _ _))), (h.pr k x hx hn).2⟩⟩

end Go.Proofs.YtjhihliciadipabGreat
