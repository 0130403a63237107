import Derived.Test.YtjhihliciadipabGreatWant
import Derived.Deep.LoopGhost
set_option linter.unusedVariables false
set_option linter.unusedSimpArgs false
set_option linter.unnecessarySimpa false
namespace Go.Proofs.YtjhihliciadipabGreat
open Go.RowKit

def padL (has : List ByteArray) (n : Nat) : List ByteArray := has ++ List.replicate n ByteArray.empty
def giveL (has : List ByteArray) (k : Nat) (body : ByteArray) : List ByteArray := (padL has (k + 1 - has.length)).set k body

theorem pad_len (has : List ByteArray) (n : Nat) : (padL has n).length = has.length + n := by simp [padL]
theorem pad_snoc (has : List ByteArray) (n : Nat) : padL has (n + 1) = padL has n ++ [ByteArray.empty] := by
  simp [padL, List.replicate_succ', List.append_assoc]

set_option maxHeartbeats 1000000 in
theorem give_any (b o : Nat) (T : TypeId) (arr : Array Value) (has : List ByteArray) (hv : Value) (k : Int) (body : ByteArray) (w : World) (hB : Blk w b T arr) (hc : arr[o + 11]? = some hv)
    (ho : w.ownsRow 0 9 1 hv has.length (has.map .string)) (hne : hv.ownBlock ≠ some b) (hk : 0 ≤ k) (hk2 : k ≤ 100000) (hl : has.length ≤ 1000000) :
    Calls Tryz.prog 82 #[.pointer (some ⟨b, o, none⟩), .int .i64 k, .string body] w fun e w' =>
      e = .returned (.tuple #[]) ∧ ∃ hv', Blk w' b T (arr.setIfInBounds (o + 11) hv') ∧ w'.ownsRow 0 9 1 hv' (giveL has k.toNat body).length ((giveL has k.toNat body).map .string) ∧
        Chg (fun x => x = b ∨ hv.ownBlock = some x) w w' ∧ (∀ x, hv'.ownBlock = some x → hv.ownBlock = some x ∨ w.heap.size ≤ x) := by
  obtain ⟨K, rfl⟩ := Int.eq_ofNat_of_zero_le hk
  rw [Int.toNat_natCast]
  have hbw := hB.lt
  go_enter Tryz.func82, Tryz.ntmps82
  go_wp2_with fail
  go_loopg [6] (K + 1 - has.length) (fun g _ wr => ∃ (n : Nat) (hv1 : Value), g = K + 1 - (has.length + n) ∧ (n = 0 ∨ has.length + n ≤ K + 1) ∧ Blk wr b T (arr.setIfInBounds (o + 11) hv1) ∧
    wr.ownsRow 0 9 1 hv1 (has.length + n) ((padL has n).map .string) ∧ Chg (fun x => x = b ∨ hv.ownBlock = some x) w wr ∧ (∀ x, hv1.ownBlock = some x → hv.ownBlock = some x ∨ w.heap.size ≤ x))
  case atStart => exact ⟨0, hv, by omega, Or.inl rfl, by rw [set_same hc]; exact hB, by simpa [padL] using ho, Chg.refl _ _, fun x hx => Or.inl hx⟩
  case round =>
    obtain ⟨n, hv1, rfl, hn, hB1, ho1, hC1, hor1⟩ := hrel
    have hne1 : hv1.ownBlock ≠ some b := fun h => by rcases hor1 b h with h | h; exact hne h; omega
    have hcl : wr.cell? ⟨b, o + 11, none⟩ = some hv1 := by rw [hB1.cell]; exact set_get hc
    have HN := hide hn
    clear hn
    obtain ⟨a1, cap1, rfl, hg1⟩ := own_form ho1
    by_cases hlt : has.length + n ≤ K
    · clear hg1
      go_wp2_with (
        at_builtin
        refine app_one Tryz.underlying116 infoStr rfl (by decide) (by decide) _ rfl _ _ rfl (by rfl) (ho1.alloc _) [.string ByteArray.empty] rfl rfl (news_new _ _ _) (strs_one _) (by omega) (by omega) ?_
        intro v2 w2 ho2 hg2 hw2
        have hB2 : Blk w2 b T _ := (hB1.ext (Ext.new _ _)).grown hg2 hne1
        have c2 : w2.cell? ⟨b, o + 11, none⟩ = some _ := (by rw [hB2.cell]; exact set_get hc)
        have f2 := hB2.frozen (o + 11)
        obtain ⟨a2, cap2, rfl, hga⟩ := own_form ho2
        clear hga)
      go_roundg (K + 1 - (has.length + (n + 1)))
      case measure => omega
      case rel =>
        have hs1 := hC1.size
        have hor2 : ∀ x, (Value.slice a2 (has.length + n + 1) cap2).ownBlock = some x → hv.ownBlock = some x ∨ w.heap.size ≤ x := by
          intro x hx
          rcases hw2 with h | h
          · exact hor1 x (h.symm.trans hx)
          · rw [h] at hx; simp at hx; right; omega
        have hne2 : (Value.slice a2 (has.length + n + 1) cap2).ownBlock ≠ some b := fun h => by rcases hor2 b h with h | h; exact hne h; omega
        have hC2 : Chg (fun x => x = b ∨ hv.ownBlock = some x) w w2 := (hC1.alloc _).trans' (Chg.of_grown hg2 (fun x hx => by rcases hor1 x hx with h | h; exact Or.inl (Or.inr h); exact Or.inr h))
        refine ⟨n + 1, _, rfl, Or.inr (by omega), ?_, ?_, hC2.setCell (Or.inl (Or.inl rfl)) _, hor2⟩
        · have := hB2.set (o + 11) (.slice a2 (has.length + n + 1) cap2); rwa [set_set] at this
        · rw [pad_snoc, List.map_append]; exact own_setOther ho2 hne2 _
    · have HG : Hid (giveL has K body = (padL has n).set K body) := by
        show _ = _
        unfold giveL
        rcases HN.out with rfl | h
        · rw [show K + 1 - has.length = 0 from by omega]
        · rw [show K + 1 - has.length = n from by omega]
      obtain ⟨g1, rfl⟩ := hg1 (by omega)
      have hgb : g1 ≠ b := fun h => hne1 (by rw [← h]; rfl)
      have ck : wr.cell? ⟨g1, K, none⟩ = some (.string ((padL has n).getD K ByteArray.empty)) := by
        have h1 : K < (padL has n).length := by rw [pad_len]; omega
        rw [ho1.cellAt K (by omega)]; simp [h1]
      have fk := ho1.frozenAt K
      clear hg1
      go_wp2_with fail
      go_end0
      refine ⟨rfl, _, hB1.setOther hgb _, ?_, hC1.setCell ?_ _, hor1⟩
      · have h1 := (ho1.stored K (.string body)).1
        rw [HG.out, List.length_set, pad_len, List.map_set]; exact h1
      · rcases hor1 g1 rfl with h | h
        · exact Or.inl (Or.inr h)
        · exact Or.inr h
end Go.Proofs.YtjhihliciadipabGreat

namespace Go.Proofs.YtjhihliciadipabGreat
open Go.RowKit

structure Kp where
  path : Int
  tag : Int
  tot : Int
  k : Int
  body : ByteArray
  when : Int

/-- The document's proxy. -/
structure Pr where
  mir : Int
  blk : Int
  win : Int
  cap : Int
  tri : Int
  ts : List Mv
  jobs : List Jb
  latest : List (Int × Int)
  cache : List Kp
  clock : Int

/-- Its slices' values. -/
structure Lay where
  vT : Value
  vJ : Value
  vL : Value
  vC : Value
  hs : List Value
def Lay.vs (L : Lay) : List Value := L.vT :: L.vJ :: L.vL :: L.vC :: L.hs

def mvV (m : Mv) (hv : Value) : List Value := [.int .i64 m.path, .bool m.sp.counts, .string m.sp.frm, .string m.sp.til, .int .i64 m.tag, .int .i64 m.tot, .bool m.shown, .bool m.lost, .bool m.cut, .int .i64 m.taken, .int .i64 m.fails, hv]
def tsR (ts : List Mv) (hs : List Value) : List (List Value) := List.zipWith mvV ts hs
def verV (v : Int × Int) : List Value := [.int .i64 v.1, .int .i64 v.2]
def kpV (k : Kp) : List Value := [.int .i64 k.path, .int .i64 k.tag, .int .i64 k.tot, .int .i64 k.k, .string k.body, .int .i64 k.when]
def prV (s : Pr) (L : Lay) : List Value := [.int .i64 s.mir, .int .i64 s.blk, .int .i64 s.win, .int .i64 s.cap, .int .i64 s.tri, L.vT, L.vJ, L.vL, L.vC, .int .i64 s.clock]

theorem tsR_len (ts : List Mv) (hs : List Value) : ∀ r ∈ tsR ts hs, r.length = 12 := by
  intro r hr
  unfold tsR at hr
  rw [List.mem_iff_getElem?] at hr
  obtain ⟨i, hi⟩ := hr
  rw [List.getElem?_zipWith] at hi
  split at hi
  · simp at hi; subst hi; rfl
  · simp at hi
theorem jobs_len (js : List Jb) : ∀ r ∈ js.map jobV, r.length = 5 := by intro r hr; simp at hr; obtain ⟨j, _, rfl⟩ := hr; rfl
theorem vers_len (l : List (Int × Int)) : ∀ r ∈ l.map verV, r.length = 2 := by
  intro r hr; rw [List.mem_map] at hr; obtain ⟨j, _, rfl⟩ := hr; rfl
theorem kps_len (l : List Kp) : ∀ r ∈ l.map kpV, r.length = 6 := by intro r hr; rw [List.mem_map] at hr; obtain ⟨j, _, rfl⟩ := hr; rfl

/-- No two of the values have a block in common. -/
def Sep (vs : List Value) : Prop := ∀ (i j : Nat) (u v : Value) (x : Nat), i ≠ j → vs[i]? = some u → vs[j]? = some v → u.ownBlock = some x → v.ownBlock ≠ some x

structure PrAt (w : World) (p : Nat) (s : Pr) (L : Lay) : Prop where
  blk : Blk w p 103 (prV s L).toArray
  ts : w.ownsRow 0 118 12 L.vT s.ts.length (tsR s.ts L.hs).flatten
  jobs : w.ownsRow 0 124 5 L.vJ s.jobs.length (s.jobs.map jobV).flatten
  latest : w.ownsRow 0 115 2 L.vL s.latest.length (s.latest.map verV).flatten
  cache : w.ownsRow 0 144 6 L.vC s.cache.length (s.cache.map kpV).flatten
  hl : L.hs.length = s.ts.length
  has : ∀ (i : Nat) m hv, s.ts[i]? = some m → L.hs[i]? = some hv → w.ownsRow 0 9 1 hv m.has.length (m.has.map .string)
  np : ∀ v ∈ L.vs, v.ownBlock ≠ some p
  sep : Sep L.vs

/-- The blocks of a proxy. -/
def Foot (p : Nat) (L : Lay) (b : Nat) : Prop := b = p ∨ ∃ v ∈ L.vs, v.ownBlock = some b

theorem PrAt.lt {w : World} {p : Nat} {s : Pr} {L : Lay} (h : PrAt w p s L) : ∀ b, Foot p L b → b < w.heap.size := by
  rintro b (rfl | ⟨v, hv, hb⟩)
  · exact h.blk.lt
  · simp only [Lay.vs, List.mem_cons] at hv
    rcases hv with rfl | rfl | rfl | rfl | hv
    · exact (h.ts.lt b hb).2
    · exact (h.jobs.lt b hb).2
    · exact (h.latest.lt b hb).2
    · exact (h.cache.lt b hb).2
    · obtain ⟨i, hi⟩ := List.mem_iff_getElem?.1 hv
      have hlt : i < s.ts.length := by rw [← h.hl]; exact (List.getElem?_eq_some_iff.1 hi).1
      exact ((h.has i s.ts[i] v (by simp [hlt]) hi).lt b hb).2

theorem PrAt.chg {S : Nat → Prop} {w w' : World} {p : Nat} {s : Pr} {L : Lay} (h : PrAt w p s L) (hc : Chg S w w') (hs : ∀ b, Foot p L b → ¬ S b) : PrAt w' p s L := by
  have hv : ∀ v ∈ L.vs, ∀ k, v.ownBlock = some k → ¬ S k := fun v hv k hk => hs k (Or.inr ⟨v, hv, hk⟩)
  refine ⟨h.blk.chg hc (hs p (Or.inl rfl)), own_chg h.ts hc (hv _ (by simp [Lay.vs])), own_chg h.jobs hc (hv _ (by simp [Lay.vs])), own_chg h.latest hc (hv _ (by simp [Lay.vs])),
    own_chg h.cache hc (hv _ (by simp [Lay.vs])), h.hl, fun i m u hm hu => own_chg (h.has i m u hm hu) hc (hv u ?_), h.np, h.sep⟩
  have := List.mem_of_getElem? hu
  simp [Lay.vs, this]
theorem PrAt.ext {w w' : World} {p : Nat} {s : Pr} {L : Lay} (h : PrAt w p s L) (hc : Ext w w') : PrAt w' p s L :=
  h.chg (S := fun _ => False) (Chg.of_ext hc) (fun _ _ => id)

/-- The transfers' block. -/
theorem PrAt.tsBlk {w : World} {p : Nat} {s : Pr} {L : Lay} (h : PrAt w p s L) (hn : 0 < s.ts.length) :
    ∃ g cap, L.vT = .slice (some ⟨g, 0, none⟩) s.ts.length cap := by
  obtain ⟨a, cap, e, hg⟩ := own_form h.ts
  obtain ⟨g, rfl⟩ := hg hn
  exact ⟨g, cap, e⟩
theorem PrAt.row {w : World} {p : Nat} {s : Pr} {L : Lay} (h : PrAt w p s L) {i : Nat} {m : Mv} {hv : Value} (hm : s.ts[i]? = some m) (hh : L.hs[i]? = some hv) : (tsR s.ts L.hs)[i]? = some (mvV m hv) := by
  unfold tsR; rw [List.getElem?_zipWith, hm, hh]
theorem PrAt.hv {w : World} {p : Nat} {s : Pr} {L : Lay} (h : PrAt w p s L) {i : Nat} {m : Mv} (hm : s.ts[i]? = some m) : ∃ hv, L.hs[i]? = some hv :=
  ⟨L.hs[i]'(by rw [h.hl]; exact (List.getElem?_eq_some_iff.1 hm).1), by simp⟩
theorem PrAt.cellT {w : World} {p : Nat} {s : Pr} {L : Lay} (h : PrAt w p s L) {i : Nat} {m : Mv} {hv : Value} (hm : s.ts[i]? = some m) (hh : L.hs[i]? = some hv)
    {g cap : Nat} (hT : L.vT = .slice (some ⟨g, 0, none⟩) s.ts.length cap) (r : Nat) (hr : r < 12) : w.cell? ⟨g, i * 12 + r, none⟩ = (mvV m hv)[r]? := by
  have hts := h.ts
  rw [hT] at hts
  have hi := (List.getElem?_eq_some_iff.1 hm).1
  rw [hts.cellAt (i * 12 + r) (by have : (i + 1) * 12 ≤ s.ts.length * 12 := Nat.mul_le_mul_right 12 hi; omega), flat_get 12 _ (tsR_len _ _) i r hr, h.row hm hh]; rfl
theorem PrAt.mv {w : World} {p : Nat} {s : Pr} {L : Lay} (h : PrAt w p s L) {i : Nat} {m : Mv} {hv : Value} (hm : s.ts[i]? = some m) (hh : L.hs[i]? = some hv)
    {g cap : Nat} (hT : L.vT = .slice (some ⟨g, 0, none⟩) s.ts.length cap) : MvAt w g (i * 12) m ∧ HasAt w g (i * 12) hv m.has :=
  ⟨⟨h.cellT hm hh hT 0 (by omega), h.cellT hm hh hT 1 (by omega), h.cellT hm hh hT 2 (by omega), h.cellT hm hh hT 3 (by omega), h.cellT hm hh hT 4 (by omega), h.cellT hm hh hT 5 (by omega),
    h.cellT hm hh hT 6 (by omega), h.cellT hm hh hT 7 (by omega), h.cellT hm hh hT 8 (by omega), h.cellT hm hh hT 9 (by omega), h.cellT hm hh hT 10 (by omega)⟩,
   ⟨h.cellT hm hh hT 11 (by omega), h.has i m hv hm hh⟩⟩

/-- What is always so of the document's proxy, as far as the settings go. -/
structure FairS (s : Pr) : Prop where
  m1 : 1 ≤ s.mir
  m2 : s.mir ≤ 3
  B1 : 1 ≤ s.blk
  B2 : s.blk ≤ 16
  W1 : 1 ≤ s.win
  W2 : s.win ≤ 4
  c1 : 0 ≤ s.cap
  c2 : s.cap ≤ 256
  t1 : 1 ≤ s.tri
  t2 : s.tri ≤ 4
theorem PrAt.set {w : World} {p : Nat} {s : Pr} {L : Lay} (h : PrAt w p s L) (hf : FairS s) : SetAt w p s.blk s.win :=
  ⟨hf.B1, hf.B2, hf.W1, hf.W2, h.blk.cell 1, h.blk.cell 2⟩

/-- One value of several is laid elsewhere: where it lay, or in a new block. -/
theorem sep_set {vs : List Value} {n : Nat} (hs : Sep vs) (hlt : ∀ v ∈ vs, ∀ x, v.ownBlock = some x → x < n) (i : Nat) (v v' : Value) (hv : vs[i]? = some v)
    (hor : ∀ x, v'.ownBlock = some x → v.ownBlock = some x ∨ n ≤ x) : Sep (vs.set i v') := by
  intro a b u1 u2 x hab h1 h2 hx hx2
  rw [List.getElem?_set] at h1 h2
  split at h1
  · rename_i hia
    split at h1
    · simp at h1; subst h1
      rw [if_neg (by omega)] at h2
      rcases hor x hx with h | h
      · exact hs i b v u2 x (by omega) hv h2 h hx2
      · have := hlt u2 (List.mem_of_getElem? h2) x hx2; omega
    · simp at h1
  · split at h2
    · split at h2
      · simp at h2; subst h2
        rcases hor x hx2 with h | h
        · exact hs a i u1 v x (by omega) h1 hv hx h
        · have := hlt u1 (List.mem_of_getElem? h1) x hx; omega
      · simp at h2
    · exact hs a b u1 u2 x hab h1 h2 hx hx2
end Go.Proofs.YtjhihliciadipabGreat

namespace Go.Proofs.YtjhihliciadipabGreat
open Go.RowKit

/-- From one world and layout of a proxy to a later: nothing but its own blocks has turned; its blocks are old ones of its own, or new. -/
structure Mvs (w w' : World) (p : Nat) (L L' : Lay) : Prop where
  chg : Chg (Foot p L) w w'
  foot : ∀ b, Foot p L' b → Foot p L b ∨ w.heap.size ≤ b
theorem Mvs.refl (w : World) (p : Nat) (L : Lay) : Mvs w w p L L := ⟨Chg.refl _ _, fun b h => Or.inl h⟩
theorem Mvs.trans {w w1 w2 : World} {p : Nat} {L L1 L2 : Lay} (h : Mvs w w1 p L L1) (k : Mvs w1 w2 p L1 L2) : Mvs w w2 p L L2 :=
  ⟨h.chg.trans' (k.chg.mono (fun b _ hb => h.foot b hb)), fun b hb => by
    rcases k.foot b hb with h1 | h1
    · exact h.foot b h1
    · exact Or.inr (Nat.le_trans h.chg.size h1)⟩
theorem Mvs.of_ext {w w' : World} {p : Nat} {L : Lay} (h : Ext w w') : Mvs w w' p L L := ⟨Chg.of_ext h, fun b h => Or.inl h⟩
theorem Mvs.ext {w w1 w2 : World} {p : Nat} {L L1 : Lay} (h : Mvs w w1 p L L1) (k : Ext w1 w2) : Mvs w w2 p L L1 := h.trans (Mvs.of_ext k)
theorem Mvs.drewN {w w1 : World} {p : Nat} {L L1 : Lay} (h : Mvs w w1 p L L1) (n : Nat) : Mvs w (w1.drewN n) p L L1 := h.ext (Ext.drewN (Below.refl _ _) n)
theorem PrAt.drewN {w : World} {p : Nat} {s : Pr} {L : Lay} (h : PrAt w p s L) (n : Nat) : PrAt (w.drewN n) p s L := h.ext (Ext.drewN (Below.refl _ _) n)

theorem PrAt.upd {w w' : World} {p : Nat} {s : Pr} {L : Lay} (h : PrAt w p s L) {i : Nat} {m : Mv} {hv : Value} (hm : s.ts[i]? = some m) (hh : L.hs[i]? = some hv)
    {g cap : Nat} (hT : L.vT = .slice (some ⟨g, 0, none⟩) s.ts.length cap) (r : Nat) (hr : r < 12) (u : Value) (m' : Mv) (hv' : Value) (hrow : (mvV m hv).set r u = mvV m' hv')
    (hc : Chg (fun x => x = g ∨ hv.ownBlock = some x) w w') (hB : ∀ arr, Blk w g 118 arr → Blk w' g 118 (arr.setIfInBounds (i * 12 + r) u))
    (hown : w'.ownsRow 0 9 1 hv' m'.has.length (m'.has.map .string)) (hor : ∀ x, hv'.ownBlock = some x → hv.ownBlock = some x ∨ w.heap.size ≤ x) :
    PrAt w' p { s with ts := s.ts.set i m' } { L with hs := L.hs.set i hv' } ∧ Mvs w w' p L { L with hs := L.hs.set i hv' } := by
  have hlt := h.lt
  have hmem : hv ∈ L.hs := List.mem_of_getElem? hh
  have hgT : L.vT.ownBlock = some g := by rw [hT]; rfl
  have hgF : Foot p L g := Or.inr ⟨L.vT, by simp [Lay.vs], hgT⟩
  have hhF : ∀ x, hv.ownBlock = some x → Foot p L x := fun x hx => Or.inr ⟨hv, by simp [Lay.vs, hmem], hx⟩
  have hpS : ¬ (p = g ∨ hv.ownBlock = some p) := by
    rintro (rfl | h1)
    · exact h.np L.vT (by simp [Lay.vs]) hgT
    · exact h.np hv (by simp [Lay.vs, hmem]) h1
  have hoS : ∀ (j : Nat) v, j ≠ 0 → j ≠ i + 4 → L.vs[j]? = some v → ∀ x, v.ownBlock = some x → ¬ (x = g ∨ hv.ownBlock = some x) := by
    intro j v h0 h1 hv1 x hx
    rintro (rfl | h2)
    · exact h.sep j 0 v L.vT x h0 hv1 rfl hx hgT
    · exact h.sep j (i + 4) v hv x h1 hv1 (by simpa [Lay.vs] using hh) hx h2
  refine ⟨⟨?_, ?_, own_chg h.jobs hc (hoS 1 _ (by omega) (by omega) rfl), own_chg h.latest hc (hoS 2 _ (by omega) (by omega) rfl), own_chg h.cache hc (hoS 3 _ (by omega) (by omega) rfl), ?_, ?_, ?_, ?_⟩, ?_, ?_⟩
  · exact h.blk.chg hc hpS
  · have hts := h.ts
    rw [hT] at hts ⊢
    obtain ⟨cur, b1, b2, b3, b4, b5, b6⟩ := own_blk hts
    have b7 := hB cur b1
    have e1 : (tsR s.ts L.hs).flatten.set (i * 12 + r) u = (tsR (s.ts.set i m') (L.hs.set i hv')).flatten := by
      rw [flat_set 12 _ (tsR_len _ _) i r hr u _ (h.row hm hh), hrow]
      congr 1
      unfold tsR
      apply List.ext_getElem?
      intro j
      rw [List.getElem?_set, List.getElem?_zipWith, List.getElem?_zipWith, List.getElem?_set, List.getElem?_set]
      have hi := (List.getElem?_eq_some_iff.1 hm).1
      by_cases hij : i = j
      · subst hij
        simp [List.length_zipWith, h.hl, hi]
      · simp [hij]
    refine ⟨?_, .inr ⟨g, cap, _, by simp, b6, b7, by simpa using b4, b5, by simpa using b2, ?_⟩⟩
    · rw [← e1, List.length_set]; simpa using hts.1
    · rw [Array.toList_setIfInBounds]
      show List.take ((s.ts.set i m').length * 12) _ = _
      rw [← e1, ← b3, List.length_set, List.take_set]
  · simp [h.hl]
  · intro j m2 u2 h1 h2
    simp only [List.getElem?_set] at h1 h2
    by_cases hij : i = j
    · subst hij
      have hi := (List.getElem?_eq_some_iff.1 hm).1
      have hi2 := (List.getElem?_eq_some_iff.1 hh).1
      simp [hi] at h1; simp [hi2] at h2
      subst h1; subst h2; exact hown
    · rw [if_neg hij] at h1 h2
      exact own_chg (h.has j m2 u2 h1 h2) hc (hoS (j + 4) u2 (by omega) (by omega) (by simpa [Lay.vs] using h2))
  · intro v hv1
    have : v ∈ L.vs ∨ v = hv' := by
      simp only [Lay.vs, List.mem_cons] at hv1 ⊢
      rcases hv1 with h | h | h | h | h
      · simp [h]
      · simp [h]
      · simp [h]
      · simp [h]
      · rcases List.mem_or_eq_of_mem_set h with h | h
        · simp [h]
        · simp [h]
    rcases this with h1 | rfl
    · exact h.np v h1
    · intro h1
      rcases hor p h1 with h2 | h2
      · exact h.np hv (by simp [Lay.vs, hmem]) h2
      · have := hlt p (Or.inl rfl); omega
  · have := sep_set h.sep (fun v hv1 x hx => hlt x (Or.inr ⟨v, hv1, hx⟩)) (i + 4) hv hv' (by simpa [Lay.vs] using hh) hor
    exact this
  · exact hc.mono (fun x _ hx => by rcases hx with rfl | hx; exact hgF; exact hhF x hx)
  · rintro b (rfl | ⟨v, hv1, hb⟩)
    · exact Or.inl (Or.inl rfl)
    · simp only [Lay.vs, List.mem_cons] at hv1
      rcases hv1 with h1 | h1 | h1 | h1 | h1
      · exact Or.inl (Or.inr ⟨v, by simp [Lay.vs, h1], hb⟩)
      · exact Or.inl (Or.inr ⟨v, by simp [Lay.vs, h1], hb⟩)
      · exact Or.inl (Or.inr ⟨v, by simp [Lay.vs, h1], hb⟩)
      · exact Or.inl (Or.inr ⟨v, by simp [Lay.vs, h1], hb⟩)
      · rcases List.mem_or_eq_of_mem_set h1 with h | rfl
        · exact Or.inl (Or.inr ⟨v, by simp [Lay.vs, h], hb⟩)
        · rcases hor b hb with h2 | h2
          · exact Or.inl (hhF b h2)
          · exact Or.inr h2

/-- One cell of a transfer (not the slice) is stored. -/
theorem PrAt.store {w : World} {p : Nat} {s : Pr} {L : Lay} (h : PrAt w p s L) {i : Nat} {m : Mv} {hv : Value} (hm : s.ts[i]? = some m) (hh : L.hs[i]? = some hv)
    {g cap : Nat} (hT : L.vT = .slice (some ⟨g, 0, none⟩) s.ts.length cap) (r : Nat) (hr : r < 12) (u : Value) (m' : Mv) (hrow : (mvV m hv).set r u = mvV m' hv) (hhas : m'.has = m.has) :
    PrAt (w.setCell ⟨g, i * 12 + r, none⟩ u) p { s with ts := s.ts.set i m' } L ∧ Mvs w (w.setCell ⟨g, i * 12 + r, none⟩ u) p L L := by
  have hsep : hv.ownBlock ≠ some g := by
    intro h1
    exact h.sep (i + 4) 0 hv L.vT g (by omega) (by simpa [Lay.vs] using hh) rfl h1 (by rw [hT]; rfl)
  have := h.upd (w' := w.setCell ⟨g, i * 12 + r, none⟩ u) hm hh hT r hr u m' hv hrow ((Chg.refl _ _).setCell (Or.inl (Or.inl rfl)) _) (fun arr hB => hB.set _ _)
    (by rw [hhas]; exact own_setOther (h.has i m hv hm hh) (by simpa using hsep) _) (fun x hx => Or.inl hx)
  rwa [show L.hs.set i hv = L.hs from by
    apply List.ext_getElem?; intro j; rw [List.getElem?_set]; split
    · rename_i e; subst e; rw [hh]; simp [(List.getElem?_eq_some_iff.1 hh).1]
    · rfl] at this
end Go.Proofs.YtjhihliciadipabGreat

namespace Go.Proofs.YtjhihliciadipabGreat
open Go.RowKit

def dropTo (wl : List Int) (has : List ByteArray) (k : Nat) : List ByteArray := has.mapIdx (fun j s => if j < k ∧ (j : Int) ∉ wl then ByteArray.empty else s)
theorem dropTo_len (wl : List Int) (has : List ByteArray) (k : Nat) : (dropTo wl has k).length = has.length := by simp [dropTo]
theorem dropTo_zero (wl : List Int) (has : List ByteArray) : dropTo wl has 0 = has := by
  unfold dropTo; apply List.ext_getElem?; intro j; rw [List.getElem?_mapIdx]; simp
theorem dropTo_in (wl : List Int) (has : List ByteArray) (k : Nat) (h : (k : Int) ∈ wl) : dropTo wl has (k + 1) = dropTo wl has k := by
  unfold dropTo; apply List.ext_getElem?; intro j; rw [List.getElem?_mapIdx, List.getElem?_mapIdx]
  by_cases hj : j = k
  · subst hj; simp [h]
  · have : (j < k + 1) = (j < k) := by simp; omega
    simp only [this]
theorem dropTo_out (wl : List Int) (has : List ByteArray) (k : Nat) (h : (k : Int) ∉ wl) : dropTo wl has (k + 1) = (dropTo wl has k).set k ByteArray.empty := by
  unfold dropTo; apply List.ext_getElem?; intro j; rw [List.getElem?_set, List.getElem?_mapIdx, List.getElem?_mapIdx]
  by_cases hj : k = j
  · subst hj
    by_cases hl : k < has.length
    · simp [h, hl]
    · simp [hl]
  · have : (j < k + 1) = (j < k) := by simp; omega
    simp only [this, if_neg hj]

def dropL (B W : Int) (m : Mv) : List ByteArray := dropTo (winL B W m) m.has m.has.length

set_option maxHeartbeats 1000000 in
theorem drop_any (p b o : Nat) (B W : Int) (m : Mv) (hv : Value) (w : World) (hm : MvAt w b o m) (ok : MvOk m) (hs : SetAt w p B W) (hh : HasAt w b o hv m.has) (hne : hv.ownBlock ≠ some b) :
    Calls Tryz.prog 69 #[.pointer (some ⟨p, 0, none⟩), .pointer (some ⟨b, o, none⟩)] w fun e w' =>
      e = .returned (.tuple #[]) ∧ w'.ownsRow 0 9 1 hv (dropL B W m).length ((dropL B W m).map .string) ∧ Chg (fun x => hv.ownBlock = some x) w w' := by
  have HL := win_len B W m hs.W2
  have hhl := ok.hl
  obtain ⟨a, cap, rfl, hg⟩ := own_form hh.own
  have hab : ∀ g, a = some ⟨g, 0, none⟩ → g ≠ b := by rintro g rfl rfl; exact hne rfl
  have HD : Hid (dropL B W m = dropTo (winL B W m) m.has m.has.length) := rfl
  go_enter Tryz.func69, Tryz.ntmps69
  go_wp2_with fail
  refine (window_any p b o B W m _ hm ok.sp ok.t0 ok.t1 hs.B1 hs.B2 hs.W1 hs.W2 hs.cB hs.cW ok.k0 ok.k1).mono ?_
  rintro e w1 ⟨v1, rfl, hE1, hown1⟩
  generalize hwl : winL B W m = wl at *
  have hh1 := hh.ext hE1
  go_wp2_with fail
  go_loopw [5] (fun i w' => ∃ k : Nat, k ≤ m.has.length ∧ i = .int .i64 k ∧ w'.ownsRow 0 9 1 (.slice a m.has.length cap) m.has.length ((dropTo wl m.has k).map .string) ∧
    Chg (fun x => (Value.slice a m.has.length cap).ownBlock = some x) w1 w') (fun i _ => m.has.length - (intOf i).toNat)
  case atStart => exact ⟨0, Nat.zero_le _, rfl, by rw [dropTo_zero]; exact hh1.own, Chg.refl _ _⟩
  case round =>
    obtain ⟨k, hk, rfl, ho2, hC2⟩ := hrel
    have hcl : wr.cell? ⟨b, o + 11, none⟩ = some (.slice a m.has.length cap) := chg_cell hC2 hh1.c (by simpa using hne)
    have ho3 : wr.ownsRow w.heap.size 3 1 v1 wl.length (wl.map (.int .i64)) := own_chg hown1 hC2 (fun x hx hy => by
      have h1 := (hown1.lt x hx).1
      have h2 := (hh.own.lt x hy).2
      omega)
    by_cases hlt : k < m.has.length
    · obtain ⟨g, rfl⟩ := hg (by omega)
      have hgb := hab g rfl
      clear hg hab
      have h1 : k < (dropTo wl m.has k).length := by rw [dropTo_len]; exact hlt
      have ck : wr.cell? ⟨g, k, none⟩ = some (.string ((dropTo wl m.has k)[k])) := by
        rw [ho2.cellAt k (by omega)]; simp [h1]
      have fk := ho2.frozenAt k
      go_wp2_with fail
      refine (in_any wl v1 k _ (by unfold maxLen; omega) _ ho3).mono ?_
      rintro e w' ⟨rfl, rfl⟩
      by_cases hin : (k : Int) ∈ wl
      · have hd : decide ((k : Int) ∈ wl) = true := by simpa using hin
        rw [hd]
        go_wp2_with fail
        refine ⟨⟨k + 1, by omega, by go_num, by rw [dropTo_in wl _ _ hin]; exact ho2, hC2⟩, by simp [intOf]; omega⟩
      · have hd : decide ((k : Int) ∈ wl) = false := by simpa using hin
        rw [hd]
        go_wp2_with fail
        refine ⟨⟨k + 1, by omega, by go_num, ?_, hC2.setCell (p := ⟨g, k, none⟩) (Or.inl rfl) _⟩, by simp [intOf]; omega⟩
        rw [dropTo_out wl _ _ hin, List.map_set]; exact (ho2.stored k _).1
    · go_wp2_with fail
      go_end0
      have : k = m.has.length := by omega
      subst this
      refine ⟨rfl, ?_, (Chg.of_ext hE1).trans hC2⟩
      rw [HD.out, dropTo_len]; exact ho2

theorem PrAt.hasChg {w w' : World} {p : Nat} {s : Pr} {L : Lay} (h : PrAt w p s L) {i : Nat} {m : Mv} {hv : Value} (hm : s.ts[i]? = some m) (hh : L.hs[i]? = some hv)
    {g cap : Nat} (hT : L.vT = .slice (some ⟨g, 0, none⟩) s.ts.length cap) (has' : List ByteArray) (hc : Chg (fun x => hv.ownBlock = some x) w w')
    (hown : w'.ownsRow 0 9 1 hv has'.length (has'.map .string)) : PrAt w' p { s with ts := s.ts.set i { m with has := has' } } L ∧ Mvs w w' p L L := by
  have hsep : hv.ownBlock ≠ some g := by
    intro h1
    exact h.sep (i + 4) 0 hv L.vT g (by omega) (by simpa [Lay.vs] using hh) rfl h1 (by rw [hT]; rfl)
  have hc11 := h.cellT hm hh hT 11 (by omega)
  have := h.upd (w' := w') hm hh hT 11 (by omega) hv { m with has := has' } hv rfl (hc.mono (fun x _ hx => Or.inr hx)) (fun arr hB => by
      rw [set_same (by rw [← hB.cell]; exact hc11)]; exact hB.chg hc (by simpa using hsep)) hown (fun x hx => Or.inl hx)
  rwa [show L.hs.set i hv = L.hs from by
    apply List.ext_getElem?; intro j; rw [List.getElem?_set]; split
    · rename_i e; subst e; rw [hh]; simp [(List.getElem?_eq_some_iff.1 hh).1]
    · rfl] at this
end Go.Proofs.YtjhihliciadipabGreat

namespace Go.Proofs.YtjhihliciadipabGreat
open Go.RowKit

theorem use_any (p : Nat) (c : Int) (w : World) (hc : w.cell? ⟨p, 9, none⟩ = some (.int .i64 c)) (hf : w.frozen? ⟨p, 9, none⟩ = false) (h0 : 0 ≤ c) (h1 : c ≤ 100000000000000000) :
    Calls Tryz.prog 83 #[.pointer (some ⟨p, 0, none⟩)] w fun e w' => e = .returned (.int .i64 (c + 1)) ∧ w.setCell ⟨p, 9, none⟩ (.int .i64 (c + 1)) = w' := by
  go_enter Tryz.func83, Tryz.ntmps83
  go_wp2
  go_ret
  exact ⟨rfl, rfl⟩

/-- Another clock, another slice of transfers ..: a cell of the proxy itself is stored. -/
theorem PrAt.top {w : World} {p : Nat} {s : Pr} {L : Lay} (h : PrAt w p s L) (r : Nat) (u : Value) (s' : Pr) (L' : Lay) (hrow : (prV s L).set r u = prV s' L')
    (ht : s'.ts = s.ts) (hj : s'.jobs = s.jobs) (hl : s'.latest = s.latest) (hc : s'.cache = s.cache) (hL : L' = L) :
    PrAt (w.setCell ⟨p, r, none⟩ u) p s' L' ∧ Mvs w (w.setCell ⟨p, r, none⟩ u) p L L' := by
  subst hL
  have hc1 : Chg (fun x => x = p) w (w.setCell ⟨p, r, none⟩ u) := Chg.setCell (S := fun x => x = p) (Chg.refl _ _) (p := ⟨p, r, none⟩) (Or.inl rfl) _
  have hv : ∀ v ∈ L'.vs, ∀ k, v.ownBlock = some k → ¬ (k = p) := fun v hv k hk e => h.np v hv (by rw [hk, e])
  refine ⟨⟨?_, by rw [ht]; exact own_chg h.ts hc1 (hv _ (by simp [Lay.vs])), by rw [hj]; exact own_chg h.jobs hc1 (hv _ (by simp [Lay.vs])), by rw [hl]; exact own_chg h.latest hc1 (hv _ (by simp [Lay.vs])),
    by rw [hc]; exact own_chg h.cache hc1 (hv _ (by simp [Lay.vs])), by rw [ht]; exact h.hl, fun i m u2 hm hu => ?_, h.np, h.sep⟩, hc1.mono (fun x _ hx => Or.inl hx), fun b hb => Or.inl hb⟩
  · rw [← hrow]
    have := h.blk.set r u
    rwa [List.setIfInBounds_toArray] at this
  · rw [ht] at hm
    exact own_chg (h.has i m u2 hm hu) hc1 (hv u2 (by have := List.mem_of_getElem? hu; simp [Lay.vs, this]))

set_option maxHeartbeats 400000 in
theorem bind_any (b o : Nat) (c0 c1 c2 c3 : Value) (tag tot : Int) (w : World) (h4 : w.cell? ⟨b, o + 4, none⟩ = some c0) (h5 : w.cell? ⟨b, o + 4 + 1, none⟩ = some c1) (h11 : w.cell? ⟨b, o + 11, none⟩ = some c2)
    (h10 : w.cell? ⟨b, o + 10, none⟩ = some c3) (hf : ∀ j, w.frozen? ⟨b, j, none⟩ = false) :
    Calls Tryz.prog 90 #[.pointer (some ⟨b, o, none⟩), .agg #[.int .i64 tag, .int .i64 tot]] w fun e w' => e = .returned (.tuple #[]) ∧
      w' = ((((w.setCell ⟨b, o + 4, none⟩ (.int .i64 tag)).setCell ⟨b, o + 4 + 1, none⟩ (.int .i64 tot)).setCell ⟨b, o + 11, none⟩ (.slice none 0 0)).setCell ⟨b, o + 10, none⟩ (.int .i64 0)).alloc (.cells #[.int .i64 tag, .int .i64 tot] 115) := by
  have hb : b < w.heap.size := World.block_lt_of_cell? w _ h4
  go_enter Tryz.func90, Tryz.ntmps90
  go_wp2
  go_end0
  exact ⟨rfl, rfl⟩
end Go.Proofs.YtjhihliciadipabGreat

namespace Go.Proofs.YtjhihliciadipabGreat

structure KpOk (x : Kp) : Prop where
  k0 : 0 ≤ x.k
  k1 : x.k ≤ 100000
  b0 : 1 ≤ x.body.size
  b1 : x.body.size ≤ 16

/-- What is so of the document's proxy between any two steps, as far as safety asks. -/
structure Inv (s : Pr) (C : Int) : Prop where
  fair : FairS s
  nts : s.ts.length ≤ 8
  ts : ∀ m ∈ s.ts, MvOk m
  cache : ∀ x ∈ s.cache, KpOk x
  nc : s.cache.length ≤ 256
  c0 : 0 ≤ s.clock
  c1 : s.clock ≤ C

theorem Inv.mono {s : Pr} {C D : Int} (h : Inv s C) (hCD : C ≤ D) : Inv s D := ⟨h.fair, h.nts, h.ts, h.cache, h.nc, h.c0, by have := h.c1; omega⟩

def lookHit (t : Mv) (x : Kp) (k : Int) : Bool := x.path == t.path && (x.tag == t.tag && x.tot == t.tot) && x.k == k
def lookC (i : Nat) (k : Int) (s : Pr) (c : Nat) : Pr :=
  match s.ts[i]?, s.cache[c]? with
  | some t, some x => if lookHit t x k = true then
      { s with ts := s.ts.set i { t with has := giveL t.has x.k.toNat x.body }, cache := s.cache.set c { x with when := s.clock + 1 }, clock := s.clock + 1 } else s
  | _, _ => s
def lookK (i : Nat) (s : Pr) (k : Int) : Pr := (List.range s.cache.length).foldl (lookC i k) s
def lookT (s : Pr) (i : Nat) : Pr := match s.ts[i]? with | some t => (wantsL s.blk s.win t).foldl (lookK i) s | none => s
def lookL (s : Pr) : Pr := (List.range s.ts.length).foldl lookT s

/-- Settings, errands, latest versions stay; the lists keep their lengths. -/
structure Same (s s' : Pr) : Prop where
  mir : s'.mir = s.mir
  blk : s'.blk = s.blk
  win : s'.win = s.win
  cap : s'.cap = s.cap
  tri : s'.tri = s.tri
  nts : s'.ts.length = s.ts.length
  jobs : s'.jobs = s.jobs
  latest : s'.latest = s.latest
  nc : s'.cache.length = s.cache.length
theorem Same.refl (s : Pr) : Same s s := ⟨rfl, rfl, rfl, rfl, rfl, rfl, rfl, rfl, rfl⟩
theorem Same.trans {a b c : Pr} (h : Same a b) (k : Same b c) : Same a c :=
  ⟨k.mir.trans h.mir, k.blk.trans h.blk, k.win.trans h.win, k.cap.trans h.cap, k.tri.trans h.tri, k.nts.trans h.nts, k.jobs.trans h.jobs, k.latest.trans h.latest, k.nc.trans h.nc⟩
theorem Same.fair {a b : Pr} (h : Same a b) (hf : FairS a) : FairS b :=
  ⟨by rw [h.mir]; exact hf.m1, by rw [h.mir]; exact hf.m2, by rw [h.blk]; exact hf.B1, by rw [h.blk]; exact hf.B2, by rw [h.win]; exact hf.W1, by rw [h.win]; exact hf.W2, by rw [h.cap]; exact hf.c1, by rw [h.cap]; exact hf.c2,
    by rw [h.tri]; exact hf.t1, by rw [h.tri]; exact hf.t2⟩

theorem giveL_len (has : List ByteArray) (k : Nat) (body : ByteArray) (hk : k ≤ 100000) (h : has.length ≤ 1000000) : (giveL has k body).length ≤ 1000000 := by
  unfold giveL; rw [List.length_set, pad_len]; omega

theorem giveL_mem (has : List ByteArray) (k : Nat) (body : ByteArray) (b : ByteArray) (hb : b ∈ giveL has k body) : b ∈ has ∨ b = body ∨ b = ByteArray.empty := by
  unfold giveL at hb
  rcases List.mem_or_eq_of_mem_set hb with h | h
  · unfold padL at h
    rcases List.mem_append.1 h with h | h
    · exact Or.inl h
    · exact Or.inr (Or.inr (List.mem_replicate.1 h).2)
  · exact Or.inr (Or.inl h)
theorem giveL_small (has : List ByteArray) (k : Nat) (body : ByteArray) (h : ∀ b ∈ has, b.size ≤ 16) (h1 : body.size ≤ 16) : ∀ b ∈ giveL has k body, b.size ≤ 16 := by
  intro b hb
  rcases giveL_mem has k body b hb with h2 | rfl | rfl
  · exact h b h2
  · exact h1
  · decide
theorem lookC_same (i : Nat) (k : Int) (s : Pr) (c : Nat) : Same s (lookC i k s c) := by
  unfold lookC
  split
  · split
    · exact ⟨rfl, rfl, rfl, rfl, rfl, by simp, rfl, rfl, by simp⟩
    · exact Same.refl _
  · exact Same.refl _
theorem lookC_inv (i : Nat) (k : Int) (s : Pr) (c : Nat) (C : Int) (h : Inv s C) : Inv (lookC i k s c) (C + 1) := by
  have hs := lookC_same i k s c
  unfold lookC at hs ⊢
  split
  · rename_i t x ht hx
    split
    · rename_i hit
      rw [ht, hx] at hs
      simp only [hit, if_true] at hs
      have hxo := h.cache x (List.mem_of_getElem? hx)
      have hto := h.ts t (List.mem_of_getElem? ht)
      refine ⟨hs.fair h.fair, by simpa using h.nts, fun m hm => ?_, fun y hy => ?_, by simpa using h.nc, by have := h.c0; show 0 ≤ s.clock + 1; omega, by have := h.c1; show s.clock + 1 ≤ C + 1; omega⟩
      · rcases List.mem_or_eq_of_mem_set hm with hm | rfl
        · exact h.ts m hm
        · exact ⟨hto.sp, hto.t0, hto.t1, hto.k0, hto.k1, giveL_len _ _ _ (by have := hxo.k1; omega) hto.hl, giveL_small _ _ _ hto.hb hxo.b1⟩
      · rcases List.mem_or_eq_of_mem_set hy with hy | rfl
        · exact h.cache y hy
        · exact ⟨hxo.k0, hxo.k1, hxo.b0, hxo.b1⟩
    · exact h.mono (by omega)
  · exact h.mono (by omega)

theorem fold_same {α : Type} (f : Pr → α → Pr) (hf : ∀ s a, Same s (f s a)) (l : List α) (s : Pr) : Same s (l.foldl f s) := by
  induction l generalizing s with
  | nil => exact Same.refl s
  | cons a l ih => exact (hf s a).trans (ih (f s a))
theorem fold_inv {α : Type} (f : Pr → α → Pr) (D : Int) (hf : ∀ s a C, Inv s C → Inv (f s a) (C + D)) (l : List α) (s : Pr) (C : Int) (h : Inv s C) : Inv (l.foldl f s) (C + D * l.length) := by
  induction l generalizing s C with
  | nil => simpa using h
  | cons a l ih =>
    have := ih (f s a) (C + D) (hf s a C h)
    rw [List.foldl_cons]
    refine this.mono ?_
    rw [List.length_cons, Int.natCast_add, Int.mul_add]; simp; omega
theorem lookK_same (i : Nat) (s : Pr) (k : Int) : Same s (lookK i s k) := fold_same _ (fun s c => lookC_same i k s c) _ _
theorem lookK_inv (i : Nat) (s : Pr) (k : Int) (C : Int) (h : Inv s C) : Inv (lookK i s k) (C + 256) := by
  have := fold_inv (lookC i k) 1 (fun s c C h => lookC_inv i k s c C h) (List.range s.cache.length) s C h
  refine this.mono ?_
  have := h.nc; simp; omega
theorem lookT_same (s : Pr) (i : Nat) : Same s (lookT s i) := by
  unfold lookT; split
  · exact fold_same _ (fun s k => lookK_same i s k) _ _
  · exact Same.refl _
theorem lookT_inv (s : Pr) (i : Nat) (C : Int) (h : Inv s C) : Inv (lookT s i) (C + 1024) := by
  unfold lookT; split
  · rename_i t ht
    have := fold_inv (lookK i) 256 (fun s k C h => lookK_inv i s k C h) (wantsL s.blk s.win t) s C h
    refine this.mono ?_
    have := wants_len s.blk s.win t h.fair.W2; omega
  · exact h.mono (by omega)
theorem lookL_same (s : Pr) : Same s (lookL s) := fold_same _ lookT_same _ _
theorem lookL_inv (s : Pr) (C : Int) (h : Inv s C) : Inv (lookL s) (C + 8192) := by
  have := fold_inv lookT 1024 lookT_inv (List.range s.ts.length) s C h
  refine this.mono ?_
  have := h.nts; simp; omega
/-- After n rounds. -/
def lookTo (s : Pr) (n : Nat) : Pr := (List.range n).foldl lookT s
theorem lookTo_succ (s : Pr) (n : Nat) : lookTo s (n + 1) = lookT (lookTo s n) n := by simp [lookTo, List.range_succ]
def lookKTo (i : Nat) (l : List Int) (s : Pr) (n : Nat) : Pr := (l.take n).foldl (lookK i) s
def lookCTo (i : Nat) (k : Int) (s : Pr) (n : Nat) : Pr := (List.range n).foldl (lookC i k) s
theorem lookCTo_succ (i : Nat) (k : Int) (s : Pr) (n : Nat) : lookCTo i k s (n + 1) = lookC i k (lookCTo i k s n) n := by simp [lookCTo, List.range_succ]
end Go.Proofs.YtjhihliciadipabGreat
