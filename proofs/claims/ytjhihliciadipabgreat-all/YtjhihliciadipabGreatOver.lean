import Derived.Test.YtjhihliciadipabGreatNewv
set_option linter.unusedVariables false
set_option linter.unusedSimpArgs false
set_option linter.unnecessarySimpa false
namespace Go.Proofs.YtjhihliciadipabGreat
open Go.RowKit

def noJob : Jb := ⟨false, 0, 0, 0, 0⟩
def jobAgg (j : Jb) : Value := .agg #[.bool j.on, .int .i64 j.path, .int .i64 j.tag, .int .i64 j.tot, .int .i64 j.k]

set_option maxHeartbeats 1000000 in
theorem over_none (p : Nat) (s : Pr) (L : Lay) (mr : Int) (w : World) (h : PrAt w p s L) (hf : FairS s) (hm : mr < 0 ∨ s.mir ≤ mr) :
    Calls Tryz.prog 55 #[.pointer (some ⟨p, 0, none⟩), .int .i64 mr] w fun e w' => e = .returned (.tuple #[jobAgg noJob, .int .i64 4]) ∧ Ext w w' := by
  have hc : w.cell? ⟨p, 0, none⟩ = some (.int .i64 s.mir) := h.blk.cell 0
  have hpl := h.blk.lt
  have hm1 := hf.m1
  have hm2 := hf.m2
  have HM := hide hm
  clear hm h
  by_cases h0 : mr < 0
  · go_enter Tryz.func55, Tryz.ntmps55
    go_wp2_with fail
    refine bodyPost_ret (v := .tuple #[jobAgg noJob, .int .i64 4]) (by simp [results, Tryz.results55, go_sem, jobAgg, noJob]) rfl ⟨rfl, ?_⟩
    (with_reducible repeat (first | refine Below.drew ?_ | refine Below.alloc ?_ ?_ _ | refine Below.setCell ?_ ?_ _ | exact Below.refl _ _)) <;> simp
  · have h1 : s.mir ≤ mr := by rcases HM.out with h | h; exact absurd h h0; exact h
    go_enter Tryz.func55, Tryz.ntmps55
    go_wp2_with fail
    refine bodyPost_ret (v := .tuple #[jobAgg noJob, .int .i64 4]) (by simp [results, Tryz.results55, go_sem, jobAgg, noJob]) rfl ⟨rfl, ?_⟩
    (with_reducible repeat (first | refine Below.drew ?_ | refine Below.alloc ?_ ?_ _ | refine Below.setCell ?_ ?_ _ | exact Below.refl _ _)) <;> simp

theorem PrAt.jobsBlk {w : World} {p : Nat} {s : Pr} {L : Lay} (h : PrAt w p s L) (hn : 0 < s.jobs.length) : ∃ g cap, L.vJ = .slice (some ⟨g, 0, none⟩) s.jobs.length cap := by
  obtain ⟨a, cap, e, hg⟩ := own_form h.jobs
  obtain ⟨g, rfl⟩ := hg hn
  exact ⟨g, cap, e⟩

/-- An errand's five cells are stored. -/
theorem PrAt.storeJob {w : World} {p : Nat} {s : Pr} {L : Lay} (h : PrAt w p s L) {c : Nat} {j : Jb} (hj : s.jobs[c]? = some j) {g cap : Nat} (hJ : L.vJ = .slice (some ⟨g, 0, none⟩) s.jobs.length cap) (j' : Jb) :
    PrAt (((((w.setCell ⟨g, c * 5, none⟩ (.bool j'.on)).setCell ⟨g, c * 5 + 1, none⟩ (.int .i64 j'.path)).setCell ⟨g, c * 5 + 2, none⟩ (.int .i64 j'.tag)).setCell ⟨g, c * 5 + 3, none⟩ (.int .i64 j'.tot)).setCell ⟨g, c * 5 + 4, none⟩ (.int .i64 j'.k)) p { s with jobs := s.jobs.set c j' } L ∧
      Mvs w (((((w.setCell ⟨g, c * 5, none⟩ (.bool j'.on)).setCell ⟨g, c * 5 + 1, none⟩ (.int .i64 j'.path)).setCell ⟨g, c * 5 + 2, none⟩ (.int .i64 j'.tag)).setCell ⟨g, c * 5 + 3, none⟩ (.int .i64 j'.tot)).setCell ⟨g, c * 5 + 4, none⟩ (.int .i64 j'.k)) p L L := by
  have hlt := (List.getElem?_eq_some_iff.1 hj).1
  obtain ⟨p1, m1⟩ := h.storeJ hj hJ 0 (by omega) (.bool j'.on) { j with on := j'.on } rfl
  obtain ⟨p2, m2⟩ := p1.storeJ (c := c) (x := { j with on := j'.on }) (by simp [hlt]) (by simpa using hJ) 1 (by omega) (.int .i64 j'.path) { j with on := j'.on, path := j'.path } rfl
  obtain ⟨p3, m3⟩ := p2.storeJ (c := c) (x := { j with on := j'.on, path := j'.path }) (by simp [hlt]) (by simpa using hJ) 2 (by omega) (.int .i64 j'.tag) { j with on := j'.on, path := j'.path, tag := j'.tag } rfl
  obtain ⟨p4, m4⟩ := p3.storeJ (c := c) (x := { j with on := j'.on, path := j'.path, tag := j'.tag }) (by simp [hlt]) (by simpa using hJ) 3 (by omega) (.int .i64 j'.tot) { j with on := j'.on, path := j'.path, tag := j'.tag, tot := j'.tot } rfl
  obtain ⟨p5, m5⟩ := p4.storeJ (c := c) (x := { j with on := j'.on, path := j'.path, tag := j'.tag, tot := j'.tot }) (by simp [hlt]) (by simpa using hJ) 4 (by omega) (.int .i64 j'.k) j' rfl
  refine ⟨?_, (((m1.trans m2).trans m3).trans m4).trans m5⟩
  simpa [List.set_set] using p5

set_option maxHeartbeats 1000000 in
theorem over_some (p : Nat) (s : Pr) (L : Lay) (mr : Nat) (j : Jb) (w : World) (h : PrAt w p s L) (hf : FairS s) (hjl : s.jobs.length = s.mir.toNat) (hj : s.jobs[mr]? = some j) :
    Calls Tryz.prog 55 #[.pointer (some ⟨p, 0, none⟩), .int .i64 mr] w fun e w' =>
      (j.on = false ∧ e = .returned (.tuple #[jobAgg j, .int .i64 6]) ∧ Ext w w') ∨
      (j.on = true ∧ e = .returned (.tuple #[jobAgg j, .int .i64 0]) ∧ PrAt w' p { s with jobs := s.jobs.set mr noJob } L ∧ Mvs w w' p L L) := by
  have hlt := (List.getElem?_eq_some_iff.1 hj).1
  have hm1 := hf.m1
  have hm2 := hf.m2
  have hmr : (mr : Int) < s.mir := by omega
  have hc : w.cell? ⟨p, 0, none⟩ = some (.int .i64 s.mir) := h.blk.cell 0
  have hpl := h.blk.lt
  have hcj : w.cell? ⟨p, 6, none⟩ = some L.vJ := h.blk.cell 6
  obtain ⟨g, cap, hJ⟩ := h.jobsBlk (by omega)
  rw [hJ] at hcj
  have q0 : w.cell? ⟨g, mr * 5, none⟩ = some (.bool j.on) := h.cellJ hj hJ 0 (by omega)
  have q1 : w.cell? ⟨g, mr * 5 + 1, none⟩ = some (.int .i64 j.path) := h.cellJ hj hJ 1 (by omega)
  have q2 : w.cell? ⟨g, mr * 5 + 2, none⟩ = some (.int .i64 j.tag) := h.cellJ hj hJ 2 (by omega)
  have q3 : w.cell? ⟨g, mr * 5 + 3, none⟩ = some (.int .i64 j.tot) := h.cellJ hj hJ 3 (by omega)
  have q4 : w.cell? ⟨g, mr * 5 + 4, none⟩ = some (.int .i64 j.k) := h.cellJ hj hJ 4 (by omega)
  have hfz : ∀ r, w.frozen? ⟨g, r, none⟩ = false := by have h5 := h.jobs; rw [hJ] at h5; exact fun r => h5.frozenAt r
  have hgl : g < w.heap.size := World.block_lt_of_cell? w _ q0
  have HH := hide h
  have HJ := hide hJ
  have HX := hide hj
  clear h hJ hj
  cases hon : j.on
  · rw [hon] at q0
    go_enter Tryz.func55, Tryz.ntmps55
    go_wp2_with fail
    refine bodyPost_ret (v := .tuple #[jobAgg j, .int .i64 6]) (by simp [results, Tryz.results55, go_sem, jobAgg, hon]) rfl (Or.inl ⟨trivial, rfl, ?_⟩)
    (with_reducible repeat (first | refine Below.drew ?_ | refine Below.alloc ?_ ?_ _ | refine Below.setCell ?_ ?_ _ | exact Below.refl _ _)) <;> simp
  · rw [hon] at q0
    go_enter Tryz.func55, Tryz.ntmps55
    go_wp2_with fail
    have hst := HH.out.storeJob HX.out HJ.out noJob
    refine bodyPost_ret (v := .tuple #[jobAgg j, .int .i64 0]) (by simp [results, Tryz.results55, go_sem, jobAgg, hon]) rfl (Or.inr ⟨trivial, rfl, ?_, ?_⟩)
    · exact (hst.1.ext (Ext.new _ _)).ext (Ext.new _ _)
    · exact (hst.2.ext (Ext.new _ _)).ext (Ext.new _ _)
end Go.Proofs.YtjhihliciadipabGreat

namespace Go.Proofs.YtjhihliciadipabGreat
open Go.RowKit


set_option maxHeartbeats 1000000 in
theorem Next_none (p : Nat) (s : Pr) (L : Lay) (mr : Int) (w : World) (h : PrAt w p s L) (hf : FairS s) (hm : mr < 0 ∨ s.mir ≤ mr) :
    Calls Tryz.prog 21 #[.pointer (some ⟨p, 0, none⟩), .int .i64 mr] w fun e w' => e = .returned (.tuple #[fetAgg 0 0 0 0 0, .bool false, .int .i64 4]) ∧ Ext w w' := by
  have hc : w.cell? ⟨p, 0, none⟩ = some (.int .i64 s.mir) := h.blk.cell 0
  have hpl := h.blk.lt
  have hm1 := hf.m1
  have hm2 := hf.m2
  have HM := hide hm
  clear hm h
  by_cases h0 : mr < 0
  · go_enter Tryz.func21, Tryz.ntmps21
    go_wp2_with fail
    refine bodyPost_ret (v := .tuple #[fetAgg 0 0 0 0 0, .bool false, .int .i64 4]) (by simp [results, Tryz.results21, go_sem, fetAgg]) rfl ⟨rfl, ?_⟩
    (with_reducible repeat (first | refine Below.drew ?_ | refine Below.alloc ?_ ?_ _ | refine Below.setCell ?_ ?_ _ | exact Below.refl _ _)) <;> simp
  · have h1 : s.mir ≤ mr := by rcases HM.out with h | h; exact absurd h h0; exact h
    go_enter Tryz.func21, Tryz.ntmps21
    go_wp2_with fail
    refine bodyPost_ret (v := .tuple #[fetAgg 0 0 0 0 0, .bool false, .int .i64 4]) (by simp [results, Tryz.results21, go_sem, fetAgg]) rfl ⟨rfl, ?_⟩
    (with_reducible repeat (first | refine Below.drew ?_ | refine Below.alloc ?_ ?_ _ | refine Below.setCell ?_ ?_ _ | exact Below.refl _ _)) <;> simp

set_option maxHeartbeats 1000000 in
theorem Next_busy (p : Nat) (s : Pr) (L : Lay) (mr : Nat) (j : Jb) (w : World) (h : PrAt w p s L) (hf : FairS s) (hjl : s.jobs.length = s.mir.toNat) (hj : s.jobs[mr]? = some j) (hon : j.on = true) :
    Calls Tryz.prog 21 #[.pointer (some ⟨p, 0, none⟩), .int .i64 mr] w fun e w' => e = .returned (.tuple #[fetAgg 0 0 0 0 0, .bool false, .int .i64 5]) ∧ Ext w w' := by
  have hlt := (List.getElem?_eq_some_iff.1 hj).1
  have hm1 := hf.m1
  have hm2 := hf.m2
  have hmr : (mr : Int) < s.mir := by omega
  have hc : w.cell? ⟨p, 0, none⟩ = some (.int .i64 s.mir) := h.blk.cell 0
  have hpl := h.blk.lt
  have hcj : w.cell? ⟨p, 6, none⟩ = some L.vJ := h.blk.cell 6
  obtain ⟨g, cap, hJ⟩ := h.jobsBlk (by omega)
  rw [hJ] at hcj
  have q0 : w.cell? ⟨g, mr * 5, none⟩ = some (.bool j.on) := h.cellJ hj hJ 0 (by omega)
  rw [hon] at q0
  have hgl : g < w.heap.size := World.block_lt_of_cell? w _ q0
  clear h hJ hj hon
  go_enter Tryz.func21, Tryz.ntmps21
  go_wp2_with fail
  refine bodyPost_ret (v := .tuple #[fetAgg 0 0 0 0 0, .bool false, .int .i64 5]) (by simp [results, Tryz.results21, go_sem, fetAgg]) rfl ⟨rfl, ?_⟩
  (with_reducible repeat (first | refine Below.drew ?_ | refine Below.alloc ?_ ?_ _ | refine Below.setCell ?_ ?_ _ | exact Below.refl _ _)) <;> simp

/-- The first block that is wanted and for which nobody is away, among a transfer's, then among all. -/
def nextK (js : List Jb) (m : Mv) : List Int → Option Jb
  | [] => none
  | k :: ks => if busyL js ⟨true, m.path, m.tag, m.tot, k⟩ = true then nextK js m ks else some ⟨true, m.path, m.tag, m.tot, k⟩
def nextT (B W : Int) (js : List Jb) : List Mv → Option Jb
  | [] => none
  | m :: ms => match nextK js m (wantsL B W m) with | some j => some j | none => nextT B W js ms
def nextJ (s : Pr) : Option Jb := nextT s.blk s.win s.jobs s.ts
def nextLen (s : Pr) (j : Jb) : Int := if j.tag = 0 then s.blk else sizeL s.blk j.tot j.k
end Go.Proofs.YtjhihliciadipabGreat

namespace Go.Proofs.YtjhihliciadipabGreat
open Go.RowKit

/-- The first n have been gone through. -/
def mapTo (f : Mv → Mv) (l : List Mv) (n : Nat) : List Mv := l.mapIdx (fun i m => if i < n then f m else m)
theorem mapTo_zero (f : Mv → Mv) (l : List Mv) : mapTo f l 0 = l := by
  unfold mapTo; apply List.ext_getElem?; intro i; rw [List.getElem?_mapIdx]; simp
theorem mapTo_all (f : Mv → Mv) (l : List Mv) (n : Nat) (h : l.length ≤ n) : mapTo f l n = l.map f := by
  unfold mapTo; apply List.ext_getElem?; intro i; rw [List.getElem?_mapIdx, List.getElem?_map]
  by_cases hi : i < l.length
  · have : i < n := by omega
    simp [hi, this]
  · simp [hi]
theorem mapTo_len (f : Mv → Mv) (l : List Mv) (n : Nat) : (mapTo f l n).length = l.length := by simp [mapTo]
theorem mapTo_get (f : Mv → Mv) (l : List Mv) (n : Nat) (h : n < l.length) : (mapTo f l n)[n]? = some l[n] := by
  unfold mapTo; rw [List.getElem?_mapIdx]; simp [h]
theorem mapTo_succ (f : Mv → Mv) (l : List Mv) (n : Nat) (h : n < l.length) : mapTo f l (n + 1) = (mapTo f l n).set n (f l[n]) := by
  apply List.ext_getElem?; intro i; rw [List.getElem?_set, mapTo_len]
  unfold mapTo
  rw [List.getElem?_mapIdx, List.getElem?_mapIdx]
  by_cases hi : n = i
  · subst hi; simp [h]
  · rw [if_neg hi]
    have : (i < n + 1) = (i < n) := by simp; omega
    simp only [this]
theorem mapTo_same (f : Mv → Mv) (l : List Mv) (n : Nat) (h : n < l.length) (hf : f l[n] = l[n]) : mapTo f l (n + 1) = mapTo f l n := by
  rw [mapTo_succ f l n h, hf]
  apply List.ext_getElem?; intro i; rw [List.getElem?_set]
  split
  · rename_i e; subst e; rw [mapTo_get f l n h]; simp [mapTo_len, h]
  · rfl

def failT (B W tri : Int) (j : Jb) (m : Mv) : Mv :=
  if wantingL B W m j = true then
    (if m.fails + 1 = tri then { m with fails := m.fails + 1, lost := true, cut := m.shown, has := [] } else { m with fails := m.fails + 1 })
  else m
def failsL (s : Pr) (j : Jb) : Pr := { s with ts := s.ts.map (failT s.blk s.win s.tri j) }

theorem failT_ok (B W tri : Int) (j : Jb) (m : Mv) (h : MvOk m) : MvOk (failT B W tri j m) := by
  unfold failT
  split
  · split
    · exact ⟨h.sp, h.t0, h.t1, h.k0, h.k1, by simp, by simp⟩
    · exact ⟨h.sp, h.t0, h.t1, h.k0, h.k1, h.hl, h.hb⟩
  · exact h

/-- A transfer lets go of all that it holds. -/
theorem PrAt.letGo {w : World} {p : Nat} {s : Pr} {L : Lay} (h : PrAt w p s L) {i : Nat} {m : Mv} {hv : Value} (hm : s.ts[i]? = some m) (hh : L.hs[i]? = some hv)
    {g cap : Nat} (hT : L.vT = .slice (some ⟨g, 0, none⟩) s.ts.length cap) :
    PrAt (w.setCell ⟨g, i * 12 + 11, none⟩ (.slice none 0 0)) p { s with ts := s.ts.set i { m with has := [] } } { L with hs := L.hs.set i (.slice none 0 0) } ∧
      Mvs w (w.setCell ⟨g, i * 12 + 11, none⟩ (.slice none 0 0)) p L { L with hs := L.hs.set i (.slice none 0 0) } :=
  h.upd hm hh hT 11 (by omega) (.slice none 0 0) { m with has := [] } (.slice none 0 0) rfl
    (Chg.setCell (S := fun x => x = g ∨ hv.ownBlock = some x) (Chg.refl _ _) (p := ⟨g, i * 12 + 11, none⟩) (Or.inl (Or.inl rfl)) _) (fun arr hB => hB.set _ _) (World.ownsRow_nil _ _ _ _) (fun x hx => by simp [Value.ownBlock] at hx)

set_option maxRecDepth 100000 in
set_option maxHeartbeats 2000000 in
theorem fails_any (p : Nat) (s : Pr) (L : Lay) (C : Int) (j : Jb) (w : World) (h : PrAt w p s L) (inv : Inv s C) (hfl : ∀ m ∈ s.ts, 0 ≤ m.fails ∧ m.fails ≤ 1000) :
    Calls Tryz.prog 56 #[.pointer (some ⟨p, 0, none⟩), jobAgg j] w fun e w' => e = .returned (.tuple #[]) ∧ ∃ L', LkAt w' p (failsL s j) L' w L := by
  unfold jobAgg
  have hnts := inv.nts
  have hE0 : Ext w (w.alloc (.cells #[.bool j.on, .int .i64 j.path, .int .i64 j.tag, .int .i64 j.tot, .int .i64 j.k] 124)) := Ext.new w _
  have hBj : Blk (w.alloc (.cells #[.bool j.on, .int .i64 j.path, .int .i64 j.tag, .int .i64 j.tot, .int .i64 j.k] 124)) w.heap.size 124 #[.bool j.on, .int .i64 j.path, .int .i64 j.tag, .int .i64 j.tot, .int .i64 j.k] := Blk.new w _ _
  have HFL := hide hfl
  have HF : Hid (failsL s j = { s with ts := s.ts.map (failT s.blk s.win s.tri j) }) := rfl
  clear hfl
  go_enter Tryz.func56, Tryz.ntmps56
  go_wp2_with fail
  go_loopw [4] (fun i wr => ∃ (n : Nat) (L1 : Lay), n ≤ s.ts.length ∧ i = .int .i64 n ∧ LkAt wr p { s with ts := mapTo (failT s.blk s.win s.tri j) s.ts n } L1 w L ∧
    Blk wr w.heap.size 124 #[.bool j.on, .int .i64 j.path, .int .i64 j.tag, .int .i64 j.tot, .int .i64 j.k] ∧ ¬ Foot p L1 w.heap.size) (fun i _ => s.ts.length - (intOf i).toNat)
  case atStart => exact ⟨0, L, Nat.zero_le _, rfl, ⟨by rw [mapTo_zero]; exact h.ext hE0, Mvs.of_ext hE0, rfl, rfl, rfl, rfl⟩, hBj, fun hf => by have := h.lt _ hf; omega⟩
  case round =>
    obtain ⟨n, L1, hn, rfl, hA, hB, hNF⟩ := hrel
    have HNF := hide hNF
    clear hNF
    have b0 : wr.cell? ⟨w.heap.size, 0, none⟩ = some (.bool j.on) := hB.cell 0
    have b1 : wr.cell? ⟨w.heap.size, 1, none⟩ = some (.int .i64 j.path) := hB.cell 1
    have b2 : wr.cell? ⟨w.heap.size, 2, none⟩ = some (.int .i64 j.tag) := hB.cell 2
    have b3 : wr.cell? ⟨w.heap.size, 3, none⟩ = some (.int .i64 j.tot) := hB.cell 3
    have b4 : wr.cell? ⟨w.heap.size, 4, none⟩ = some (.int .i64 j.k) := hB.cell 4
    have hvT : wr.cell? ⟨p, 5, none⟩ = some L1.vT := hA.at_.blk.cell 5
    have hml : (mapTo (failT s.blk s.win s.tri j) s.ts n).length = s.ts.length := mapTo_len _ _ _
    obtain ⟨aT, cap, hTf, hgT⟩ := own_form hA.at_.ts
    simp only [hml] at hTf
    rw [hTf] at hvT
    by_cases hlt : n < s.ts.length
    · obtain ⟨g, rfl⟩ := hgT (show 0 < (mapTo (failT s.blk s.win s.tri j) s.ts n).length by omega)
      have ht : ({ s with ts := mapTo (failT s.blk s.win s.tri j) s.ts n } : Pr).ts[n]? = some s.ts[n] := mapTo_get _ _ _ hlt
      have hmem : s.ts[n] ∈ s.ts := List.getElem_mem hlt
      have HSU : Hid (mapTo (failT s.blk s.win s.tri j) s.ts (n + 1) = (mapTo (failT s.blk s.win s.tri j) s.ts n).set n (failT s.blk s.win s.tri j s.ts[n])) := mapTo_succ _ _ _ hlt
      have HSA : Hid (failT s.blk s.win s.tri j s.ts[n] = s.ts[n] → mapTo (failT s.blk s.win s.tri j) s.ts (n + 1) = mapTo (failT s.blk s.win s.tri j) s.ts n) := mapTo_same _ _ _ hlt
      generalize s.ts[n] = t at *
      obtain ⟨hv, hh⟩ := hA.at_.hv ht
      have hT : L1.vT = .slice (some ⟨g, 0, none⟩) ({ s with ts := mapTo (failT s.blk s.win s.tri j) s.ts n } : Pr).ts.length cap := by rw [hTf]; simp only [hml]
      obtain ⟨hm, hha⟩ := hA.at_.mv ht hh hT
      have hok := inv.ts t hmem
      have hfb := HFL.out t hmem
      have hset : SetAt wr p s.blk s.win := hA.at_.set (s := { s with ts := mapTo (failT s.blk s.win s.tri j) s.ts n }) ⟨inv.fair.m1, inv.fair.m2, inv.fair.B1, inv.fair.B2, inv.fair.W1, inv.fair.W2, inv.fair.c1, inv.fair.c2, inv.fair.t1, inv.fair.t2⟩
      have HFT : Hid (failT s.blk s.win s.tri j t = if wantingL s.blk s.win t j = true then (if t.fails + 1 = s.tri then { t with fails := t.fails + 1, lost := true, cut := t.shown, has := [] } else { t with fails := t.fails + 1 }) else t) := rfl
      generalize hmt : mapTo (failT s.blk s.win s.tri j) s.ts n = mt at *
      clear hgT hmt
      go_wp2_with fail
      refine (wanting_any p g (n * 12) s.blk s.win t hv j _ hm hok hset hha).mono ?_
      rintro e w1 ⟨rfl, hE1⟩
      have hA1 := hA.ext hE1
      have hB1 := hB.ext hE1
      clear hA hB b0 b1 b2 b3 b4 hvT hm hha hset hTf
      cases hwt : wantingL s.blk s.win t j
      · have hsame : failT s.blk s.win s.tri j t = t := by rw [HFT.out, hwt]; rfl
        have HS2 := hide (HSA.out hsame)
        clear hsame
        go_wp2_with fail
        exact ⟨⟨n + 1, L1, by omega, by go_num, by rw [HS2.out]; exact hA1, hB1, HNF.out⟩, by simp [intOf]; omega⟩
      · obtain ⟨hm1, hha1⟩ := hA1.at_.mv ht hh hT
        have r10 := hm1.fails
        have r6 := hm1.shown
        have r7 := hm1.lost
        have r8 := hm1.cut
        have r11 := hha1.c
        have hcT : w1.cell? ⟨p, 4, none⟩ = some (.int .i64 s.tri) := hA1.at_.blk.cell 4
        have hfz : ∀ r, w1.frozen? ⟨g, r, none⟩ = false := by have h5 := hA1.at_.ts; rw [hT] at h5; exact fun r => h5.frozenAt r
        have hgp : g ≠ p := fun e => hA1.at_.np L1.vT (by simp [Lay.vs]) (by rw [hT, e]; rfl)
        have hnm : n < mt.length := by omega
        have hhl : n < L1.hs.length := (List.getElem?_eq_some_iff.1 hh).1
        obtain ⟨hP2, hM2⟩ := hA1.at_.store ht hh hT 10 (by omega) (.int .i64 (t.fails + 1)) { t with fails := t.fails + 1 } rfl rfl
        have hNF1 := HNF.out
        have hgF : Foot p L1 g := Or.inr ⟨L1.vT, by simp [Lay.vs], by rw [hT]; rfl⟩
        by_cases hl : (t.fails + 1 == s.tri) = true
        · have HF2 : Hid (failT s.blk s.win s.tri j t = { t with fails := t.fails + 1, lost := true, cut := t.shown, has := [] }) := by show _ = _; rw [HFT.out, hwt, if_pos rfl, if_pos (by simpa using hl)]
          obtain ⟨hP3, hM3⟩ := hP2.store (i := n) (m := { t with fails := t.fails + 1 }) (hv := hv) (by simp [hnm]) hh (by simpa using hT) 7 (by omega) (.bool true) { t with fails := t.fails + 1, lost := true } rfl rfl
          obtain ⟨hP4, hM4⟩ := hP3.store (i := n) (m := { t with fails := t.fails + 1, lost := true }) (hv := hv) (by simp [hnm]) hh (by simpa using hT) 8 (by omega) (.bool t.shown) { t with fails := t.fails + 1, lost := true, cut := t.shown } rfl rfl
          obtain ⟨hP5, hM5⟩ := hP4.letGo (i := n) (m := { t with fails := t.fails + 1, lost := true, cut := t.shown }) (hv := hv) (by simp [hnm]) hh (by simpa using hT)
          have HP5 := hide hP5
          have HM5 := hide (((hM2.trans hM3).trans hM4).trans hM5)
          have hB5 : Blk ((((w1.setCell ⟨g, n * 12 + 10, none⟩ (.int .i64 (t.fails + 1))).setCell ⟨g, n * 12 + 7, none⟩ (.bool true)).setCell ⟨g, n * 12 + 8, none⟩ (.bool t.shown)).setCell ⟨g, n * 12 + 11, none⟩ (.slice none 0 0)) w.heap.size 124 _ :=
            hB1.chg (((hM2.trans hM3).trans hM4).trans hM5).chg hNF1
          have hbl := hB1.lt
          clear hP2 hM2 hP3 hM3 hP4 hM4 hP5 hM5
          go_wp2_with fail
          go_quiet (fail)
          go_wp2_with fail
          refine ⟨⟨n + 1, _, by omega, by go_num, ⟨?_, (hA1.mvs.trans HM5.out).drewN _, hA1.vT, hA1.vC, hA1.vJ, hA1.vL⟩, hB5.ext (Ext.drewN (Below.refl _ _) _), fun hf => ?_⟩, by simp [intOf]; omega⟩
          · rw [HSU.out, HF2.out]
            have := HP5.out.drewN nq
            simp only [List.set_set] at this
            exact this
          · rcases HM5.out.foot _ hf with h1 | h1
            · exact HNF.out h1
            · omega
        · have hl' : (t.fails + 1 == s.tri) = false := by simpa using hl
          have HF2 : Hid (failT s.blk s.win s.tri j t = { t with fails := t.fails + 1 }) := by show _ = _; rw [HFT.out, hwt, if_pos rfl, if_neg (by simpa using hl)]
          have HP2 := hide hP2
          have HM2 := hide hM2
          clear hP2 hM2
          go_wp2_with fail
          go_quiet (fail)
          go_wp2_with fail
          refine ⟨⟨n + 1, L1, by omega, by go_num, ⟨?_, (hA1.mvs.trans HM2.out).drewN _, hA1.vT, hA1.vC, hA1.vJ, hA1.vL⟩, (hB1.chg HM2.out.chg hNF1).ext (Ext.drewN (Below.refl _ _) _), HNF.out⟩, by simp [intOf]; omega⟩
          rw [HSU.out, HF2.out]; exact HP2.out.drewN nq
    · clear hgT b0 b1 b2 b3 b4
      go_wp2_with fail
      go_end0
      have hnn : mapTo (failT s.blk s.win s.tri j) s.ts n = s.ts.map (failT s.blk s.win s.tri j) := mapTo_all _ _ _ (by omega)
      rw [hnn] at hA
      exact ⟨rfl, L1, by rw [HF.out]; exact hA⟩
end Go.Proofs.YtjhihliciadipabGreat

namespace Go.Proofs.YtjhihliciadipabGreat
open Go.RowKit

theorem failsL_inv (s : Pr) (j : Jb) (C : Int) (h : Inv s C) : Inv (failsL s j) C :=
  ⟨⟨h.fair.m1, h.fair.m2, h.fair.B1, h.fair.B2, h.fair.W1, h.fair.W2, h.fair.c1, h.fair.c2, h.fair.t1, h.fair.t2⟩, by simpa [failsL] using h.nts, fun m hm => by
    unfold failsL at hm; rw [List.mem_map] at hm; obtain ⟨x, hx, rfl⟩ := hm; exact failT_ok _ _ _ _ _ (h.ts x hx), h.cache, h.nc, h.c0, h.c1⟩
theorem jobs_inv (s : Pr) (js : List Jb) (C : Int) (h : Inv s C) : Inv { s with jobs := js } C :=
  ⟨⟨h.fair.m1, h.fair.m2, h.fair.B1, h.fair.B2, h.fair.W1, h.fair.W2, h.fair.c1, h.fair.c2, h.fair.t1, h.fair.t2⟩, h.nts, h.ts, h.cache, h.nc, h.c0, h.c1⟩

set_option maxHeartbeats 1000000 in
theorem Fail_none (p : Nat) (s : Pr) (L : Lay) (mr : Int) (w : World) (h : PrAt w p s L) (hf : FairS s) (hm : mr < 0 ∨ s.mir ≤ mr) :
    Calls Tryz.prog 25 #[.pointer (some ⟨p, 0, none⟩), .int .i64 mr] w fun e w' => e = .returned (.int .i64 4) ∧ Ext w w' := by
  have HM := hide hm
  clear hm
  go_enter Tryz.func25, Tryz.ntmps25
  go_wp2_with fail
  refine (over_none p s L mr w h hf HM.out).mono ?_
  rintro e w1 ⟨rfl, hE1⟩
  unfold jobAgg
  go_wp2_with fail
  go_ret
  exact ⟨rfl, Ext.trans' hE1 (Ext.new _ _)⟩

set_option maxHeartbeats 1000000 in
theorem Fail_some (p : Nat) (s : Pr) (L : Lay) (C : Int) (mr : Nat) (j : Jb) (w : World) (h : PrAt w p s L) (inv : Inv s C) (hC : C ≤ 30000000000000000) (hjl : s.jobs.length = s.mir.toNat) (hj : s.jobs[mr]? = some j)
    (hfl : ∀ m ∈ s.ts, 0 ≤ m.fails ∧ m.fails ≤ 1000) :
    Calls Tryz.prog 25 #[.pointer (some ⟨p, 0, none⟩), .int .i64 mr] w fun e w' =>
      (j.on = false ∧ e = .returned (.int .i64 6) ∧ Ext w w') ∨
      (j.on = true ∧ e = .returned (.int .i64 0) ∧ ∃ L', PrAt w' p (lookL (failsL { s with jobs := s.jobs.set mr noJob } j)) L' ∧ Mvs w w' p L L') := by
  have HJ := hide hj
  have HFL := hide hfl
  clear hj hfl
  go_enter Tryz.func25, Tryz.ntmps25
  go_wp2_with fail
  refine (over_some p s L mr j w h inv.fair hjl HJ.out).mono ?_
  rintro e w1 (⟨hon, rfl, hE1⟩ | ⟨hon, rfl, hP1, hM1⟩)
  · unfold jobAgg
    have HON := hide hon
    clear hon
    go_wp2_with fail
    go_ret
    exact Or.inl ⟨HON.out, rfl, Ext.trans' hE1 (Ext.new _ _)⟩
  · unfold jobAgg
    have HON := hide hon
    clear hon
    go_wp2_with fail
    have hE2 := Ext.new w1 (.cells #[.bool j.on, .int .i64 j.path, .int .i64 j.tag, .int .i64 j.tot, .int .i64 j.k] 124)
    refine (fails_any p _ L C j _ (hP1.ext hE2) (jobs_inv _ _ _ inv) HFL.out).mono ?_
    rintro e w2 ⟨rfl, L2, hA2⟩
    go_wp2_with fail
    refine (look_any p _ L2 C _ hA2.at_ (failsL_inv _ _ _ (jobs_inv _ _ _ inv)) (by omega)).mono ?_
    rintro e w3 ⟨rfl, L3, hA3⟩
    go_wp2_with fail
    go_ret
    exact Or.inr ⟨HON.out, rfl, L3, hA3.at_, ((hM1.ext hE2).trans hA2.mvs).trans hA3.mvs⟩
end Go.Proofs.YtjhihliciadipabGreat
