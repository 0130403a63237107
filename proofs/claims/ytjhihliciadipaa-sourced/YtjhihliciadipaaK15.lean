import Derived.Test.YtjhihliciadipaaK14
import Derived.Test.YtjhihliciadipaaKn
set_option linter.unusedVariables false
set_option linter.unusedSimpArgs false
set_option linter.unnecessarySimpa false
namespace Go.Proofs.Ytjhihliciadipaa
open Go.RowKit

def feF (x : Int × Int × Int × Int × Int) : Fe := ⟨x.1, x.2.1, x.2.2.1, x.2.2.2.1, x.2.2.2.2⟩
def sentPl (P : Pl) (m : Nat) (e : Er) : Pl := { P with g := ⟨erS (busyS P.g.s m true) m e, P.g.v⟩, jobs := P.jobs.set m (feF (fetchE P.g.s.blk e)), away := P.away.set m true }
def nextPl (P : Pl) (m : Nat) : Pl × Bool :=
  if P.away.getD m false then (P, false) else match nextE P.g.s with | none => (P, false) | some e => (sentPl P m e, true)

theorem plV_job {P : Pl} (V : Pv) (nj : P.jobs.length = 3) (i : Nat) (f : Fe) (hf : P.jobs[i]? = some f) (g : Fe) :
    (((((plV P V).set (6 + i * 5) (.int .i64 g.path)).set (6 + i * 5 + 1) (.int .i64 g.tag)).set (6 + i * 5 + 2) (.int .i64 g.tot)).set (6 + i * 5 + 3) (.int .i64 g.off)).set (6 + i * 5 + 4) (.int .i64 g.len) = plV { P with jobs := P.jobs.set i g } V := by
  have hi := (List.getElem?_eq_some_iff.1 hf).1
  have step : ∀ (P : Pl) (a b : Fe) (r : Nat) (u : Value), P.jobs.length = 3 → P.jobs[i]? = some a → r < 5 → (feV a).set r u = feV b → (plV P V).set (6 + (i * 5 + r)) u = plV { P with jobs := P.jobs.set i b } V := by
    intro P a b r u nj ha hr hrow
    have hi := (List.getElem?_eq_some_iff.1 ha).1
    have hs : (plA P).length = 6 := rfl
    rw [plV_eq, List.set_append_right _ _ (by omega), hs, show 6 + (i * 5 + r) - 6 = i * 5 + r by omega, List.set_append_left _ _ (by rw [jobs15 nj]; omega), flat_set 5 _ (fes_len _) i r hr u (feV a) (by simp [ha]), hrow, ← List.map_set]
    rfl
  have n3 : ∀ x, ({ P with jobs := P.jobs.set i x } : Pl).jobs.length = 3 := fun x => by simp [nj]
  have g3 : ∀ x, ({ P with jobs := P.jobs.set i x } : Pl).jobs[i]? = some x := fun x => by simp [hi]
  have a := step P f ⟨g.path, f.tag, f.tot, f.off, f.len⟩ 0 (.int .i64 g.path) nj hf (by omega) rfl
  have b := step { P with jobs := P.jobs.set i ⟨g.path, f.tag, f.tot, f.off, f.len⟩ } ⟨g.path, f.tag, f.tot, f.off, f.len⟩ ⟨g.path, g.tag, f.tot, f.off, f.len⟩ 1 (.int .i64 g.tag) (n3 _) (g3 _) (by omega) rfl
  have c := step { P with jobs := P.jobs.set i ⟨g.path, g.tag, f.tot, f.off, f.len⟩ } ⟨g.path, g.tag, f.tot, f.off, f.len⟩ ⟨g.path, g.tag, g.tot, f.off, f.len⟩ 2 (.int .i64 g.tot) (n3 _) (g3 _) (by omega) rfl
  have d := step { P with jobs := P.jobs.set i ⟨g.path, g.tag, g.tot, f.off, f.len⟩ } ⟨g.path, g.tag, g.tot, f.off, f.len⟩ ⟨g.path, g.tag, g.tot, g.off, f.len⟩ 3 (.int .i64 g.off) (n3 _) (g3 _) (by omega) rfl
  have e := step { P with jobs := P.jobs.set i ⟨g.path, g.tag, g.tot, g.off, f.len⟩ } ⟨g.path, g.tag, g.tot, g.off, f.len⟩ g 4 (.int .i64 g.len) (n3 _) (g3 _) (by omega) rfl
  simp only [Nat.add_zero, List.set_set, ← Nat.add_assoc] at a b c d e
  rw [a, b, c, d, e]
theorem PlX.setJob {w : World} {y : Nat} {col : Nat → Nat} {k : Nat} {P : Pl} {V : Pv} (h : PlAt w y col k P V) (i : Nat) (f : Fe) (hf : P.jobs[i]? = some f) (g : Fe) :
    PlAt (((((w.setCell ⟨y, 6 + i * 5, none⟩ (.int .i64 g.path)).setCell ⟨y, 6 + i * 5 + 1, none⟩ (.int .i64 g.tag)).setCell ⟨y, 6 + i * 5 + 2, none⟩ (.int .i64 g.tot)).setCell ⟨y, 6 + i * 5 + 3, none⟩ (.int .i64 g.off)).setCell ⟨y, 6 + i * 5 + 4, none⟩ (.int .i64 g.len)) y (recolK w col 0) k { P with jobs := P.jobs.set i g } V ∧
    StK w (((((w.setCell ⟨y, 6 + i * 5, none⟩ (.int .i64 g.path)).setCell ⟨y, 6 + i * 5 + 1, none⟩ (.int .i64 g.tag)).setCell ⟨y, 6 + i * 5 + 2, none⟩ (.int .i64 g.tot)).setCell ⟨y, 6 + i * 5 + 3, none⟩ (.int .i64 g.off)).setCell ⟨y, 6 + i * 5 + 4, none⟩ (.int .i64 g.len)) col (recolK w col 0) k := by
  have hC := box5' w y (6 + i * 5) (.int .i64 g.path) (.int .i64 g.tag) (.int .i64 g.tot) (.int .i64 g.off) (.int .i64 g.len)
  have h2 := (h.weaken (Y := fun c => c = k) (fun _ e => e.elim)).stay hC (fun b _ hb => by rw [hb]; exact h.c0) 0
  refine ⟨⟨h2.lt, h2.c0, fun _ => ?_, fun _ => h2.pp (by omega), fun _ => h2.tt (by omega), fun _ => h2.kk (by omega), fun _ => h2.ss (by omega), fun _ => h2.oo (by omega), fun _ => h2.pg (by omega), by simp [h.nj], h.na⟩, StK.of hC (fun b _ hb => by rw [hb, h.c0]; omega) _⟩
  have := (((((h.blk id).set (6 + i * 5) (.int .i64 g.path)).set (6 + i * 5 + 1) (.int .i64 g.tag)).set (6 + i * 5 + 2) (.int .i64 g.tot)).set (6 + i * 5 + 3) (.int .i64 g.off)).set (6 + i * 5 + 4) (.int .i64 g.len)
  simp only [List.setIfInBounds_toArray] at this
  rw [plV_job V h.nj i f hf g] at this
  exact this

/-! What the play knows of its proxy's errands. -/
structure PlJ (P : Pl) : Prop where
  st : P.st.m = P.g.s.mir ∧ P.st.b = P.g.s.blk ∧ P.st.wi = P.g.s.win ∧ P.st.c = P.g.s.cap ∧ P.st.t = P.g.s.tri
  aw : P.away = P.g.s.busy
  jb : ∀ (i : Nat) e, P.g.s.busy[i]? = some true → P.g.s.ers[i]? = some e → P.jobs[i]? = some (feF (fetchE P.g.s.blk e))
  pt : P.paths = P.g.s.trs.map Tr.path

set_option maxRecDepth 100000 in
set_option maxHeartbeats 4000000 in
theorem next_away (y : Nat) (col : Nat → Nat) (k : Nat) (P : Pl) (V : Pv) (ix : Int) (m : Nat) (w : World) (h : PlAt w y col k P V) (ok : PlOk P) (hid : I64 ix) (hst : 1 ≤ P.st.m ∧ P.st.m ≤ 3) (hm : pickK ix P.st.m = m) (ha : P.away[m]? = some true) :
    Calls Try.prog 13 #[.pointer (some ⟨y, 0, none⟩), .int .i64 ix] w fun e w' => e = .returned (.bool false) ∧ w' = w := by
  have c29 : w.cell? ⟨y, 29, none⟩ = some (.bool false) := by rw [← ok.bad]; exact h.cEnd 5
  have c1 : w.cell? ⟨y, 1, none⟩ = some (.int .i64 P.st.m) := h.cSt 1 (by omega)
  have ca : w.cell? ⟨y, 21 + m, none⟩ = some (.bool true) := h.cAway m true ha
  have hm3 : (m : Int) < 3 := by have := pickK_bd ix P.st.m hst.1; omega
  have PK := hide (pickK_any ix P.st.m w hid hst.1 (by omega))
  rw [hm] at PK
  clear h ok ha hm
  go_enter Try.func13, Try.ntmps13
  go_wp2_with fail
  refine PK.out.mono ?_
  rintro e w1 ⟨rfl, hw1⟩
  have hw1 := hw1.symm
  subst hw1
  go_wp2_with fail
  go_ret
  exact ⟨rfl, rfl⟩

set_option maxRecDepth 100000 in
set_option maxHeartbeats 4000000 in
theorem next_idle (y : Nat) (col : Nat → Nat) (k : Nat) (P : Pl) (V : Pv) (ix : Int) (m : Nat) (w : World) (h : PlAt w y col k P V) (ok : PlOk P) (hid : I64 ix) (hst : 1 ≤ P.st.m ∧ P.st.m ≤ 3) (hm : pickK ix P.st.m = m) (ha : P.away[m]? = some false) (hA : nextA P.g.s m = ((0, 0, 0, 0, 0), false, 0) ∧ nextS P.g.s m = P.g.s) :
    Calls Try.prog 13 #[.pointer (some ⟨y, 0, none⟩), .int .i64 ix] w fun e w' => e = .returned (.bool false) ∧ PlTo w w' y col k P := by
  have c29 : w.cell? ⟨y, 29, none⟩ = some (.bool false) := by rw [← ok.bad]; exact h.cEnd 5
  have c1 : w.cell? ⟨y, 1, none⟩ = some (.int .i64 P.st.m) := h.cSt 1 (by omega)
  have c0 : w.cell? ⟨y, 0, none⟩ = some (.pointer (some ⟨P.q, 0, none⟩)) := h.cSt 0 (by omega)
  have ca : w.cell? ⟨y, 21 + m, none⟩ = some (.bool false) := h.cAway m false ha
  have hm3 : (m : Int) < 3 := by have := pickK_bd ix P.st.m hst.1; omega
  have PK := hide (pickK_any ix P.st.m w hid hst.1 (by omega))
  rw [hm] at PK
  have HN := NextP_any P.q m P.g w (h.pg id).1
  rw [hA.1, hA.2] at HN
  unfold fetV fetAgg at HN
  simp only at HN
  clear ok ha hm hA
  go_enter Try.func13, Try.ntmps13
  go_upto_region 2 with (go_at_call 10; refine PK.out.mono ?_; rintro e w1 ⟨rfl, hw1⟩; have hw1 := hw1.symm; subst hw1)
  go_wp2_with fail
  refine HN.mono ?_
  rintro e w1 ⟨rfl, v1, hP1, hM1⟩
  obtain ⟨hL1, hS1⟩ := h.pgS hP1 hM1
  have HF : Hid (PlTo w w1 y col k P) := ⟨_, V, v1, hL1, hS1⟩
  have HFE : Hid (∀ w', Ext w1 w' → PlTo w w' y col k P) := fun w' hE => ⟨_, V, v1, hL1.ext hE 0, hS1.trans (StK.ext hE 0)⟩
  clear c29 c1 c0 ca PK HN hP1 hM1 hL1 hS1 h
  go_wp2_with fail
  go_ret
  exact ⟨rfl, HFE.out _ (Ext.trans' (Ext.new _ _) (Ext.new _ _))⟩

set_option maxRecDepth 100000 in
set_option maxHeartbeats 4000000 in
theorem next_sent (y : Nat) (col : Nat → Nat) (k : Nat) (P : Pl) (V : Pv) (ix : Int) (m : Nat) (e : Er) (w : World) (h : PlAt w y col k P V) (ok : PlOk P) (hid : I64 ix) (hst : 1 ≤ P.st.m ∧ P.st.m ≤ 3) (hm : pickK ix P.st.m = m) (ha : P.away[m]? = some false)
    (hA : nextA P.g.s m = (fetchE P.g.s.blk e, true, 0) ∧ nextS P.g.s m = erS (busyS P.g.s m true) m e) (hB1 : 1 ≤ P.st.b) (hB2 : P.st.b ≤ 16) (hp : e.path ∈ P.paths)
    (hj : ∀ (i : Nat) f', i ≠ m → P.away[i]? = some true → P.jobs[i]? = some f' → f' ≠ feF (fetchE P.g.s.blk e)) (hf : FeOk P.st.b (feF (fetchE P.g.s.blk e))) :
    Calls Try.prog 13 #[.pointer (some ⟨y, 0, none⟩), .int .i64 ix] w fun e' w' => e' = .returned (.bool true) ∧ PlTo w w' y col k (sentPl P m e) := by
  have c29 : w.cell? ⟨y, 29, none⟩ = some (.bool false) := by rw [← ok.bad]; exact h.cEnd 5
  have c1 : w.cell? ⟨y, 1, none⟩ = some (.int .i64 P.st.m) := h.cSt 1 (by omega)
  have c0 : w.cell? ⟨y, 0, none⟩ = some (.pointer (some ⟨P.q, 0, none⟩)) := h.cSt 0 (by omega)
  have ca : w.cell? ⟨y, 21 + m, none⟩ = some (.bool false) := h.cAway m false ha
  have hm3 : (m : Int) < 3 := by have := pickK_bd ix P.st.m hst.1; omega
  have PK := hide (pickK_any ix P.st.m w hid hst.1 (by omega))
  rw [hm] at PK
  have HN := NextP_any P.q m P.g w (h.pg id).1
  rw [hA.1, hA.2] at HN
  have hpe : (feF (fetchE P.g.s.blk e)).path ∈ P.paths := hp
  have HFin : Hid (∀ v, ({ P with g := ⟨erS (busyS P.g.s m true) m e, v⟩, jobs := P.jobs.set m (feF (fetchE P.g.s.blk e)), away := P.away.set m true } : Pl) = (sentPl P m e).lay v) := fun v => rfl
  have hfv : fetV (fetchE P.g.s.blk e) = feAgg (feF (fetchE P.g.s.blk e)) := rfl
  rw [hfv] at HN
  generalize feF (fetchE P.g.s.blk e) = f at *
  generalize erS (busyS P.g.s m true) m e = s' at *
  obtain ⟨fp, ft, fo, ff, fl⟩ := f
  unfold feAgg fetAgg at HN
  simp only at HN
  have hl0 : ¬ fl = 0 := by have := hf.l0; simp only at this; omega
  have hn8 := ok.n8
  have HJ := hide hj
  have HP := hide hpe
  have HFO := hide hf
  have hjm : ∃ g, P.jobs[m]? = some g := ⟨_, List.getElem?_eq_getElem (by rw [h.nj]; omega)⟩
  clear ok ha hm hA hj hpe hf hfv hp
  go_enter Try.func13, Try.ntmps13
  go_upto_region 2 with (go_at_call 10; refine PK.out.mono ?_; rintro e w1 ⟨rfl, hw1⟩; have hw1 := hw1.symm; subst hw1)
  go_wp2_with fail
  refine HN.mono ?_
  rintro e w1 ⟨rfl, v1, hP1, hM1⟩
  obtain ⟨hL1, hS1⟩ := h.pgS hP1 hM1
  have hBf := (Blk.new w1 32 #[.int .i64 fp, .int .i64 ft, .int .i64 fo, .int .i64 ff, .int .i64 fl]).ext (Ext.new _ (.cells #[.int .i64 0, .int .i64 0, .int .i64 0, .int .i64 0, .int .i64 0] 32))
  have hE2 := Ext.trans' (Ext.new w1 (.cells #[.int .i64 fp, .int .i64 ft, .int .i64 fo, .int .i64 ff, .int .i64 fl] 32)) (Ext.new _ (.cells #[.int .i64 0, .int .i64 0, .int .i64 0, .int .i64 0, .int .i64 0] 32))
  have hL2 := hL1.ext hE2 0
  have hS2 := hS1.trans (StK.ext hE2 0)
  have hyl := hL1.lt
  obtain ⟨P2, hP2⟩ : ∃ P2 : Pl, P2 = { P with g := ⟨s', v1⟩ } := ⟨_, rfl⟩
  rw [← hP2] at hL2
  have HFe := hide (fun (w' : World) (col' : Nat → Nat) (h' : PlAt w' y col' k P2 V) => fetched_any y col' k P2 V m ⟨fp, ft, fo, ff, fl⟩ w' h' (by omega) (by rw [hP2]; exact hB1) (by rw [hP2]; exact hB2) (by rw [hP2]; exact HP.out) (by rw [hP2]; exact hn8) (by rw [hP2]; exact HJ.out) (by rw [hP2]; exact HFO.out))
  unfold feAgg fetAgg at HFe
  simp only at HFe
  have e1 : P2.jobs = P.jobs := by rw [hP2]
  have e2 : P2.away = P.away := by rw [hP2]
  have HF2 : Hid ({ P2 with jobs := P2.jobs.set m ⟨fp, ft, fo, ff, fl⟩, away := P2.away.set m true } = (sentPl P m e).lay v1) := by show _ = _; rw [← HFin.out, hP2]
  obtain ⟨g, hg⟩ := hjm
  rw [← e1] at hg
  clear c29 c1 c0 ca PK HN hP1 hM1 hL1 hS1 h hP2 e1 e2 HFin HJ HP HFO
  go_upto_region 10 with (fail)
  generalize (w1.alloc (.cells #[.int .i64 fp, .int .i64 ft, .int .i64 fo, .int .i64 ff, .int .i64 fl] 32)).alloc (.cells #[.int .i64 0, .int .i64 0, .int .i64 0, .int .i64 0, .int .i64 0] 32) = w2 at *
  generalize w1.heap.size = bx at *
  generalize recolK w1 (recolK w col (k + 6)) 0 = col2 at *
  have b0 : w2.cell? ⟨bx, 0, none⟩ = some (.int .i64 fp) := hBf.cell 0
  have b1 : w2.cell? ⟨bx, 1, none⟩ = some (.int .i64 ft) := hBf.cell 1
  have b2 : w2.cell? ⟨bx, 2, none⟩ = some (.int .i64 fo) := hBf.cell 2
  have b3 : w2.cell? ⟨bx, 3, none⟩ = some (.int .i64 ff) := hBf.cell 3
  have b4 : w2.cell? ⟨bx, 4, none⟩ = some (.int .i64 fl) := hBf.cell 4
  have HC := HFe.out w2 _ hL2
  go_wp2_with fail
  refine HC.mono ?_
  rintro e3 w3 ⟨rfl, hE3⟩
  have hL3 := hL2.ext hE3 0
  have hS3 := hS2.trans (StK.ext hE3 0)
  have hBf3 := hBf.ext hE3
  clear HC HFe hL2 hS2 hBf b0 b1 b2 b3 b4 hE2
  have b0 : w3.cell? ⟨bx, 0, none⟩ = some (.int .i64 fp) := hBf3.cell 0
  have b1 : w3.cell? ⟨bx, 1, none⟩ = some (.int .i64 ft) := hBf3.cell 1
  have b2 : w3.cell? ⟨bx, 2, none⟩ = some (.int .i64 fo) := hBf3.cell 2
  have b3 : w3.cell? ⟨bx, 3, none⟩ = some (.int .i64 ff) := hBf3.cell 3
  have b4 : w3.cell? ⟨bx, 4, none⟩ = some (.int .i64 fl) := hBf3.cell 4
  have j0 : w3.cell? ⟨y, 6 + m * 5, none⟩ = some (.int .i64 g.path) := hL3.cJob m 0 g hg (by omega)
  have j1 : w3.cell? ⟨y, 6 + m * 5 + 1, none⟩ = some (.int .i64 g.tag) := by rw [Nat.add_assoc]; exact hL3.cJob m 1 g hg (by omega)
  have j2 : w3.cell? ⟨y, 6 + m * 5 + 2, none⟩ = some (.int .i64 g.tot) := by rw [Nat.add_assoc]; exact hL3.cJob m 2 g hg (by omega)
  have j3 : w3.cell? ⟨y, 6 + m * 5 + 3, none⟩ = some (.int .i64 g.off) := by rw [Nat.add_assoc]; exact hL3.cJob m 3 g hg (by omega)
  have j4 : w3.cell? ⟨y, 6 + m * 5 + 4, none⟩ = some (.int .i64 g.len) := by rw [Nat.add_assoc]; exact hL3.cJob m 4 g hg (by omega)
  have hfy := (hL3.blk id).frozen
  obtain ⟨hL4, hS4⟩ := hL3.setJob m g hg ⟨fp, ft, fo, ff, fl⟩
  have HL4 := hide hL4
  have HS4 := hide (hS3.trans hS4)
  clear hL4 hS4 hS3 hL3 hBf3
  go_upto_region 14 with (fail)
  go_cut [7] (fun v wx => v = .bool true ∧ ∃ col3, PlAt wx y col3 k { P2 with jobs := P2.jobs.set m ⟨fp, ft, fo, ff, fl⟩ } V ∧ StK w wx col col3 k)
  case first =>
    go_region
    all_goals go_wp2_with fail
    all_goals go_meet
    all_goals exact ⟨rfl, _, HL4.out.ext (Below.drew (Below.refl _ _)) 0, HS4.out.trans (StK.ext (Below.drew (Below.refl _ _)) 0)⟩
  case rest =>
    obtain ⟨rfl, col3, hL5, hS5⟩ := hcut
    clear HL4 HS4 b0 b1 b2 b3 b4 j0 j1 j2 j3 j4 hfy
    obtain ⟨ba, hba⟩ : ∃ ba, P2.away[m]? = some ba := ⟨_, List.getElem?_eq_getElem (by rw [hL5.na]; omega)⟩
    have ca : wc.cell? ⟨y, 21 + m, none⟩ = some (.bool ba) := hL5.cAway m ba hba
    have hfy := (hL5.blk id).frozen
    obtain ⟨hL6, hS6⟩ := hL5.setAway m (by omega) true
    have HL6 := hide hL6
    have HS6 := hide (hS5.trans hS6)
    clear hL6 hS6 hba
    go_wp2_with fail
    go_ret
    have h9 := HL6.out
    rw [HF2.out] at h9
    exact ⟨rfl, _, V, v1, h9, HS6.out⟩
end Go.Proofs.Ytjhihliciadipaa
