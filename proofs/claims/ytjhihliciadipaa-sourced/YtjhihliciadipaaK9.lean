import Derived.Test.YtjhihliciadipaaK8
import Derived.Test.YtjhihliciadipaaPtell
import Derived.Test.YtjhihliciadipaaPcall
set_option linter.unusedVariables false
set_option linter.unusedSimpArgs false
set_option linter.unnecessarySimpa false
namespace Go.Proofs.Ytjhihliciadipaa
open Go.RowKit

theorem stT_bd (t : Tr) : 1 ≤ stT t ∧ stT t ≤ 4 := by unfold stT; split; omega; split; omega; split <;> omega
theorem hasT_of {s : Px} {i : Nat} {t : Tr} (ht : s.trs[i]? = some t) : hasT s i = true := by
  have := (List.getElem?_eq_some_iff.1 ht).1
  unfold hasT; simp; omega

set_option maxHeartbeats 1000000 in
theorem open_any (y : Nat) (col : Nat → Nat) (k : Nat) (P : Pl) (V : Pv) (i : Nat) (t : Tr) (w : World) (h : PlAt w y col k P V) (ht : P.g.s.trs[i]? = some t) :
    Calls Try.prog 38 #[.pointer (some ⟨y, 0, none⟩), .int .i64 i] w fun e w' => e = .returned (.bool (decide (stT t = 1))) ∧ Ext w w' := by
  have c0 : w.cell? ⟨y, 0, none⟩ = some (.pointer (some ⟨P.q, 0, none⟩)) := h.cSt 0 (by omega)
  have HS := StateP_any P.q i P.g w (h.pg id).1
  rw [ansT_yes (hasT_of ht) ht] at HS
  simp only at HS
  have hb := stT_bd t
  have HD : Hid ((stT t == 1) = decide (stT t = 1)) := by show _ = _; by_cases h1 : stT t = 1 <;> simp [h1]
  generalize stT t = s at *
  clear h ht
  go_enter Try.func38, Try.ntmps38
  go_wp2_with fail
  refine HS.mono ?_
  rintro e w1 ⟨rfl, hE1⟩
  have q1 : ¬ s < 1 := by omega
  have q2 : ¬ 4 < s := by omega
  go_wp2_with fail
  go_ret
  exact ⟨ret_bool HD.out, hE1⟩

theorem plV_away {P : Pl} (V : Pv) (nj : P.jobs.length = 3) (na : P.away.length = 3) (i : Nat) (hi : i < 3) (b : Bool) : (plV P V).set (21 + i) (.bool b) = plV { P with away := P.away.set i b } V := by
  have hs : (plA P).length = 6 := rfl
  have hw : (P.away.map Value.bool).length = 3 := by simp [na]
  rw [plV_eq, List.set_append_right _ _ (by omega), hs, List.set_append_right _ _ (by rw [jobs15 nj]; omega), jobs15 nj, show 21 + i - 6 - 15 = i from by omega, List.set_append_left _ _ (by rw [hw]; exact hi), ← List.map_set]
  rfl
theorem plV_bad {P : Pl} (V : Pv) (nj : P.jobs.length = 3) (na : P.away.length = 3) (b : Bool) : (plV P V).set 29 (.bool b) = plV { P with bad := b } V := by
  rw [show 29 = 24 + 5 from rfl, plV_end V nj na 5]; rfl
theorem PlX.setAway {w : World} {y : Nat} {col : Nat → Nat} {k : Nat} {P : Pl} {V : Pv} (h : PlAt w y col k P V) (i : Nat) (hi : i < 3) (b : Bool) :
    PlAt (w.setCell ⟨y, 21 + i, none⟩ (.bool b)) y (recolK w col 0) k { P with away := P.away.set i b } V ∧ StK w (w.setCell ⟨y, 21 + i, none⟩ (.bool b)) col (recolK w col 0) k :=
  h.own (21 + i) _ _ (plV_away V h.nj h.na i hi b) rfl rfl rfl rfl rfl rfl rfl h.nj (by simp [h.na])
theorem PlX.setBad {w : World} {y : Nat} {col : Nat → Nat} {k : Nat} {P : Pl} {V : Pv} (h : PlAt w y col k P V) (b : Bool) :
    PlAt (w.setCell ⟨y, 29, none⟩ (.bool b)) y (recolK w col 0) k { P with bad := b } V ∧ StK w (w.setCell ⟨y, 29, none⟩ (.bool b)) col (recolK w col 0) k :=
  h.own 29 _ _ (plV_bad V h.nj h.na b) rfl rfl rfl rfl rfl rfl rfl h.nj h.na

/-- A mirror that is away does not answer. -/
def failPl (P : Pl) (m : Nat) : Pl := { P with away := P.away.set m false, g := ⟨failP P.g.s m, P.g.v⟩ }

set_option maxRecDepth 100000 in
set_option maxHeartbeats 2000000 in
theorem fail_yes (y : Nat) (col : Nat → Nat) (k : Nat) (P : Pl) (V : Pv) (m : Nat) (w : World) (h : PlAt w y col k P V) (ok : PlOk P) (hm : m < 3) (ha : P.away[m]? = some true) (he : endA P.g.s m = 0) :
    Calls Try.prog 22 #[.pointer (some ⟨y, 0, none⟩), .int .i64 m] w fun e w' => e = .returned (.tuple #[]) ∧ PlTo w w' y col k (failPl P m) := by
  have c29 : w.cell? ⟨y, 29, none⟩ = some (.bool false) := by rw [← ok.bad]; exact h.cEnd 5
  have c0 : w.cell? ⟨y, 0, none⟩ = some (.pointer (some ⟨P.q, 0, none⟩)) := h.cSt 0 (by omega)
  have ca : w.cell? ⟨y, 21 + m, none⟩ = some (.bool true) := h.cAway m true ha
  have hfz := (h.blk id).frozen
  have hm' : (m : Int) < 3 := by omega
  have hyl := h.lt
  obtain ⟨hL1, hS1⟩ := h.setAway m hm false
  have HF := FailP_any P.q m P.g _ (hL1.pg id).1
  rw [he] at HF
  clear ha
  go_enter Try.func22, Try.ntmps22
  go_wp2_with fail
  refine HF.mono ?_
  rintro e w2 ⟨rfl, v2, hP2, hM2⟩
  obtain ⟨hL2, hS2⟩ := hL1.pgS hP2 hM2
  have hB2 := hL2.blk id
  have d29 : w2.cell? ⟨y, 29, none⟩ = some (.bool P.bad) := hL2.cEnd 5
  have f2 := hB2.frozen
  obtain ⟨hL3, hS3⟩ := hL2.setBad false
  have HFin : Hid (PlTo w (w2.setCell ⟨y, 29, none⟩ (.bool false)) y col k (failPl P m)) := by
    refine ⟨_, V, v2, ?_, (hS1.trans hS2).trans hS3⟩
    have e1 : ({ P with away := P.away.set m false, g := ⟨failP P.g.s m, v2⟩, bad := false } : Pl) = (failPl P m).lay v2 := by unfold failPl Pl.lay; rw [← ok.bad]
    rw [← e1]; exact hL3
  clear hL1 hS1 hL2 hS2 hL3 hS3 hP2 hM2 HF hB2 c29 c0 ca hfz h ok he
  go_wp2_with fail
  go_end0
  exact ⟨rfl, HFin.out⟩
end Go.Proofs.Ytjhihliciadipaa
