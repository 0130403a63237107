import Derived.Test.YtjhihliciadipaaK12
set_option linter.unusedVariables false
set_option linter.unusedSimpArgs false
set_option linter.unnecessarySimpa false
namespace Go.Proofs.Ytjhihliciadipaa
open Go.RowKit

def slash : ByteArray := { data := #[47] }
/-- Bytes are taken of the transfer number i. -/
def tookPl (P : Pl) (i : Nat) (n : Int) : Pl :=
  { P with g := ⟨ptakeS P.g.s i n, P.g.v⟩, taken := P.taken.set i (P.taken.getD i ByteArray.empty ++ (takeA P.g.s i n).1), ans := P.ans ++ (takeA P.g.s i n).1 ++ slash }
def takePl (P : Pl) (id n : Int) : Pl :=
  if P.paths.length = 0 then P else
    match P.g.s.trs[(pickK id P.paths.length).toNat]? with
    | some t => if stT t = 1 then P else tookPl P (pickK id P.paths.length).toNat (pickK n 100)
    | none => P
theorem open_st {t : Tr} (h : ¬ stT t = 1) : openT t = false := by
  unfold stT at h; unfold openT
  cases hl : t.lost
  · cases hb : t.bound
    · simp [hl, hb] at h
    · simp
  · simp
theorem open_st' {t : Tr} (h : stT t = 1) : openT t = true := by
  unfold stT at h; unfold openT
  cases hl : t.lost
  · cases hb : t.bound
    · simp
    · simp [hl, hb] at h
      split at h <;> omega
  · simp [hl] at h

set_option maxRecDepth 100000 in
set_option maxHeartbeats 4000000 in
theorem take_yes (y : Nat) (col : Nat → Nat) (k : Nat) (P : Pl) (V : Pv) (ix n : Int) (i : Nat) (t : Tr) (w : World) (h : PlAt w y col k P V) (ok : PlOk P) (hid : I64 ix) (hn : I64 n) (h0 : 0 < P.paths.length) (hi : pickK ix P.paths.length = i)
    (ht : P.g.s.trs[i]? = some t) (ho : ¬ stT t = 1) (hs : (P.taken.getD i ByteArray.empty).size ≤ 1000000) (ha : P.ans.size ≤ 1000000000000000) :
    Calls Try.prog 16 #[.pointer (some ⟨y, 0, none⟩), .int .i64 ix, .int .i64 n] w fun e w' => e = .returned (.tuple #[]) ∧ PlTo w w' y col k (tookPl P i (pickK n 100)) := by
  have c29 : w.cell? ⟨y, 29, none⟩ = some (.bool false) := by rw [← ok.bad]; exact h.cEnd 5
  have c0 : w.cell? ⟨y, 0, none⟩ = some (.pointer (some ⟨P.q, 0, none⟩)) := h.cSt 0 (by omega)
  obtain ⟨aP, capP, hvP, -⟩ := own_form (h.pp id).1
  have c24 : w.cell? ⟨y, 24, none⟩ = some (.slice aP P.paths.length capP) := by rw [← hvP]; exact h.cEnd 0
  have hn8 := ok.n8
  have PK1 := hide (pickK_any ix P.paths.length w hid (by omega) (by omega))
  have PK2 := hide (pickK_any n 100 w hn (by omega) (by omega))
  have OP := hide (open_any y col k P V i t w h ht)
  have hod : decide (stT t = 1) = false := by simpa using ho
  rw [hod] at OP
  rw [hi] at PK1
  have hcb := pickK_bd n 100 (by omega)
  have hl0 : ¬ ((P.paths.length : Int) = 0) := by omega
  have hA := takeA_yes (n := pickK n 100) ht hcb.1 (open_st ho)
  have HTK := hide (fun (w' : World) (h' : PgAt w' P.q P.g) => TakeP_any P.q i (pickK n 100) P.g w' h')
  have hpok := (h.pg id).1.ok
  have hf := hpok.fair
  have HSz : Hid (((takeA P.g.s i (pickK n 100)).1.size : Int) ≤ pickK n 100 ∧ (takeA P.g.s i (pickK n 100)).2 = 0) := by
    rw [hA]
    exact ⟨takeT_size (pshowT_ok (hpok.ts t (List.mem_of_getElem? ht)) (open_st ho)) hf _ hcb.1, rfl⟩
  have HFin : Hid (∀ v, ({ P with g := ⟨ptakeS P.g.s i (pickK n 100), v⟩, taken := P.taken.set i (P.taken.getD i ByteArray.empty ++ (takeA P.g.s i (pickK n 100)).1), ans := P.ans ++ (takeA P.g.s i (pickK n 100)).1 ++ slash } : Pl) = (tookPl P i (pickK n 100)).lay v) := fun v => rfl
  have hil : i < P.taken.length := by have := (List.getElem?_eq_some_iff.1 ht).1; rw [ok.n3, ← ok.n1]; exact this
  generalize takeA P.g.s i (pickK n 100) = tk at *
  generalize ptakeS P.g.s i (pickK n 100) = s' at *
  generalize pickK n 100 = c at *
  clear hA hod ho hi ht hpok
  obtain ⟨body, er⟩ := tk
  obtain ⟨hb1, rfl⟩ : (body.size : Int) ≤ c ∧ er = 0 := HSz.out
  clear HSz
  go_enter Try.func16, Try.ntmps16
  go_upto_region 2 with (go_at_call 10; refine PK1.out.mono ?_; rintro e w1 ⟨rfl, hw1⟩; have hw1 := hw1.symm; subst hw1)
  go_upto_region 3 with (go_at_call 10; refine PK2.out.mono ?_; rintro e w1 ⟨rfl, hw1⟩; have hw1 := hw1.symm; subst hw1)
  go_upto_region 4 with (go_at_call 38; refine OP.out.mono ?_; rintro e w1 ⟨rfl, hE1⟩)
  have h1 := h.ext hE1 0
  have hS1 : StK w w1 col (recolK w col 0) k := StK.ext hE1 0
  replace c29 := ext_cell hE1 c29
  replace c0 := ext_cell hE1 c0
  have HT1 := hide (HTK.out _ (h1.pg id).1)
  clear c24 PK1 PK2 OP HTK hE1 h
  go_upto_region 8 with (go_at_call 39; refine HT1.out.mono ?_; rintro e w2 ⟨rfl, v2, hP2, hM2⟩; have hb2 : ¬ (c < (body.size : Int)) := (by omega))
  obtain ⟨hL2, hS2⟩ := h1.pgS hP2 hM2
  have hS3 := hS1.trans hS2
  clear hP2 hM2 HT1 c29 c0 h1 hS1 hS2
  obtain ⟨P2, hP2⟩ : ∃ P2 : Pl, P2 = { P with g := ⟨s', v2⟩ } := ⟨_, rfl⟩
  rw [← hP2] at hL2
  have e1 : P2.taken = P.taken := by rw [hP2]
  have e2 : P2.ans = P.ans := by rw [hP2]
  have HF2 : Hid ({ P2 with taken := P2.taken.set i (P2.taken.getD i ByteArray.empty ++ body), ans := P2.ans ++ body ++ slash } = (tookPl P i c).lay v2) := by show _ = _; rw [← HFin.out, hP2]
  rw [← e1] at hil hs
  rw [← e2] at ha
  clear hP2 e1 e2 HFin
  obtain ⟨aK, capK, hvK, hgK⟩ := own_form (hL2.kk id).1
  obtain ⟨gK, rfl⟩ := hgK (by omega)
  have c26 : w2.cell? ⟨y, 26, none⟩ = some (.slice (some ⟨gK, 0, none⟩) P2.taken.length capK) := by rw [← hvK]; exact hL2.cEnd 2
  have ck : w2.cell? ⟨gK, i, none⟩ = some (.string (P2.taken.getD i ByteArray.empty)) := by
    have ho := (hL2.kk id).1
    rw [hvK] at ho
    rw [ho.cellAt i (by omega)]
    simp [hil]
  have hfK : ∀ r, w2.frozen? ⟨gK, r, none⟩ = false := by
    have ho := (hL2.kk id).1
    rw [hvK] at ho
    exact fun r => ho.frozenAt r
  obtain ⟨hL3, hS4⟩ := hL2.setTaken hvK i hil (P2.taken.getD i ByteArray.empty ++ body)
  have HL3 := hide hL3
  have HS4 := hide (hS3.trans hS4)
  have hil' : (i : Int) < P2.taken.length := by omega
  generalize P2.taken.getD i ByteArray.empty = old at *
  have hsum : old.size + body.size ≤ 9223372036854775807 := by omega
  have hyl := hL2.lt
  clear hL3 hS4 hS3 hvK
  go_cut [7] (fun v wx => v = .string body ∧ ∃ col3, PlAt wx y col3 k { P2 with taken := P2.taken.set i (old ++ body) } V ∧ StK w wx col col3 k)
  case first =>
    go_region
    all_goals go_wp2_with fail
    all_goals go_meet
    all_goals exact ⟨rfl, _, HL3.out.ext (Below.drew (Below.refl _ _)) 0, HS4.out.trans (StK.ext (Below.drew (Below.refl _ _)) 0)⟩
  case rest =>
    obtain ⟨rfl, col3, hL4, hS5⟩ := hcut
    clear HL3 HS4 hL2 c26 ck hfK
    have c30 : wc.cell? ⟨y, 30, none⟩ = some (.string P2.ans) := hL4.cEnd 6
    have hfy := (hL4.blk id).frozen 30
    have hsum2 : P2.ans.size + body.size ≤ 9223372036854775807 := by omega
    have hsum3 : (P2.ans ++ body).size + 1 ≤ 9223372036854775807 := by simp; omega
    obtain ⟨hL5, hS6⟩ := hL4.setAns (P2.ans ++ body ++ slash)
    have HL5 := hide hL5
    have HS6 := hide (hS5.trans hS6)
    clear hL5 hS6
    go_wp2_with fail
    go_end0
    have h9 := HL5.out
    rw [HF2.out] at h9
    exact ⟨rfl, _, V, v2, h9, HS6.out⟩

set_option maxRecDepth 100000 in
set_option maxHeartbeats 2000000 in
theorem take_none (y : Nat) (col : Nat → Nat) (k : Nat) (P : Pl) (V : Pv) (ix n : Int) (w : World) (h : PlAt w y col k P V) (ok : PlOk P) (h0 : P.paths.length = 0) :
    Calls Try.prog 16 #[.pointer (some ⟨y, 0, none⟩), .int .i64 ix, .int .i64 n] w fun e w' => e = .returned (.tuple #[]) ∧ w' = w := by
  have c29 : w.cell? ⟨y, 29, none⟩ = some (.bool false) := by rw [← ok.bad]; exact h.cEnd 5
  obtain ⟨aP, capP, hvP, -⟩ := own_form (h.pp id).1
  have c24 : w.cell? ⟨y, 24, none⟩ = some (.slice aP 0 capP) := by rw [← h0, ← hvP]; exact h.cEnd 0
  clear hvP h ok h0
  go_enter Try.func16, Try.ntmps16
  go_wp2_with fail
  refine bodyPost_ret (v := .tuple #[]) (by simp [results, Try.results16, go_sem]) rfl ⟨rfl, rfl⟩

set_option maxRecDepth 100000 in
set_option maxHeartbeats 4000000 in
theorem take_open (y : Nat) (col : Nat → Nat) (k : Nat) (P : Pl) (V : Pv) (ix n : Int) (i : Nat) (t : Tr) (w : World) (h : PlAt w y col k P V) (ok : PlOk P) (hid : I64 ix) (hn : I64 n) (h0 : 0 < P.paths.length) (hi : pickK ix P.paths.length = i)
    (ht : P.g.s.trs[i]? = some t) (ho : stT t = 1) :
    Calls Try.prog 16 #[.pointer (some ⟨y, 0, none⟩), .int .i64 ix, .int .i64 n] w fun e w' => e = .returned (.tuple #[]) ∧ Ext w w' := by
  have c29 : w.cell? ⟨y, 29, none⟩ = some (.bool false) := by rw [← ok.bad]; exact h.cEnd 5
  obtain ⟨aP, capP, hvP, -⟩ := own_form (h.pp id).1
  have c24 : w.cell? ⟨y, 24, none⟩ = some (.slice aP P.paths.length capP) := by rw [← hvP]; exact h.cEnd 0
  have hn8 := ok.n8
  have PK1 := hide (pickK_any ix P.paths.length w hid (by omega) (by omega))
  have PK2 := hide (pickK_any n 100 w hn (by omega) (by omega))
  have OP := hide (open_any y col k P V i t w h ht)
  have hod : decide (stT t = 1) = true := by simpa using ho
  rw [hod] at OP
  rw [hi] at PK1
  have hl0 : ¬ ((P.paths.length : Int) = 0) := by omega
  clear hod ho hi ht h ok hvP
  go_enter Try.func16, Try.ntmps16
  go_upto_region 2 with (go_at_call 10; refine PK1.out.mono ?_; rintro e w1 ⟨rfl, hw1⟩; have hw1 := hw1.symm; subst hw1)
  go_upto_region 3 with (go_at_call 10; refine PK2.out.mono ?_; rintro e w1 ⟨rfl, hw1⟩; have hw1 := hw1.symm; subst hw1)
  go_upto_region 4 with (go_at_call 38; refine OP.out.mono ?_; rintro e w1 ⟨rfl, hE1⟩)
  go_wp2_with fail
  refine bodyPost_ret (v := .tuple #[]) (by simp [results, Try.results16, go_sem]) rfl ⟨rfl, hE1⟩
theorem PlTo.ext {w w' : World} {y : Nat} {col : Nat → Nat} {k : Nat} {P : Pl} {V : Pv} (h : PlAt w y col k P V) (hE : Ext w w') : PlTo w w' y col k P := ⟨_, V, P.g.v, h.ext hE 0, StK.ext hE 0⟩

/-- Bytes are taken of a transfer that has a head. -/
theorem ytake_any (y : Nat) (col : Nat → Nat) (k : Nat) (P : Pl) (V : Pv) (ix n : Int) (w : World) (h : PlAt w y col k P V) (ok : PlOk P) (hid : I64 ix) (hn : I64 n) (hs : ∀ x ∈ P.taken, x.size ≤ 1000000) (ha : P.ans.size ≤ 1000000000000000) :
    Calls Try.prog 16 #[.pointer (some ⟨y, 0, none⟩), .int .i64 ix, .int .i64 n] w fun e w' => e = .returned (.tuple #[]) ∧ PlTo w w' y col k (takePl P ix n) := by
  unfold takePl
  by_cases h0 : P.paths.length = 0
  · rw [if_pos h0]
    refine (take_none y col k P V ix n w h ok h0).mono ?_
    rintro e w' ⟨rfl, rfl⟩
    exact ⟨rfl, PlTo.refl h⟩
  · rw [if_neg h0]
    have hb := pickK_bd ix P.paths.length (by omega)
    obtain ⟨i, hi⟩ := Int.eq_ofNat_of_zero_le hb.1
    have hil : i < P.g.s.trs.length := by rw [ok.n1]; omega
    have ht : P.g.s.trs[i]? = some P.g.s.trs[i] := List.getElem?_eq_getElem hil
    rw [hi, Int.toNat_natCast, ht]
    simp only
    by_cases ho : stT P.g.s.trs[i] = 1
    · rw [if_pos ho]
      refine (take_open y col k P V ix n i _ w h ok hid hn (by omega) hi ht ho).mono ?_
      rintro e w' ⟨rfl, hE⟩
      exact ⟨rfl, PlTo.ext h hE⟩
    · rw [if_neg ho]
      refine take_yes y col k P V ix n i _ w h ok hid hn (by omega) hi ht ho ?_ ha
      rw [List.getD_eq_getElem?_getD]
      cases hg : P.taken[i]? with
      | none => simp
      | some x => exact hs x (List.mem_of_getElem? hg)
end Go.Proofs.Ytjhihliciadipaa
