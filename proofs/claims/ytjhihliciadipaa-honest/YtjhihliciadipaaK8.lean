import Derived.Test.YtjhihliciadipaaK7
import Derived.Test.YtjhihliciadipaaPask
import Derived.Deep.Cut
set_option linter.unusedVariables false
set_option linter.unusedSimpArgs false
set_option linter.unnecessarySimpa false
namespace Go.Proofs.Ytjhihliciadipaa
open Go.RowKit

theorem intOne (x : Int) : ∀ u ∈ [Value.int .i64 x], u.oneCell' = true := by intro u hu; simp at hu; subst hu; rfl
theorem strOne (x : ByteArray) : ∀ u ∈ [Value.string x], u.oneCell' = true := by intro u hu; simp at hu; subst hu; rfl
/-- What is so of a play all along. -/
structure PlOk (P : Pl) : Prop where
  bad : P.bad = false
  n1 : P.g.s.trs.length = P.paths.length
  n2 : P.texts.length = P.paths.length
  n3 : P.taken.length = P.paths.length
  n8 : P.paths.length ≤ 8
/-- The play with its proxy's slice elsewhere. -/
def Pl.lay (P : Pl) (v : Vs) : Pl := { P with g := ⟨P.g.s, v⟩ }
/-- The play has come to P' (wherever its proxy's transfers lie now). -/
def PlTo (w w' : World) (y : Nat) (col : Nat → Nat) (k : Nat) (P' : Pl) : Prop := ∃ col' V' v', PlAt w' y col' k (P'.lay v') V' ∧ StK w w' col col' k
theorem PlTo.refl {w : World} {y : Nat} {col : Nat → Nat} {k : Nat} {P : Pl} {V : Pv} (h : PlAt w y col k P V) : PlTo w w y col k P := ⟨col, V, P.g.v, h, StK.refl _ _ _⟩
theorem PlTo.trans {w w1 w2 : World} {y : Nat} {col col1 : Nat → Nat} {k : Nat} {P : Pl} (h : StK w w1 col col1 k) (j : PlTo w1 w2 y col1 k P) : PlTo w w2 y col k P := by
  obtain ⟨c, V, v, a, b⟩ := j; exact ⟨c, V, v, a, h.trans b⟩

theorem PlX.neP {w : World} {y : Nat} {col : Nat → Nat} {k : Nat} {P : Pl} {V : Pv} (h : PlAt w y col k P V) : V.p.ownBlock ≠ some y := fun e => by have := (h.pp id).2 y e; rw [h.c0] at this; omega
theorem PlX.neT {w : World} {y : Nat} {col : Nat → Nat} {k : Nat} {P : Pl} {V : Pv} (h : PlAt w y col k P V) : V.t.ownBlock ≠ some y := fun e => by have := (h.tt id).2 y e; rw [h.c0] at this; omega
theorem PlX.neK {w : World} {y : Nat} {col : Nat → Nat} {k : Nat} {P : Pl} {V : Pv} (h : PlAt w y col k P V) : V.k.ownBlock ≠ some y := fun e => by have := (h.kk id).2 y e; rw [h.c0] at this; omega
theorem PlX.neS {w : World} {y : Nat} {col : Nat → Nat} {k : Nat} {P : Pl} {V : Pv} (h : PlAt w y col k P V) : V.s.ownBlock ≠ some y := fun e => by have := (h.ss id).2 y e; rw [h.c0] at this; omega
theorem PlX.neO {w : World} {y : Nat} {col : Nat → Nat} {k : Nat} {P : Pl} {V : Pv} (h : PlAt w y col k P V) : V.o.ownBlock ≠ some y := fun e => by have := (h.oo id).2 y e; rw [h.c0] at this; omega
def askSt (s : Px) (path : Nat) (text : ByteArray) : Px := plookS { s with trs := s.trs ++ [askT path (readP text) (s.lat.getD path (0, 0))] }
def askPl (P : Pl) (path : Nat) (text : ByteArray) : Pl :=
  if P.paths.length < 8 then { P with g := ⟨askSt P.g.s path text, P.g.v⟩, paths := P.paths ++ [(path : Int)], texts := P.texts ++ [text], taken := P.taken ++ [ByteArray.empty] } else P

set_option maxRecDepth 100000 in
set_option maxHeartbeats 2000000 in
theorem ask_full (y : Nat) (col : Nat → Nat) (k : Nat) (P : Pl) (V : Pv) (path : Int) (text : ByteArray) (w : World) (h : PlAt w y col k P V) (ok : PlOk P) (h8 : P.paths.length = 8) :
    Calls Try.prog 12 #[.pointer (some ⟨y, 0, none⟩), .int .i64 path, .string text] w fun e w' => e = .returned (.tuple #[]) ∧ w' = w := by
  have c29 : w.cell? ⟨y, 29, none⟩ = some (.bool false) := by rw [← ok.bad]; exact h.cEnd 5
  obtain ⟨aP, capP, hvP, -⟩ := own_form (h.pp id).1
  have c24 : w.cell? ⟨y, 24, none⟩ = some (.slice aP 8 capP) := by rw [← h8, ← hvP]; exact h.cEnd 0
  clear hvP h ok h8
  go_enter Try.func12, Try.ntmps12
  go_wp2_with fail
  refine bodyPost_ret (v := .tuple #[]) (by simp [results, Try.results12, go_sem]) rfl ⟨rfl, rfl⟩

set_option maxRecDepth 100000 in
set_option maxHeartbeats 2000000 in
theorem ask_new (y : Nat) (col : Nat → Nat) (k : Nat) (P : Pl) (V : Pv) (path : Nat) (text : ByteArray) (w : World) (h : PlAt w y col k P V) (ok : PlOk P) (h8 : P.paths.length < 8) (hp : path < 4) (ht : text.size ≤ 1000000000) :
    Calls Try.prog 12 #[.pointer (some ⟨y, 0, none⟩), .int .i64 path, .string text] w fun e w' => e = .returned (.tuple #[]) ∧ PlTo w w' y col k (askPl P path text) := by
  have c29 : w.cell? ⟨y, 29, none⟩ = some (.bool false) := by rw [← ok.bad]; exact h.cEnd 5
  have c0 : w.cell? ⟨y, 0, none⟩ = some (.pointer (some ⟨P.q, 0, none⟩)) := h.cSt 0 (by omega)
  obtain ⟨aP, capP, hvP, -⟩ := own_form (h.pp id).1
  have c24 : w.cell? ⟨y, 24, none⟩ = some (.slice aP P.paths.length capP) := by rw [← hvP]; exact h.cEnd 0
  have HA := hide (AskP_new P.q P.g path text w (h.pg id).1 ht hp (by rw [ok.n1]; exact h8))
  have HK : Hid (askPl P path text = { P with g := ⟨askSt P.g.s path text, P.g.v⟩, paths := P.paths ++ [(path : Int)], texts := P.texts ++ [text], taken := P.taken ++ [ByteArray.empty] }) := by show _ = _; unfold askPl; rw [if_pos h8]
  have h8' : (P.paths.length : Int) < 8 := by omega
  have HN := hide ok.n1
  go_enter Try.func12, Try.ntmps12
  go_upto_region 4 with (go_at_call 34; refine HA.out.mono ?_; rintro e w1 ⟨rfl, v1, hP1, hM1⟩; rw [HN.out]; obtain ⟨hL1, hS1⟩ := h.pgS hP1 hM1; have d24 : w1.cell? ⟨y, 24, none⟩ = some (.slice aP P.paths.length capP) := (by rw [← hvP]; exact hL1.cEnd 0))
  have HM := hide hM1
  clear hP1 hM1 c24 d24 c29 c0 HA
  obtain ⟨P1, hP1⟩ : ∃ P1 : Pl, P1 = { P with g := ⟨askSt P.g.s path text, v1⟩ } := ⟨_, rfl⟩
  have hL1' : PlAt w1 y (recolK w col (k + 6)) k P1 V := by rw [hP1]; exact hL1
  have e1 : P1.paths = P.paths := by rw [hP1]
  have e2 : P1.texts = P.texts := by rw [hP1]
  have e3 : P1.taken = P.taken := by rw [hP1]
  have HFin : Hid (({ P1 with paths := P1.paths ++ [(path : Int)], texts := P1.texts ++ [text], taken := P1.taken ++ [ByteArray.empty] } : Pl) = (askPl P path text).lay v1) := by show _ = _; rw [HK.out, hP1]; rfl
  have ln1 : P1.paths.length ≤ 8 := by rw [e1]; omega
  have ln2 : P1.texts.length ≤ 8 := by rw [e2, ok.n2]; omega
  have ln3 : P1.taken.length ≤ 8 := by rw [e3, ok.n3]; omega
  clear hL1 hP1 e1 e2 e3 HK HM h hvP ok h8 h8' HN
  go_cut [0] (fun u wx => u = .pointer (some ⟨y, 0, none⟩) ∧ ∃ col2 V2, PlAt wx y col2 k { P1 with paths := P1.paths ++ [(path : Int)] } V2 ∧ StK w wx col col2 k)
  case first =>
    obtain ⟨a1, cap1, hv1, -⟩ := own_form (hL1'.pp id).1
    have hne := hL1'.neP
    have hB1 := hL1'.blk id
    have c24 : w1.cell? ⟨y, 24, none⟩ = some V.p := hL1'.cEnd 0
    have ho1 := (hL1'.pp id).1
    rw [hv1] at c24 hne ho1
    have HV := hide hv1
    have HL := hide hL1'
    clear hv1 hL1'
    go_wp2_with (at_builtin; refine app_one Try.underlying22 infoInt rfl (by decide) (by decide) _ rfl _ _ rfl (by rfl) (ho1.alloc _) [.int .i64 path] rfl rfl (news_new _ _ _) (intOne _) (by omega) (Nat.zero_le _) ?_; intro v2 w2 ho2 hg2 hw2; obtain ⟨a2, cap2, rfl, hx2⟩ := own_form ho2; clear hx2; have hB2 : Blk w2 y 38 _ := (hB1.ext (Ext.new _ _)).grown hg2 hne; have c2 : w2.cell? ⟨y, 24, none⟩ = some (.slice a1 P1.paths.length cap1) := (by rw [hB2.cell, ← hB1.cell]; exact c24); have f2 := hB2.frozen)
    go_meet
    have hadd := PlX.addP (HL.out.ext (Ext.new w1 _) 0) (path : Int) ho2 (by rw [HV.out]; exact hg2) (by rw [HV.out]; exact hw2)
    exact ⟨rfl, _, _, hadd.1, (hS1.trans (StK.ext (Ext.new _ _) 0)).trans hadd.2⟩
  case rest =>
    obtain ⟨rfl, col2, V2, hL2, hS2⟩ := hcut
    generalize wc = w2 at *
    clear hL1' hS1
    go_upto_region 5 with (fail)
    go_cut [0] (fun u wx => u = .pointer (some ⟨y, 0, none⟩) ∧ ∃ col3 V3, PlAt wx y col3 k { P1 with paths := P1.paths ++ [(path : Int)], texts := P1.texts ++ [text] } V3 ∧ StK w wx col col3 k)
    case first =>
      obtain ⟨a1, cap1, hv1, -⟩ := own_form (hL2.tt id).1
      have hne := hL2.neT
      have hB1 := hL2.blk id
      have c25 : w2.cell? ⟨y, 25, none⟩ = some V2.t := hL2.cEnd 1
      have ho1 := (hL2.tt id).1
      rw [hv1] at c25 hne ho1
      have HV := hide hv1
      have HL := hide hL2
      clear hv1 hL2
      go_wp2_with (at_builtin; refine app_one Try.underlying35 infoStr rfl (by decide) (by decide) _ rfl _ _ rfl (by rfl) (ho1.alloc _) [.string text] rfl rfl (news_new _ _ _) (strOne _) (by simp only; omega) (Nat.zero_le _) ?_; intro v3 w3 ho3 hg3 hw3; obtain ⟨a3, cap3, rfl, hx3⟩ := own_form ho3; clear hx3; have hB3 : Blk w3 y 38 _ := (hB1.ext (Ext.new _ _)).grown hg3 hne; have c3 : w3.cell? ⟨y, 25, none⟩ = some (.slice a1 P1.texts.length cap1) := (by rw [hB3.cell, ← hB1.cell]; exact c25); have f3 := hB3.frozen)
      go_meet
      have hadd := PlX.addT (HL.out.ext (Ext.new w2 _) 0) text ho3 (by rw [HV.out]; exact hg3) (by rw [HV.out]; exact hw3)
      exact ⟨rfl, _, _, hadd.1, (hS2.trans (StK.ext (Ext.new _ _) 0)).trans hadd.2⟩
    case rest =>
      obtain ⟨rfl, col3, V3, hL3, hS3⟩ := hcut
      generalize wc = w3 at *
      clear hL2 hS2
      obtain ⟨a1, cap1, hv1, -⟩ := own_form (hL3.kk id).1
      have hne := hL3.neK
      have hB1 := hL3.blk id
      have c26 : w3.cell? ⟨y, 26, none⟩ = some V3.k := hL3.cEnd 2
      have ho1 := (hL3.kk id).1
      rw [hv1] at c26 hne ho1
      have HV := hide hv1
      have HL := hide hL3
      clear hv1 hL3
      go_wp2_with (at_builtin; refine app_one Try.underlying35 infoStr rfl (by decide) (by decide) _ rfl _ _ rfl (by rfl) (ho1.alloc _) [.string ByteArray.empty] rfl rfl (news_new _ _ _) (strOne _) (by simp only; omega) (Nat.zero_le _) ?_; intro v4 w4 ho4 hg4 hw4; obtain ⟨a4, cap4, rfl, hx4⟩ := own_form ho4; clear hx4; have hB4 : Blk w4 y 38 _ := (hB1.ext (Ext.new _ _)).grown hg4 hne; have c4 : w4.cell? ⟨y, 26, none⟩ = some (.slice a1 P1.taken.length cap1) := (by rw [hB4.cell, ← hB1.cell]; exact c26); have f4 := hB4.frozen)
      go_end0
      have hadd := PlX.addK (HL.out.ext (Ext.new w3 _) 0) ByteArray.empty ho4 (by rw [HV.out]; exact hg4) (by rw [HV.out]; exact hw4)
      have h1 := hadd.1
      rw [HFin.out] at h1
      exact ⟨rfl, _, _, v1, h1, (hS3.trans (StK.ext (Ext.new _ _) 0)).trans hadd.2⟩
end Go.Proofs.Ytjhihliciadipaa
