import Derived.Test.YtjhihliciadipaaKY
set_option linter.unusedVariables false
set_option linter.unusedSimpArgs false
set_option linter.unnecessarySimpa false
namespace Go.Proofs.Ytjhihliciadipaa
open Go.RowKit

theorem i64_zero : I64 0 := ⟨by omega, by omega⟩
theorem i64_99 : I64 99 := ⟨by omega, by omega⟩
theorem PlTo.unat {w w' : World} {y : Nat} {col : Nat → Nat} {k : Nat} {X : Pl} {q : Nat} {u : Vs} (h : PlTo w w' y col k (X.at q u)) (hq : X.q = q) : PlTo w w' y col k X := by
  obtain ⟨c, V, v, hL, hS⟩ := h
  have e : (X.at q u).lay v = X.lay v := by subst hq; rfl
  rw [e] at hL
  exact ⟨c, V, v, hL, hS⟩
theorem PlTo.pk {w w' : World} {y : Nat} {col : Nat → Nat} {k : Nat} {X : Pl} (h : PlTo w w' y col k X) : POk X.g.s := by
  obtain ⟨c, V, v, hL, hS⟩ := h
  exact (hL.pg id).1.ok
theorem next_q (P : Pl) (m : Nat) : (nextPl P m).1.q = P.q := by
  unfold nextPl
  split
  · rfl
  · cases nextE P.g.s <;> rfl
/-- What the calls of a round come to, one behind another. -/
def RdIdle (y : Nat) (w : World) (F : World → Prop) : Prop :=
  Calls Try.prog 13 #[.pointer (some ⟨y, 0, none⟩), .int .i64 0] w fun e w2 => e = .returned (.bool false) ∧
    Calls Try.prog 16 #[.pointer (some ⟨y, 0, none⟩), .int .i64 0, .int .i64 99] w2 fun e w3 => e = .returned (.tuple #[]) ∧ F w3
structure RdJob (y : Nat) (w : World) (f : Fe) : Prop where
  j0 : w.cell? ⟨y, 6, none⟩ = some (.int .i64 f.path)
  j1 : w.cell? ⟨y, 7, none⟩ = some (.int .i64 f.tag)
  j2 : w.cell? ⟨y, 8, none⟩ = some (.int .i64 f.tot)
  j3 : w.cell? ⟨y, 9, none⟩ = some (.int .i64 f.off)
  j4 : w.cell? ⟨y, 10, none⟩ = some (.int .i64 f.len)
  lt : y < w.heap.size
def RdSent (y : Nat) (w : World) (v : Int) (f : Fe) (r : Rp) (F : World → Prop) : Prop :=
  Calls Try.prog 13 #[.pointer (some ⟨y, 0, none⟩), .int .i64 0] w fun e w2 => e = .returned (.bool true) ∧ RdJob y w2 f ∧
    Calls Try.prog 15 #[.pointer (some ⟨y, 0, none⟩), feAgg f, .int .i64 v] w2 fun e w3 => e = .returned (rpAgg r) ∧
      Calls Try.prog 14 #[.pointer (some ⟨y, 0, none⟩), .int .i64 0, rpAgg r] w3 fun e w4 => e = .returned (.tuple #[]) ∧
        Calls Try.prog 16 #[.pointer (some ⟨y, 0, none⟩), .int .i64 0, .int .i64 99] w4 fun e w5 => e = .returned (.tuple #[]) ∧ F w5
theorem round_calls (y : Nat) (col : Nat → Nat) (k : Nat) (B v : Int) (n : Nat) (Q : Pl) (V : Pv) (w : World) (hL : PlAt w y col k Q V) (hC : Cl B v n Q) (hv : 1 ≤ v) (hv2 : v ≤ 99) (hn1 : Q.paths.length = 1) (hn : n ≤ 900000) (hk : 1 ≤ k) :
    RdIdle y w (fun w' => POk (nextPl Q 0).1.g.s ∧ PlTo w w' y col k (roundPl Q v)) ∨ ∃ f r, RdSent y w v f r (fun w' => POk (nextPl Q 0).1.g.s ∧ PlTo w w' y col k (roundPl Q v)) := by
  have hK : KnOk (KnV B v) Q.g.s.blk := by rw [hC.bl]; exact KnV_ok _ _
  have HN := next_any y col k _ _ Q V 0 w hL hC.pi hK i64_zero
  rw [mirK_zero hC.pi] at HN
  cases hE : nextE Q.g.s with
  | none =>
    obtain ⟨e1, e2⟩ := mid_idle v hC.aw hE
    rw [e1] at HN ⊢
    simp only at HN ⊢
    have hX : takePl Q 0 99 = roundPl Q v := by rw [round_one _ hn1, e2]
    refine Or.inl (HN.mono ?_)
    rintro e w2 ⟨rfl, col2, V2, v2, hL2, hS2⟩
    refine ⟨rfl, (ytake_PI y col2 k _ _ _ V2 0 99 w2 hL2 (hC.pi.at Q.q v2) (by omega) i64_zero i64_99).mono ?_⟩
    rintro e w3 ⟨rfl, hT3⟩
    rw [lay_at, takePl_at] at hT3
    rw [← hX]
    exact ⟨rfl, hC.pk, PlTo.trans hS2 (hT3.unat (take_q _ _ _))⟩
  | some e =>
    obtain ⟨e1, e2, e3⟩ := mid_sent hC hv hE
    rw [e1] at HN ⊢
    simp only at HN ⊢
    have hPS : PI (KnV B v) n (sentPl Q 0 e) := by
      have := nextPl_PI hC.pi hC.pk hK 0 (by omega)
      rw [e1] at this; exact this
    obtain ⟨f, hf⟩ : ∃ f, f = feF (fetchE Q.g.s.blk e) := ⟨_, rfl⟩
    rw [← hf] at e2 e3
    have hX : takePl (rpPl (sentPl Q 0 e) 0 (honK Q.st.b f v)) 0 99 = roundPl Q v := by rw [round_one _ hn1, e3]
    have hj0 := hPS.jo f (List.mem_of_getElem? e2)
    have hst : Q.st.b = B := by rw [hC.pi.j.st.2.1, hC.bl]
    have hm1 := hC.pi.si.fair.m1
    have hB1 := hC.pi.si.fair.B1
    have hB2 := hC.pi.si.fair.B2
    rw [hC.bl, ← hst] at hB1 hB2
    have hMP : PI (KnV B v) (n + 1) (rpPl (sentPl Q 0 e) 0 (honK Q.st.b f v)) := by
      have := (mid_rel hC (by omega) hv2).pi
      rw [e3] at this; exact this
    refine Or.inr ⟨f, honK Q.st.b f v, HN.mono ?_⟩
    rintro e' w2 ⟨rfl, col2, V2, v2, hL2, hS2⟩
    have hpk2 : POk (sentPl Q 0 e).g.s := (hL2.pg id).1.ok
    refine ⟨rfl, ⟨hL2.cJob 0 0 f e2 (by omega), hL2.cJob 0 1 f e2 (by omega), hL2.cJob 0 2 f e2 (by omega), hL2.cJob 0 3 f e2 (by omega), hL2.cJob 0 4 f e2 (by omega), hL2.lt⟩, ?_⟩
    refine (honest_any y col2 k _ V2 f v w2 hL2 hB1 hB2 hj0.p0 hj0.p1 (by omega) hv2 hj0.o0 (by have := hj0.o1; omega)).mono ?_
    rintro e' w3 ⟨rfl, hE3⟩
    refine ⟨rfl, ?_⟩
    have hrs : (honK Q.st.b f v).body.size ≤ 1000000000 := by
      show (objK f.path v f.off.toNat Q.st.b.toNat).size ≤ _
      rw [objK_size]; unfold objN; omega
    refine (yreply_any y _ k _ _ _ V2 0 (honK Q.st.b f v) w3 (hL2.ext hE3 0) (hPS.at _ v2) (by show ((0 : Nat) : Int) < Q.g.s.mir; omega) hrs (by have h9 := hPS.sn; show (sentPl Q 0 e).sent.length ≤ _; omega)).mono ?_
    rintro e' w4 ⟨rfl, col4, V4, v4, hL4, hS4⟩
    refine ⟨rfl, ?_⟩
    have eR : (rpPl ((sentPl Q 0 e).lay v2) 0 (honK Q.st.b f v)).lay v4 = (rpPl (sentPl Q 0 e) 0 (honK Q.st.b f v)).at Q.q v4 := by rw [lay_at (sentPl Q 0 e) v2, rpPl_at]; rfl
    have hL4' : PlAt w4 y col4 k ((rpPl (sentPl Q 0 e) 0 (honK Q.st.b f v)).at Q.q v4) V4 := by rw [← eR]; exact hL4
    refine (ytake_PI y col4 k _ _ _ V4 0 99 w4 hL4' (hMP.at Q.q v4) (by omega) i64_zero i64_99).mono ?_
    rintro e' w5 ⟨rfl, hT5⟩
    rw [takePl_at] at hT5
    rw [← hX]
    exact ⟨rfl, hpk2, PlTo.trans (hS2.trans ((StK.ext (k := k) hE3 0).trans hS4)) (hT5.unat (by rw [take_q, rp_q]; rfl))⟩
end Go.Proofs.Ytjhihliciadipaa
