import Derived.Test.YtjhihliciadipaaKW
import Derived.Test.YtjhihliciadipaaK20s
import Derived.Test.YtjhihliciadipaaKT
set_option linter.unusedVariables false
set_option linter.unusedSimpArgs false
set_option linter.unnecessarySimpa false
namespace Go.Proofs.Ytjhihliciadipaa
open Go.RowKit

set_option maxRecDepth 100000 in
set_option maxHeartbeats 8000000 in
theorem Sourced_walk (l s : List Int) (v u : Value) (w : World) (hv : IntsAt w v l) (hu : IntsAt w u s) (hl : l.length ≤ 17592186044416) (hs : s.length ≤ 17592186044416) (hi : ∀ x ∈ l, I64 x) (hj : ∀ x ∈ s, I64 x) :
    Calls Try.prog 6 #[v, u] w fun e w' => e = .returned (.bool true) ∧ Ext w w' := by
  have HB := begin_any l v zCol 1 w hv (by omega) hi
  have HU := hide hu
  go_enter Try.func6, Try.ntmps6
  go_wp2_with fail
  refine HB.mono ?_
  rintro e w1 ⟨y, q, rfl, hL1, hE1⟩
  have HSt := steps_any y _ 1 _ newPv s u true w1 (fun j P => PI (KnS P.sent P.dst (setK l).b) j P ∧ P.g.s.blk = (setK l).b ∧ SnOk j P) (fun j P h => by rw [h.2.1]; exact h.1.weakS) (fun j P v h => ⟨h.1.at P.q v, h.2.1, h.2.2.at P.q v⟩) (fun j P h hj => by have := h.2.2.le (by omega); omega)
    (fun j P r h pk _ _ _ => ⟨(stepS h.2.1 h.1 pk _ r).1, (stepS h.2.1 h.1 pk _ r).2, h.2.2.step _ r⟩) hL1 ⟨new_PI _ q l, rfl, snNew q _⟩ (by omega) (ints_new HU.out hE1) hs hj
  have HW1 := hide hE1
  clear HB hL1 hv hE1 hu
  go_wp2_with fail
  refine HSt.mono ?_
  rintro e w2 ⟨rfl, N, hN1, hN2, P2, ⟨hP2, hB2, hSn2⟩, hT2⟩
  have HP2 := hide hP2
  have HBk := hide (And.intro hB2 (show P2.sent.length ≤ 3000000000000 by have := hSn2.le (by omega); omega))
  have HT2 := hide hT2
  have hB1 := (setK_ok l).f3
  have hB16 := (setK_ok l).f4
  generalize (setK l).b = B at *
  clear HSt hP2 hB2 hSn2 hT2 hN1 hN2 hi hj hs hl
  go_wp2_with fail
  go_loopw [6] (fun i wr => ∃ n : Nat, n ≤ 8 ∧ i = .int .i64 n ∧ Hid (∃ Q, PI (KnS Q.sent Q.dst B) N Q ∧ (Q.g.s.blk = B ∧ Q.sent.length ≤ 3000000000000) ∧ PlTo w1 wr y (colY w zCol y 1) 1 Q)) (fun i _ => 8 - (intOf i).toNat)
  case atStart => exact ⟨0, by omega, rfl, P2, HP2.out, HBk.out, HT2.out⟩
  case round =>
    obtain ⟨n, hn, rfl, HQ⟩ := hrel
    obtain ⟨Q0, hQ0, hQB, colQ, V, vq, hL, hS⟩ := HQ.out
    obtain ⟨Q, hQe⟩ : ∃ Q, Q = Q0.lay vq := ⟨_, rfl⟩
    have hQ : PI (KnS Q.sent Q.dst B) N Q := by rw [hQe]; exact hQ0.at Q0.q vq
    have hQB' : Q.g.s.blk = B ∧ Q.sent.length ≤ 3000000000000 := by rw [hQe]; exact hQB
    rw [← hQe] at hL
    clear hQ0 hQB hQe HQ
    have hn8 := hQ.ok.n8
    obtain ⟨aP, capP, hvP, hgP⟩ := own_form (hL.pp id).1
    have c24 : wr.cell? ⟨y, 24, none⟩ = some (.slice aP Q.paths.length capP) := by rw [← hvP]; exact hL.cEnd 0
    have c29 : wr.cell? ⟨y, 29, none⟩ = some (.bool false) := by rw [← hQ.ok.bad]; exact hL.cEnd 5
    by_cases hlt : n < Q.paths.length
    · have hlt' : (n : Int) < Q.paths.length := by omega
      obtain ⟨t, ht⟩ : ∃ t, Q.g.s.trs[n]? = some t := ⟨_, List.getElem?_eq_getElem (by rw [hQ.ok.n1]; exact hlt)⟩
      by_cases ho : stT t = 1
      · have HH := yhead_open y colQ 1 Q V n t wr hL hQ.ok ht ho
        have HFin : Hid (∀ w', Ext wr w' → ∃ Q, PI (KnS Q.sent Q.dst B) N Q ∧ (Q.g.s.blk = B ∧ Q.sent.length ≤ 3000000000000) ∧ PlTo w1 w' y (colY w zCol y 1) 1 Q) := fun w' hE => ⟨Q, hQ, hQB', PlTo.trans hS (PlTo.ext hL hE)⟩
        have hylr := hL.lt
        have HCC : Hid (∀ w', Ext wr w' → w'.cell? ⟨y, 29, none⟩ = some (.bool false)) := fun w' hE => ext_cell hE c29
        unfold hdAgg at HH
        simp only at HH
        clear hL hS hvP hgP ht hQ hQB'
        go_wp2_with fail
        refine HH.mono ?_
        rintro e w3 ⟨rfl, hE3⟩
        have c29' := HCC.out w3 hE3
        have hyl3 : y < w3.heap.size := Nat.lt_of_lt_of_le hylr hE3.size
        have HF3 : Hid (∀ w', Ext w3 w' → ∃ Q, PI (KnS Q.sent Q.dst B) N Q ∧ (Q.g.s.blk = B ∧ Q.sent.length ≤ 3000000000000) ∧ PlTo w1 w' y (colY w zCol y 1) 1 Q) := fun w' hE => HFin.out w' (Ext.trans' hE3 hE)
        clear HH HCC HFin c29 c24
        go_wp2_with fail
        exact ⟨⟨n + 1, by omega, by go_num, HF3.out _ (Ext.new _ _)⟩, by simp [intOf]; omega⟩
      · have HH := yhead_yes y colQ 1 Q V n t wr hL hQ.ok ht ho (by omega)
        obtain ⟨T, hT⟩ : ∃ T, Q.taken[n]? = some T := ⟨_, List.getElem?_eq_getElem (by rw [hQ.ok.n3]; exact hlt)⟩
        have hTI := hQ.si.ts n t T ht hT
        rw [hQB'.1] at hTI
        have hfair := hTI.fair (KnS_ok _ _ B) (open_st ho)
        have hto := hide (fun p hp => sourced_round hB1 hTI p hp)
        have hp : Q.paths[n]? = some t.path := by rw [hQ.j.pt]; simp [ht]
        have okT := hTI.ok
        have hTz := hTI.tz
        have HNX : Hid (PI (KnS (headPl Q n).sent (headPl Q n).dst B) N (headPl Q n)) := headPl_PI hQ ht (open_st ho)
        have hpa : (headPl Q n).paths = Q.paths := rfl
        have hta : (headPl Q n).taken = Q.taken := rfl
        have hsa : (headPl Q n).sent = Q.sent := rfl
        have hda : (headPl Q n).dst = Q.dst := rfl
        have hbl3 : (headPl Q n).g.s.blk = B ∧ (headPl Q n).sent.length ≤ 3000000000000 := by
          refine ⟨?_, hQB'.2⟩
          show (headS Q.g.s n).blk = B
          rw [(headS_yes ht (open_st ho)).2]; exact hQB'.1
        rw [← hpa] at hp
        rw [← hta] at hT
        rw [← hsa, ← hda] at hto
        generalize headPl Q n = Q3 at *
        clear hQ hQB' hpa hta hsa hda hTI ht hL hvP hgP
        unfold hdAgg at HH
        obtain ⟨tp, tk, tf, tl, tb, tsh, tlo, hd, ttk, tfl, thd⟩ := t
        obtain ⟨st, tag, tot, frm, len⟩ := hd
        simp only at HH hfair hp hto
        have p0 := okT.p0
        have p1 := okT.p1
        have o1 := okT.r0
        have o2 := okT.n0
        have o3 := okT.n1
        have o4 := okT.k1
        simp only at p0 p1 o1 o2 o3 o4 hTz
        have hTl : (T.size : Int) ≤ len := by omega
        clear hTz o4
        have HFa := hide (fun w => fair_head ⟨st, tag, tot, frm, len⟩ w hfair (by simp only; omega) (by simp only; omega))
        unfold hdAgg at HFa
        simp only at HFa
        go_upto_region 7 with (go_at_call 17; refine HH.mono ?_; rintro e w3 ⟨rfl, hT3⟩)
        obtain ⟨col3, V3, v3, hL3, hS3⟩ := hT3
        obtain ⟨Q4, hQ4⟩ : ∃ Q4, Q4 = Q3.lay v3 := ⟨_, rfl⟩
        have hPI4 : PI (KnS Q4.sent Q4.dst B) N Q4 := by rw [hQ4]; exact HNX.out.at Q3.q v3
        have hp4 : Q4.paths[n]? = some tp := by rw [hQ4]; exact hp
        have hT4 : Q4.taken[n]? = some T := by rw [hQ4]; exact hT
        have hto4 : Hid (∀ (p : Nat), p < T.size → ToldB Q4.sent Q4.dst tp tag tot (frm + p) T.data.toList[p]?) := by rw [hQ4]; exact hto.out
        have hbl4 : Q4.g.s.blk = B ∧ Q4.sent.length ≤ 3000000000000 := by rw [hQ4]; exact hbl3
        rw [← hQ4] at hL3
        clear hQ4 HNX hp hT hbl3 hto
        have hEb := Ext.new w3 (.cells #[.int .i64 st, .int .i64 tag, .int .i64 tot, .int .i64 frm, .int .i64 len] 46)
        have hbx := Blk.new w3 46 #[.int .i64 st, .int .i64 tag, .int .i64 tot, .int .i64 frm, .int .i64 len]
        have hL4 := hL3.ext hEb 0
        have hS4 := (hS.trans hS3).trans (StK.ext (k := 1) hEb 0)
        have hnl4 : n < Q4.paths.length := (List.getElem?_eq_some_iff.1 hp4).1
        have hnk4 : n < Q4.taken.length := (List.getElem?_eq_some_iff.1 hT4).1
        generalize w3.alloc (.cells #[.int .i64 st, .int .i64 tag, .int .i64 tot, .int .i64 frm, .int .i64 len] 46) = w4 at *
        generalize recolK w3 col3 0 = col4 at *
        obtain ⟨aP4, capP4, hvP4, hgP4⟩ := own_form (hL4.pp id).1
        obtain ⟨gP4, rfl⟩ := hgP4 (by omega)
        obtain ⟨aK4, capK4, hvK4, hgK4⟩ := own_form (hL4.kk id).1
        obtain ⟨gK4, rfl⟩ := hgK4 (by omega)
        have HC : Hid (∀ w', Ext w4 w' → (w'.cell? ⟨y, 24, none⟩ = some (.slice (some ⟨gP4, 0, none⟩) Q4.paths.length capP4) ∧ w'.cell? ⟨gP4, n, none⟩ = some (.int .i64 tp) ∧ w'.cell? ⟨y, 26, none⟩ = some (.slice (some ⟨gK4, 0, none⟩) Q4.taken.length capK4) ∧ w'.cell? ⟨gK4, n, none⟩ = some (.string T) ∧ w'.cell? ⟨y, 29, none⟩ = some (.bool false)) ∧
            (w'.cell? ⟨w3.heap.size, 0, none⟩ = some (.int .i64 st) ∧ w'.cell? ⟨w3.heap.size, 1, none⟩ = some (.int .i64 tag) ∧ w'.cell? ⟨w3.heap.size, 2, none⟩ = some (.int .i64 tot) ∧ w'.cell? ⟨w3.heap.size, 3, none⟩ = some (.int .i64 frm) ∧ w'.cell? ⟨w3.heap.size, 4, none⟩ = some (.int .i64 len)) ∧ y < w'.heap.size) := by
          intro w' hE
          refine ⟨⟨ext_cell hE (by rw [← hvP4]; exact hL4.cEnd 0), ext_cell hE ?_, ext_cell hE (by rw [← hvK4]; exact hL4.cEnd 2), ext_cell hE ?_, ext_cell hE (by rw [← hPI4.ok.bad]; exact hL4.cEnd 5)⟩, ⟨ext_cell hE (hbx.cell 0), ext_cell hE (hbx.cell 1), ext_cell hE (hbx.cell 2), ext_cell hE (hbx.cell 3), ext_cell hE (hbx.cell 4)⟩, Nat.lt_of_lt_of_le hL4.lt hE.size⟩
          · have ho := (hL4.pp id).1
            rw [hvP4] at ho
            rw [ho.cellAt n (by omega)]; simp [hp4]
          · have ho := (hL4.kk id).1
            rw [hvK4] at ho
            rw [ho.cellAt n (by omega)]; simp [hT4]
        have HTo := hide (fun w' (hE : Ext w4 w') (p : Nat) (hp : p < T.size) => told_any y _ 1 Q4 V3 tp (frm + p) ⟨st, tag, tot, frm, len⟩ (T[p]'hp) w' (hL4.ext hE 0) hPI4.sd hbl4.2 (by have := hto4.out p hp; rw [List.getElem?_eq_getElem (by rw [ba_size]; exact hp)] at this; exact this) ⟨by omega, by omega⟩)
        unfold hdAgg at HTo
        simp only at HTo
        have HFin : Hid (∀ w', Ext w4 w' → ∃ Q, PI (KnS Q.sent Q.dst B) N Q ∧ (Q.g.s.blk = B ∧ Q.sent.length ≤ 3000000000000) ∧ PlTo w1 w' y (colY w zCol y 1) 1 Q) := fun w' hE => ⟨Q4, hPI4, hbl4, PlTo.trans hS4 (PlTo.ext hL4 hE)⟩
        have hnl4' : (n : Int) < Q4.paths.length := by omega
        have hnk4' : (n : Int) < Q4.taken.length := by omega
        obtain ⟨⟨x24, xgp, x26, xgk, x29⟩, ⟨y0, y1, y2, y3, y4⟩, x0⟩ := HC.out w4 (Below.refl _ _)
        clear hL4 hS4 hL3 hS3 hS hPI4 hp4 hT4 hvP4 hvK4 hgP4 hgK4 hEb hbx okT hfair hbl4 hto4
        go_upto_region 11 with (go_at_call 25; refine (HFa.out w4).mono ?_; rintro e w5 ⟨rfl, hE5⟩)
        obtain ⟨⟨z24, zgp, z26, zgk, z29⟩, ⟨z0, z1, z2, z3, z4⟩, zx0⟩ := HC.out w5 hE5
        clear x24 xgp x26 xgk x29 y0 y1 y2 y3 y4 x0 HFa
        have hTl' : ¬ len < (T.size : Int) := by omega
        go_cut [61] (fun v wx => v = .bool false ∧ Ext w5 wx)
        case first =>
          go_quiet (fail)
          go_wp2_with fail
          go_meet
          exact ⟨rfl, Ext.drewN (Below.refl _ _) _⟩
        case rest =>
          obtain ⟨rfl, hE6⟩ := hcut
          generalize wc = w6 at *
          have hE46 := Ext.trans' hE5 hE6
          clear z24 zgp z26 zgk z29 z0 z1 z2 z3 z4 zx0 hE5 hE6
          go_wp2_with fail
          go_loopw [10] (fun i2 wr2 => ∃ p : Nat, p ≤ T.size ∧ i2 = .int .i64 p ∧ Ext w4 wr2) (fun i2 _ => T.size - (intOf i2).toNat)
          case atStart => exact ⟨0, by omega, rfl, hE46⟩
          case round =>
            obtain ⟨p, hp, rfl, hE7⟩ := hrel
            obtain ⟨⟨a24, agp, a26, agk, a29⟩, ⟨a0, a1, a2, a3, a4⟩, ax0⟩ := HC.out _ hE7
            by_cases hpl : p < T.size
            · have hpl' : (p : Int) < T.size := by omega
              have hwr : IntKind.i64.wrap (frm + p) = frm + p := (Go.IntWalk.i64_left _).trans (Go.IntWalk.wrap64_in _ (by omega))
              have HTp := hide (fun w' (hE : Ext w4 w') => HTo.out w' hE p hpl)
              generalize hcc : T[p]'hpl = cc at HTp
              go_upto_region 16 with (fail)
              go_cut [11] (fun v wx => v = .bool true ∧ Ext w4 wx)
              case first =>
                go_region_held3 (fun w' => w'.cell? ⟨y, 24, none⟩ = some (.slice (some ⟨gP4, 0, none⟩) Q4.paths.length capP4) ∧ w'.cell? ⟨gP4, n, none⟩ = some (.int .i64 tp) ∧ w'.cell? ⟨y, 26, none⟩ = some (.slice (some ⟨gK4, 0, none⟩) Q4.taken.length capK4) ∧ w'.cell? ⟨gK4, n, none⟩ = some (.string T) ∧ w'.cell? ⟨w3.heap.size, 0, none⟩ = some (.int .i64 st) ∧ w'.cell? ⟨w3.heap.size, 1, none⟩ = some (.int .i64 tag) ∧ w'.cell? ⟨w3.heap.size, 2, none⟩ = some (.int .i64 tot) ∧ w'.cell? ⟨w3.heap.size, 3, none⟩ = some (.int .i64 frm) ∧ w'.cell? ⟨w3.heap.size, 4, none⟩ = some (.int .i64 len)) (go_keep)
                  ((go_at_call 26
                    refine (HTp.out _ (by first | exact hE7 | exact Below.drew hE7)).mono ?_
                    rintro e w8 ⟨rfl, hE8⟩
                    have hE48 := Ext.trans' hE7 hE8.undrew
                    obtain ⟨⟨q24, qgp, q26, qgk, q29⟩, ⟨q0, q1, q2, q3, q4⟩, qx0⟩ := HC.out w8 hE48))
                all_goals go_wp2_with fail
                all_goals go_meet
                all_goals exact ⟨rfl, hE48⟩
              case rest =>
                obtain ⟨rfl, hE9⟩ := hcut
                go_wp2_with fail
                exact ⟨⟨p + 1, by omega, by go_num, hE9⟩, by simp [intOf]; omega⟩
            · have hpl' : ¬ (p : Int) < T.size := by omega
              go_wp2_with fail
              exact ⟨⟨n + 1, by omega, by go_num, HFin.out _ hE7⟩, by simp [intOf]; omega⟩
    · have HE := hide (play_ext HW1.out hS)
      clear hL hS hvP hgP
      go_wp2_with fail
      go_ret
      exact ⟨rfl, HE.out⟩
end Go.Proofs.Ytjhihliciadipaa
