import Derived.Test.YtjhihliciadipaaKD
import Derived.Test.YtjhihliciadipaaKR
set_option linter.unusedVariables false
set_option linter.unusedSimpArgs false
set_option linter.unnecessarySimpa false
namespace Go.Proofs.Ytjhihliciadipaa
open Go.RowKit

theorem setl_q (P : Pl) (v : Int) (m : Nat) : (setlPl P v m).q = P.q := by unfold setlPl; exact rp_q _ _ _
theorem setl_at (P : Pl) (q : Nat) (u : Vs) (v : Int) (m : Nat) : setlPl (P.at q u) v m = (setlPl P v m).at q u := by unfold setlPl; exact rpPl_at _ _ _ _ _
theorem mid_q (P : Pl) (v : Int) : (midPl P v).q = P.q := by
  unfold midPl
  split
  · rw [setl_q, next_q]
  · exact next_q _ _
theorem takes_q (P : Pl) (m : Nat) : (takesPl P m).q = P.q := by
  induction m with
  | zero => rfl
  | succ m ih => rw [takes_succ, take_q, ih]
theorem Stl.at {B : Int} {n m : Nat} {P0 P : Pl} (h : Stl B n m P0 P) (q : Nat) (u : Vs) : Stl B n m P0 (P.at q u) := ⟨h.pi.at q u, h.bl, h.aw, h.ls, h.pa, h.mi⟩
theorem Rc.at {B : Int} {n j : Nat} {P0 P : Pl} (h : Rc B n j P0 P) (q : Nat) (u : Vs) : Rc B n j P0 (P.at q u) := ⟨h.cl.at q u, h.ls, h.pa, h.mu⟩
/-- The first calls of a round. -/
def MdIdle (y : Nat) (w : World) (F : World → Prop) : Prop :=
  Calls Try.prog 13 #[.pointer (some ⟨y, 0, none⟩), .int .i64 0] w fun e w2 => e = .returned (.bool false) ∧ F w2
def MdSent (y : Nat) (w : World) (F : World → Prop) : Prop :=
  Calls Try.prog 13 #[.pointer (some ⟨y, 0, none⟩), .int .i64 0] w fun e w2 => e = .returned (.bool true) ∧
    Calls Try.prog 46 #[.pointer (some ⟨y, 0, none⟩), .int .i64 0] w2 fun e w3 => e = .returned (.tuple #[]) ∧ F w3
theorem mid_calls (y : Nat) (col : Nat → Nat) (k : Nat) (B : Int) (n : Nat) (Q : Pl) (V : Pv) (w : World) (hL : PlAt w y col k Q V) (hC : Cl B 0 n Q) (hn : n ≤ 900000) (hk : 1 ≤ k) :
    MdIdle y w (fun w' => PlTo w w' y col k (midPl Q 0)) ∨ MdSent y w (fun w' => PlTo w w' y col k (midPl Q 0)) := by
  have hK : KnOk (KnV B 0) Q.g.s.blk := by rw [hC.bl]; exact KnV_ok _ _
  have HN := next_any y col k _ _ Q V 0 w hL hC.pi hK i64_zero
  rw [mirK_zero hC.pi] at HN
  have hpi := nextPl_PI hC.pi hC.pk hK 0 (by omega)
  have hm1 := hC.pi.si.fair.m1
  unfold midPl
  have hq := next_q Q 0
  have hmi : (nextPl Q 0).1.g.s.mir = Q.g.s.mir := (next_aw Q 0).2
  cases hb : (nextPl Q 0).2
  · rw [hb] at HN
    left
    refine HN.mono ?_
    rintro e w2 ⟨rfl, hT⟩
    exact ⟨rfl, hT⟩
  · rw [hb] at HN
    right
    refine HN.mono ?_
    rintro e w2 ⟨rfl, col2, V2, v2, hL2, hS2⟩
    refine ⟨rfl, (settle_any y col2 k _ _ _ V2 0 w2 hL2 (hpi.at _ v2) (by show ((0 : Nat) : Int) < (nextPl Q 0).1.g.s.mir; rw [hmi]; omega) (by omega) hk).mono ?_⟩
    rintro e w3 ⟨rfl, hT3⟩
    rw [lay_at, setl_at] at hT3
    refine ⟨rfl, ?_⟩
    simp only [if_true]
    exact (PlTo.trans hS2 (hT3.unat (setl_q _ _ _)))

set_option maxRecDepth 100000 in
set_option maxHeartbeats 8000000 in
theorem calm_any (y : Nat) (col : Nat → Nat) (k : Nat) (B : Int) (n : Nat) (P : Pl) (V : Pv) (w : World) (h : PlAt w y col k P V) (hI : PI (KnV B 0) n P) (hB : P.g.s.blk = B) (hA : AwOk P) (hn : n ≤ 300000) (hk1 : 1 ≤ k) :
    Calls Try.prog 27 #[.pointer (some ⟨y, 0, none⟩)] w fun e w' => e = .returned (.tuple #[]) ∧ ∃ P', Rc B (n + 3) 1500 P P' ∧ PlTo w w' y col k P' := by
  have HST : Hid (∃ P', Stl B n 0 P P' ∧ PlTo w w y col k P') := ⟨P, Stl.start hI hB hA, PlTo.refl h⟩
  have hM1 := hI.si.fair.m1
  have hM2 := hI.si.fair.m2
  obtain ⟨M, hM⟩ : ∃ M : Nat, P.g.s.mir = M := ⟨P.g.s.mir.toNat, by omega⟩
  rw [hM] at hM1 hM2
  have h8 := hI.ok.n8
  have HM := hide hM
  clear hI hB hA h hM
  go_enter Try.func27, Try.ntmps27
  go_wp2_with fail
  go_loopw [2] (fun i wr => ∃ m : Nat, m ≤ M ∧ i = .int .i64 m ∧ Hid (∃ P', Stl B n m P P' ∧ PlTo w wr y col k P')) (fun i _ => M - (intOf i).toNat)
  case atStart => exact ⟨0, by omega, rfl, HST.out⟩
  case round =>
    obtain ⟨m, hm, rfl, HP⟩ := hrel
    obtain ⟨Q0, hQ0, colQ, VQ, vq, hL, hS⟩ := HP.out
    have hQ1 := hQ0.at Q0.q vq
    obtain ⟨Q, hQ⟩ : ∃ Q, Q = Q0.lay vq := ⟨_, rfl⟩
    rw [← lay_at, ← hQ] at hQ1
    rw [← hQ] at hL
    clear hQ0 hQ HP HST
    have hmir : Q.g.s.mir = M := by rw [hQ1.mi]; exact HM.out
    have c1 : wr.cell? ⟨y, 1, none⟩ = some (.int .i64 M) := by
      rw [← hmir, ← hQ1.pi.j.st.1]; exact hL.cSt 1 (by omega)
    have hpk := (hL.pg id).1.ok
    by_cases hlt : m < M
    · have hlt' : (m : Int) < M := by omega
      have HS := settle_any y colQ k _ _ Q VQ m wr hL hQ1.pi (by rw [hmir]; exact hlt') (by omega) hk1
      have HF : Hid (∀ w3, PlTo wr w3 y colQ k (setlPl Q 0 m) → ∃ P', Stl B n (m + 1) P P' ∧ PlTo w w3 y col k P') := fun w3 hT => ⟨_, hQ1.step hpk (by rw [hmir]; exact hlt'), PlTo.trans hS hT⟩
      clear hL hS hQ1 hpk hmir
      go_wp2_with fail
      refine HS.mono ?_
      rintro e w3 ⟨rfl, hT3⟩
      have HG : Hid (∃ P', Stl B n (m + 1) P P' ∧ PlTo w w3 y col k P') := HF.out w3 hT3
      clear HS HF hT3
      go_wp2_with fail
      exact ⟨⟨m + 1, by omega, by go_num, HG⟩, by simp [intOf]; omega⟩
    · obtain rfl : m = M := by omega
      have HC0 : Hid (∃ P', Rc B (n + 3) 0 P P' ∧ PlTo w wr y col k P') := by
        have hd := hQ1.done hpk (by rw [hmir]; omega)
        exact ⟨Q, ⟨⟨hd.pi.up (by omega), hd.pk, hd.bl, hd.aw⟩, hQ1.ls, hQ1.pa, fun h => by omega⟩, PlTo.trans hS (PlTo.refl hL)⟩
      clear hL hS hQ1 hpk hmir
      go_wp2_with fail
      obtain ⟨wo, rfl⟩ : ∃ wo : World, wo = wr := ⟨_, rfl⟩
      go_loopw [3] (fun i wx => ∃ m : Nat, m ≤ 1500 ∧ i = .int .i64 m ∧ Hid (∃ P', Rc B (n + 3) (1500 - m) P P' ∧ PlTo w wx y col k P')) (fun i _ => (intOf i).toNat)
      case atStart => exact ⟨1500, by omega, rfl, HC0.out⟩
      case round =>
        clear c1
        obtain ⟨j, hj, rfl, HP⟩ := hrel
        obtain ⟨R0, hR0, colR, VR, vr, hL, hS⟩ := HP.out
        have hR1 := hR0.at R0.q vr
        obtain ⟨R, hR⟩ : ∃ R, R = R0.lay vr := ⟨_, rfl⟩
        rw [← lay_at, ← hR] at hR1
        rw [← hR] at hL
        clear hR0 hR HC0
        have hC := hR1.cl
        have c29 : wr.cell? ⟨y, 29, none⟩ = some (.bool false) := by rw [← hC.pi.ok.bad]; exact hL.cEnd 5
        by_cases hj0 : 0 < j
        · obtain ⟨j', rfl⟩ : ∃ j', j = j' + 1 := ⟨j - 1, by omega⟩
          have hMC := mid_calls y colR k B _ R VR wr hL hC (by omega) hk1
          have hMd := mid_rel hC (Int.le_refl 0) (by omega)
          have hjj : 1500 - j' = 1500 - (j' + 1) + 1 := by omega
          have hpl : R.paths.length ≤ 8 := hC.pi.ok.n8
          have hplM : (midPl R 0).paths.length = R.paths.length := by rw [hMd.pa]
          have HTk : Hid (∀ (i : Nat), i ≤ R.paths.length → Tkn B 0 (n + 3 + 9 * (1500 - (j' + 1)) + 1) i (midPl R 0) (takesPl (midPl R 0) i)) := fun i hi => takes_rel hMd.bl hMd.pi i (by rw [hplM]; exact hi)
          have HFin : Hid (∀ w3, PlTo w w3 y col k (takesPl (midPl R 0) R.paths.length) → ∃ P', Rc B (n + 3) (1500 - j') P P' ∧ PlTo w w3 y col k P') := fun w3 hT => by
            rw [hjj]; exact ⟨roundPl R 0, hR1.step hT.pk, hT⟩
          have HSR := hide hS
          have HX0 : ∀ w3, PlTo wr w3 y colR k (midPl R 0) → Hid (PlTo w w3 y col k (takesPl (midPl R 0) 0)) := fun w3 hT => PlTo.trans HSR.out hT
          have HX := hide HX0
          clear hL hS hR1 hC hMd HX0 HP
          generalize midPl R 0 = Mp at *
          rcases hMC with H1 | H1
          · unfold MdIdle at H1
            go_upto_region 8 with (go_at_call 13; refine H1.mono ?_; rintro e w2 ⟨rfl, hT2⟩)
            have HY := HX.out w2 hT2
            clear H1 hT2 HX
            go_wp2_with fail
            obtain ⟨wq, rfl⟩ : ∃ wq : World, wq = wr := ⟨_, rfl⟩
            go_loopw [5] (fun i wz => ∃ m : Nat, m ≤ R.paths.length ∧ i = .int .i64 m ∧ Hid (PlTo w wz y col k (takesPl Mp m))) (fun i _ => R.paths.length - (intOf i).toNat)
            case atStart => exact ⟨0, by omega, rfl, HY⟩
            case round =>
              clear c29 HY
              obtain ⟨i, hi, rfl, HZ⟩ := hrel
              have hTk := HTk.out i hi
              obtain ⟨colZ, VZ, vz, hLZ, hSZ⟩ := HZ.out
              have hlen : (takesPl Mp i).paths.length = R.paths.length := by rw [hTk.pa, hplM]
              obtain ⟨aP, capP, hvP, -⟩ := own_form (hLZ.pp id).1
              have c24 : wr.cell? ⟨y, 24, none⟩ = some (.slice aP R.paths.length capP) := by
                rw [← hlen]
                have : (takesPl Mp i).paths.length = ((takesPl Mp i).lay vz).paths.length := rfl
                rw [this, ← hvP]; exact hLZ.cEnd 0
              by_cases hil : i < R.paths.length
              · have hil' : (i : Int) < R.paths.length := by omega
                have HT := ytake_PI y colZ k _ _ _ VZ i 99 wr hLZ (hTk.pi.at _ vz) (by omega) ⟨by omega, by omega⟩ i64_99
                rw [lay_at, takePl_at, ← takes_succ] at HT
                have HF : Hid (∀ w4, PlTo wr w4 y colZ k ((takesPl Mp (i + 1)).at (takesPl Mp i).q vz) → PlTo w w4 y col k (takesPl Mp (i + 1))) := fun w4 hT => PlTo.trans hSZ (hT.unat (by rw [takes_q, takes_q]))
                clear hLZ hSZ hTk hvP HZ
                go_wp2_with fail
                refine HT.mono ?_
                rintro e w4 ⟨rfl, hT4⟩
                have HG : Hid (PlTo w w4 y col k (takesPl Mp (i + 1))) := HF.out w4 hT4
                clear HT HF hT4 c24
                go_wp2_with fail
                first | exact ⟨⟨i + 1, by omega, by go_num, HG⟩, by simp [intOf]; omega⟩ | exact ⟨by (repeat apply Exists.intro); exact ⟨⟨i + 1, by omega, by go_num, HG⟩, rfl⟩, by simp [intOf]; omega⟩
              · obtain rfl : i = R.paths.length := by omega
                have HG : Hid (∃ P', Rc B (n + 3) (1500 - j') P P' ∧ PlTo w wr y col k P') := HFin.out wr HZ.out
                clear hLZ hSZ hTk hvP HZ
                go_wp2_with fail
                first | exact ⟨⟨j', by omega, by go_num, HG⟩, by simp [intOf]⟩ | exact ⟨by (repeat apply Exists.intro); exact ⟨⟨j', by omega, by go_num, HG⟩, rfl⟩, by simp [intOf]⟩
          · unfold MdSent at H1
            go_upto_region 8 with (go_at_call 13; refine H1.mono ?_; rintro e w2 ⟨rfl, H2⟩)
            clear H1
            go_wp2_with fail
            refine H2.mono ?_
            rintro e w3 ⟨rfl, hT3⟩
            have HY := HX.out w3 hT3
            clear H2 hT3 HX
            go_wp2_with fail
            obtain ⟨wq, rfl⟩ : ∃ wq : World, wq = wr := ⟨_, rfl⟩
            go_loopw [5] (fun i wz => ∃ m : Nat, m ≤ R.paths.length ∧ i = .int .i64 m ∧ Hid (PlTo w wz y col k (takesPl Mp m))) (fun i _ => R.paths.length - (intOf i).toNat)
            case atStart => exact ⟨0, by omega, rfl, HY⟩
            case round =>
              clear c29 HY
              obtain ⟨i, hi, rfl, HZ⟩ := hrel
              have hTk := HTk.out i hi
              obtain ⟨colZ, VZ, vz, hLZ, hSZ⟩ := HZ.out
              have hlen : (takesPl Mp i).paths.length = R.paths.length := by rw [hTk.pa, hplM]
              obtain ⟨aP, capP, hvP, -⟩ := own_form (hLZ.pp id).1
              have c24 : wr.cell? ⟨y, 24, none⟩ = some (.slice aP R.paths.length capP) := by
                rw [← hlen]
                have : (takesPl Mp i).paths.length = ((takesPl Mp i).lay vz).paths.length := rfl
                rw [this, ← hvP]; exact hLZ.cEnd 0
              by_cases hil : i < R.paths.length
              · have hil' : (i : Int) < R.paths.length := by omega
                have HT := ytake_PI y colZ k _ _ _ VZ i 99 wr hLZ (hTk.pi.at _ vz) (by omega) ⟨by omega, by omega⟩ i64_99
                rw [lay_at, takePl_at, ← takes_succ] at HT
                have HF : Hid (∀ w4, PlTo wr w4 y colZ k ((takesPl Mp (i + 1)).at (takesPl Mp i).q vz) → PlTo w w4 y col k (takesPl Mp (i + 1))) := fun w4 hT => PlTo.trans hSZ (hT.unat (by rw [takes_q, takes_q]))
                clear hLZ hSZ hTk hvP HZ
                go_wp2_with fail
                refine HT.mono ?_
                rintro e w4 ⟨rfl, hT4⟩
                have HG : Hid (PlTo w w4 y col k (takesPl Mp (i + 1))) := HF.out w4 hT4
                clear HT HF hT4 c24
                go_wp2_with fail
                first | exact ⟨⟨i + 1, by omega, by go_num, HG⟩, by simp [intOf]; omega⟩ | exact ⟨by (repeat apply Exists.intro); exact ⟨⟨i + 1, by omega, by go_num, HG⟩, rfl⟩, by simp [intOf]; omega⟩
              · obtain rfl : i = R.paths.length := by omega
                have HG : Hid (∃ P', Rc B (n + 3) (1500 - j') P P' ∧ PlTo w wr y col k P') := HFin.out wr HZ.out
                clear hLZ hSZ hTk hvP HZ
                go_wp2_with fail
                first | exact ⟨⟨j', by omega, by go_num, HG⟩, by simp [intOf]⟩ | exact ⟨by (repeat apply Exists.intro); exact ⟨⟨j', by omega, by go_num, HG⟩, rfl⟩, by simp [intOf]⟩
        · obtain rfl : j = 0 := by omega
          have HG : Hid (∃ P', Rc B (n + 3) 1500 P P' ∧ PlTo w wr y col k P') := ⟨R, hR1, PlTo.trans hS (PlTo.refl hL)⟩
          clear hL hS hR1 hC HP
          go_wp2_with fail
          go_end0
          exact ⟨rfl, HG.out⟩
end Go.Proofs.Ytjhihliciadipaa
