import Derived.Test.YtjhihliciadipaaK18
set_option linter.unusedVariables false
set_option linter.unusedSimpArgs false
set_option linter.unnecessarySimpa false
namespace Go.Proofs.Ytjhihliciadipaa
open Go.RowKit

def bang : ByteArray := { data := #[33] }
def jobK (P : Pl) (l : List Int) : Fe := P.jobs.getD (mirK P (numK l 1)) noFe
/-- What an honest mirror replies in a step. -/
def honR (P : Pl) (l : List Int) : Rp := honK P.st.b (jobK P l) (if (jobK P l).tag = 0 ∨ pickK (numK l 2) 6 = 0 then 1 + pickK (numK l 3) 5 else (jobK P l).tag)
def badR (P : Pl) (l : List Int) : Rp := ⟨(jobK P l).tag, (jobK P l).tot, (jobK P l).off, objK (jobK P l).path (jobK P l).tag 0 P.st.b.toNat ++ bang⟩
def stepPl (P : Pl) (l : List Int) (r : Rp) : Pl :=
  if pickK (numK l 0) 8 = 0 then askPl P (pickK (numK l 1) 4).toNat (txt (rangeL (numK l 2) (numK l 3) ((numK l 3).tdiv 70)))
  else if pickK (numK l 0) 8 = 1 ∨ pickK (numK l 0) 8 = 2 then (nextPl P (mirK P (numK l 1))).1
  else if pickK (numK l 0) 8 = 3 ∨ pickK (numK l 0) 8 = 4 then rpPl P (mirK P (numK l 1)) r
  else if pickK (numK l 0) 8 = 5 then (if pickK (numK l 2) 2 = 0 then flPl P (mirK P (numK l 1)) else rpPl P (mirK P (numK l 1)) (badR P l))
  else takePl P (numK l 1) (numK l 2)

theorem rp_st (P : Pl) (m : Nat) (r : Rp) : (rpPl P m r).st = P.st := by unfold rpPl; split <;> rfl
theorem rp_cB {w : World} {y k m : Nat} {col : Nat → Nat} {P : Pl} {r : Rp} {v : Vs} {V : Pv} (h : PlAt w y col k ((rpPl P m r).lay v) V) : w.cell? ⟨y, 2, none⟩ = some (.int .i64 P.st.b) := by
  have := h.cSt 2 (by omega)
  rw [this]
  show some (Value.int .i64 (rpPl P m r).st.b) = _
  rw [rp_st]
theorem box4s {w1 w5 : World} {b : Nat} {T : TypeId} {x0 x1 x2 x3 : Value} (hE : Ext w1 w5) (hb : w1.heap.size ≤ b) (hB : Blk w5 b T #[x0, x1, x2, x3]) (a c d e : Value) :
    Ext w1 ((((w5.setCell ⟨b, 0, none⟩ a).setCell ⟨b, 1, none⟩ c).setCell ⟨b, 2, none⟩ d).setCell ⟨b, 3, none⟩ e) ∧ Blk ((((w5.setCell ⟨b, 0, none⟩ a).setCell ⟨b, 1, none⟩ c).setCell ⟨b, 2, none⟩ d).setCell ⟨b, 3, none⟩ e) b T #[a, c, d, e] :=
  ⟨Below.setCell (Below.setCell (Below.setCell (Below.setCell hE hb _) hb _) hb _) hb _, (((hB.set 0 a).set 1 c).set 2 d).set 3 e⟩
theorem rangeL_len (a b c : Int) : (rangeL a b c).length ≤ 100 := by
  unfold rangeL
  have d1 := decL_len (pickK b 70).toNat
  have d2 := decL_len ((pickK b 70).toNat + (pickK c 70).toNat)
  have d3 := decL_len (pickK c 70).toNat
  have d4 := decL_len ((pickK b 70).toNat + (pickK c 70).toNat + 1)
  simp only
  split
  · simp [bytesL]; omega
  · split
    · simp [bytesL]; omega
    · split
      · simp [bytesL]; omega
      · split
        · simp [bytesL]; omega
        · simp

set_option maxRecDepth 100000 in
set_option maxHeartbeats 4000000 in
theorem step_any (y : Nat) (col : Nat → Nat) (k : Nat) (K : Kn) (n : Nat) (P : Pl) (V : Pv) (l : List Int) (v : Value) (lies : Bool) (w : World) (h : PlAt w y col k P V) (hI : PI K n P) (hK : KnOk K P.g.s.blk) (hn : n ≤ 9000000000000) (hs : P.sent.length ≤ 3000000000000) (hk1 : 1 ≤ k)
    (hv : IntsAt w v l) (hl : l.length ≤ 17592186044416) (hi : ∀ x ∈ l, I64 x) :
    Calls Try.prog 45 #[.pointer (some ⟨y, 0, none⟩), v, .bool lies] w fun e w' => e = .returned (.tuple #[]) ∧ ∃ r : Rp, r.body.size ≤ 1000 ∧ (lies = false → r = honR P l) ∧ PlTo w w' y col k (stepPl P l r) := by
  have hst := hI.j.st
  have B1 := hI.si.fair.B1
  have B2 := hI.si.fair.B2
  rw [← hst.2.1] at B1 B2
  obtain ⟨hm, hm3, hmm, m1, m2⟩ := mirK_bd hI (numK l 1)
  obtain ⟨f, hf⟩ : ∃ f, P.jobs[mirK P (numK l 1)]? = some f := ⟨_, List.getElem?_eq_getElem (by rw [hI.nj]; exact hm3)⟩
  have hjf : jobK P l = f := by unfold jobK; simp [hf]
  have hJ := hI.jo f (List.mem_of_getElem? hf)
  have N0 := hide (fun w h => numK_any l v 0 w h hl (by omega))
  have N1 := hide (fun w h => numK_any l v 1 w h hl (by omega))
  have N2 := hide (fun w h => numK_any l v 2 w h hl (by omega))
  have N3 := hide (fun w h => numK_any l v 3 w h hl (by omega))
  have i0 := numK_i64 hi 0
  have i1 := numK_i64 hi 1
  have i2 := numK_i64 hi 2
  have i3 := numK_i64 hi 3
  have HS : Hid (∀ r, stepPl P l r = if pickK (numK l 0) 8 = 0 then askPl P (pickK (numK l 1) 4).toNat (txt (rangeL (numK l 2) (numK l 3) ((numK l 3).tdiv 70)))
    else if pickK (numK l 0) 8 = 1 ∨ pickK (numK l 0) 8 = 2 then (nextPl P (mirK P (numK l 1))).1
    else if pickK (numK l 0) 8 = 3 ∨ pickK (numK l 0) 8 = 4 then rpPl P (mirK P (numK l 1)) r
    else if pickK (numK l 0) 8 = 5 then (if pickK (numK l 2) 2 = 0 then flPl P (mirK P (numK l 1)) else rpPl P (mirK P (numK l 1)) (badR P l))
    else takePl P (numK l 1) (numK l 2)) := fun r => rfl
  have HH : Hid (honR P l = honK P.st.b f (if f.tag = 0 ∨ pickK (numK l 2) 6 = 0 then 1 + pickK (numK l 3) 5 else f.tag)) := by show _ = _; unfold honR; rw [hjf]
  have HB : Hid (badR P l = ⟨f.tag, f.tot, f.off, objK f.path f.tag 0 P.st.b.toNat ++ bang⟩) := by show _ = _; unfold badR; rw [hjf]
  generalize stepPl P l = sp at *
  generalize honR P l = hr at *
  generalize badR P l = br at *
  generalize numK l 0 = x0 at *
  generalize numK l 1 = x1 at *
  generalize numK l 2 = x2 at *
  generalize numK l 3 = x3 at *
  have HNX := hide (fun (w' : World) (col' : Nat → Nat) (h' : PlAt w' y col' k P V) => next_any y col' k K n P V x1 w' h' hI hK i1)
  generalize mirK P x1 = m at *
  clear hjf
  have c1 : w.cell? ⟨y, 1, none⟩ = some (.int .i64 P.st.m) := h.cSt 1 (by omega)
  have j0 : w.cell? ⟨y, 6 + m * 5, none⟩ = some (.int .i64 f.path) := h.cJob m 0 f hf (by omega)
  have j1 : w.cell? ⟨y, 6 + m * 5 + 1, none⟩ = some (.int .i64 f.tag) := by rw [Nat.add_assoc]; exact h.cJob m 1 f hf (by omega)
  have j2 : w.cell? ⟨y, 6 + m * 5 + 2, none⟩ = some (.int .i64 f.tot) := by rw [Nat.add_assoc]; exact h.cJob m 2 f hf (by omega)
  have j3 : w.cell? ⟨y, 6 + m * 5 + 3, none⟩ = some (.int .i64 f.off) := by rw [Nat.add_assoc]; exact h.cJob m 3 f hf (by omega)
  have j4 : w.cell? ⟨y, 6 + m * 5 + 4, none⟩ = some (.int .i64 f.len) := by rw [Nat.add_assoc]; exact h.cJob m 4 f hf (by omega)
  have PKm := hide (pickK_any x1 P.st.m w i1 m1 (by omega))
  rw [hm] at PKm
  have PK8 := hide (fun w => pickK_any x0 8 w i0 (by omega) (by omega))
  have k8 := pickK_bd x0 8 (by omega)
  generalize pickK x0 8 = kd at *
  have hm3' : (m : Int) < 3 := by omega
  have HI := hide hI
  have HV := hide hv
  have HHp := hide h
  have HF := hide hf
  obtain ⟨fp, ft, fo, ff, fl⟩ := f
  simp only at j0 j1 j2 j3 j4
  have hbx := Blk.new w 32 #[.int .i64 fp, .int .i64 ft, .int .i64 fo, .int .i64 ff, .int .i64 fl]
  have hE1 := Ext.new w (.cells #[.int .i64 fp, .int .i64 ft, .int .i64 fo, .int .i64 ff, .int .i64 fl] 32)
  have hhr : hr.body.size ≤ 1000 := by
    rw [HH.out]
    show (objK _ _ _ _).data.size ≤ 1000
    simp only [objK, List.size_toArray, objL_len]
    unfold objN; omega
  have HEX : Hid (Ext w (w.alloc (.cells #[.int .i64 fp, .int .i64 ft, .int .i64 fo, .int .i64 ff, .int .i64 fl] 32))) := hE1
  have HAt : Hid (PlAt (w.alloc (.cells #[.int .i64 fp, .int .i64 ft, .int .i64 fo, .int .i64 ff, .int .i64 fl] 32)) y (recolK w col 0) k P V) := h.ext hE1 0
  have HFI : Hid (∀ w' r, r.body.size ≤ 1000 → (lies = false → r = hr) → PlTo (w.alloc (.cells #[.int .i64 fp, .int .i64 ft, .int .i64 fo, .int .i64 ff, .int .i64 fl] 32)) w' y (recolK w col 0) k (sp r) → ∃ r : Rp, r.body.size ≤ 1000 ∧ (lies = false → r = hr) ∧ PlTo w w' y col k (sp r)) :=
    fun w' r a b c => ⟨r, a, b, PlTo.trans (StK.ext hE1 0) c⟩
  have HV1 : Hid (IntsAt (w.alloc (.cells #[.int .i64 fp, .int .i64 ft, .int .i64 fo, .int .i64 ff, .int .i64 fl] 32)) v l) := hv.ext hE1
  have e0 : (w.alloc (.cells #[.int .i64 fp, .int .i64 ft, .int .i64 fo, .int .i64 ff, .int .i64 fl] 32)).cell? ⟨w.heap.size, 0, none⟩ = some (.int .i64 fp) := hbx.cell 0
  have e1 : (w.alloc (.cells #[.int .i64 fp, .int .i64 ft, .int .i64 fo, .int .i64 ff, .int .i64 fl] 32)).cell? ⟨w.heap.size, 1, none⟩ = some (.int .i64 ft) := hbx.cell 1
  have e2 : (w.alloc (.cells #[.int .i64 fp, .int .i64 ft, .int .i64 fo, .int .i64 ff, .int .i64 fl] 32)).cell? ⟨w.heap.size, 2, none⟩ = some (.int .i64 fo) := hbx.cell 2
  have e3 : (w.alloc (.cells #[.int .i64 fp, .int .i64 ft, .int .i64 fo, .int .i64 ff, .int .i64 fl] 32)).cell? ⟨w.heap.size, 3, none⟩ = some (.int .i64 ff) := hbx.cell 3
  have e4 : (w.alloc (.cells #[.int .i64 fp, .int .i64 ft, .int .i64 fo, .int .i64 ff, .int .i64 fl] 32)).cell? ⟨w.heap.size, 4, none⟩ = some (.int .i64 fl) := hbx.cell 4
  have HBX := hide hbx
  obtain ⟨qx, iq, qq⟩ : ∃ qx, I64 qx ∧ Go.RowKit.wrap64 (x3.tdiv 70) = qx ∧ x3.tdiv 70 = qx := ⟨_, tdiv_i64 i3 70 (by omega), Go.IntWalk.wrap64_in _ (by have ib := tdiv_i64 i3 70 (by omega); have := ib.lo; have := ib.hi; omega), rfl⟩
  obtain ⟨qq, hqx⟩ := qq
  have HR := hide (fun w => ranges_any x2 x3 qx w i2 i3 iq)
  rw [hqx] at HS
  have HRL : (rangeL x2 x3 qx).length ≤ 100 := rangeL_len _ _ _
  generalize rangeL x2 x3 qx = rl at *
  have HTK := hide (fun (w' : World) (col' : Nat → Nat) (h' : PlAt w' y col' k P V) => ytake_any y col' k P V x1 x2 w' h' HI.out.ok i1 i2 HI.out.taken_le (by have := HI.out.an; omega))
  have HFL := hide (fun (w' : World) (col' : Nat → Nat) (h' : PlAt w' y col' k P V) => yfail_any y col' k K n P V m w' h' HI.out hmm)
  have HRP := hide (fun (w' : World) (col' : Nat → Nat) (h' : PlAt w' y col' k P V) (r : Rp) (hb : r.body.size ≤ 1000) => yreply_any y col' k K n P V m r w' h' HI.out hmm (by omega) hs)
  have PK4 := hide (fun w => pickK_any x1 4 w i1 (by omega) (by omega))
  have k4 := pickK_bd x1 4 (by omega)
  generalize pickK x1 4 = pa at *
  obtain ⟨pn, rfl⟩ := Int.eq_ofNat_of_zero_le k4.1
  rw [Int.toNat_natCast] at HS
  have HAK := hide (fun (w' : World) (col' : Nat → Nat) (h' : PlAt w' y col' k P V) => yask_any y col' k P V pn (txt rl) w' h' HI.out.ok (by omega) (by rw [txt_size]; omega))
  have PK2 := hide (fun w => pickK_any x2 2 w i2 (by omega) (by omega))
  have k2 := pickK_bd x2 2 (by omega)
  generalize pickK x2 2 = x22 at *
  have PK6 := hide (fun w => pickK_any x2 6 w i2 (by omega) (by omega))
  generalize pickK x2 6 = x26 at *
  have PK5 := hide (fun w => pickK_any x3 5 w i3 (by omega) (by omega))
  have k5 := pickK_bd x3 5 (by omega)
  generalize pickK x3 5 = x35 at *
  clear hI hv h hf hst hmm hm hqx
  go_enter Try.func45, Try.ntmps45
  go_upto_region 1 with (go_at_call 47; refine (N1.out w HV.out).mono ?_; rintro e w1 ⟨rfl, hw1⟩; have hw1 := hw1.symm; subst hw1)
  go_upto_region 2 with (go_at_call 47; refine (N2.out w HV.out).mono ?_; rintro e w1 ⟨rfl, hw1⟩; have hw1 := hw1.symm; subst hw1)
  go_upto_region 3 with (go_at_call 47; refine (N3.out w HV.out).mono ?_; rintro e w1 ⟨rfl, hw1⟩; have hw1 := hw1.symm; subst hw1)
  go_upto_region 5 with (go_at_call 10; refine PKm.out.mono ?_; rintro e w1 ⟨rfl, hw1⟩; have hw1 := hw1.symm; subst hw1)
  generalize w.alloc (.cells #[.int .i64 fp, .int .i64 ft, .int .i64 fo, .int .i64 ff, .int .i64 fl] 32) = w1 at *
  have hc0 : recolK w col 0 w.heap.size = 0 := recolK_new (Nat.le_refl _)
  generalize recolK w col 0 = col1 at *
  clear c1 j0 j1 j2 j3 j4 hbx hE1 N1 N2 N3 PKm HHp HV
  go_upto_region 7 with (first | (go_at_call 47; refine (N0.out w1 HV1.out).mono ?_; rintro e w2 ⟨rfl, hw2⟩; have hw2 := hw2.symm; subst hw2) | (go_at_call 10; refine (PK8.out w1).mono ?_; rintro e w2 ⟨rfl, hw2⟩; have hw2 := hw2.symm; subst hw2))
  have hkd : kd = 0 ∨ kd = 1 ∨ kd = 2 ∨ kd = 3 ∨ kd = 4 ∨ kd = 5 ∨ kd = 6 ∨ kd = 7 := by omega
  rcases hkd with rfl | rfl | rfl | rfl | rfl | rfl | rfl | rfl
  · have hS : ∀ r, sp r = askPl P pn (txt rl) := fun r => by rw [HS.out r]; simp
    go_upto_region 9 with (go_at_call 11; refine (HR.out _).mono ?_; rintro e w2 ⟨rfl, hw2⟩; have hw2 := hw2.symm; subst hw2)
    go_wp2_with (first | (go_at_call 10; refine (PK4.out w1).mono ?_; rintro e w2 ⟨rfl, hw2⟩; have hw2 := hw2.symm; subst hw2) | (go_at_call 12; refine (HAK.out w1 _ HAt.out).mono ?_; rintro e w2 ⟨rfl, hT⟩))
    go_end0
    exact ⟨rfl, HFI.out _ hr hhr (fun _ => rfl) (by rw [hS]; exact hT)⟩
  · have hS : ∀ r, sp r = (nextPl P m).1 := fun r => by rw [HS.out r]; simp
    go_wp2_with (go_at_call 13; refine (HNX.out w1 _ HAt.out).mono ?_; rintro e w2 ⟨rfl, hT⟩)
    go_end0
    exact ⟨rfl, HFI.out _ hr hhr (fun _ => rfl) (by rw [hS]; exact hT)⟩
  · have hS : ∀ r, sp r = (nextPl P m).1 := fun r => by rw [HS.out r]; simp
    go_wp2_with (go_at_call 13; refine (HNX.out w1 _ HAt.out).mono ?_; rintro e w2 ⟨rfl, hT⟩)
    go_end0
    exact ⟨rfl, HFI.out _ hr hhr (fun _ => rfl) (by rw [hS]; exact hT)⟩
  · have hS : ∀ r, sp r = rpPl P m r := fun r => by rw [HS.out r]; simp
    clear HS
    have HON := hide (fun (w' : World) (col' : Nat → Nat) (h' : PlAt w' y col' k P V) (tag : Int) (a : 0 ≤ tag) (b : tag ≤ 99) => honest_any y col' k P V ⟨fp, ft, fo, ff, fl⟩ tag w' h' B1 B2 hJ.p0 hJ.p1 a b hJ.o0 (by have := hJ.o1; omega))
    have HLI := hide (fun (w' : World) (col' : Nat → Nat) (h' : PlAt w' y col' k P V) => lie_any y col' k P V ⟨fp, ft, fo, ff, fl⟩ x2 x3 w' h' B1 B2 hJ i2 i3)
    have t0 := hJ.t0
    have t1 := hJ.t1
    simp only at t0 t1
    obtain ⟨bb, HBB⟩ : ∃ bb, Hid (bb = decide (ft = 0 ∨ x26 = 0)) := ⟨_, rfl⟩
    have HH2 : Hid (hr = honK P.st.b ⟨fp, ft, fo, ff, fl⟩ (if bb then 1 + x35 else ft)) := by
      show _ = _
      rw [HH.out, HBB.out]; simp
    obtain ⟨ho, hho⟩ : ∃ ho : Int → Rp, ho = honK P.st.b ⟨fp, ft, fo, ff, fl⟩ := ⟨_, rfl⟩
    rw [← hho] at HON HH2
    clear HH hho HB
    unfold rpAgg repAgg feAgg fetAgg at HON
    unfold feAgg fetAgg at HLI
    simp only at HON HLI
    go_upto_region 16 with (go_at_call 15; refine (HON.out w1 _ HAt.out ft t0 t1).mono ?_; rintro e w2 ⟨rfl, hE2⟩)
    have hB3 := Blk.new w2 42 #[.int .i64 (ho ft).tag, .int .i64 (ho ft).tot, .int .i64 (ho ft).off, .string (ho ft).body]
    have hE3 := Ext.trans' hE2 (Ext.new w2 (.cells #[.int .i64 (ho ft).tag, .int .i64 (ho ft).tot, .int .i64 (ho ft).off, .string (ho ft).body] 42))
    generalize w2.alloc (.cells #[.int .i64 (ho ft).tag, .int .i64 (ho ft).tot, .int .i64 (ho ft).off, .string (ho ft).body] 42) = w3 at *
    have g1 := ext_cell hE3 e1
    have hsz2 : w1.heap.size ≤ w2.heap.size := hE2.size
    go_cut [72] (fun v wx => v = .bool bb ∧ wx = w3)
    case first =>
      by_cases q1 : ft = 0
      · have HD : bb = true := by have := HBB.out; simpa [q1] using this
        subst q1 HD
        go_wp2_with fail
        go_meet
        exact ⟨rfl, rfl⟩
      · have q1' : (ft == 0) = false := by simpa using q1
        have HD : Hid (bb = (x26 == 0)) := by show _ = _; rw [HBB.out]; by_cases q : x26 = 0 <;> simp [q1, q]
        go_wp2_with (go_at_call 10; refine (PK6.out _).mono ?_; rintro e w2 ⟨rfl, hw2⟩; have hw2 := hw2.symm; subst hw2)
        go_meet
        exact ⟨by rw [HD.out], rfl⟩
    case rest =>
      obtain ⟨rfl, hwc⟩ := hcut
      subst hwc
      go_upto_if 72 with (fail)
      go_cut [0] (fun v wx => v = .pointer (some ⟨y, 0, none⟩) ∧ Ext w1 wx ∧ Blk wx w2.heap.size 42 (rpV hr).toArray)
      case first =>
        cases bb
        · have hhf : hr = ho ft := by rw [HH2.out]; simp
          go_wp2_with fail
          go_meet
          exact ⟨rfl, hE3, by rw [hhf]; exact hB3⟩
        · have hhf : hr = ho (1 + x35) := by rw [HH2.out]; simp
          have a0 := ext_cell hE3 e0
          have a2 := ext_cell hE3 e2
          have a3 := ext_cell hE3 e3
          have a4 := ext_cell hE3 e4
          have hlt2 : w.heap.size < w2.heap.size := by have := HBX.out.lt; omega
          have hnb1 : ¬ w.heap.size = w2.heap.size := by omega
          have hnb2 : ¬ w2.heap.size = w.heap.size := by omega
          have HB3 := hide hB3
          have HON2 := hide (fun w' (hx : Ext w1 w') => HON.out w' _ (HAt.out.ext hx 0) (1 + x35) (by omega) (by omega))
          have hwr : IntKind.i64.wrap (1 + x35) = 1 + x35 := (Go.IntWalk.i64_left _).trans (Go.IntWalk.wrap64_in _ (by omega))
          generalize ho (1 + x35) = hh at *
          go_upto_region 17 with (fail)
          go_region_held3 (fun w' => w'.cell? ⟨w.heap.size, 0, none⟩ = some (.int .i64 fp) ∧ w'.cell? ⟨w.heap.size, 1, none⟩ = some (.int .i64 ft) ∧ w'.cell? ⟨w.heap.size, 2, none⟩ = some (.int .i64 fo) ∧ w'.cell? ⟨w.heap.size, 3, none⟩ = some (.int .i64 ff) ∧ w'.cell? ⟨w.heap.size, 4, none⟩ = some (.int .i64 fl)) (go_keep)
            ((first
              | (go_at_call 10
                 refine (PK5.out _).mono ?_
                 rintro e w4 ⟨rfl, hw4⟩
                 have hw4 := hw4.symm
                 subst hw4)
              | (go_at_call 15
                 refine (HON2.out _ (by first | exact hE3 | exact Below.drew hE3)).mono ?_
                 rintro e w5 ⟨rfl, hE5⟩
                 have hE5' := hE5.undrew
                 have e0' := ext_cell hE5' a0
                 have e1' := ext_cell hE5' g1
                 have e2' := ext_cell hE5' a2
                 have e3' := ext_cell hE5' a3
                 have e4' := ext_cell hE5' a4
                 have hB5 := HB3.out.ext hE5'
                 have s0 : w5.cell? ⟨w2.heap.size, 0, none⟩ = some (.int .i64 (ho ft).tag) := hB5.cell 0
                 have s1 : w5.cell? ⟨w2.heap.size, 1, none⟩ = some (.int .i64 (ho ft).tot) := hB5.cell 1
                 have s2 : w5.cell? ⟨w2.heap.size, 2, none⟩ = some (.int .i64 (ho ft).off) := hB5.cell 2
                 have s3 : w5.cell? ⟨w2.heap.size, 3, none⟩ = some (.string (ho ft).body) := hB5.cell 3
                 have sf := hB5.frozen)))
          all_goals go_wp2_with fail
          all_goals go_meet
          all_goals
            have h4 := box4s (Ext.trans' hE3 hE5') hsz2 hB5 (.int .i64 hh.tag) (.int .i64 hh.tot) (.int .i64 hh.off) (.string hh.body)
            exact ⟨rfl, h4.1, by rw [hhf]; exact h4.2⟩
      case rest =>
        obtain ⟨rfl, hE4, hB4⟩ := hcut
        clear hE3 hB3 HON HH2
        go_upto_if 79 with (fail)
        go_cut [0] (fun v wx => v = .pointer (some ⟨y, 0, none⟩) ∧ ∃ r : Rp, r.body.size ≤ 1000 ∧ (lies = false → r = hr) ∧ Ext w1 wx ∧ Blk wx w2.heap.size 42 (rpV r).toArray)
        case first =>
          cases lies
          · go_wp2_with fail
            go_meet
            exact ⟨rfl, hr, hhr, fun _ => rfl, hE4, hB4⟩
          · have hBx4 := HBX.out.ext hE4
            generalize wc = w6 at *
            have a0 : w6.cell? ⟨w.heap.size, 0, none⟩ = some (.int .i64 fp) := hBx4.cell 0
            have a1 : w6.cell? ⟨w.heap.size, 1, none⟩ = some (.int .i64 ft) := hBx4.cell 1
            have a2 : w6.cell? ⟨w.heap.size, 2, none⟩ = some (.int .i64 fo) := hBx4.cell 2
            have a3 : w6.cell? ⟨w.heap.size, 3, none⟩ = some (.int .i64 ff) := hBx4.cell 3
            have a4 : w6.cell? ⟨w.heap.size, 4, none⟩ = some (.int .i64 fl) := hBx4.cell 4
            have HL6 := HLI.out w6 _ (HAt.out.ext hE4 0)
            clear HLI hBx4
            go_wp2_with fail
            refine HL6.mono ?_
            rintro e w7 ⟨⟨rt, ro, rf, rb⟩, hrb, rfl, hE7⟩
            unfold rpAgg repAgg
            simp only
            have hB7 := hB4.ext hE7
            have s0 : w7.cell? ⟨w2.heap.size, 0, none⟩ = some (.int .i64 hr.tag) := hB7.cell 0
            have s1 : w7.cell? ⟨w2.heap.size, 1, none⟩ = some (.int .i64 hr.tot) := hB7.cell 1
            have s2 : w7.cell? ⟨w2.heap.size, 2, none⟩ = some (.int .i64 hr.off) := hB7.cell 2
            have s3 : w7.cell? ⟨w2.heap.size, 3, none⟩ = some (.string hr.body) := hB7.cell 3
            have sf := hB7.frozen
            have h4 := hide (box4s (Ext.trans' hE4 hE7) hsz2 hB7 (.int .i64 rt) (.int .i64 ro) (.int .i64 rf) (.string rb))
            clear HL6 hB7 hB4 a0 a1 a2 a3 a4
            go_wp2_with fail
            go_meet
            exact ⟨rfl, ⟨rt, ro, rf, rb⟩, hrb, (fun e => by cases e), h4.out.1, h4.out.2⟩
        case rest =>
          obtain ⟨rfl, ⟨rt, ro, rf, rb⟩, hrb, hrl, hE7, hB7⟩ := hcut
          generalize wc = w8 at *
          have s0 : w8.cell? ⟨w2.heap.size, 0, none⟩ = some (.int .i64 rt) := hB7.cell 0
          have s1 : w8.cell? ⟨w2.heap.size, 1, none⟩ = some (.int .i64 ro) := hB7.cell 1
          have s2 : w8.cell? ⟨w2.heap.size, 2, none⟩ = some (.int .i64 rf) := hB7.cell 2
          have s3 : w8.cell? ⟨w2.heap.size, 3, none⟩ = some (.string rb) := hB7.cell 3
          have HR8 := HRP.out w8 _ (HAt.out.ext hE7 0) ⟨rt, ro, rf, rb⟩ hrb
          unfold rpAgg repAgg at HR8
          simp only at HR8
          have HST := hide (StK.ext (col := col1) (k := k) hE7 0)
          have HRL2 := hide hrl
          clear hB7 HRP HLI hrl hE7
          go_wp2_with fail
          refine HR8.mono ?_
          rintro e w9 ⟨rfl, hT⟩
          go_wp2_with fail
          go_end0
          exact ⟨rfl, HFI.out _ ⟨rt, ro, rf, rb⟩ hrb HRL2.out (by rw [hS]; exact PlTo.trans HST.out hT)⟩
  · have hS : ∀ r, sp r = rpPl P m r := fun r => by rw [HS.out r]; simp
    clear HS
    have HON := hide (fun (w' : World) (col' : Nat → Nat) (h' : PlAt w' y col' k P V) (tag : Int) (a : 0 ≤ tag) (b : tag ≤ 99) => honest_any y col' k P V ⟨fp, ft, fo, ff, fl⟩ tag w' h' B1 B2 hJ.p0 hJ.p1 a b hJ.o0 (by have := hJ.o1; omega))
    have HLI := hide (fun (w' : World) (col' : Nat → Nat) (h' : PlAt w' y col' k P V) => lie_any y col' k P V ⟨fp, ft, fo, ff, fl⟩ x2 x3 w' h' B1 B2 hJ i2 i3)
    have t0 := hJ.t0
    have t1 := hJ.t1
    simp only at t0 t1
    obtain ⟨bb, HBB⟩ : ∃ bb, Hid (bb = decide (ft = 0 ∨ x26 = 0)) := ⟨_, rfl⟩
    have HH2 : Hid (hr = honK P.st.b ⟨fp, ft, fo, ff, fl⟩ (if bb then 1 + x35 else ft)) := by
      show _ = _
      rw [HH.out, HBB.out]; simp
    obtain ⟨ho, hho⟩ : ∃ ho : Int → Rp, ho = honK P.st.b ⟨fp, ft, fo, ff, fl⟩ := ⟨_, rfl⟩
    rw [← hho] at HON HH2
    clear HH hho HB
    unfold rpAgg repAgg feAgg fetAgg at HON
    unfold feAgg fetAgg at HLI
    simp only at HON HLI
    go_upto_region 16 with (go_at_call 15; refine (HON.out w1 _ HAt.out ft t0 t1).mono ?_; rintro e w2 ⟨rfl, hE2⟩)
    have hB3 := Blk.new w2 42 #[.int .i64 (ho ft).tag, .int .i64 (ho ft).tot, .int .i64 (ho ft).off, .string (ho ft).body]
    have hE3 := Ext.trans' hE2 (Ext.new w2 (.cells #[.int .i64 (ho ft).tag, .int .i64 (ho ft).tot, .int .i64 (ho ft).off, .string (ho ft).body] 42))
    generalize w2.alloc (.cells #[.int .i64 (ho ft).tag, .int .i64 (ho ft).tot, .int .i64 (ho ft).off, .string (ho ft).body] 42) = w3 at *
    have g1 := ext_cell hE3 e1
    have hsz2 : w1.heap.size ≤ w2.heap.size := hE2.size
    go_cut [72] (fun v wx => v = .bool bb ∧ wx = w3)
    case first =>
      by_cases q1 : ft = 0
      · have HD : bb = true := by have := HBB.out; simpa [q1] using this
        subst q1 HD
        go_wp2_with fail
        go_meet
        exact ⟨rfl, rfl⟩
      · have q1' : (ft == 0) = false := by simpa using q1
        have HD : Hid (bb = (x26 == 0)) := by show _ = _; rw [HBB.out]; by_cases q : x26 = 0 <;> simp [q1, q]
        go_wp2_with (go_at_call 10; refine (PK6.out _).mono ?_; rintro e w2 ⟨rfl, hw2⟩; have hw2 := hw2.symm; subst hw2)
        go_meet
        exact ⟨by rw [HD.out], rfl⟩
    case rest =>
      obtain ⟨rfl, hwc⟩ := hcut
      subst hwc
      go_upto_if 72 with (fail)
      go_cut [0] (fun v wx => v = .pointer (some ⟨y, 0, none⟩) ∧ Ext w1 wx ∧ Blk wx w2.heap.size 42 (rpV hr).toArray)
      case first =>
        cases bb
        · have hhf : hr = ho ft := by rw [HH2.out]; simp
          go_wp2_with fail
          go_meet
          exact ⟨rfl, hE3, by rw [hhf]; exact hB3⟩
        · have hhf : hr = ho (1 + x35) := by rw [HH2.out]; simp
          have a0 := ext_cell hE3 e0
          have a2 := ext_cell hE3 e2
          have a3 := ext_cell hE3 e3
          have a4 := ext_cell hE3 e4
          have hlt2 : w.heap.size < w2.heap.size := by have := HBX.out.lt; omega
          have hnb1 : ¬ w.heap.size = w2.heap.size := by omega
          have hnb2 : ¬ w2.heap.size = w.heap.size := by omega
          have HB3 := hide hB3
          have HON2 := hide (fun w' (hx : Ext w1 w') => HON.out w' _ (HAt.out.ext hx 0) (1 + x35) (by omega) (by omega))
          have hwr : IntKind.i64.wrap (1 + x35) = 1 + x35 := (Go.IntWalk.i64_left _).trans (Go.IntWalk.wrap64_in _ (by omega))
          generalize ho (1 + x35) = hh at *
          go_upto_region 17 with (fail)
          go_region_held3 (fun w' => w'.cell? ⟨w.heap.size, 0, none⟩ = some (.int .i64 fp) ∧ w'.cell? ⟨w.heap.size, 1, none⟩ = some (.int .i64 ft) ∧ w'.cell? ⟨w.heap.size, 2, none⟩ = some (.int .i64 fo) ∧ w'.cell? ⟨w.heap.size, 3, none⟩ = some (.int .i64 ff) ∧ w'.cell? ⟨w.heap.size, 4, none⟩ = some (.int .i64 fl)) (go_keep)
            ((first
              | (go_at_call 10
                 refine (PK5.out _).mono ?_
                 rintro e w4 ⟨rfl, hw4⟩
                 have hw4 := hw4.symm
                 subst hw4)
              | (go_at_call 15
                 refine (HON2.out _ (by first | exact hE3 | exact Below.drew hE3)).mono ?_
                 rintro e w5 ⟨rfl, hE5⟩
                 have hE5' := hE5.undrew
                 have e0' := ext_cell hE5' a0
                 have e1' := ext_cell hE5' g1
                 have e2' := ext_cell hE5' a2
                 have e3' := ext_cell hE5' a3
                 have e4' := ext_cell hE5' a4
                 have hB5 := HB3.out.ext hE5'
                 have s0 : w5.cell? ⟨w2.heap.size, 0, none⟩ = some (.int .i64 (ho ft).tag) := hB5.cell 0
                 have s1 : w5.cell? ⟨w2.heap.size, 1, none⟩ = some (.int .i64 (ho ft).tot) := hB5.cell 1
                 have s2 : w5.cell? ⟨w2.heap.size, 2, none⟩ = some (.int .i64 (ho ft).off) := hB5.cell 2
                 have s3 : w5.cell? ⟨w2.heap.size, 3, none⟩ = some (.string (ho ft).body) := hB5.cell 3
                 have sf := hB5.frozen)))
          all_goals go_wp2_with fail
          all_goals go_meet
          all_goals
            have h4 := box4s (Ext.trans' hE3 hE5') hsz2 hB5 (.int .i64 hh.tag) (.int .i64 hh.tot) (.int .i64 hh.off) (.string hh.body)
            exact ⟨rfl, h4.1, by rw [hhf]; exact h4.2⟩
      case rest =>
        obtain ⟨rfl, hE4, hB4⟩ := hcut
        clear hE3 hB3 HON HH2
        go_upto_if 79 with (fail)
        go_cut [0] (fun v wx => v = .pointer (some ⟨y, 0, none⟩) ∧ ∃ r : Rp, r.body.size ≤ 1000 ∧ (lies = false → r = hr) ∧ Ext w1 wx ∧ Blk wx w2.heap.size 42 (rpV r).toArray)
        case first =>
          cases lies
          · go_wp2_with fail
            go_meet
            exact ⟨rfl, hr, hhr, fun _ => rfl, hE4, hB4⟩
          · have hBx4 := HBX.out.ext hE4
            generalize wc = w6 at *
            have a0 : w6.cell? ⟨w.heap.size, 0, none⟩ = some (.int .i64 fp) := hBx4.cell 0
            have a1 : w6.cell? ⟨w.heap.size, 1, none⟩ = some (.int .i64 ft) := hBx4.cell 1
            have a2 : w6.cell? ⟨w.heap.size, 2, none⟩ = some (.int .i64 fo) := hBx4.cell 2
            have a3 : w6.cell? ⟨w.heap.size, 3, none⟩ = some (.int .i64 ff) := hBx4.cell 3
            have a4 : w6.cell? ⟨w.heap.size, 4, none⟩ = some (.int .i64 fl) := hBx4.cell 4
            have HL6 := HLI.out w6 _ (HAt.out.ext hE4 0)
            clear HLI hBx4
            go_wp2_with fail
            refine HL6.mono ?_
            rintro e w7 ⟨⟨rt, ro, rf, rb⟩, hrb, rfl, hE7⟩
            unfold rpAgg repAgg
            simp only
            have hB7 := hB4.ext hE7
            have s0 : w7.cell? ⟨w2.heap.size, 0, none⟩ = some (.int .i64 hr.tag) := hB7.cell 0
            have s1 : w7.cell? ⟨w2.heap.size, 1, none⟩ = some (.int .i64 hr.tot) := hB7.cell 1
            have s2 : w7.cell? ⟨w2.heap.size, 2, none⟩ = some (.int .i64 hr.off) := hB7.cell 2
            have s3 : w7.cell? ⟨w2.heap.size, 3, none⟩ = some (.string hr.body) := hB7.cell 3
            have sf := hB7.frozen
            have h4 := hide (box4s (Ext.trans' hE4 hE7) hsz2 hB7 (.int .i64 rt) (.int .i64 ro) (.int .i64 rf) (.string rb))
            clear HL6 hB7 hB4 a0 a1 a2 a3 a4
            go_wp2_with fail
            go_meet
            exact ⟨rfl, ⟨rt, ro, rf, rb⟩, hrb, (fun e => by cases e), h4.out.1, h4.out.2⟩
        case rest =>
          obtain ⟨rfl, ⟨rt, ro, rf, rb⟩, hrb, hrl, hE7, hB7⟩ := hcut
          generalize wc = w8 at *
          have s0 : w8.cell? ⟨w2.heap.size, 0, none⟩ = some (.int .i64 rt) := hB7.cell 0
          have s1 : w8.cell? ⟨w2.heap.size, 1, none⟩ = some (.int .i64 ro) := hB7.cell 1
          have s2 : w8.cell? ⟨w2.heap.size, 2, none⟩ = some (.int .i64 rf) := hB7.cell 2
          have s3 : w8.cell? ⟨w2.heap.size, 3, none⟩ = some (.string rb) := hB7.cell 3
          have HR8 := HRP.out w8 _ (HAt.out.ext hE7 0) ⟨rt, ro, rf, rb⟩ hrb
          unfold rpAgg repAgg at HR8
          simp only at HR8
          have HST := hide (StK.ext (col := col1) (k := k) hE7 0)
          have HRL2 := hide hrl
          clear hB7 HRP HLI hrl hE7
          go_wp2_with fail
          refine HR8.mono ?_
          rintro e w9 ⟨rfl, hT⟩
          go_wp2_with fail
          go_end0
          exact ⟨rfl, HFI.out _ ⟨rt, ro, rf, rb⟩ hrb HRL2.out (by rw [hS]; exact PlTo.trans HST.out hT)⟩
  · by_cases q2 : x22 = 0
    · have hS : ∀ r, sp r = flPl P m := fun r => by rw [HS.out r]; simp [q2]
      subst q2
      go_wp2_with (first | (go_at_call 10; refine (PK2.out w1).mono ?_; rintro e w2 ⟨rfl, hw2⟩; have hw2 := hw2.symm; subst hw2) | (go_at_call 22; refine (HFL.out w1 _ HAt.out).mono ?_; rintro e w2 ⟨rfl, hT⟩))
      go_end0
      exact ⟨rfl, HFI.out _ hr hhr (fun _ => rfl) (by rw [hS]; exact hT)⟩
    · have hS : ∀ r, sp r = rpPl P m br := fun r => by rw [HS.out r]; simp [q2]
      have q2' : (x22 == 0) = false := by simpa using q2
      go_upto_region 24 with (go_at_call 10; refine (PK2.out w1).mono ?_; rintro e w2 ⟨rfl, hw2⟩; have hw2 := hw2.symm; subst hw2)
      have cB : w1.cell? ⟨y, 2, none⟩ = some (.int .i64 P.st.b) := HAt.out.cSt 2 (by omega)
      obtain ⟨Bn, hBn⟩ := Int.eq_ofNat_of_zero_le (show 0 ≤ P.st.b by omega)
      rw [hBn] at cB B1 B2 HB
      have HO := hide (object_any fp ft 0 Bn)
      have hbr : br = ⟨ft, fo, ff, objK fp ft 0 Bn ++ bang⟩ := by rw [HB.out]; simp
      have hbs : (objK fp ft 0 Bn).size ≤ 900 := by
        show (objK _ _ _ _).data.size ≤ 900
        simp only [objK, List.size_toArray, objL_len]
        unfold objN; omega
      generalize objK fp ft 0 Bn = ob at *
      have HRB := hide (fun (w' : World) (col' : Nat → Nat) (h' : PlAt w' y col' k P V) => HRP.out w' col' h' br (by rw [hbr]; show (ob ++ bang).size ≤ 1000; rw [app_size]; show ob.size + 1 ≤ 1000; omega))
      unfold rpAgg repAgg at HRB
      rw [hbr] at HRB
      simp only at HRB
      have hjp := hJ.p0
      have hjp1 := hJ.p1
      have hjt := hJ.t0
      have hjt1 := hJ.t1
      simp only at hjp hjp1 hjt hjt1
      have hbsz : ob.size + 1 ≤ 9223372036854775807 := by omega
      have hbsz2 : (ob ++ { data := #[33] }).size ≤ 9223372036854775807 := by rw [app_size]; show ob.size + 1 ≤ _; omega
      have hbsz3 : ¬ 9223372036854775807 < ob.size + 1 := by omega
      have hbsz4 : (ob ++ { data := #[33] }).size = ob.size + 1 := by rw [app_size]; rfl
      have hbsz5 : decide (9223372036854775807 < ob.size + 1) = false := by simp; omega
      clear HS
      go_region_held3 (fun w' => w'.cell? ⟨w.heap.size, 0, none⟩ = some (.int .i64 fp) ∧ w'.cell? ⟨w.heap.size, 1, none⟩ = some (.int .i64 ft) ∧ w'.cell? ⟨w.heap.size, 2, none⟩ = some (.int .i64 fo) ∧ w'.cell? ⟨w.heap.size, 3, none⟩ = some (.int .i64 ff) ∧ w'.cell? ⟨y, 2, none⟩ = some (.int .i64 Bn)) (go_keep)
        ((first
          | (go_at_call 21
             refine (HO.out _ (by omega) (by omega) (by omega) (by omega) (by omega) (by omega)).mono ?_
             rintro e w2 ⟨rfl, hE2⟩
             have e0' := ext_cell hE2.undrew e0
             have e1' := ext_cell hE2.undrew e1
             have e2' := ext_cell hE2.undrew e2
             have e3' := ext_cell hE2.undrew e3
             have cb' := ext_cell hE2.undrew cB)
          | (go_at_call 14
             refine (HRB.out _ _ (HAt.out.ext (by first | exact hE2.undrew | exact Below.drew hE2.undrew) 0)).mono ?_
             rintro e w3 ⟨rfl, hT3⟩
             have HT3 := hide hT3
             obtain ⟨col3, V3, v3, hL3, hS3⟩ := hT3
             have hb3 := (HBX.out.ext (by first | exact hE2.undrew | exact Below.drew hE2.undrew)).chg hS3.chg (by rw [recolK_old HBX.out.lt, hc0]; omega)
             have f0' : w3.cell? ⟨w.heap.size, 0, none⟩ = some (.int .i64 fp) := hb3.cell 0
             have f1' : w3.cell? ⟨w.heap.size, 1, none⟩ = some (.int .i64 ft) := hb3.cell 1
             have f2' : w3.cell? ⟨w.heap.size, 2, none⟩ = some (.int .i64 fo) := hb3.cell 2
             have f3' : w3.cell? ⟨w.heap.size, 3, none⟩ = some (.int .i64 ff) := hb3.cell 3
             have cB3 : w3.cell? ⟨y, 2, none⟩ = some (.int .i64 Bn) := (by rw [← hBn]; exact rp_cB hL3)
             clear hL3 hS3 hb3)))
      all_goals go_wp2_with fail
      all_goals go_end0
      all_goals exact ⟨rfl, HFI.out _ hr hhr (fun _ => rfl) (by rw [hS, hbr]; exact PlTo.trans (StK.ext (by first | exact hE2.undrew | exact Below.drew hE2.undrew) 0) HT3.out)⟩
  · have hS : ∀ r, sp r = takePl P x1 x2 := fun r => by rw [HS.out r]; simp
    go_wp2_with (go_at_call 16; refine (HTK.out w1 _ HAt.out).mono ?_; rintro e w2 ⟨rfl, hT⟩)
    go_end0
    exact ⟨rfl, HFI.out _ hr hhr (fun _ => rfl) (by rw [hS]; exact hT)⟩
  · have hS : ∀ r, sp r = takePl P x1 x2 := fun r => by rw [HS.out r]; simp
    go_wp2_with (go_at_call 16; refine (HTK.out w1 _ HAt.out).mono ?_; rintro e w2 ⟨rfl, hT⟩)
    go_end0
    exact ⟨rfl, HFI.out _ hr hhr (fun _ => rfl) (by rw [hS]; exact hT)⟩
end Go.Proofs.Ytjhihliciadipaa
