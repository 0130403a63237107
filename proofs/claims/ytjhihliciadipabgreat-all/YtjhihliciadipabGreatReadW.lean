import Derived.Test.YtjhihliciadipabGreatWant
set_option linter.unusedVariables false
set_option linter.unusedSimpArgs false
set_option linter.unnecessarySimpa false
namespace Go.Proofs.YtjhihliciadipabGreat
open Go.RowKit

def noSpn : Spn := ⟨false, ByteArray.empty, ByteArray.empty⟩
def readBad (f u : ByteArray) : Bool :=
  !digitsL f || !digitsL u || (f.toList.isEmpty && u.toList.isEmpty) || (!f.toList.isEmpty && !u.toList.isEmpty && decide (valueL u < valueL f))
def read2 (t : ByteArray) : Spn :=
  if signL t < 0 then noSpn
  else if readBad (t.extract 0 (signL t).toNat) (t.extract ((signL t).toNat + 1) t.size) = true then noSpn
  else ⟨true, t.extract 0 (signL t).toNat, t.extract ((signL t).toNat + 1) t.size⟩
def readL (s : ByteArray) : Spn := if s.size < 6 then noSpn else if ((s.extract 0 6).toList == [98, 121, 116, 101, 115, 61]) = true then read2 (s.extract 6 s.size) else noSpn

theorem sign_lt (s : ByteArray) : signL s < s.size ∧ -1 ≤ signL s := by
  unfold signL
  split
  · rename_i i h
    have := (List.findIdx?_eq_some_iff_getElem.1 h).1
    simp at this; omega
  · omega

set_option maxHeartbeats 1000000 in
theorem Read_any (s : ByteArray) (w : World) (hs : s.size ≤ 9223372036854775807) :
    Calls Tryz.prog 45 #[.string s] w fun e w' => e = .returned (.agg #[.bool (readL s).counts, .string (readL s).frm, .string (readL s).til]) ∧ Ext w w' := by
  by_cases h6 : s.size < 6
  · have HR : Hid (readL s = noSpn) := if_pos h6
    go_enter Tryz.func45, Tryz.ntmps45
    go_wp2
    refine bodyPost_ret (v := .agg #[.bool false, .string ByteArray.empty, .string ByteArray.empty]) ?_ rfl ⟨by rw [HR.out]; rfl, ?_⟩
    · simp [results, Tryz.results45, go_sem]; rfl
    · (with_reducible repeat (first | refine Below.drew ?_ | refine Below.alloc ?_ ?_ _ | refine Below.setCell ?_ ?_ _ | exact Below.refl _ _)) <;> simp
  · cases hpb : ((s.extract 0 6).toList == [98, 121, 116, 101, 115, 61])
    · have HR : Hid (readL s = noSpn) := by show _ = _; unfold readL; rw [if_neg h6, if_neg (by rw [hpb]; simp)]
      go_enter Tryz.func45, Tryz.ntmps45
      go_wp2
      refine bodyPost_ret (v := .agg #[.bool false, .string ByteArray.empty, .string ByteArray.empty]) ?_ rfl ⟨by rw [HR.out]; rfl, ?_⟩
      · simp [results, Tryz.results45, go_sem]; rfl
      · (with_reducible repeat (first | refine Below.drew ?_ | refine Below.alloc ?_ ?_ _ | refine Below.setCell ?_ ?_ _ | exact Below.refl _ _)) <;> simp
    · have HR : Hid (readL s = read2 (s.extract 6 s.size)) := by show _ = _; unfold readL; rw [if_neg h6, if_pos hpb]
      have hts : (s.extract 6 s.size).size ≤ 9223372036854775807 := by simp; omega
      go_enter Tryz.func45, Tryz.ntmps45
      go_wp2_with fail
      generalize s.extract 6 s.size = t at *
      refine (sign_any t _ (by unfold maxLen; omega)).mono ?_
      rintro e w' ⟨rfl, rfl⟩
      have hsl := sign_lt t
      have HD : Hid (read2 t = if signL t < 0 then noSpn else if readBad (t.extract 0 (signL t).toNat) (t.extract ((signL t).toNat + 1) t.size) = true then noSpn else ⟨true, t.extract 0 (signL t).toNat, t.extract ((signL t).toNat + 1) t.size⟩) := rfl
      generalize signL t = sg at *
      by_cases hneg : sg < 0
      · go_wp2_with fail
        refine bodyPost_ret (v := .agg #[.bool false, .string ByteArray.empty, .string ByteArray.empty]) ?_ rfl ⟨by rw [HR.out, HD.out, if_pos hneg]; rfl, ?_⟩
        · simp [results, Tryz.results45, go_sem]; rfl
        · (with_reducible repeat (first | refine Below.drew ?_ | refine Below.alloc ?_ ?_ _ | refine Below.setCell ?_ ?_ _ | exact Below.refl _ _)) <;> simp
      · obtain ⟨K, rfl⟩ := Int.eq_ofNat_of_zero_le (show 0 ≤ sg by omega)
        rw [Int.toNat_natCast] at HD
        go_wp2_with fail
        go_region
        go_wp2_with fail
        have hfs : (t.extract 0 K).size ≤ 9223372036854775807 := by simp; omega
        have hus : (t.extract (K + 1) t.size).size ≤ 9223372036854775807 := by simp; omega
        generalize t.extract 0 K = f at *
        generalize t.extract (K + 1) t.size = u at *
        refine (digits_any f _ (by unfold maxLen; omega)).mono ?_
        rintro e w' ⟨rfl, rfl⟩
        go_wp2_with fail
        refine (digits_any u _ (by unfold maxLen; omega)).mono ?_
        rintro e w' ⟨rfl, rfl⟩
        go_wp2_with fail
        refine (value_any f _ (by unfold maxLen; omega)).mono ?_
        rintro e w' ⟨rfl, rfl⟩
        go_wp2_with fail
        refine (value_any u _ (by unfold maxLen; omega)).mono ?_
        rintro e w' ⟨rfl, rfl⟩
        have HB : Hid (readBad f u = (!digitsL f || !digitsL u || (f.toList.isEmpty && u.toList.isEmpty) || (!f.toList.isEmpty && !u.toList.isEmpty && decide (valueL u < valueL f)))) := rfl
        have HD2 : Hid (readL s = if readBad f u = true then noSpn else ⟨true, f, u⟩) := by show _ = _; rw [HR.out, HD.out, if_neg (by omega)]
        clear HR HD hsl hts hfs hus hneg
        generalize valueL f = vf at *
        generalize valueL u = vu at *
        cases hA : digitsL f
        · have HZ : Hid (readL s = noSpn) := by show _ = _; rw [HD2.out, HB.out, hA]; rfl
          go_wp2_with fail
          refine bodyPost_ret (v := .agg #[.bool false, .string ByteArray.empty, .string ByteArray.empty]) ?_ rfl ⟨by rw [HZ.out]; rfl, ?_⟩
          · simp [results, Tryz.results45, go_sem]; rfl
          · (with_reducible repeat (first | refine Below.drew ?_ | refine Below.alloc ?_ ?_ _ | refine Below.setCell ?_ ?_ _ | exact Below.refl _ _)) <;> simp
        cases hBd : digitsL u
        · have HZ : Hid (readL s = noSpn) := by show _ = _; rw [HD2.out, HB.out, hA, hBd]; rfl
          go_wp2_with fail
          refine bodyPost_ret (v := .agg #[.bool false, .string ByteArray.empty, .string ByteArray.empty]) ?_ rfl ⟨by rw [HZ.out]; rfl, ?_⟩
          · simp [results, Tryz.results45, go_sem]; rfl
          · (with_reducible repeat (first | refine Below.drew ?_ | refine Below.alloc ?_ ?_ _ | refine Below.setCell ?_ ?_ _ | exact Below.refl _ _)) <;> simp
        cases hef : f.toList.isEmpty
        all_goals cases heu : u.toList.isEmpty
        all_goals cases hvd : decide (vu < vf)
        all_goals (try have hv1 : vu < vf := of_decide_eq_true hvd)
        all_goals (try have hv2 : vf ≤ vu := Int.not_lt.1 (of_decide_eq_false hvd))
        all_goals
          have HQ : Hid (readL s = if ((true && (f.toList.isEmpty && u.toList.isEmpty)) || (!f.toList.isEmpty && !u.toList.isEmpty && decide (vu < vf))) = true then noSpn else ⟨true, f, u⟩) := by
            show _ = _; rw [HD2.out, HB.out, hA, hBd]; rfl
          clear HD2 HB
          have HV := hide hvd
          clear hvd
          go_wp2_with fail
        all_goals first
          | (refine bodyPost_ret (v := .agg #[.bool (readL s).counts, .string (readL s).frm, .string (readL s).til]) ?_ rfl ⟨rfl, ?_⟩
             · rw [HQ.out, HV.out]; simp [results, Tryz.results45, go_sem, hef, heu, noSpn]; try rfl
             · (with_reducible repeat (first | refine Below.drew ?_ | refine Below.alloc ?_ ?_ _ | refine Below.setCell ?_ ?_ _ | exact Below.refl _ _)) <;> simp)
          | trace_state
end Go.Proofs.YtjhihliciadipabGreat
