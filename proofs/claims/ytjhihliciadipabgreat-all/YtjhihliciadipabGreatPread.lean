import Derived.Test.YtjhihliciadipabGreatPdef
set_option linter.unusedVariables false
set_option linter.unusedSimpArgs false
set_option linter.unnecessarySimpa false
namespace Go.Proofs.YtjhihliciadipabGreat
open Go.RowKit

/-! A range's text, read. -/
def digP (c : UInt8) : Bool := decide (48 ≤ c.toNat) && decide (c.toNat ≤ 57)
def valP (l : List UInt8) : Int := l.foldl (fun n c => n * 10 + ((c.toNat : Int) - 48)) 0
def okP (l : List UInt8) : Bool := decide (1 ≤ l.length) && decide (l.length ≤ 6) && l.all digP
def numP (l : List UInt8) : Int := if okP l then valP l else 0
def dashP (s : ByteArray) : Int := match (s.data.toList.take 7).findIdx? (fun c => c.toNat == 45) with | some i => i | none => -1
def betwP (f u : List UInt8) : Int × Int × Int :=
  if okP f = true ∧ okP u = true ∧ numP f ≤ numP u then (1, numP f, numP u) else if okP f = true ∧ u = [] then (2, numP f, 0) else if f = [] ∧ okP u = true then (3, 0, numP u) else (0, 0, 0)
def readP (s : ByteArray) : Int × Int × Int :=
  if s.size < 6 ∨ s.data.toList.take 6 ≠ [98, 121, 116, 101, 115, 61] then (0, 0, 0) else
    let t := s.extract 6 s.size
    if dashP t < 0 then (0, 0, 0) else betwP (t.data.toList.take (dashP t).toNat) (t.data.toList.drop ((dashP t).toNat + 1))

theorem valP_bd (l : List UInt8) (h : l.all digP = true) : 0 ≤ valP l ∧ valP l < 10 ^ l.length := by
  have key : ∀ (l : List UInt8) (v : Int) (k : Nat), 0 ≤ v → v < 10 ^ k → l.all digP = true → 0 ≤ l.foldl (fun n c => n * 10 + ((c.toNat : Int) - 48)) v ∧ l.foldl (fun n c => n * 10 + ((c.toNat : Int) - 48)) v < 10 ^ (k + l.length) := by
    intro l
    induction l with
    | nil => intro v k h0 h1 _; exact ⟨h0, by simpa using h1⟩
    | cons c l ih =>
      intro v k h0 h1 ha
      simp only [List.all_cons, Bool.and_eq_true] at ha
      have hc : 48 ≤ c.toNat ∧ c.toNat ≤ 57 := by simpa [digP] using ha.1
      have := ih (v * 10 + ((c.toNat : Int) - 48)) (k + 1) (by omega) (by rw [Int.pow_succ]; omega) ha.2
      simp only [List.foldl_cons, List.length_cons]
      rw [show k + (l.length + 1) = k + 1 + l.length from by omega]
      exact this
  have := key l 0 0 (by omega) (by simp) h
  simpa [valP] using this
theorem pow6 (n : Nat) (h : n ≤ 6) : (10 : Int) ^ n ≤ 1000000 := by
  have : n = 0 ∨ n = 1 ∨ n = 2 ∨ n = 3 ∨ n = 4 ∨ n = 5 ∨ n = 6 := by omega
  rcases this with rfl | rfl | rfl | rfl | rfl | rfl | rfl <;> decide
theorem numP_bd (l : List UInt8) : 0 ≤ numP l ∧ numP l ≤ 999999 := by
  unfold numP
  split
  · rename_i h
    unfold okP at h
    simp only [Bool.and_eq_true, decide_eq_true_eq] at h
    have := valP_bd l h.2
    have h6 := pow6 _ h.1.2
    omega
  · omega
theorem betwP_bd (f u : List UInt8) : 0 ≤ (betwP f u).2.1 ∧ (betwP f u).2.1 ≤ 999999 ∧ 0 ≤ (betwP f u).2.2 ∧ (betwP f u).2.2 ≤ 999999 := by
  have h1 := numP_bd f
  have h2 := numP_bd u
  unfold betwP
  split
  · exact ⟨h1.1, h1.2, h2.1, h2.2⟩
  · split
    · exact ⟨h1.1, h1.2, by simp, by simp⟩
    · split
      · exact ⟨by simp, by simp, h2.1, h2.2⟩
      · simp
theorem readP_bd (s : ByteArray) : 0 ≤ (readP s).2.1 ∧ (readP s).2.1 ≤ 999999 ∧ 0 ≤ (readP s).2.2 ∧ (readP s).2.2 ≤ 999999 := by
  unfold readP
  split
  · simp
  · simp only
    split
    · simp
    · exact betwP_bd _ _

theorem take_snocP (s : ByteArray) (k : Nat) (h : k < s.size) : s.data.toList.take (k + 1) = s.data.toList.take k ++ [s[k]] := by
  rw [List.take_succ_eq_append_getElem (by simpa using h)]; rfl

set_option maxRecDepth 100000 in
set_option maxHeartbeats 1000000 in
theorem numberP_any (s : ByteArray) (w : World) (hs : s.size ≤ 9223372036854775807) :
    Calls Tryz.prog 99 #[.string s] w fun e w' => e = .returned (.tuple #[.int .i64 (numP s.data.toList), .bool (okP s.data.toList)]) ∧ w' = w := by
  have hlen : s.data.toList.length = s.size := by simp
  by_cases h1 : s.size < 1
  · have HO : Hid (okP s.data.toList = false) := by show _ = _; unfold okP; rw [hlen]; simp; omega
    have HN : Hid (numP s.data.toList = 0) := by show _ = _; unfold numP; rw [HO.out]; rfl
    go_enter Tryz.func99, Tryz.ntmps99
    go_wp2_with fail
    go_ret2
    exact ⟨by rw [HO.out, HN.out]; rfl, rfl⟩
  by_cases h6 : 6 < s.size
  · have HO : Hid (okP s.data.toList = false) := by show _ = _; unfold okP; rw [hlen]; simp; omega
    have HN : Hid (numP s.data.toList = 0) := by show _ = _; unfold numP; rw [HO.out]; rfl
    go_enter Tryz.func99, Tryz.ntmps99
    go_wp2_with fail
    go_ret2
    exact ⟨by rw [HO.out, HN.out]; rfl, rfl⟩
  have HL := hide hlen
  have hor : (decide ((s.size : Int) < 1) || decide (6 < (s.size : Int))) = false := by simp; omega
  have HOk : Hid (okP s.data.toList = s.data.toList.all digP) := by show _ = _; unfold okP; rw [hlen]; simp; omega
  clear hlen
  go_enter Tryz.func99, Tryz.ntmps99
  go_wp2_with fail
  go_loop [4, 5] (fun n i => ∃ (k : Nat), k ≤ s.size ∧ i = .int .i64 k ∧ n = .int .i64 (valP (s.data.toList.take k)) ∧ Hid ((s.data.toList.take k).all digP = true)) (fun _ i => s.size - (intOf i).toNat)
  case atStart => exact ⟨0, Nat.zero_le _, rfl, by simp [valP], by show _ = _; simp⟩
  case round =>
    obtain ⟨k, hk, rfl, rfl, HA⟩ := hrel
    by_cases hlt : k < s.size
    · have HS : Hid (s.data.toList.take (k + 1) = s.data.toList.take k ++ [s[k]]) := take_snocP s k hlt
      have hv := valP_bd _ HA.out
      have hp6 : (10 : Int) ^ (s.data.toList.take k).length ≤ 1000000 := pow6 _ (by rw [List.length_take, HL.out]; omega)
      have hv1 : valP (s.data.toList.take k) < 1000000 := by omega
      have hv0 := hv.1
      clear hv hp6
      have HV : Hid (valP (s.data.toList.take (k + 1)) = valP (s.data.toList.take k) * 10 + ((s[k].toNat : Int) - 48)) := by show _ = _; rw [HS.out]; unfold valP; rw [List.foldl_append]; rfl
      have HAA : Hid ((s.data.toList.take (k + 1)).all digP = digP s[k]) := by show _ = _; rw [HS.out, List.all_append, HA.out]; simp
      have HF : Hid (digP s[k] = false → s.data.toList.all digP = false) := by
        intro hf
        cases hall : s.data.toList.all digP
        · rfl
        · rw [List.all_eq_true] at hall
          have := hall s[k] (by rw [ByteArray.getElem_eq_getElem_data]; simp)
          rw [this] at hf; simp at hf
      generalize valP (s.data.toList.take k) = v at *
      by_cases h48 : (s[k].toNat : Int) < 48
      · have HD := hide (HF.out (by unfold digP; simp; omega))
        go_wp2_with fail
        go_ret2
        exact ⟨by simp [numP, HOk.out, HD.out], rfl⟩
      · by_cases h57 : 57 < (s[k].toNat : Int)
        · have HD := hide (HF.out (by unfold digP; simp; omega))
          go_wp2_with fail
          go_ret2
          exact ⟨by simp [numP, HOk.out, HD.out], rfl⟩
        · go_wp2_with fail
          exact ⟨⟨k + 1, by omega, by go_num, by rw [HV.out], by show _ = _; rw [HAA.out]; unfold digP; simp; omega⟩, by simp [intOf]; omega⟩
    · have HT : Hid (s.data.toList.take k = s.data.toList) := List.take_of_length_le (by rw [HL.out]; omega)
      rw [HT.out] at HA ⊢
      go_wp2_with fail
      go_ret2
      exact ⟨by rw [HOk.out, HA.out]; simp [numP, HOk.out, HA.out], rfl⟩

set_option maxHeartbeats 1000000 in
theorem findDashP_any (s : ByteArray) (w : World) (hs : s.size ≤ 9223372036854775807) :
    Calls Tryz.prog 72 #[.string s] w fun e w' => e = .returned (.int .i64 (dashP s)) ∧ w' = w := by
  have HL : Hid (s.data.toList.length = s.size) := by show _ = _; simp
  go_enter Tryz.func72, Tryz.ntmps72
  go_wp2_with fail
  go_loop [3] (fun i => ∃ k : Nat, k ≤ s.size ∧ k ≤ 7 ∧ i = .int .i64 k ∧ Hid (∀ j (h : j < s.data.toList.length), j < k → (s.data.toList[j].toNat == 45) = false)) (fun i => s.size - (intOf i).toNat)
  case atStart => exact ⟨0, Nat.zero_le _, Nat.zero_le _, rfl, fun j h hj => absurd hj (by omega)⟩
  case round =>
    obtain ⟨k, hk, hk7, rfl, HA⟩ := hrel
    by_cases hlt : k < s.size
    · by_cases h6 : k ≤ 6
      · by_cases h45 : (s[k].toNat : Int) = 45
        · have h45' : ((s[k].toNat : Int) == 45) = true := by simpa using h45
          have HD : Hid (dashP s = k) := by
            show _ = _
            have h2 : ((s.data.toList.take 7).findIdx? (fun c => c.toNat == 45)) = some k := by
              rw [List.findIdx?_eq_some_iff_getElem]
              refine ⟨by rw [List.length_take, HL.out]; omega, ?_, fun j hj => ?_⟩
              · rw [List.getElem_take]
                have : s.data.toList[k]'(by rw [HL.out]; exact hlt) = s[k] := rfl
                rw [this]; exact beq_iff_eq.2 (by omega)
              · rw [List.getElem_take, HA.out j _ hj]; simp
            simp [dashP, h2]
          go_wp2_with fail
          go_ret
          exact ⟨ret_int HD.out.symm, rfl⟩
        · have h45' : ((s[k].toNat : Int) == 45) = false := by simpa using h45
          have HA2 : Hid (∀ j (h : j < s.data.toList.length), j < k + 1 → (s.data.toList[j].toNat == 45) = false) := by
            intro j h hj
            by_cases hjk : j < k
            · exact HA.out j h hjk
            · have : j = k := by omega
              subst this
              have : s.data.toList[j] = s[j] := rfl
              rw [this]; exact beq_eq_false_iff_ne.2 (by omega)
          go_wp2_with fail
          exact ⟨⟨k + 1, by omega, by omega, by go_num, HA2⟩, by simp [intOf]; omega⟩
      · have HD : Hid (dashP s = -1) := by
          show _ = _
          have h2 : ((s.data.toList.take 7).findIdx? (fun c => c.toNat == 45)) = none := by
            rw [List.findIdx?_eq_none_iff]
            intro x hx
            obtain ⟨j, hj, rfl⟩ := List.getElem_of_mem hx
            rw [List.length_take, HL.out] at hj
            rw [List.getElem_take]; exact HA.out j (by rw [HL.out]; omega) (by omega)
          simp [dashP, h2]
        go_wp2_with fail
        go_ret
        exact ⟨ret_int HD.out.symm, rfl⟩
    · have hd : decide ((k : Int) < (s.size : Int)) = false := by simp; omega
      have HD : Hid (dashP s = -1) := by
        show _ = _
        have h2 : ((s.data.toList.take 7).findIdx? (fun c => c.toNat == 45)) = none := by
          rw [List.findIdx?_eq_none_iff]
          intro x hx
          obtain ⟨j, hj, rfl⟩ := List.getElem_of_mem hx
          rw [List.length_take, HL.out] at hj
          rw [List.getElem_take]; exact HA.out j (by rw [HL.out]; omega) (by omega)
        simp [dashP, h2]
      go_wp2_with fail
      go_ret
      exact ⟨ret_int HD.out.symm, rfl⟩
end Go.Proofs.YtjhihliciadipabGreat

namespace Go.Proofs.YtjhihliciadipabGreat
open Go.RowKit

def rngAgg (r : Int × Int × Int) : Value := .agg #[.int .i64 r.1, .int .i64 r.2.1, .int .i64 r.2.2]
theorem emptyL (u : ByteArray) : u.toList.isEmpty = decide (u.data.toList = []) := by
  rw [ByteArray.toList_eq]; cases u.data.toList <;> simp

set_option maxRecDepth 100000 in
set_option maxHeartbeats 2000000 in
theorem betweenP_any (f u : ByteArray) (w : World) (hf : f.size ≤ 9223372036854775807) (hu : u.size ≤ 9223372036854775807) :
    Calls Tryz.prog 73 #[.string f, .string u] w fun e w' => e = .returned (rngAgg (betwP f.data.toList u.data.toList)) ∧ Ext w w' := by
  have N1 := numberP_any f
  have N2 := numberP_any u
  have HB : Hid (betwP f.data.toList u.data.toList = if okP f.data.toList = true ∧ okP u.data.toList = true ∧ numP f.data.toList ≤ numP u.data.toList then (1, numP f.data.toList, numP u.data.toList) else if okP f.data.toList = true ∧ u.toList.isEmpty = true then (2, numP f.data.toList, 0) else if f.toList.isEmpty = true ∧ okP u.data.toList = true then (3, 0, numP u.data.toList) else (0, 0, 0)) := by
    show _ = _
    unfold betwP
    rw [emptyL f, emptyL u]
    simp only [decide_eq_true_eq]
  generalize betwP f.data.toList u.data.toList = res at *
  generalize numP f.data.toList = n1 at *
  generalize numP u.data.toList = n2 at *
  generalize okP f.data.toList = c1 at *
  generalize okP u.data.toList = c2 at *
  go_enter Tryz.func73, Tryz.ntmps73
  go_wp2_with fail
  refine (N1 _ hf).mono ?_
  rintro e w1 ⟨rfl, rfl⟩
  go_wp2_with fail
  refine (N2 _ hu).mono ?_
  rintro e w1 ⟨rfl, rfl⟩
  clear N1 N2
  cases c1
  all_goals cases c2
  all_goals cases hfe : f.toList.isEmpty
  all_goals cases hue : u.toList.isEmpty
  all_goals by_cases hle : n1 ≤ n2
  all_goals have HR := hide HB.out
  all_goals rw [hfe, hue] at HR
  all_goals simp only [hle, Bool.false_eq_true, false_and, and_false, true_and, and_true, and_self, if_true, if_false] at HR
  all_goals clear HB
  all_goals go_wp2_with fail
  all_goals
    refine bodyPost_ret (v := rngAgg res) ?_ rfl ⟨rfl, ?_⟩
  all_goals first
    | (rw [HR.out]; simp [results, Tryz.results73, go_sem, rngAgg]; done)
    | ((with_reducible repeat (first | refine Below.drew ?_ | refine Below.alloc ?_ ?_ _ | refine Below.setCell ?_ ?_ _ | exact Below.refl _ _)) <;> simp)
end Go.Proofs.YtjhihliciadipabGreat

namespace Go.Proofs.YtjhihliciadipabGreat
open Go.RowKit

theorem ext_list (s : ByteArray) (a b : Nat) (h : b ≤ s.size) : (s.extract a b).data.toList = (s.data.toList.take b).drop a := by
  rw [ByteArray.data_extract]
  simp [Array.toList_extract, List.extract_eq_take_drop, List.drop_take]
theorem dashP_lt (s : ByteArray) : -1 ≤ dashP s ∧ dashP s < s.size := by
  unfold dashP
  split
  · rename_i i hi
    rw [List.findIdx?_eq_some_iff_getElem] at hi
    have := hi.1
    rw [List.length_take] at this
    simp at this
    omega
  · omega

theorem readP_no {s : ByteArray} (h : s.size < 6 ∨ ((s.extract 0 6).toList == [98, 121, 116, 101, 115, 61]) = false) : readP s = (0, 0, 0) := by
  unfold readP
  rw [if_pos]
  by_cases h6 : s.size < 6
  · exact Or.inl h6
  · right
    rcases h with h | h
    · exact absurd h h6
    · rw [ByteArray.toList_eq, ext_list s 0 6 (by omega)] at h
      simpa using h
theorem readP_yes {s : ByteArray} (h6 : ¬ s.size < 6) (h : ((s.extract 0 6).toList == [98, 121, 116, 101, 115, 61]) = true) : readP s = if dashP (s.extract 6 s.size) < 0 then (0, 0, 0) else
    betwP ((s.extract 6 s.size).data.toList.take (dashP (s.extract 6 s.size)).toNat) ((s.extract 6 s.size).data.toList.drop ((dashP (s.extract 6 s.size)).toNat + 1)) := by
  unfold readP
  rw [if_neg]
  rintro (h1 | h1)
  · exact h6 h1
  · rw [ByteArray.toList_eq, ext_list s 0 6 (by omega)] at h
    apply h1
    simpa using h

set_option maxRecDepth 100000 in
set_option maxHeartbeats 2000000 in
theorem ReadP_some0 (s : ByteArray) (w : World) (hs : s.size ≤ 9223372036854775807) (h6 : ¬ s.size < 6) (hpb : ((s.extract 0 6).toList == [98, 121, 116, 101, 115, 61]) = true) :
    Calls Tryz.prog 41 #[.string s] w fun e w' => e = .returned (rngAgg (readP s)) ∧ Ext w w' := by
  have hts : (s.extract 6 s.size).size ≤ 9223372036854775807 := by simp; omega
  have HR := hide (readP_yes h6 hpb)
  have HF := findDashP_any (s.extract 6 s.size)
  have hd := dashP_lt (s.extract 6 s.size)
  generalize readP s = res at *
  go_enter Tryz.func41, Tryz.ntmps41
  go_wp2_with fail
  generalize s.extract 6 s.size = t at *
  generalize dashP t = n at *
  refine (HF _ hts).mono ?_
  rintro e w' ⟨rfl, rfl⟩
  by_cases hneg : n < 0
  · have HR1 : Hid (res = (0, 0, 0)) := by show _ = _; rw [HR.out, if_pos hneg]
    go_wp2_with fail
    refine bodyPost_ret (v := rngAgg res) ?_ rfl ⟨rfl, ?_⟩
    · rw [HR1.out]; simp [results, Tryz.results41, go_sem, rngAgg]
    · (with_reducible repeat (first | refine Below.drew ?_ | refine Below.alloc ?_ ?_ _ | refine Below.setCell ?_ ?_ _ | exact Below.refl _ _)) <;> simp
  · obtain ⟨K, rfl⟩ := Int.eq_ofNat_of_zero_le (show 0 ≤ n by omega)
    have hfs : (t.extract 0 K).size ≤ 9223372036854775807 := by simp; omega
    have hus : (t.extract (K + 1) t.size).size ≤ 9223372036854775807 := by simp; omega
    have HB := betweenP_any (t.extract 0 K) (t.extract (K + 1) t.size)
    have HR1 : Hid (betwP (t.extract 0 K).data.toList (t.extract (K + 1) t.size).data.toList = res) := by
      show _ = _
      rw [HR.out, if_neg hneg, ext_list t 0 K (by omega), ext_list t (K + 1) t.size (by omega), Int.toNat_natCast]
      congr 1
      rw [List.take_of_length_le (by simp)]
    rw [HR1.out] at HB
    clear HR
    go_wp2_with fail
    have q1 : K ≤ t.size := by omega
    have q2 : (K : Int) + 1 ≤ t.size := by omega
    have q3 : 0 ≤ (K : Int) + 1 := by omega
    have q4 : 0 ≤ (K : Int) + 1 ∧ (K : Int) + 1 ≤ t.size := ⟨q3, q2⟩
    have q5 : IntKind.i64.wrap ((K : Int) + 1) = (K : Int) + 1 := (Go.IntWalk.i64_left _).trans (Go.IntWalk.wrap64_in _ (by omega))
    obtain ⟨a, b, c⟩ := res
    unfold rngAgg at *
    simp only at *
    go_region_with (go_at_call 73; refine (HB _ hfs hus).mono ?_; rintro e w2 ⟨rfl, hE⟩; have hB2 := (Blk.new w 105 #[.int .i64 0, .int .i64 0, .int .i64 0]).ext hE.undrew; have k0 : w2.cell? ⟨w.heap.size, 0, none⟩ = some (.int .i64 0) := hB2.cell 0; have k1 : w2.cell? ⟨w.heap.size, 1, none⟩ = some (.int .i64 0) := hB2.cell 1; have k2 : w2.cell? ⟨w.heap.size, 2, none⟩ = some (.int .i64 0) := hB2.cell 2; have kf := hB2.frozen)
    all_goals go_wp2_with fail
    all_goals refine bodyPost_ret (v := .agg #[.int .i64 a, .int .i64 b, .int .i64 c]) ?_ rfl ⟨rfl, ?_⟩
    all_goals first
      | (simp [results, Tryz.results41, go_sem, k0, k1, k2, kf]; done)
      | skip
    all_goals
      (have hX : Ext w w2 := Ext.trans' (Ext.new w _) hE.undrew
       (with_reducible repeat (first | refine Below.drew ?_ | refine Below.setCell ?_ ?_ _ | exact hX)) <;> simp)

set_option maxHeartbeats 2000000 in
theorem ReadP_any (s : ByteArray) (w : World) (hs : s.size ≤ 9223372036854775807) :
    Calls Tryz.prog 41 #[.string s] w fun e w' => e = .returned (rngAgg (readP s)) ∧ Ext w w' := by
  by_cases h6 : s.size < 6
  · rw [readP_no (Or.inl h6)]
    go_enter Tryz.func41, Tryz.ntmps41
    go_wp2
    refine bodyPost_ret (v := .agg #[.int .i64 0, .int .i64 0, .int .i64 0]) ?_ rfl ⟨rfl, ?_⟩
    · simp [results, Tryz.results41, go_sem]
    · (with_reducible repeat (first | refine Below.drew ?_ | refine Below.alloc ?_ ?_ _ | refine Below.setCell ?_ ?_ _ | exact Below.refl _ _)) <;> simp
  · cases hpb : ((s.extract 0 6).toList == [98, 121, 116, 101, 115, 61])
    · rw [readP_no (Or.inr hpb)]
      go_enter Tryz.func41, Tryz.ntmps41
      go_wp2
      refine bodyPost_ret (v := .agg #[.int .i64 0, .int .i64 0, .int .i64 0]) ?_ rfl ⟨rfl, ?_⟩
      · simp [results, Tryz.results41, go_sem]
      · (with_reducible repeat (first | refine Below.drew ?_ | refine Below.alloc ?_ ?_ _ | refine Below.setCell ?_ ?_ _ | exact Below.refl _ _)) <;> simp
    · exact ReadP_some0 s w hs h6 hpb
end Go.Proofs.YtjhihliciadipabGreat
