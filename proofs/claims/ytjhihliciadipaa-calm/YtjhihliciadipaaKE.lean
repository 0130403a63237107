import Derived.Test.YtjhihliciadipaaKX
import Derived.Test.YtjhihliciadipaaKW
set_option linter.unusedVariables false
set_option linter.unusedSimpArgs false
set_option linter.unnecessarySimpa false
namespace Go.Proofs.Ytjhihliciadipaa
open Go.RowKit

set_option maxRecDepth 100000 in
set_option maxHeartbeats 4000000 in
theorem expected_any (kind a b n : Int) (w : World) (hk : I64 kind) (ha : I64 a) (hb : I64 b) (hn : 0 ≤ n) (hn2 : n ≤ 1000) :
    Calls Try.prog 18 #[.int .i64 kind, .int .i64 a, .int .i64 b, .int .i64 n] w fun e w' => e = .returned (.tuple #[.int .i64 (expK kind a b n).1, .int .i64 (expK kind a b n).2.1, .int .i64 (expK kind a b n).2.2]) ∧ w' = w := by
  have hx := pickK_bd a 70 (by omega)
  have hy := pickK_bd b 70 (by omega)
  have hz := pickK_bd kind 6 (by omega)
  have P1 := pickK_any a 70 w ha (by omega) (by omega)
  have P2 := pickK_any b 70 w hb (by omega) (by omega)
  have P3 := pickK_any kind 6 w hk (by omega) (by omega)
  have HE : Hid (expK kind a b n = expK kind a b n) := rfl
  obtain ⟨ex, hex⟩ : ∃ ex, ex = expK kind a b n := ⟨_, rfl⟩
  rw [← hex]
  unfold expK at hex
  simp only at hex
  have HX := hide hex
  generalize pickK a 70 = x at *
  generalize pickK b 70 = y at *
  generalize pickK kind 6 = c at *
  clear hex HE
  go_enter Try.func18, Try.ntmps18
  go_upto_region 2 with (go_at_call 10; refine P1.mono ?_; rintro e w1 ⟨rfl, hw1⟩; have hw1 := hw1.symm; subst hw1)
  go_upto_region 3 with (go_at_call 10; refine P2.mono ?_; rintro e w1 ⟨rfl, hw1⟩; have hw1 := hw1.symm; subst hw1)
  by_cases c0 : c = 0
  · subst c0
    by_cases t1 : n < x + y + 1
    · by_cases t2 : n ≤ x
      · have HV : Hid (ex = (416, 0, 0)) := by show _ = _; rw [HX.out, if_pos rfl, if_pos (by unfold atM; rw [if_pos t1]; exact t2)]
        clear HX
        go_wp2_with (go_at_call 10; refine P3.mono ?_; rintro e w1 ⟨rfl, hw1⟩; have hw1 := hw1.symm; subst hw1)
        refine bodyPost_ret (v := .tuple #[.int .i64 416, .int .i64 0, .int .i64 0]) (by simp [results, Try.results18, go_sem]) rfl ⟨?_, rfl⟩
        rw [HV.out]
      · have HV : Hid (ex = (206, x, (n - x))) := by show _ = _; rw [HX.out, if_pos rfl, if_neg (by unfold atM; rw [if_pos t1]; exact t2)]; unfold atM; rw [if_pos t1]
        clear HX
        go_wp2_with (go_at_call 10; refine P3.mono ?_; rintro e w1 ⟨rfl, hw1⟩; have hw1 := hw1.symm; subst hw1)
        refine bodyPost_ret (v := .tuple #[.int .i64 206, .int .i64 x, .int .i64 (n - x)]) (by simp [results, Try.results18, go_sem]) rfl ⟨?_, rfl⟩
        rw [HV.out]
    · have t2 : ¬ x + y + 1 ≤ x := by omega
      have HV : Hid (ex = (206, x, (x + y + 1 - x))) := by show _ = _; rw [HX.out, if_pos rfl, if_neg (by unfold atM; rw [if_neg t1]; exact t2)]; unfold atM; rw [if_neg t1]
      clear HX
      go_wp2_with (go_at_call 10; refine P3.mono ?_; rintro e w1 ⟨rfl, hw1⟩; have hw1 := hw1.symm; subst hw1)
      refine bodyPost_ret (v := .tuple #[.int .i64 206, .int .i64 x, .int .i64 (x + y + 1 - x)]) (by simp [results, Try.results18, go_sem]) rfl ⟨?_, rfl⟩
      rw [HV.out]
  · by_cases c1 : c = 1
    · subst c1
      by_cases t2 : n ≤ x
      · have HV : Hid (ex = (416, 0, 0)) := by show _ = _; rw [HX.out, if_neg (by omega), if_pos rfl, if_pos t2]
        clear HX
        go_wp2_with (go_at_call 10; refine P3.mono ?_; rintro e w1 ⟨rfl, hw1⟩; have hw1 := hw1.symm; subst hw1)
        refine bodyPost_ret (v := .tuple #[.int .i64 416, .int .i64 0, .int .i64 0]) (by simp [results, Try.results18, go_sem]) rfl ⟨?_, rfl⟩
        rw [HV.out]
      · have HV : Hid (ex = (206, x, (n - x))) := by show _ = _; rw [HX.out, if_neg (by omega), if_pos rfl, if_neg t2]
        clear HX
        go_wp2_with (go_at_call 10; refine P3.mono ?_; rintro e w1 ⟨rfl, hw1⟩; have hw1 := hw1.symm; subst hw1)
        refine bodyPost_ret (v := .tuple #[.int .i64 206, .int .i64 x, .int .i64 (n - x)]) (by simp [results, Try.results18, go_sem]) rfl ⟨?_, rfl⟩
        rw [HV.out]
    · by_cases c2 : c = 2
      · subst c2
        by_cases t1 : n - y < 0
        · by_cases t2 : n ≤ 0
          · have HV : Hid (ex = (416, 0, 0)) := by show _ = _; rw [HX.out, if_neg (by omega), if_neg (by omega), if_pos rfl, if_pos (by rw [if_pos t1]; exact t2)]
            clear HX
            go_wp2_with (go_at_call 10; refine P3.mono ?_; rintro e w1 ⟨rfl, hw1⟩; have hw1 := hw1.symm; subst hw1)
            refine bodyPost_ret (v := .tuple #[.int .i64 416, .int .i64 0, .int .i64 0]) (by simp [results, Try.results18, go_sem]) rfl ⟨?_, rfl⟩
            rw [HV.out]
          · have HV : Hid (ex = (206, 0, (n - 0))) := by show _ = _; rw [HX.out, if_neg (by omega), if_neg (by omega), if_pos rfl, if_neg (by rw [if_pos t1]; exact t2), if_pos t1]
            clear HX
            go_wp2_with (go_at_call 10; refine P3.mono ?_; rintro e w1 ⟨rfl, hw1⟩; have hw1 := hw1.symm; subst hw1)
            refine bodyPost_ret (v := .tuple #[.int .i64 206, .int .i64 0, .int .i64 (n - 0)]) (by simp [results, Try.results18, go_sem]) rfl ⟨?_, rfl⟩
            rw [HV.out]
        · by_cases t2 : n ≤ n - y
          · have HV : Hid (ex = (416, 0, 0)) := by show _ = _; rw [HX.out, if_neg (by omega), if_neg (by omega), if_pos rfl, if_pos (by rw [if_neg t1]; exact t2)]
            clear HX
            go_wp2_with (go_at_call 10; refine P3.mono ?_; rintro e w1 ⟨rfl, hw1⟩; have hw1 := hw1.symm; subst hw1)
            refine bodyPost_ret (v := .tuple #[.int .i64 416, .int .i64 0, .int .i64 0]) (by simp [results, Try.results18, go_sem]) rfl ⟨?_, rfl⟩
            rw [HV.out]
          · have HV : Hid (ex = (206, (n - y), (n - (n - y)))) := by show _ = _; rw [HX.out, if_neg (by omega), if_neg (by omega), if_pos rfl, if_neg (by rw [if_neg t1]; exact t2), if_neg t1]
            clear HX
            go_wp2_with (go_at_call 10; refine P3.mono ?_; rintro e w1 ⟨rfl, hw1⟩; have hw1 := hw1.symm; subst hw1)
            refine bodyPost_ret (v := .tuple #[.int .i64 206, .int .i64 (n - y), .int .i64 (n - (n - y))]) (by simp [results, Try.results18, go_sem]) rfl ⟨?_, rfl⟩
            rw [HV.out]
      · have HV : Hid (ex = (200, 0, n)) := by show _ = _; rw [HX.out, if_neg c0, if_neg c1, if_neg c2]
        clear HX
        go_wp2_with (go_at_call 10; refine P3.mono ?_; rintro e w1 ⟨rfl, hw1⟩; have hw1 := hw1.symm; subst hw1)
        refine bodyPost_ret (v := .tuple #[.int .i64 200, .int .i64 0, .int .i64 n]) (by simp [results, Try.results18, go_sem]) rfl ⟨?_, rfl⟩
        rw [HV.out]

end Go.Proofs.Ytjhihliciadipaa
