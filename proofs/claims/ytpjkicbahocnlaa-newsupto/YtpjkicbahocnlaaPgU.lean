import Derived.Test.YtpjkicbahocnlaaPask
import Derived.Test.YtpjkicbahocnlaaPcall
import Derived.Test.YtpjkicbahocnlaaPtell
import Derived.Test.YtpjkicbahocnlaaPnew
import Derived.Test.YtpjkicbahocnlaaStepD
import Derived.Test.YtpjkicbahocnlaaNewR
set_option linter.unusedVariables false
set_option linter.unusedSimpArgs false
set_option linter.unnecessarySimpa false
namespace Go.Proofs.Ytpjkicbahocnlaa
open Go.RowKit

/-! Every call of the program's proxy in one form: it returns, and has so many transfers then. -/

theorem failedS_n (s : Px) (e : Er) : (failedS s e).trs.length = s.trs.length := by simp [failedS]
theorem renewS_n (s : Px) (p : Int) (v : Int × Int) : (renewS s p v).trs.length = s.trs.length := by simp [renewS]
theorem delivS_n (s : Px) (e : Er) (body : ByteArray) : (delivS s e body).trs.length = s.trs.length := by
  unfold delivS; split
  · rfl
  · simp
theorem answS_n (s : Px) (e : Er) (tag tot off : Int) (body : ByteArray) : (answS s e tag tot off body).trs.length = s.trs.length := by
  unfold answS; split
  · rw [delivS_n]; split
    · rfl
    · rw [failedS_n, renewS_n]
  · exact failedS_n s e
theorem replyP_n (s : Px) (m tag tot off : Int) (body : ByteArray) : (replyP s m tag tot off body).trs.length = s.trs.length := by
  unfold replyP; split
  · rw [answS_n]; rfl
  · rfl
theorem failP_n (s : Px) (m : Int) : (failP s m).trs.length = s.trs.length := by
  unfold failP; split
  · rw [failedS_n]; rfl
  · rfl
theorem nextS_n (s : Px) (m : Int) : (nextS s m).trs.length = s.trs.length := by
  unfold nextS; split
  · rfl
  · split
    · rfl
    · split <;> rfl
theorem headS_n (s : Px) (id : Int) : (headS s id).trs.length = s.trs.length := by
  unfold headS; split
  · split
    · rfl
    · split
      · rfl
      · simp [setT]
  · rfl
theorem ptakeS_n (s : Px) (id n : Int) : (ptakeS s id n).trs.length = s.trs.length := by
  unfold ptakeS; split
  · split
    · rfl
    · split
      · rfl
      · split
        · rfl
        · simp [setT]
  · rfl

theorem AskU (q : Nat) (g : Pg) (path : Int) (r : ByteArray) (w : World) (h : PgAt w q g) (hr : r.size ≤ 1000000000) :
    Calls Try.prog 43 #[.pointer (some ⟨q, 0, none⟩), .int .i64 path, .string r] w fun e w' =>
      e = .returned (.tuple #[.int .i64 (ansA g.trs.length path).1, .int .i64 (ansA g.trs.length path).2]) ∧ PStep w w' q g (cntA g.trs.length path) := by
  have hn := h.ok.nt
  unfold ansA cntA
  by_cases hp : path < 0 ∨ 4 ≤ path
  · rw [if_pos hp, if_pos hp]
    refine (AskP_no q path r w hp).mono ?_
    rintro e w' ⟨rfl, rfl⟩
    exact ⟨rfl, PStep.ext h (Below.refl _ _)⟩
  · rw [if_neg hp, if_neg hp]
    by_cases h8 : g.s.trs.length = 8
    · rw [if_pos h8, if_pos h8]
      refine (AskP_full q g path r w h (by omega) (by omega) h8).mono ?_
      rintro e w' ⟨rfl, rfl⟩
      exact ⟨rfl, PStep.ext h (Below.refl _ _)⟩
    · rw [if_neg h8, if_neg h8]
      obtain ⟨k, rfl⟩ := Int.eq_ofNat_of_zero_le (show 0 ≤ path by omega)
      refine (AskP_new q g k r w h hr (by omega) (by omega)).mono ?_
      rintro e w' ⟨rfl, hP⟩
      have := hP.step
      simp only [List.length_append, List.length_singleton] at this
      exact ⟨rfl, this⟩
theorem NextU (q : Nat) (m : Int) (g : Pg) (w : World) (h : PgAt w q g) :
    Calls Try.prog 44 #[.pointer (some ⟨q, 0, none⟩), .int .i64 m] w fun e w' => NextRet e ∧ PStep w w' q g g.trs.length := by
  refine (NextP_any q m g w h).mono ?_
  rintro e w' ⟨rfl, hP⟩
  exact ⟨⟨_, _, _, _, _, _, _, rfl⟩, by have := hP.step; rwa [nextS_n] at this⟩
theorem ReplyU (q : Nat) (m tag tot off : Int) (body : ByteArray) (g : Pg) (w : World) (h : PgAt w q g) (hb : body.size ≤ 1000000000) :
    Calls Try.prog 46 #[.pointer (some ⟨q, 0, none⟩), .int .i64 m, repAgg tag tot off body] w fun e w' => IntRet e ∧ PStep w w' q g g.trs.length := by
  refine (ReplyP_any q m tag tot off body g w h hb).mono ?_
  rintro e w' ⟨rfl, hP⟩
  exact ⟨⟨_, rfl⟩, by have := hP.step; rwa [replyP_n] at this⟩
theorem FailU (q : Nat) (m : Int) (g : Pg) (w : World) (h : PgAt w q g) :
    Calls Try.prog 53 #[.pointer (some ⟨q, 0, none⟩), .int .i64 m] w fun e w' => IntRet e ∧ PStep w w' q g g.trs.length := by
  refine (FailP_any q m g w h).mono ?_
  rintro e w' ⟨rfl, hP⟩
  exact ⟨⟨_, rfl⟩, by have := hP.step; rwa [failP_n] at this⟩
theorem StateU (q : Nat) (id : Int) (g : Pg) (w : World) (h : PgAt w q g) :
    Calls Try.prog 27 #[.pointer (some ⟨q, 0, none⟩), .int .i64 id] w fun e w' => TwoRet e ∧ PStep w w' q g g.trs.length := by
  refine (StateP_any q id g w h).mono ?_
  rintro e w' ⟨rfl, hE⟩
  exact ⟨⟨_, _, rfl⟩, PStep.ext h hE⟩
theorem HeldU (q : Nat) (id : Int) (g : Pg) (w : World) (h : PgAt w q g) :
    Calls Try.prog 83 #[.pointer (some ⟨q, 0, none⟩), .int .i64 id] w fun e w' => TwoRet e ∧ PStep w w' q g g.trs.length := by
  refine (HeldP_any q id g w h).mono ?_
  rintro e w' ⟨rfl, hE⟩
  exact ⟨⟨_, _, rfl⟩, PStep.ext h hE⟩
theorem HeadU (q : Nat) (id : Int) (g : Pg) (w : World) (h : PgAt w q g) :
    Calls Try.prog 49 #[.pointer (some ⟨q, 0, none⟩), .int .i64 id] w fun e w' => HeadRet e ∧ PStep w w' q g g.trs.length := by
  refine (HeadP_any q id g w h).mono ?_
  rintro e w' ⟨rfl, hP⟩
  exact ⟨⟨_, _, _, _, _, _, rfl⟩, by have := hP.step; rwa [headS_n] at this⟩
theorem TakeU (q : Nat) (id n : Int) (g : Pg) (w : World) (h : PgAt w q g) :
    Calls Try.prog 48 #[.pointer (some ⟨q, 0, none⟩), .int .i64 id, .int .i64 n] w fun e w' => TakeRet e ∧ PStep w w' q g g.trs.length := by
  refine (TakeP_any q id n g w h).mono ?_
  rintro e w' ⟨rfl, hP⟩
  exact ⟨⟨_, _, rfl⟩, by have := hP.step; rwa [ptakeS_n] at this⟩
theorem fairB_no {m b wi c t : Int} (hf : fairB m b wi c t = false) : m < 1 ∨ 3 < m ∨ b < 1 ∨ 16 < b ∨ wi < 1 ∨ 4 < wi ∨ c < 0 ∨ 256 < c ∨ t < 1 ∨ 4 < t := by
  unfold fairB at hf
  simp only [Bool.and_eq_false_iff, decide_eq_false_iff_not] at hf
  omega
end Go.Proofs.Ytpjkicbahocnlaa
