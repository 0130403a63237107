import Derived.Test.YtjhihliciadipaaK20
import Derived.Test.YtjhihliciadipaaRows
import Derived.ProofKit
import Derived.OpenShut
import Derived.JoinedCond
import Derived.Deep.Slices
import Derived.Carry
import Derived.SizedLaws
set_option linter.unusedVariables false
set_option linter.unusedSimpArgs false
set_option linter.unnecessarySimpa false
namespace Go.Proofs.Ytjhihliciadipaa
open Go.ChangeShapes Go.WideShapes Go.ChangeAt Go.RowKit Go.Deep

theorem own : ownKnob Try.prog.godebug = none := by kernel_rfl
theorem laidOut : laidOutB Try.prog = true := by kernel_rfl
theorem cellsInt : Try.prog.cellsOf 3 = 1 := by kernel_rfl
theorem bulk_one {H : Type} (d : DataW H) : 1 ≤ Rows.uptoBulk d := by
  cases d with
  | lit l => cases l <;> simp [Rows.uptoBulk]
  | _ => simp [Rows.uptoBulk]
theorem bulk_len {H : Type} (l : List (DataW H)) : l.length ≤ Rows.uptoBulkAll l := by
  induction l with
  | nil => simp
  | cons d l ih => have := bulk_one d; rw [Rows.uptoBulkAll, List.length_cons]; omega
theorem wf_bd {n : Int} (h : (Lit.int .i64 n).wf = true) : I64 n := by
  have h1 : IntKind.i64.min = -9223372036854775808 := rfl
  have h2 : IntKind.i64.max = 9223372036854775807 := rfl
  simp only [Lit.wf, Bool.and_eq_true, decide_eq_true_eq] at h
  exact ⟨by omega, by omega⟩
/-- A list of numbers, opened. -/
theorem ints_open {H : Type} {enc : TypeId × Value → H} {W : World} {fuel : Nat} {a0 : Option Addr} {len cap : Nat} {x : DataW H × List MemPlace}
    (hf : DataW.trod enc Try.prog W 0 (fun _ => true) true fuel 22 [.slice a0 len cap] = some x) (hk : Rows.uptoBulk x.1 ≤ 1048576) : ∃ l, IntsAt W (.slice a0 len cap) l ∧ l.length ≤ 1048576 ∧ ∀ z ∈ l, I64 z := by
  rcases open_slice Try.underlying22 hf with ⟨hcs, hx⟩ | ⟨a, len', cap', m, n, D, Pl, hcs, hd, hl, hm, hmm, hx, hel⟩
  · simp at hcs
    obtain ⟨rfl, rfl, rfl⟩ := hcs
    exact ⟨[], ⟨none, 0, rfl, by simp, fun e => absurd rfl e⟩, by simp, by simp⟩
  · simp at hcs
    obtain ⟨rfl, rfl, rfl⟩ := hcs
    simp only [if_true] at hmm
    rw [hx] at hk
    have hk2 : Rows.uptoBulkAll ((List.range len).map D) ≤ 1048576 := by
      simp only [Rows.uptoBulk] at hk; omega
    have hlen : len ≤ 1048576 := by
      have := bulk_len ((List.range len).map D)
      simp at this; omega
    have each : ∀ i, i < len → ∃ z : Int, I64 z ∧ W.cell? (a.add i) = some (.int .i64 z) := by
      intro i hi
      obtain ⟨cs', h1, h2⟩ := hel i (by omega)
      rw [cellsInt] at h1
      obtain ⟨_, hlen1, hcell⟩ := World.cells?_some h1
      obtain ⟨n0, e0, z0, b0⟩ := DataW.trod_int Try.underlying3 h2
      refine ⟨n0, wf_bd b0, ?_⟩
      have := hcell 0 (by omega)
      rw [e0] at this
      simpa [Nat.mul_one, Addr.add] using this
    obtain ⟨f, hf⟩ := choose_lt each
    refine ⟨(List.range len).map f, ⟨some a, cap, by simp, by simpa using hl, fun _ => ⟨a, rfl, fun j z hj => ?_⟩⟩, by simpa using hlen, ?_⟩
    · simp only [List.getElem?_map, Option.map_eq_some_iff] at hj
      obtain ⟨i, hi, rfl⟩ := hj
      have hjl : j < len := by have := (List.getElem?_eq_some_iff.1 hi).1; simpa using this
      have : i = j := by simp [hjl] at hi; omega
      subst this
      exact (hf i hjl).2
    · intro z hz
      simp only [List.mem_map, List.mem_range] at hz
      obtain ⟨i, hi, rfl⟩ := hz
      exact (hf i hi).1
theorem bytesInt : Try.prog.bytesOf 3 = 8 := by kernel_rfl
/-- The same, by what a slice may take. -/
theorem ints_openF {H : Type} {enc : TypeId × Value → H} {W : World} {fuel : Nat} {a0 : Option Addr} {len cap : Nat} {x : DataW H × List MemPlace}
    (hf : DataW.trod enc Try.prog W 0 (fun _ => true) true fuel 22 [.slice a0 len cap] = some x) (hk : ∀ elems spare, x.1 = .slice elems spare → (elems.length + spare.length) * Try.prog.bytesOf 3 ≤ reachBytes) : ∃ l, IntsAt W (.slice a0 len cap) l ∧ l.length ≤ 17592186044416 ∧ ∀ z ∈ l, I64 z := by
  rcases open_slice Try.underlying22 hf with ⟨hcs, hx⟩ | ⟨a, len', cap', m, n, D, Pl, hcs, hd, hl, hm, hmm, hx, hel⟩
  · simp at hcs
    obtain ⟨rfl, rfl, rfl⟩ := hcs
    exact ⟨[], ⟨none, 0, rfl, by simp, fun e => absurd rfl e⟩, by simp, by simp⟩
  · simp at hcs
    obtain ⟨rfl, rfl, rfl⟩ := hcs
    simp only [if_true] at hmm
    have hk2 := hk _ _ (by rw [hx])
    have hr := reachBytes_lt
    have hlen : len ≤ 17592186044416 := by
      rw [bytesInt, List.length_map, List.length_range] at hk2
      have : (2 : Nat) ^ 47 = 140737488355328 := by decide
      omega
    have each : ∀ i, i < len → ∃ z : Int, I64 z ∧ W.cell? (a.add i) = some (.int .i64 z) := by
      intro i hi
      obtain ⟨cs', h1, h2⟩ := hel i (by omega)
      rw [cellsInt] at h1
      obtain ⟨_, hlen1, hcell⟩ := World.cells?_some h1
      obtain ⟨n0, e0, z0, b0⟩ := DataW.trod_int Try.underlying3 h2
      refine ⟨n0, wf_bd b0, ?_⟩
      have := hcell 0 (by omega)
      rw [e0] at this
      simpa [Nat.mul_one, Addr.add] using this
    obtain ⟨f, hf⟩ := choose_lt each
    refine ⟨(List.range len).map f, ⟨some a, cap, by simp, by simpa using hl, fun _ => ⟨a, rfl, fun j z hj => ?_⟩⟩, by simpa using hlen, ?_⟩
    · simp only [List.getElem?_map, Option.map_eq_some_iff] at hj
      obtain ⟨i, hi, rfl⟩ := hj
      have hjl : j < len := by have := (List.getElem?_eq_some_iff.1 hi).1; simpa using this
      have : i = j := by simp [hjl] at hi; omega
      subst this
      exact (hf i hjl).2
    · intro z hz
      simp only [List.mem_map, List.mem_range] at hz
      obtain ⟨i, hi, rfl⟩ := hz
      exact (hf i hi).1
end Go.Proofs.Ytjhihliciadipaa
