/-
  No cell of these rows narrows 'for every input' (looked for: loops, veiled, ifaces, maps, wideKeys, modest, calm, conditions, laid).
  DERIVED. THE GIVEN ROWS OF THIS SEAT. 6 by the template 'for every input the law returns true; each argument reads behind the call as it read before'; 0 by the template 'total and deterministic' (their statements: YtjhihliciadipaaTotals.lean).
  GIVEN WITH THE SEED: the statements are not yours to turn. If you find one false, say at which input.
  Laid BY PROGRAM, IN A SANDBOX (cutbox-rows.mjs): the forced cells as the released guide's own fill.sh prints them over the translation 70942dbdb16871cf… (all of the seat's roots in one cut). By AI agents, Wed Nov 11 2026. No macro, syntax, notation, axiom, sorry.
-/
import Derived.Test.YtjhihliciadipaaChecked
import GoSem.Claim
import GoSem.ClaimJoined
import GoSem.ClaimMapViews
import Derived.JoinedTies
import Derived.KernelRfl
namespace Go.Proofs.Ytjhihliciadipaa
/- THE CELL 'sum', in the pinned program and in every row, IS THE sha256 OF THE DUMP (.gsa) THAT YtjhihliciadipaaProg.lean LOADS. Nothing in Lean hashes anything: it is a label: what it is worth is what the hold of that sum in a sandbox is worth. -/
noncomputable def Try.pinned : Pinned := { name := "ytjhihliciadipaa", sum := "70942dbdb16871cf2173ff84fbb4ae8d8afaacb76edef5270ffe0f2162414009", checked := Try.checked }
namespace Rows
def none {H : Type} : Left H := { results := [], args := [] }

/-- 'haulkeep.Ranged': WHATEVER THE INPUT: true; the input reads as it did. -/
def rangedSpec : ChangeSpec := { name := "ranged", fn := fun _ => fun
  | [d1, d2, d3, d4, d5, d6] => { results := [.lit (.bool true)], args := [d1, d2, d3, d4, d5, d6] }
  | _ => none }
def rangedRow : OpenClaim := { program := "ytjhihliciadipaa", sum := "70942dbdb16871cf2173ff84fbb4ae8d8afaacb76edef5270ffe0f2162414009", func := "haul/haulkeep.Ranged", spec := "ranged", apart := false }
def RangedSaid : Prop := rangedRow.holds Try.pinned (OpenSpec.ofChange rangedSpec)

/-- ITS FALSE NEIGHBOUR: 'it returns false'. Refute it at one input. -/
def rangedWrong : ChangeSpec := { name := "ranged", fn := fun _ => fun
  | [d1, d2, d3, d4, d5, d6] => { results := [.lit (.bool false)], args := [d1, d2, d3, d4, d5, d6] }
  | _ => none }
def RangedWrongFalsely : Prop := rangedRow.holds Try.pinned (OpenSpec.ofChange rangedWrong)

/-- 'haulkeep.Patient': WHATEVER THE INPUT: true; the input reads as it did. -/
def patientSpec : ChangeSpec := { name := "patient", fn := fun _ => fun
  | [d1, d2, d3, d4] => { results := [.lit (.bool true)], args := [d1, d2, d3, d4] }
  | _ => none }
def patientRow : OpenClaim := { program := "ytjhihliciadipaa", sum := "70942dbdb16871cf2173ff84fbb4ae8d8afaacb76edef5270ffe0f2162414009", func := "haul/haulkeep.Patient", spec := "patient", apart := false }
def PatientSaid : Prop := patientRow.holds Try.pinned (OpenSpec.ofChange patientSpec)

/-- ITS FALSE NEIGHBOUR: 'it returns false'. Refute it at one input. -/
def patientWrong : ChangeSpec := { name := "patient", fn := fun _ => fun
  | [d1, d2, d3, d4] => { results := [.lit (.bool false)], args := [d1, d2, d3, d4] }
  | _ => none }
def PatientWrongFalsely : Prop := patientRow.holds Try.pinned (OpenSpec.ofChange patientWrong)

/-- 'haulkeep.Honest': WHATEVER THE INPUT: true; the input reads as it did. -/
def honestSpec : ChangeSpec := { name := "honest", fn := fun _ => fun
  | [d1, d2] => { results := [.lit (.bool true)], args := [d1, d2] }
  | _ => none }
def honestRow : OpenClaim := { program := "ytjhihliciadipaa", sum := "70942dbdb16871cf2173ff84fbb4ae8d8afaacb76edef5270ffe0f2162414009", func := "haul/haulkeep.Honest", spec := "honest", apart := false }
def HonestSaid : Prop := honestRow.holds Try.pinned (OpenSpec.ofChange honestSpec)

/-- ITS FALSE NEIGHBOUR: 'it returns false'. Refute it at one input. -/
def honestWrong : ChangeSpec := { name := "honest", fn := fun _ => fun
  | [d1, d2] => { results := [.lit (.bool false)], args := [d1, d2] }
  | _ => none }
def HonestWrongFalsely : Prop := honestRow.holds Try.pinned (OpenSpec.ofChange honestWrong)

/-- 'haulkeep.Sourced': WHATEVER THE INPUT: true; the input reads as it did. -/
def sourcedSpec : ChangeSpec := { name := "sourced", fn := fun _ => fun
  | [d1, d2] => { results := [.lit (.bool true)], args := [d1, d2] }
  | _ => none }
def sourcedRow : OpenClaim := { program := "ytjhihliciadipaa", sum := "70942dbdb16871cf2173ff84fbb4ae8d8afaacb76edef5270ffe0f2162414009", func := "haul/haulkeep.Sourced", spec := "sourced", apart := false }
def SourcedSaid : Prop := sourcedRow.holds Try.pinned (OpenSpec.ofChange sourcedSpec)

/-- ITS FALSE NEIGHBOUR: 'it returns false'. Refute it at one input. -/
def sourcedWrong : ChangeSpec := { name := "sourced", fn := fun _ => fun
  | [d1, d2] => { results := [.lit (.bool false)], args := [d1, d2] }
  | _ => none }
def SourcedWrongFalsely : Prop := sourcedRow.holds Try.pinned (OpenSpec.ofChange sourcedWrong)

/-- 'haulkeep.Calm': WHATEVER THE INPUT: true; the input reads as it did. -/
def calmSpec : ChangeSpec := { name := "calm", fn := fun _ => fun
  | [d1, d2] => { results := [.lit (.bool true)], args := [d1, d2] }
  | _ => none }
def calmRow : OpenClaim := { program := "ytjhihliciadipaa", sum := "70942dbdb16871cf2173ff84fbb4ae8d8afaacb76edef5270ffe0f2162414009", func := "haul/haulkeep.Calm", spec := "calm", apart := false }
def CalmSaid : Prop := calmRow.holds Try.pinned (OpenSpec.ofChange calmSpec)

/-- ITS FALSE NEIGHBOUR: 'it returns false'. Refute it at one input. -/
def calmWrong : ChangeSpec := { name := "calm", fn := fun _ => fun
  | [d1, d2] => { results := [.lit (.bool false)], args := [d1, d2] }
  | _ => none }
def CalmWrongFalsely : Prop := calmRow.holds Try.pinned (OpenSpec.ofChange calmWrong)

/-- 'haulkeep.Apart': WHATEVER THE INPUT: true; the input reads as it did. -/
def apartSpec : ChangeSpec := { name := "apart", fn := fun _ => fun
  | [d1, d2, d3, d4] => { results := [.lit (.bool true)], args := [d1, d2, d3, d4] }
  | _ => none }
def apartRow : OpenClaim := { program := "ytjhihliciadipaa", sum := "70942dbdb16871cf2173ff84fbb4ae8d8afaacb76edef5270ffe0f2162414009", func := "haul/haulkeep.Apart", spec := "apart", apart := false }
def ApartSaid : Prop := apartRow.holds Try.pinned (OpenSpec.ofChange apartSpec)

/-- ITS FALSE NEIGHBOUR: 'it returns false'. Refute it at one input. -/
def apartWrong : ChangeSpec := { name := "apart", fn := fun _ => fun
  | [d1, d2, d3, d4] => { results := [.lit (.bool false)], args := [d1, d2, d3, d4] }
  | _ => none }
def ApartWrongFalsely : Prop := apartRow.holds Try.pinned (OpenSpec.ofChange apartWrong)

/- THE SECOND FORM. 'bulk': how many values and letters a reading holds, each counted each time it is reached (what is shared counts as often as it is met; a slice's spare places count too). A statement '..UptoSaid' is the law's where the arguments, and the package variables that the reading takes, are together of bulk at most 1048576: NARROWER than '..Said'. Prove '..Said' where nothing that the law and all that it calls make is longer than what came in: it says more and counts as full. Else prove '..UptoSaid'. A law counts once. -/
mutual
def uptoBulk {H : Type} : DataW H → Nat
  | .lit (.string bytes) => bytes.length + 1
  | .lit _ => 1
  | .nil => 1
  | .ptr d => uptoBulk d + 1
  | .slice elems spare => uptoBulkAll elems + uptoBulkAll spare + 1
  | .agg parts => uptoBulkAll parts + 1
  | .iface _ d => uptoBulk d + 1
  | .map entries => uptoBulkEntries entries + 1
  | .held _ => 1
def uptoBulkAll {H : Type} : List (DataW H) → Nat
  | [] => 0
  | d :: r => uptoBulk d + uptoBulkAll r
def uptoBulkEntries {H : Type} : List (Lit × DataW H) → Nat
  | [] => 0
  | x :: r => uptoBulkEntry x + uptoBulkEntries r
def uptoBulkEntry {H : Type} : Lit × DataW H → Nat
  | (.string bytes, d) => bytes.length + uptoBulk d + 1
  | (_, d) => uptoBulk d + 1
 end
def uptoSmall : (H : Type) → List (DataW H) → Bool := fun _ ds => decide (uptoBulkAll ds ≤ 1048576)
def OpenSpec.upto (s : _root_.Go.ChangeSpec) : _root_.Go.OpenSpec := { _root_.Go.OpenSpec.ofChange s with cond := some uptoSmall }

/-- 'haulkeep.Ranged', WHERE WHAT IT READS IS OF BULK AT MOST 1048576: true; the input reads as it did. -/
def rangedUptoRow : OpenClaim := { program := "ytjhihliciadipaa", sum := "70942dbdb16871cf2173ff84fbb4ae8d8afaacb76edef5270ffe0f2162414009", func := "haul/haulkeep.Ranged", spec := "ranged", apart := false, narrowed := true }
def RangedUptoSaid : Prop := rangedUptoRow.holds Try.pinned (OpenSpec.upto rangedSpec)

/-- 'haulkeep.Patient', WHERE WHAT IT READS IS OF BULK AT MOST 1048576: true; the input reads as it did. -/
def patientUptoRow : OpenClaim := { program := "ytjhihliciadipaa", sum := "70942dbdb16871cf2173ff84fbb4ae8d8afaacb76edef5270ffe0f2162414009", func := "haul/haulkeep.Patient", spec := "patient", apart := false, narrowed := true }
def PatientUptoSaid : Prop := patientUptoRow.holds Try.pinned (OpenSpec.upto patientSpec)

/-- 'haulkeep.Honest', WHERE WHAT IT READS IS OF BULK AT MOST 1048576: true; the input reads as it did. -/
def honestUptoRow : OpenClaim := { program := "ytjhihliciadipaa", sum := "70942dbdb16871cf2173ff84fbb4ae8d8afaacb76edef5270ffe0f2162414009", func := "haul/haulkeep.Honest", spec := "honest", apart := false, narrowed := true }
def HonestUptoSaid : Prop := honestUptoRow.holds Try.pinned (OpenSpec.upto honestSpec)

/-- 'haulkeep.Sourced', WHERE WHAT IT READS IS OF BULK AT MOST 1048576: true; the input reads as it did. -/
def sourcedUptoRow : OpenClaim := { program := "ytjhihliciadipaa", sum := "70942dbdb16871cf2173ff84fbb4ae8d8afaacb76edef5270ffe0f2162414009", func := "haul/haulkeep.Sourced", spec := "sourced", apart := false, narrowed := true }
def SourcedUptoSaid : Prop := sourcedUptoRow.holds Try.pinned (OpenSpec.upto sourcedSpec)

/-- 'haulkeep.Calm', WHERE WHAT IT READS IS OF BULK AT MOST 1048576: true; the input reads as it did. -/
def calmUptoRow : OpenClaim := { program := "ytjhihliciadipaa", sum := "70942dbdb16871cf2173ff84fbb4ae8d8afaacb76edef5270ffe0f2162414009", func := "haul/haulkeep.Calm", spec := "calm", apart := false, narrowed := true }
def CalmUptoSaid : Prop := calmUptoRow.holds Try.pinned (OpenSpec.upto calmSpec)

/-- 'haulkeep.Apart', WHERE WHAT IT READS IS OF BULK AT MOST 1048576: true; the input reads as it did. -/
def apartUptoRow : OpenClaim := { program := "ytjhihliciadipaa", sum := "70942dbdb16871cf2173ff84fbb4ae8d8afaacb76edef5270ffe0f2162414009", func := "haul/haulkeep.Apart", spec := "apart", apart := false, narrowed := true }
def ApartUptoSaid : Prop := apartUptoRow.holds Try.pinned (OpenSpec.upto apartSpec)

end Rows
end Go.Proofs.Ytjhihliciadipaa
