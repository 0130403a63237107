/-
  No cell of these rows narrows 'for every input' (looked for: loops, veiled, ifaces, maps, wideKeys, modest, calm, conditions, laid).
  DERIVED. THE GIVEN ROWS OF THIS SEAT. 6 by the template 'for every input the law returns true; each argument reads behind the call as it read before'; 0 by the template 'total and deterministic' (their statements: YtjhihliciadipaaGreatTotals.lean).
  GIVEN WITH THE SEED: the statements are not yours to turn. If you find one false, say at which input.
  Laid BY PROGRAM, IN A SANDBOX (cutbox-rows.mjs): the forced cells as the released guide's own fill.sh prints them over the translation 359ba5f4e9ccf4ab… (all of the seat's roots in one cut). By AI agents, Wed Nov 11 2026. No macro, syntax, notation, axiom, sorry.
-/
import Derived.Test.YtjhihliciadipaaGreatChecked
import GoSem.Claim
import GoSem.ClaimJoined
import GoSem.ClaimMapViews
import Derived.JoinedTies
import Derived.KernelRfl
namespace Go.Proofs.YtjhihliciadipaaGreat
/- THE CELL 'sum', in the pinned program and in every row, IS THE sha256 OF THE DUMP (.gsa) THAT YtjhihliciadipaaGreatProg.lean LOADS. Nothing in Lean hashes anything: it is a label: what it is worth is what the hold of that sum in a sandbox is worth. -/
noncomputable def Tryz.pinned : Pinned := { name := "ytjhihliciadipaagreat", sum := "359ba5f4e9ccf4abbfcdfac385ef1ca4ccf211747b5619510e8d1b107fd931c4", checked := Tryz.checked }
namespace Rows
def none {H : Type} : Left H := { results := [], args := [] }

/-- 'haullaw.News': WHATEVER THE INPUT: true; the input reads as it did. -/
def newsSpec : ChangeSpec := { name := "news", fn := fun _ => fun
  | [d] => { results := [.lit (.bool true)], args := [d] }
  | _ => none }
def newsRow : OpenClaim := { program := "ytjhihliciadipaagreat", sum := "359ba5f4e9ccf4abbfcdfac385ef1ca4ccf211747b5619510e8d1b107fd931c4", func := "haul/haullaw.News", spec := "news", apart := false }
def NewsSaid : Prop := newsRow.holds Tryz.pinned (OpenSpec.ofChange newsSpec)

/-- ITS FALSE NEIGHBOUR: 'it returns false'. Refute it at one input. -/
def newsWrong : ChangeSpec := { name := "news", fn := fun _ => fun
  | [d] => { results := [.lit (.bool false)], args := [d] }
  | _ => none }
def NewsWrongFalsely : Prop := newsRow.holds Tryz.pinned (OpenSpec.ofChange newsWrong)

/-- 'haullaw.Asks': WHATEVER THE INPUT: true; the input reads as it did. -/
def asksSpec : ChangeSpec := { name := "asks", fn := fun _ => fun
  | [d] => { results := [.lit (.bool true)], args := [d] }
  | _ => none }
def asksRow : OpenClaim := { program := "ytjhihliciadipaagreat", sum := "359ba5f4e9ccf4abbfcdfac385ef1ca4ccf211747b5619510e8d1b107fd931c4", func := "haul/haullaw.Asks", spec := "asks", apart := false }
def AsksSaid : Prop := asksRow.holds Tryz.pinned (OpenSpec.ofChange asksSpec)

/-- ITS FALSE NEIGHBOUR: 'it returns false'. Refute it at one input. -/
def asksWrong : ChangeSpec := { name := "asks", fn := fun _ => fun
  | [d] => { results := [.lit (.bool false)], args := [d] }
  | _ => none }
def AsksWrongFalsely : Prop := asksRow.holds Tryz.pinned (OpenSpec.ofChange asksWrong)

/-- 'haullaw.States': WHATEVER THE INPUT: true; the input reads as it did. -/
def statesSpec : ChangeSpec := { name := "states", fn := fun _ => fun
  | [d] => { results := [.lit (.bool true)], args := [d] }
  | _ => none }
def statesRow : OpenClaim := { program := "ytjhihliciadipaagreat", sum := "359ba5f4e9ccf4abbfcdfac385ef1ca4ccf211747b5619510e8d1b107fd931c4", func := "haul/haullaw.States", spec := "states", apart := false }
def StatesSaid : Prop := statesRow.holds Tryz.pinned (OpenSpec.ofChange statesSpec)

/-- ITS FALSE NEIGHBOUR: 'it returns false'. Refute it at one input. -/
def statesWrong : ChangeSpec := { name := "states", fn := fun _ => fun
  | [d] => { results := [.lit (.bool false)], args := [d] }
  | _ => none }
def StatesWrongFalsely : Prop := statesRow.holds Tryz.pinned (OpenSpec.ofChange statesWrong)

/-- 'haullaw.Heads': WHATEVER THE INPUT: true; the input reads as it did. -/
def headsSpec : ChangeSpec := { name := "heads", fn := fun _ => fun
  | [d] => { results := [.lit (.bool true)], args := [d] }
  | _ => none }
def headsRow : OpenClaim := { program := "ytjhihliciadipaagreat", sum := "359ba5f4e9ccf4abbfcdfac385ef1ca4ccf211747b5619510e8d1b107fd931c4", func := "haul/haullaw.Heads", spec := "heads", apart := false }
def HeadsSaid : Prop := headsRow.holds Tryz.pinned (OpenSpec.ofChange headsSpec)

/-- ITS FALSE NEIGHBOUR: 'it returns false'. Refute it at one input. -/
def headsWrong : ChangeSpec := { name := "heads", fn := fun _ => fun
  | [d] => { results := [.lit (.bool false)], args := [d] }
  | _ => none }
def HeadsWrongFalsely : Prop := headsRow.holds Tryz.pinned (OpenSpec.ofChange headsWrong)

/-- 'haullaw.Takes': WHATEVER THE INPUT: true; the input reads as it did. -/
def takesSpec : ChangeSpec := { name := "takes", fn := fun _ => fun
  | [d] => { results := [.lit (.bool true)], args := [d] }
  | _ => none }
def takesRow : OpenClaim := { program := "ytjhihliciadipaagreat", sum := "359ba5f4e9ccf4abbfcdfac385ef1ca4ccf211747b5619510e8d1b107fd931c4", func := "haul/haullaw.Takes", spec := "takes", apart := false }
def TakesSaid : Prop := takesRow.holds Tryz.pinned (OpenSpec.ofChange takesSpec)

/-- ITS FALSE NEIGHBOUR: 'it returns false'. Refute it at one input. -/
def takesWrong : ChangeSpec := { name := "takes", fn := fun _ => fun
  | [d] => { results := [.lit (.bool false)], args := [d] }
  | _ => none }
def TakesWrongFalsely : Prop := takesRow.holds Tryz.pinned (OpenSpec.ofChange takesWrong)

/-- 'haullaw.Nexts': WHATEVER THE INPUT: true; the input reads as it did. -/
def nextsSpec : ChangeSpec := { name := "nexts", fn := fun _ => fun
  | [d] => { results := [.lit (.bool true)], args := [d] }
  | _ => none }
def nextsRow : OpenClaim := { program := "ytjhihliciadipaagreat", sum := "359ba5f4e9ccf4abbfcdfac385ef1ca4ccf211747b5619510e8d1b107fd931c4", func := "haul/haullaw.Nexts", spec := "nexts", apart := false }
def NextsSaid : Prop := nextsRow.holds Tryz.pinned (OpenSpec.ofChange nextsSpec)

/-- ITS FALSE NEIGHBOUR: 'it returns false'. Refute it at one input. -/
def nextsWrong : ChangeSpec := { name := "nexts", fn := fun _ => fun
  | [d] => { results := [.lit (.bool false)], args := [d] }
  | _ => none }
def NextsWrongFalsely : Prop := nextsRow.holds Tryz.pinned (OpenSpec.ofChange nextsWrong)

/- THE SECOND FORM. 'bulk': how many values and letters a reading holds, each counted each time it is reached (what is shared counts as often as it is met; a slice's spare places count too). A statement '..UptoSaid' is the law's where the arguments, and the package variables that the reading takes, are together of bulk at most 1048576: NARROWER than '..Said'. Prove '..Said' where nothing that the law and all that it calls make is longer than what came in: it says more and counts as full. Else prove '..UptoSaid'. A law counts once. -/
mutual
def uptoBulk {H : Type} : DataW H → Nat
  | .lit (.string bytes) => bytes.length + 1
  | .lit _ => 1
  | .nil => 1
  | .ptr d => uptoBulk d + 1
  | .slice elems spare => uptoBulkAll elems + uptoBulkAll spare + 1
  | .agg parts => uptoBulkAll parts + 1
  | .iface _ d => uptoBulk d + 1
  | .map entries => uptoBulkEntries entries + 1
  | .held _ => 1
def uptoBulkAll {H : Type} : List (DataW H) → Nat
  | [] => 0
  | d :: r => uptoBulk d + uptoBulkAll r
def uptoBulkEntries {H : Type} : List (Lit × DataW H) → Nat
  | [] => 0
  | x :: r => uptoBulkEntry x + uptoBulkEntries r
def uptoBulkEntry {H : Type} : Lit × DataW H → Nat
  | (.string bytes, d) => bytes.length + uptoBulk d + 1
  | (_, d) => uptoBulk d + 1
 end
def uptoSmall : (H : Type) → List (DataW H) → Bool := fun _ ds => decide (uptoBulkAll ds ≤ 1048576)
def OpenSpec.upto (s : _root_.Go.ChangeSpec) : _root_.Go.OpenSpec := { _root_.Go.OpenSpec.ofChange s with cond := some uptoSmall }

/-- 'haullaw.News', WHERE WHAT IT READS IS OF BULK AT MOST 1048576: true; the input reads as it did. -/
def newsUptoRow : OpenClaim := { program := "ytjhihliciadipaagreat", sum := "359ba5f4e9ccf4abbfcdfac385ef1ca4ccf211747b5619510e8d1b107fd931c4", func := "haul/haullaw.News", spec := "news", apart := false, narrowed := true }
def NewsUptoSaid : Prop := newsUptoRow.holds Tryz.pinned (OpenSpec.upto newsSpec)

/-- 'haullaw.Asks', WHERE WHAT IT READS IS OF BULK AT MOST 1048576: true; the input reads as it did. -/
def asksUptoRow : OpenClaim := { program := "ytjhihliciadipaagreat", sum := "359ba5f4e9ccf4abbfcdfac385ef1ca4ccf211747b5619510e8d1b107fd931c4", func := "haul/haullaw.Asks", spec := "asks", apart := false, narrowed := true }
def AsksUptoSaid : Prop := asksUptoRow.holds Tryz.pinned (OpenSpec.upto asksSpec)

/-- 'haullaw.States', WHERE WHAT IT READS IS OF BULK AT MOST 1048576: true; the input reads as it did. -/
def statesUptoRow : OpenClaim := { program := "ytjhihliciadipaagreat", sum := "359ba5f4e9ccf4abbfcdfac385ef1ca4ccf211747b5619510e8d1b107fd931c4", func := "haul/haullaw.States", spec := "states", apart := false, narrowed := true }
def StatesUptoSaid : Prop := statesUptoRow.holds Tryz.pinned (OpenSpec.upto statesSpec)

/-- 'haullaw.Heads', WHERE WHAT IT READS IS OF BULK AT MOST 1048576: true; the input reads as it did. -/
def headsUptoRow : OpenClaim := { program := "ytjhihliciadipaagreat", sum := "359ba5f4e9ccf4abbfcdfac385ef1ca4ccf211747b5619510e8d1b107fd931c4", func := "haul/haullaw.Heads", spec := "heads", apart := false, narrowed := true }
def HeadsUptoSaid : Prop := headsUptoRow.holds Tryz.pinned (OpenSpec.upto headsSpec)

/-- 'haullaw.Takes', WHERE WHAT IT READS IS OF BULK AT MOST 1048576: true; the input reads as it did. -/
def takesUptoRow : OpenClaim := { program := "ytjhihliciadipaagreat", sum := "359ba5f4e9ccf4abbfcdfac385ef1ca4ccf211747b5619510e8d1b107fd931c4", func := "haul/haullaw.Takes", spec := "takes", apart := false, narrowed := true }
def TakesUptoSaid : Prop := takesUptoRow.holds Tryz.pinned (OpenSpec.upto takesSpec)

/-- 'haullaw.Nexts', WHERE WHAT IT READS IS OF BULK AT MOST 1048576: true; the input reads as it did. -/
def nextsUptoRow : OpenClaim := { program := "ytjhihliciadipaagreat", sum := "359ba5f4e9ccf4abbfcdfac385ef1ca4ccf211747b5619510e8d1b107fd931c4", func := "haul/haullaw.Nexts", spec := "nexts", apart := false, narrowed := true }
def NextsUptoSaid : Prop := nextsUptoRow.holds Tryz.pinned (OpenSpec.upto nextsSpec)

end Rows
end Go.Proofs.YtjhihliciadipaaGreat
