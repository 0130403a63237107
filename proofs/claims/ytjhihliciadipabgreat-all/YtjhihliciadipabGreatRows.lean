/-
  No cell of these rows narrows 'for every input' (looked for: loops, veiled, ifaces, maps, wideKeys, modest, calm, conditions, laid).
  DERIVED. THE GIVEN ROWS OF THIS SEAT. 3 by the template 'for every input the law returns true; each argument reads behind the call as it read before'; 0 by the template 'total and deterministic' (their statements: YtjhihliciadipabGreatTotals.lean).
  GIVEN WITH THE SEED: the statements are not yours to turn. If you find one false, say at which input.
  Laid BY PROGRAM, IN A SANDBOX (cutbox-rows.mjs): the forced cells as the released guide's own fill.sh prints them over the translation 75eecb93fded7f81… (all of the seat's roots in one cut). By AI agents, Wed Nov 11 2026. No macro, syntax, notation, axiom, sorry.
-/
import Derived.Test.YtjhihliciadipabGreatChecked
import GoSem.Claim
import GoSem.ClaimJoined
import GoSem.ClaimMapViews
import Derived.JoinedTies
import Derived.KernelRfl
namespace Go.Proofs.YtjhihliciadipabGreat
/- THE CELL 'sum', in the pinned program and in every row, IS THE sha256 OF THE DUMP (.gsa) THAT YtjhihliciadipabGreatProg.lean LOADS. Nothing in Lean hashes anything: it is a label: what it is worth is what the hold of that sum in a sandbox is worth. -/
noncomputable def Tryz.pinned : Pinned := { name := "ytjhihliciadipabgreat", sum := "75eecb93fded7f81e14314229f0012a5fd87e0ffe8eb354197331e99cbf2fd44", checked := Tryz.checked }
namespace Rows
def none {H : Type} : Left H := { results := [], args := [] }

/-- 'haullaw.Replies': WHATEVER THE INPUT: true; the input reads as it did. -/
def repliesSpec : ChangeSpec := { name := "replies", fn := fun _ => fun
  | [d] => { results := [.lit (.bool true)], args := [d] }
  | _ => none }
def repliesRow : OpenClaim := { program := "ytjhihliciadipabgreat", sum := "75eecb93fded7f81e14314229f0012a5fd87e0ffe8eb354197331e99cbf2fd44", func := "haul/haullaw.Replies", spec := "replies", apart := false }
def RepliesSaid : Prop := repliesRow.holds Tryz.pinned (OpenSpec.ofChange repliesSpec)

/-- ITS FALSE NEIGHBOUR: 'it returns false'. Refute it at one input. -/
def repliesWrong : ChangeSpec := { name := "replies", fn := fun _ => fun
  | [d] => { results := [.lit (.bool false)], args := [d] }
  | _ => none }
def RepliesWrongFalsely : Prop := repliesRow.holds Tryz.pinned (OpenSpec.ofChange repliesWrong)

/-- 'haullaw.Caches': WHATEVER THE INPUT: true; the input reads as it did. -/
def cachesSpec : ChangeSpec := { name := "caches", fn := fun _ => fun
  | [d] => { results := [.lit (.bool true)], args := [d] }
  | _ => none }
def cachesRow : OpenClaim := { program := "ytjhihliciadipabgreat", sum := "75eecb93fded7f81e14314229f0012a5fd87e0ffe8eb354197331e99cbf2fd44", func := "haul/haullaw.Caches", spec := "caches", apart := false }
def CachesSaid : Prop := cachesRow.holds Tryz.pinned (OpenSpec.ofChange cachesSpec)

/-- ITS FALSE NEIGHBOUR: 'it returns false'. Refute it at one input. -/
def cachesWrong : ChangeSpec := { name := "caches", fn := fun _ => fun
  | [d] => { results := [.lit (.bool false)], args := [d] }
  | _ => none }
def CachesWrongFalsely : Prop := cachesRow.holds Tryz.pinned (OpenSpec.ofChange cachesWrong)

/-- 'haullaw.All': WHATEVER THE INPUT: true; the input reads as it did. -/
def allSpec : ChangeSpec := { name := "all", fn := fun _ => fun
  | [d] => { results := [.lit (.bool true)], args := [d] }
  | _ => none }
def allRow : OpenClaim := { program := "ytjhihliciadipabgreat", sum := "75eecb93fded7f81e14314229f0012a5fd87e0ffe8eb354197331e99cbf2fd44", func := "haul/haullaw.All", spec := "all", apart := false }
def AllSaid : Prop := allRow.holds Tryz.pinned (OpenSpec.ofChange allSpec)

/-- ITS FALSE NEIGHBOUR: 'it returns false'. Refute it at one input. -/
def allWrong : ChangeSpec := { name := "all", fn := fun _ => fun
  | [d] => { results := [.lit (.bool false)], args := [d] }
  | _ => none }
def AllWrongFalsely : Prop := allRow.holds Tryz.pinned (OpenSpec.ofChange allWrong)

/- THE SECOND FORM. 'bulk': how many values and letters a reading holds, each counted each time it is reached (what is shared counts as often as it is met; a slice's spare places count too). A statement '..UptoSaid' is the law's where the arguments, and the package variables that the reading takes, are together of bulk at most 1048576: NARROWER than '..Said'. Prove '..Said' where nothing that the law and all that it calls make is longer than what came in: it says more and counts as full. Else prove '..UptoSaid'. A law counts once. -/
mutual
def uptoBulk {H : Type} : DataW H → Nat
  | .lit (.string bytes) => bytes.length + 1
  | .lit _ => 1
  | .nil => 1
  | .ptr d => uptoBulk d + 1
  | .slice elems spare => uptoBulkAll elems + uptoBulkAll spare + 1
  | .agg parts => uptoBulkAll parts + 1
  | .iface _ d => uptoBulk d + 1
  | .map entries => uptoBulkEntries entries + 1
  | .held _ => 1
def uptoBulkAll {H : Type} : List (DataW H) → Nat
  | [] => 0
  | d :: r => uptoBulk d + uptoBulkAll r
def uptoBulkEntries {H : Type} : List (Lit × DataW H) → Nat
  | [] => 0
  | x :: r => uptoBulkEntry x + uptoBulkEntries r
def uptoBulkEntry {H : Type} : Lit × DataW H → Nat
  | (.string bytes, d) => bytes.length + uptoBulk d + 1
  | (_, d) => uptoBulk d + 1
 end
def uptoSmall : (H : Type) → List (DataW H) → Bool := fun _ ds => decide (uptoBulkAll ds ≤ 1048576)
def OpenSpec.upto (s : _root_.Go.ChangeSpec) : _root_.Go.OpenSpec := { _root_.Go.OpenSpec.ofChange s with cond := some uptoSmall }

/-- 'haullaw.Replies', WHERE WHAT IT READS IS OF BULK AT MOST 1048576: true; the input reads as it did. -/
def repliesUptoRow : OpenClaim := { program := "ytjhihliciadipabgreat", sum := "75eecb93fded7f81e14314229f0012a5fd87e0ffe8eb354197331e99cbf2fd44", func := "haul/haullaw.Replies", spec := "replies", apart := false, narrowed := true }
def RepliesUptoSaid : Prop := repliesUptoRow.holds Tryz.pinned (OpenSpec.upto repliesSpec)

/-- 'haullaw.Caches', WHERE WHAT IT READS IS OF BULK AT MOST 1048576: true; the input reads as it did. -/
def cachesUptoRow : OpenClaim := { program := "ytjhihliciadipabgreat", sum := "75eecb93fded7f81e14314229f0012a5fd87e0ffe8eb354197331e99cbf2fd44", func := "haul/haullaw.Caches", spec := "caches", apart := false, narrowed := true }
def CachesUptoSaid : Prop := cachesUptoRow.holds Tryz.pinned (OpenSpec.upto cachesSpec)

/-- 'haullaw.All', WHERE WHAT IT READS IS OF BULK AT MOST 1048576: true; the input reads as it did. -/
def allUptoRow : OpenClaim := { program := "ytjhihliciadipabgreat", sum := "75eecb93fded7f81e14314229f0012a5fd87e0ffe8eb354197331e99cbf2fd44", func := "haul/haullaw.All", spec := "all", apart := false, narrowed := true }
def AllUptoSaid : Prop := allUptoRow.holds Tryz.pinned (OpenSpec.upto allSpec)

end Rows
end Go.Proofs.YtjhihliciadipabGreat
