/-
  No cell of these rows narrows 'for every input' (looked for: loops, veiled, ifaces, maps, wideKeys, modest, calm, conditions, laid).
  DERIVED. THE GIVEN ROWS OF THIS SEAT. 5 by the template 'for every input the law returns true; each argument reads behind the call as it read before'; 0 by the template 'total and deterministic' (their statements: YtphpbeapibohiaaTotals.lean).
  GIVEN WITH THE SEED: the statements are not yours to turn. If you find one false, say at which input.
  Laid BY PROGRAM, IN A SANDBOX (cutbox-rows.mjs): the forced cells as the released guide's own fill.sh prints them over the translation 9a8970ce8555618e… (all of the seat's roots in one cut). By AI agents, Wed Nov 11 2026. No macro, syntax, notation, axiom, sorry.
-/
import Derived.Test.YtphpbeapibohiaaChecked
import GoSem.Claim
import GoSem.ClaimJoined
import GoSem.ClaimMapViews
import Derived.JoinedTies
import Derived.KernelRfl
namespace Go.Proofs.Ytphpbeapibohiaa
/- THE CELL 'sum', in the pinned program and in every row, IS THE sha256 OF THE DUMP (.gsa) THAT YtphpbeapibohiaaProg.lean LOADS. Nothing in Lean hashes anything: it is a label: what it is worth is what the hold of that sum in a sandbox is worth. -/
noncomputable def Try.pinned : Pinned := { name := "ytphpbeapibohiaa", sum := "9a8970ce8555618e9ff7372c9e64a0c49960fbedff157a701d46bdd3ab26da1a", checked := Try.checked }
namespace Rows
def none {H : Type} : Left H := { results := [], args := [] }

/-- 'towncrierlaw15.SeeTells': WHATEVER THE INPUT: true; the input reads as it did. -/
def seeTellsSpec : ChangeSpec := { name := "seeTells", fn := fun _ => fun
  | [d1, d2] => { results := [.lit (.bool true)], args := [d1, d2] }
  | _ => none }
def seeTellsRow : OpenClaim := { program := "ytphpbeapibohiaa", sum := "9a8970ce8555618e9ff7372c9e64a0c49960fbedff157a701d46bdd3ab26da1a", func := "towncrier/towncrierlaw15.SeeTells", spec := "seeTells", unfollowed := true, recurses := true, apart := false }
def SeeTellsSaid : Prop := seeTellsRow.holds Try.pinned (OpenSpec.ofChange seeTellsSpec)

/-- ITS FALSE NEIGHBOUR: 'it returns false'. Refute it at one input. -/
def seeTellsWrong : ChangeSpec := { name := "seeTells", fn := fun _ => fun
  | [d1, d2] => { results := [.lit (.bool false)], args := [d1, d2] }
  | _ => none }
def SeeTellsWrongFalsely : Prop := seeTellsRow.holds Try.pinned (OpenSpec.ofChange seeTellsWrong)

/-- 'towncrierlaw15.SeePart': WHATEVER THE INPUT: true; the input reads as it did. -/
def seePartSpec : ChangeSpec := { name := "seePart", fn := fun _ => fun
  | [d1, d2] => { results := [.lit (.bool true)], args := [d1, d2] }
  | _ => none }
def seePartRow : OpenClaim := { program := "ytphpbeapibohiaa", sum := "9a8970ce8555618e9ff7372c9e64a0c49960fbedff157a701d46bdd3ab26da1a", func := "towncrier/towncrierlaw15.SeePart", spec := "seePart", unfollowed := true, recurses := true, apart := false }
def SeePartSaid : Prop := seePartRow.holds Try.pinned (OpenSpec.ofChange seePartSpec)

/-- ITS FALSE NEIGHBOUR: 'it returns false'. Refute it at one input. -/
def seePartWrong : ChangeSpec := { name := "seePart", fn := fun _ => fun
  | [d1, d2] => { results := [.lit (.bool false)], args := [d1, d2] }
  | _ => none }
def SeePartWrongFalsely : Prop := seePartRow.holds Try.pinned (OpenSpec.ofChange seePartWrong)

/-- 'towncrierlaw15.SeeHides': WHATEVER THE INPUT: true; the input reads as it did. -/
def seeHidesSpec : ChangeSpec := { name := "seeHides", fn := fun _ => fun
  | [d1, d2, d3, d4] => { results := [.lit (.bool true)], args := [d1, d2, d3, d4] }
  | _ => none }
def seeHidesRow : OpenClaim := { program := "ytphpbeapibohiaa", sum := "9a8970ce8555618e9ff7372c9e64a0c49960fbedff157a701d46bdd3ab26da1a", func := "towncrier/towncrierlaw15.SeeHides", spec := "seeHides", unfollowed := true, recurses := true, apart := false }
def SeeHidesSaid : Prop := seeHidesRow.holds Try.pinned (OpenSpec.ofChange seeHidesSpec)

/-- ITS FALSE NEIGHBOUR: 'it returns false'. Refute it at one input. -/
def seeHidesWrong : ChangeSpec := { name := "seeHides", fn := fun _ => fun
  | [d1, d2, d3, d4] => { results := [.lit (.bool false)], args := [d1, d2, d3, d4] }
  | _ => none }
def SeeHidesWrongFalsely : Prop := seeHidesRow.holds Try.pinned (OpenSpec.ofChange seeHidesWrong)

/-- 'towncrierlaw15.SeeOpen': WHATEVER THE INPUT: true; the input reads as it did. -/
def seeOpenSpec : ChangeSpec := { name := "seeOpen", fn := fun _ => fun
  | [d1, d2] => { results := [.lit (.bool true)], args := [d1, d2] }
  | _ => none }
def seeOpenRow : OpenClaim := { program := "ytphpbeapibohiaa", sum := "9a8970ce8555618e9ff7372c9e64a0c49960fbedff157a701d46bdd3ab26da1a", func := "towncrier/towncrierlaw15.SeeOpen", spec := "seeOpen", unfollowed := true, recurses := true, apart := false }
def SeeOpenSaid : Prop := seeOpenRow.holds Try.pinned (OpenSpec.ofChange seeOpenSpec)

/-- ITS FALSE NEIGHBOUR: 'it returns false'. Refute it at one input. -/
def seeOpenWrong : ChangeSpec := { name := "seeOpen", fn := fun _ => fun
  | [d1, d2] => { results := [.lit (.bool false)], args := [d1, d2] }
  | _ => none }
def SeeOpenWrongFalsely : Prop := seeOpenRow.holds Try.pinned (OpenSpec.ofChange seeOpenWrong)

/-- 'towncrierlaw15.SeeNested': WHATEVER THE INPUT: true; the input reads as it did. -/
def seeNestedSpec : ChangeSpec := { name := "seeNested", fn := fun _ => fun
  | [d1, d2, d3] => { results := [.lit (.bool true)], args := [d1, d2, d3] }
  | _ => none }
def seeNestedRow : OpenClaim := { program := "ytphpbeapibohiaa", sum := "9a8970ce8555618e9ff7372c9e64a0c49960fbedff157a701d46bdd3ab26da1a", func := "towncrier/towncrierlaw15.SeeNested", spec := "seeNested", unfollowed := true, recurses := true, apart := false }
def SeeNestedSaid : Prop := seeNestedRow.holds Try.pinned (OpenSpec.ofChange seeNestedSpec)

/-- ITS FALSE NEIGHBOUR: 'it returns false'. Refute it at one input. -/
def seeNestedWrong : ChangeSpec := { name := "seeNested", fn := fun _ => fun
  | [d1, d2, d3] => { results := [.lit (.bool false)], args := [d1, d2, d3] }
  | _ => none }
def SeeNestedWrongFalsely : Prop := seeNestedRow.holds Try.pinned (OpenSpec.ofChange seeNestedWrong)

/- THE SECOND FORM. 'bulk': how many values and letters a reading holds, each counted each time it is reached (what is shared counts as often as it is met; a slice's spare places count too). A statement '..UptoSaid' is the law's where the arguments, and the package variables that the reading takes, are together of bulk at most 1048576: NARROWER than '..Said'. Prove '..Said' where nothing that the law and all that it calls make is longer than what came in: it says more and counts as full. Else prove '..UptoSaid'. A law counts once. -/
mutual
def uptoBulk {H : Type} : DataW H → Nat
  | .lit (.string bytes) => bytes.length + 1
  | .lit _ => 1
  | .nil => 1
  | .ptr d => uptoBulk d + 1
  | .slice elems spare => uptoBulkAll elems + uptoBulkAll spare + 1
  | .agg parts => uptoBulkAll parts + 1
  | .iface _ d => uptoBulk d + 1
  | .map entries => uptoBulkEntries entries + 1
  | .held _ => 1
def uptoBulkAll {H : Type} : List (DataW H) → Nat
  | [] => 0
  | d :: r => uptoBulk d + uptoBulkAll r
def uptoBulkEntries {H : Type} : List (Lit × DataW H) → Nat
  | [] => 0
  | x :: r => uptoBulkEntry x + uptoBulkEntries r
def uptoBulkEntry {H : Type} : Lit × DataW H → Nat
  | (.string bytes, d) => bytes.length + uptoBulk d + 1
  | (_, d) => uptoBulk d + 1
 end
def uptoSmall : (H : Type) → List (DataW H) → Bool := fun _ ds => decide (uptoBulkAll ds ≤ 1048576)
def OpenSpec.upto (s : _root_.Go.ChangeSpec) : _root_.Go.OpenSpec := { _root_.Go.OpenSpec.ofChange s with cond := some uptoSmall }

/-- 'towncrierlaw15.SeeTells', WHERE WHAT IT READS IS OF BULK AT MOST 1048576: true; the input reads as it did. -/
def seeTellsUptoRow : OpenClaim := { program := "ytphpbeapibohiaa", sum := "9a8970ce8555618e9ff7372c9e64a0c49960fbedff157a701d46bdd3ab26da1a", func := "towncrier/towncrierlaw15.SeeTells", spec := "seeTells", unfollowed := true, recurses := true, apart := false, narrowed := true }
def SeeTellsUptoSaid : Prop := seeTellsUptoRow.holds Try.pinned (OpenSpec.upto seeTellsSpec)

/-- 'towncrierlaw15.SeePart', WHERE WHAT IT READS IS OF BULK AT MOST 1048576: true; the input reads as it did. -/
def seePartUptoRow : OpenClaim := { program := "ytphpbeapibohiaa", sum := "9a8970ce8555618e9ff7372c9e64a0c49960fbedff157a701d46bdd3ab26da1a", func := "towncrier/towncrierlaw15.SeePart", spec := "seePart", unfollowed := true, recurses := true, apart := false, narrowed := true }
def SeePartUptoSaid : Prop := seePartUptoRow.holds Try.pinned (OpenSpec.upto seePartSpec)

/-- 'towncrierlaw15.SeeHides', WHERE WHAT IT READS IS OF BULK AT MOST 1048576: true; the input reads as it did. -/
def seeHidesUptoRow : OpenClaim := { program := "ytphpbeapibohiaa", sum := "9a8970ce8555618e9ff7372c9e64a0c49960fbedff157a701d46bdd3ab26da1a", func := "towncrier/towncrierlaw15.SeeHides", spec := "seeHides", unfollowed := true, recurses := true, apart := false, narrowed := true }
def SeeHidesUptoSaid : Prop := seeHidesUptoRow.holds Try.pinned (OpenSpec.upto seeHidesSpec)

/-- 'towncrierlaw15.SeeOpen', WHERE WHAT IT READS IS OF BULK AT MOST 1048576: true; the input reads as it did. -/
def seeOpenUptoRow : OpenClaim := { program := "ytphpbeapibohiaa", sum := "9a8970ce8555618e9ff7372c9e64a0c49960fbedff157a701d46bdd3ab26da1a", func := "towncrier/towncrierlaw15.SeeOpen", spec := "seeOpen", unfollowed := true, recurses := true, apart := false, narrowed := true }
def SeeOpenUptoSaid : Prop := seeOpenUptoRow.holds Try.pinned (OpenSpec.upto seeOpenSpec)

/-- 'towncrierlaw15.SeeNested', WHERE WHAT IT READS IS OF BULK AT MOST 1048576: true; the input reads as it did. -/
def seeNestedUptoRow : OpenClaim := { program := "ytphpbeapibohiaa", sum := "9a8970ce8555618e9ff7372c9e64a0c49960fbedff157a701d46bdd3ab26da1a", func := "towncrier/towncrierlaw15.SeeNested", spec := "seeNested", unfollowed := true, recurses := true, apart := false, narrowed := true }
def SeeNestedUptoSaid : Prop := seeNestedUptoRow.holds Try.pinned (OpenSpec.upto seeNestedSpec)

end Rows
end Go.Proofs.Ytphpbeapibohiaa
