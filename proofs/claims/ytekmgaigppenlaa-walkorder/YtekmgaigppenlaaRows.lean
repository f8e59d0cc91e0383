/-
  No cell of these rows narrows 'for every input' (looked for: loops, veiled, ifaces, maps, wideKeys, modest, calm, conditions, laid).
  DERIVED. THE GIVEN ROWS OF THIS SEAT. 4 by the template 'for every input the law returns true; each argument reads behind the call as it read before'; 0 by the template 'total and deterministic' (their statements: YtekmgaigppenlaaTotals.lean).
  GIVEN WITH THE SEED: the statements are not yours to turn. If you find one false, say at which input.
  Laid BY PROGRAM, IN A SANDBOX (cutbox-rows.mjs): the forced cells as the released guide's own fill.sh prints them over the translation 431919c38dff5338… (all of the seat's roots in one cut). By AI agents, Wed Nov 11 2026. No macro, syntax, notation, axiom, sorry.
-/
import Derived.Test.YtekmgaigppenlaaChecked
import GoSem.Claim
import GoSem.ClaimJoined
import GoSem.ClaimMapViews
import Derived.JoinedTies
import Derived.KernelRfl
namespace Go.Proofs.Ytekmgaigppenlaa
/- THE CELL 'sum', in the pinned program and in every row, IS THE sha256 OF THE DUMP (.gsa) THAT YtekmgaigppenlaaProg.lean LOADS. Nothing in Lean hashes anything: it is a label: what it is worth is what the hold of that sum in a sandbox is worth. -/
noncomputable def Try.pinned : Pinned := { name := "ytekmgaigppenlaa", sum := "431919c38dff5338021a2f87012a451381f7b802f9326c09933f2851c1df0270", checked := Try.checked }
namespace Rows
def none {H : Type} : Left H := { results := [], args := [] }

/-- 'towncrierlaw16.WalkTurns': WHATEVER THE INPUT: true; the input reads as it did. -/
def walkTurnsSpec : ChangeSpec := { name := "walkTurns", fn := fun _ => fun
  | [d1, d2, d3, d4] => { results := [.lit (.bool true)], args := [d1, d2, d3, d4] }
  | _ => none }
def walkTurnsRow : OpenClaim := { program := "ytekmgaigppenlaa", sum := "431919c38dff5338021a2f87012a451381f7b802f9326c09933f2851c1df0270", func := "towncrier/towncrierlaw16.WalkTurns", spec := "walkTurns", unfollowed := true, recurses := true, apart := false }
def WalkTurnsSaid : Prop := walkTurnsRow.holds Try.pinned (OpenSpec.ofChange walkTurnsSpec)

/-- ITS FALSE NEIGHBOUR: 'it returns false'. Refute it at one input. -/
def walkTurnsWrong : ChangeSpec := { name := "walkTurns", fn := fun _ => fun
  | [d1, d2, d3, d4] => { results := [.lit (.bool false)], args := [d1, d2, d3, d4] }
  | _ => none }
def WalkTurnsWrongFalsely : Prop := walkTurnsRow.holds Try.pinned (OpenSpec.ofChange walkTurnsWrong)

/-- 'towncrierlaw16.WalkClears': WHATEVER THE INPUT: true; the input reads as it did. -/
def walkClearsSpec : ChangeSpec := { name := "walkClears", fn := fun _ => fun
  | [d1, d2] => { results := [.lit (.bool true)], args := [d1, d2] }
  | _ => none }
def walkClearsRow : OpenClaim := { program := "ytekmgaigppenlaa", sum := "431919c38dff5338021a2f87012a451381f7b802f9326c09933f2851c1df0270", func := "towncrier/towncrierlaw16.WalkClears", spec := "walkClears", unfollowed := true, recurses := true, apart := false }
def WalkClearsSaid : Prop := walkClearsRow.holds Try.pinned (OpenSpec.ofChange walkClearsSpec)

/-- ITS FALSE NEIGHBOUR: 'it returns false'. Refute it at one input. -/
def walkClearsWrong : ChangeSpec := { name := "walkClears", fn := fun _ => fun
  | [d1, d2] => { results := [.lit (.bool false)], args := [d1, d2] }
  | _ => none }
def WalkClearsWrongFalsely : Prop := walkClearsRow.holds Try.pinned (OpenSpec.ofChange walkClearsWrong)

/-- 'towncrierlaw16.WalkOrder': WHATEVER THE INPUT: true; the input reads as it did. -/
def walkOrderSpec : ChangeSpec := { name := "walkOrder", fn := fun _ => fun
  | [d1, d2] => { results := [.lit (.bool true)], args := [d1, d2] }
  | _ => none }
def walkOrderRow : OpenClaim := { program := "ytekmgaigppenlaa", sum := "431919c38dff5338021a2f87012a451381f7b802f9326c09933f2851c1df0270", func := "towncrier/towncrierlaw16.WalkOrder", spec := "walkOrder", unfollowed := true, recurses := true, apart := false }
def WalkOrderSaid : Prop := walkOrderRow.holds Try.pinned (OpenSpec.ofChange walkOrderSpec)

/-- ITS FALSE NEIGHBOUR: 'it returns false'. Refute it at one input. -/
def walkOrderWrong : ChangeSpec := { name := "walkOrder", fn := fun _ => fun
  | [d1, d2] => { results := [.lit (.bool false)], args := [d1, d2] }
  | _ => none }
def WalkOrderWrongFalsely : Prop := walkOrderRow.holds Try.pinned (OpenSpec.ofChange walkOrderWrong)

/-- 'towncrierlaw16.WalkEach': WHATEVER THE INPUT: true; the input reads as it did. -/
def walkEachSpec : ChangeSpec := { name := "walkEach", fn := fun _ => fun
  | [d1, d2, d3] => { results := [.lit (.bool true)], args := [d1, d2, d3] }
  | _ => none }
def walkEachRow : OpenClaim := { program := "ytekmgaigppenlaa", sum := "431919c38dff5338021a2f87012a451381f7b802f9326c09933f2851c1df0270", func := "towncrier/towncrierlaw16.WalkEach", spec := "walkEach", unfollowed := true, recurses := true, apart := false }
def WalkEachSaid : Prop := walkEachRow.holds Try.pinned (OpenSpec.ofChange walkEachSpec)

/-- ITS FALSE NEIGHBOUR: 'it returns false'. Refute it at one input. -/
def walkEachWrong : ChangeSpec := { name := "walkEach", fn := fun _ => fun
  | [d1, d2, d3] => { results := [.lit (.bool false)], args := [d1, d2, d3] }
  | _ => none }
def WalkEachWrongFalsely : Prop := walkEachRow.holds Try.pinned (OpenSpec.ofChange walkEachWrong)

/- THE SECOND FORM. 'bulk': how many values and letters a reading holds, each counted each time it is reached (what is shared counts as often as it is met; a slice's spare places count too). A statement '..UptoSaid' is the law's where the arguments, and the package variables that the reading takes, are together of bulk at most 1048576: NARROWER than '..Said'. Prove '..Said' where nothing that the law and all that it calls make is longer than what came in: it says more and counts as full. Else prove '..UptoSaid'. A law counts once. -/
mutual
def uptoBulk {H : Type} : DataW H → Nat
  | .lit (.string bytes) => bytes.length + 1
  | .lit _ => 1
  | .nil => 1
  | .ptr d => uptoBulk d + 1
  | .slice elems spare => uptoBulkAll elems + uptoBulkAll spare + 1
  | .agg parts => uptoBulkAll parts + 1
  | .iface _ d => uptoBulk d + 1
  | .map entries => uptoBulkEntries entries + 1
  | .held _ => 1
def uptoBulkAll {H : Type} : List (DataW H) → Nat
  | [] => 0
  | d :: r => uptoBulk d + uptoBulkAll r
def uptoBulkEntries {H : Type} : List (Lit × DataW H) → Nat
  | [] => 0
  | x :: r => uptoBulkEntry x + uptoBulkEntries r
def uptoBulkEntry {H : Type} : Lit × DataW H → Nat
  | (.string bytes, d) => bytes.length + uptoBulk d + 1
  | (_, d) => uptoBulk d + 1
 end
def uptoSmall : (H : Type) → List (DataW H) → Bool := fun _ ds => decide (uptoBulkAll ds ≤ 1048576)
def OpenSpec.upto (s : _root_.Go.ChangeSpec) : _root_.Go.OpenSpec := { _root_.Go.OpenSpec.ofChange s with cond := some uptoSmall }

/-- 'towncrierlaw16.WalkTurns', WHERE WHAT IT READS IS OF BULK AT MOST 1048576: true; the input reads as it did. -/
def walkTurnsUptoRow : OpenClaim := { program := "ytekmgaigppenlaa", sum := "431919c38dff5338021a2f87012a451381f7b802f9326c09933f2851c1df0270", func := "towncrier/towncrierlaw16.WalkTurns", spec := "walkTurns", unfollowed := true, recurses := true, apart := false, narrowed := true }
def WalkTurnsUptoSaid : Prop := walkTurnsUptoRow.holds Try.pinned (OpenSpec.upto walkTurnsSpec)

/-- 'towncrierlaw16.WalkClears', WHERE WHAT IT READS IS OF BULK AT MOST 1048576: true; the input reads as it did. -/
def walkClearsUptoRow : OpenClaim := { program := "ytekmgaigppenlaa", sum := "431919c38dff5338021a2f87012a451381f7b802f9326c09933f2851c1df0270", func := "towncrier/towncrierlaw16.WalkClears", spec := "walkClears", unfollowed := true, recurses := true, apart := false, narrowed := true }
def WalkClearsUptoSaid : Prop := walkClearsUptoRow.holds Try.pinned (OpenSpec.upto walkClearsSpec)

/-- 'towncrierlaw16.WalkOrder', WHERE WHAT IT READS IS OF BULK AT MOST 1048576: true; the input reads as it did. -/
def walkOrderUptoRow : OpenClaim := { program := "ytekmgaigppenlaa", sum := "431919c38dff5338021a2f87012a451381f7b802f9326c09933f2851c1df0270", func := "towncrier/towncrierlaw16.WalkOrder", spec := "walkOrder", unfollowed := true, recurses := true, apart := false, narrowed := true }
def WalkOrderUptoSaid : Prop := walkOrderUptoRow.holds Try.pinned (OpenSpec.upto walkOrderSpec)

/-- 'towncrierlaw16.WalkEach', WHERE WHAT IT READS IS OF BULK AT MOST 1048576: true; the input reads as it did. -/
def walkEachUptoRow : OpenClaim := { program := "ytekmgaigppenlaa", sum := "431919c38dff5338021a2f87012a451381f7b802f9326c09933f2851c1df0270", func := "towncrier/towncrierlaw16.WalkEach", spec := "walkEach", unfollowed := true, recurses := true, apart := false, narrowed := true }
def WalkEachUptoSaid : Prop := walkEachUptoRow.holds Try.pinned (OpenSpec.upto walkEachSpec)

end Rows
end Go.Proofs.Ytekmgaigppenlaa
