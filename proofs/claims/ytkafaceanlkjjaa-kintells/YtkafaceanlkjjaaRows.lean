/-
  No cell of these rows narrows 'for every input' (looked for: loops, veiled, ifaces, maps, wideKeys, modest, calm, conditions, laid).
  DERIVED. THE GIVEN ROWS OF THIS SEAT. 3 by the template 'for every input the law returns true; each argument reads behind the call as it read before'; 0 by the template 'total and deterministic' (their statements: YtkafaceanlkjjaaTotals.lean).
  GIVEN WITH THE SEED: the statements are not yours to turn. If you find one false, say at which input.
  Laid BY PROGRAM, IN A SANDBOX (cutbox-rows.mjs): the forced cells as the released guide's own fill.sh prints them over the translation 3dc98321aa810203… (all of the seat's roots in one cut). By AI agents, Wed Nov 11 2026. No macro, syntax, notation, axiom, sorry.
-/
import Derived.Test.YtkafaceanlkjjaaChecked
import GoSem.Claim
import GoSem.ClaimJoined
import GoSem.ClaimMapViews
import Derived.JoinedTies
import Derived.KernelRfl
namespace Go.Proofs.Ytkafaceanlkjjaa
/- THE CELL 'sum', in the pinned program and in every row, IS THE sha256 OF THE DUMP (.gsa) THAT YtkafaceanlkjjaaProg.lean LOADS. Nothing in Lean hashes anything: it is a label: what it is worth is what the hold of that sum in a sandbox is worth. -/
noncomputable def Try.pinned : Pinned := { name := "ytkafaceanlkjjaa", sum := "3dc98321aa8102032290b755acde42b5eb0dd1a65ac4919764457f5406413e06", checked := Try.checked }
namespace Rows
def none {H : Type} : Left H := { results := [], args := [] }

/-- 'towncrierlaw05.KinTells': WHATEVER THE INPUT: true; the input reads as it did. -/
def kinTellsSpec : ChangeSpec := { name := "kinTells", fn := fun _ => fun
  | [d1, d2, d3, d4] => { results := [.lit (.bool true)], args := [d1, d2, d3, d4] }
  | _ => none }
def kinTellsRow : OpenClaim := { program := "ytkafaceanlkjjaa", sum := "3dc98321aa8102032290b755acde42b5eb0dd1a65ac4919764457f5406413e06", func := "towncrier/towncrierlaw05.KinTells", spec := "kinTells", unfollowed := true, recurses := true, apart := false }
def KinTellsSaid : Prop := kinTellsRow.holds Try.pinned (OpenSpec.ofChange kinTellsSpec)

/-- ITS FALSE NEIGHBOUR: 'it returns false'. Refute it at one input. -/
def kinTellsWrong : ChangeSpec := { name := "kinTells", fn := fun _ => fun
  | [d1, d2, d3, d4] => { results := [.lit (.bool false)], args := [d1, d2, d3, d4] }
  | _ => none }
def KinTellsWrongFalsely : Prop := kinTellsRow.holds Try.pinned (OpenSpec.ofChange kinTellsWrong)

/-- 'towncrierlaw05.KinOrder': WHATEVER THE INPUT: true; the input reads as it did. -/
def kinOrderSpec : ChangeSpec := { name := "kinOrder", fn := fun _ => fun
  | [d1, d2] => { results := [.lit (.bool true)], args := [d1, d2] }
  | _ => none }
def kinOrderRow : OpenClaim := { program := "ytkafaceanlkjjaa", sum := "3dc98321aa8102032290b755acde42b5eb0dd1a65ac4919764457f5406413e06", func := "towncrier/towncrierlaw05.KinOrder", spec := "kinOrder", unfollowed := true, recurses := true, apart := false }
def KinOrderSaid : Prop := kinOrderRow.holds Try.pinned (OpenSpec.ofChange kinOrderSpec)

/-- ITS FALSE NEIGHBOUR: 'it returns false'. Refute it at one input. -/
def kinOrderWrong : ChangeSpec := { name := "kinOrder", fn := fun _ => fun
  | [d1, d2] => { results := [.lit (.bool false)], args := [d1, d2] }
  | _ => none }
def KinOrderWrongFalsely : Prop := kinOrderRow.holds Try.pinned (OpenSpec.ofChange kinOrderWrong)

/-- 'towncrierlaw05.KinPlaces': WHATEVER THE INPUT: true; the input reads as it did. -/
def kinPlacesSpec : ChangeSpec := { name := "kinPlaces", fn := fun _ => fun
  | [d1, d2] => { results := [.lit (.bool true)], args := [d1, d2] }
  | _ => none }
def kinPlacesRow : OpenClaim := { program := "ytkafaceanlkjjaa", sum := "3dc98321aa8102032290b755acde42b5eb0dd1a65ac4919764457f5406413e06", func := "towncrier/towncrierlaw05.KinPlaces", spec := "kinPlaces", unfollowed := true, recurses := true, apart := false }
def KinPlacesSaid : Prop := kinPlacesRow.holds Try.pinned (OpenSpec.ofChange kinPlacesSpec)

/-- ITS FALSE NEIGHBOUR: 'it returns false'. Refute it at one input. -/
def kinPlacesWrong : ChangeSpec := { name := "kinPlaces", fn := fun _ => fun
  | [d1, d2] => { results := [.lit (.bool false)], args := [d1, d2] }
  | _ => none }
def KinPlacesWrongFalsely : Prop := kinPlacesRow.holds Try.pinned (OpenSpec.ofChange kinPlacesWrong)

/- THE SECOND FORM. 'bulk': how many values and letters a reading holds, each counted each time it is reached (what is shared counts as often as it is met; a slice's spare places count too). A statement '..UptoSaid' is the law's where the arguments, and the package variables that the reading takes, are together of bulk at most 1048576: NARROWER than '..Said'. Prove '..Said' where nothing that the law and all that it calls make is longer than what came in: it says more and counts as full. Else prove '..UptoSaid'. A law counts once. -/
mutual
def uptoBulk {H : Type} : DataW H → Nat
  | .lit (.string bytes) => bytes.length + 1
  | .lit _ => 1
  | .nil => 1
  | .ptr d => uptoBulk d + 1
  | .slice elems spare => uptoBulkAll elems + uptoBulkAll spare + 1
  | .agg parts => uptoBulkAll parts + 1
  | .iface _ d => uptoBulk d + 1
  | .map entries => uptoBulkEntries entries + 1
  | .held _ => 1
def uptoBulkAll {H : Type} : List (DataW H) → Nat
  | [] => 0
  | d :: r => uptoBulk d + uptoBulkAll r
def uptoBulkEntries {H : Type} : List (Lit × DataW H) → Nat
  | [] => 0
  | x :: r => uptoBulkEntry x + uptoBulkEntries r
def uptoBulkEntry {H : Type} : Lit × DataW H → Nat
  | (.string bytes, d) => bytes.length + uptoBulk d + 1
  | (_, d) => uptoBulk d + 1
 end
def uptoSmall : (H : Type) → List (DataW H) → Bool := fun _ ds => decide (uptoBulkAll ds ≤ 1048576)
def OpenSpec.upto (s : _root_.Go.ChangeSpec) : _root_.Go.OpenSpec := { _root_.Go.OpenSpec.ofChange s with cond := some uptoSmall }

/-- 'towncrierlaw05.KinTells', WHERE WHAT IT READS IS OF BULK AT MOST 1048576: true; the input reads as it did. -/
def kinTellsUptoRow : OpenClaim := { program := "ytkafaceanlkjjaa", sum := "3dc98321aa8102032290b755acde42b5eb0dd1a65ac4919764457f5406413e06", func := "towncrier/towncrierlaw05.KinTells", spec := "kinTells", unfollowed := true, recurses := true, apart := false, narrowed := true }
def KinTellsUptoSaid : Prop := kinTellsUptoRow.holds Try.pinned (OpenSpec.upto kinTellsSpec)

/-- 'towncrierlaw05.KinOrder', WHERE WHAT IT READS IS OF BULK AT MOST 1048576: true; the input reads as it did. -/
def kinOrderUptoRow : OpenClaim := { program := "ytkafaceanlkjjaa", sum := "3dc98321aa8102032290b755acde42b5eb0dd1a65ac4919764457f5406413e06", func := "towncrier/towncrierlaw05.KinOrder", spec := "kinOrder", unfollowed := true, recurses := true, apart := false, narrowed := true }
def KinOrderUptoSaid : Prop := kinOrderUptoRow.holds Try.pinned (OpenSpec.upto kinOrderSpec)

/-- 'towncrierlaw05.KinPlaces', WHERE WHAT IT READS IS OF BULK AT MOST 1048576: true; the input reads as it did. -/
def kinPlacesUptoRow : OpenClaim := { program := "ytkafaceanlkjjaa", sum := "3dc98321aa8102032290b755acde42b5eb0dd1a65ac4919764457f5406413e06", func := "towncrier/towncrierlaw05.KinPlaces", spec := "kinPlaces", unfollowed := true, recurses := true, apart := false, narrowed := true }
def KinPlacesUptoSaid : Prop := kinPlacesUptoRow.holds Try.pinned (OpenSpec.upto kinPlacesSpec)

end Rows
end Go.Proofs.Ytkafaceanlkjjaa
