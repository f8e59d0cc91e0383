/-
  No cell of these rows narrows 'for every input' (looked for: loops, veiled, ifaces, maps, wideKeys, modest, calm, conditions, laid).
  DERIVED. THE GIVEN ROWS OF THIS SEAT. 4 by the template 'for every input the law returns true; each argument reads behind the call as it read before'; 0 by the template 'total and deterministic' (their statements: YtamhlapeihcchaaTotals.lean).
  GIVEN WITH THE SEED: the statements are not yours to turn. If you find one false, say at which input.
  Laid BY PROGRAM, IN A SANDBOX (cutbox-rows.mjs): the forced cells as the released guide's own fill.sh prints them over the translation 85e3c3c5a90f2c92… (all of the seat's roots in one cut). By AI agents, Wed Nov 11 2026. No macro, syntax, notation, axiom, sorry.
-/
import Derived.Test.YtamhlapeihcchaaChecked
import GoSem.Claim
import GoSem.ClaimJoined
import GoSem.ClaimMapViews
import Derived.JoinedTies
import Derived.KernelRfl
namespace Go.Proofs.Ytamhlapeihcchaa
/- THE CELL 'sum', in the pinned program and in every row, IS THE sha256 OF THE DUMP (.gsa) THAT YtamhlapeihcchaaProg.lean LOADS. Nothing in Lean hashes anything: it is a label: what it is worth is what the hold of that sum in a sandbox is worth. -/
noncomputable def Try.pinned : Pinned := { name := "ytamhlapeihcchaa", sum := "85e3c3c5a90f2c92fbb7454ecb9b90eb21ad6518dc0ea3481cdfddcea375e57f", checked := Try.checked }
namespace Rows
def none {H : Type} : Left H := { results := [], args := [] }

/-- 'towncrierlaw08.ShadeAttaches': WHATEVER THE INPUT: true; the input reads as it did. -/
def shadeAttachesSpec : ChangeSpec := { name := "shadeAttaches", fn := fun _ => fun
  | [d1, d2, d3] => { results := [.lit (.bool true)], args := [d1, d2, d3] }
  | _ => none }
def shadeAttachesRow : OpenClaim := { program := "ytamhlapeihcchaa", sum := "85e3c3c5a90f2c92fbb7454ecb9b90eb21ad6518dc0ea3481cdfddcea375e57f", func := "towncrier/towncrierlaw08.ShadeAttaches", spec := "shadeAttaches", unfollowed := true, recurses := true, apart := false }
def ShadeAttachesSaid : Prop := shadeAttachesRow.holds Try.pinned (OpenSpec.ofChange shadeAttachesSpec)

/-- ITS FALSE NEIGHBOUR: 'it returns false'. Refute it at one input. -/
def shadeAttachesWrong : ChangeSpec := { name := "shadeAttaches", fn := fun _ => fun
  | [d1, d2, d3] => { results := [.lit (.bool false)], args := [d1, d2, d3] }
  | _ => none }
def ShadeAttachesWrongFalsely : Prop := shadeAttachesRow.holds Try.pinned (OpenSpec.ofChange shadeAttachesWrong)

/-- 'towncrierlaw08.ShadeTells': WHATEVER THE INPUT: true; the input reads as it did. -/
def shadeTellsSpec : ChangeSpec := { name := "shadeTells", fn := fun _ => fun
  | [d1, d2, d3] => { results := [.lit (.bool true)], args := [d1, d2, d3] }
  | _ => none }
def shadeTellsRow : OpenClaim := { program := "ytamhlapeihcchaa", sum := "85e3c3c5a90f2c92fbb7454ecb9b90eb21ad6518dc0ea3481cdfddcea375e57f", func := "towncrier/towncrierlaw08.ShadeTells", spec := "shadeTells", unfollowed := true, recurses := true, apart := false }
def ShadeTellsSaid : Prop := shadeTellsRow.holds Try.pinned (OpenSpec.ofChange shadeTellsSpec)

/-- ITS FALSE NEIGHBOUR: 'it returns false'. Refute it at one input. -/
def shadeTellsWrong : ChangeSpec := { name := "shadeTells", fn := fun _ => fun
  | [d1, d2, d3] => { results := [.lit (.bool false)], args := [d1, d2, d3] }
  | _ => none }
def ShadeTellsWrongFalsely : Prop := shadeTellsRow.holds Try.pinned (OpenSpec.ofChange shadeTellsWrong)

/-- 'towncrierlaw08.ShadeHidden': WHATEVER THE INPUT: true; the input reads as it did. -/
def shadeHiddenSpec : ChangeSpec := { name := "shadeHidden", fn := fun _ => fun
  | [d1, d2, d3] => { results := [.lit (.bool true)], args := [d1, d2, d3] }
  | _ => none }
def shadeHiddenRow : OpenClaim := { program := "ytamhlapeihcchaa", sum := "85e3c3c5a90f2c92fbb7454ecb9b90eb21ad6518dc0ea3481cdfddcea375e57f", func := "towncrier/towncrierlaw08.ShadeHidden", spec := "shadeHidden", unfollowed := true, recurses := true, apart := false }
def ShadeHiddenSaid : Prop := shadeHiddenRow.holds Try.pinned (OpenSpec.ofChange shadeHiddenSpec)

/-- ITS FALSE NEIGHBOUR: 'it returns false'. Refute it at one input. -/
def shadeHiddenWrong : ChangeSpec := { name := "shadeHidden", fn := fun _ => fun
  | [d1, d2, d3] => { results := [.lit (.bool false)], args := [d1, d2, d3] }
  | _ => none }
def ShadeHiddenWrongFalsely : Prop := shadeHiddenRow.holds Try.pinned (OpenSpec.ofChange shadeHiddenWrong)

/-- 'towncrierlaw08.ShadeWhole': WHATEVER THE INPUT: true; the input reads as it did. -/
def shadeWholeSpec : ChangeSpec := { name := "shadeWhole", fn := fun _ => fun
  | [d1, d2, d3, d4] => { results := [.lit (.bool true)], args := [d1, d2, d3, d4] }
  | _ => none }
def shadeWholeRow : OpenClaim := { program := "ytamhlapeihcchaa", sum := "85e3c3c5a90f2c92fbb7454ecb9b90eb21ad6518dc0ea3481cdfddcea375e57f", func := "towncrier/towncrierlaw08.ShadeWhole", spec := "shadeWhole", unfollowed := true, recurses := true, apart := false }
def ShadeWholeSaid : Prop := shadeWholeRow.holds Try.pinned (OpenSpec.ofChange shadeWholeSpec)

/-- ITS FALSE NEIGHBOUR: 'it returns false'. Refute it at one input. -/
def shadeWholeWrong : ChangeSpec := { name := "shadeWhole", fn := fun _ => fun
  | [d1, d2, d3, d4] => { results := [.lit (.bool false)], args := [d1, d2, d3, d4] }
  | _ => none }
def ShadeWholeWrongFalsely : Prop := shadeWholeRow.holds Try.pinned (OpenSpec.ofChange shadeWholeWrong)

/- THE SECOND FORM. 'bulk': how many values and letters a reading holds, each counted each time it is reached (what is shared counts as often as it is met; a slice's spare places count too). A statement '..UptoSaid' is the law's where the arguments, and the package variables that the reading takes, are together of bulk at most 1048576: NARROWER than '..Said'. Prove '..Said' where nothing that the law and all that it calls make is longer than what came in: it says more and counts as full. Else prove '..UptoSaid'. A law counts once. -/
mutual
def uptoBulk {H : Type} : DataW H → Nat
  | .lit (.string bytes) => bytes.length + 1
  | .lit _ => 1
  | .nil => 1
  | .ptr d => uptoBulk d + 1
  | .slice elems spare => uptoBulkAll elems + uptoBulkAll spare + 1
  | .agg parts => uptoBulkAll parts + 1
  | .iface _ d => uptoBulk d + 1
  | .map entries => uptoBulkEntries entries + 1
  | .held _ => 1
def uptoBulkAll {H : Type} : List (DataW H) → Nat
  | [] => 0
  | d :: r => uptoBulk d + uptoBulkAll r
def uptoBulkEntries {H : Type} : List (Lit × DataW H) → Nat
  | [] => 0
  | x :: r => uptoBulkEntry x + uptoBulkEntries r
def uptoBulkEntry {H : Type} : Lit × DataW H → Nat
  | (.string bytes, d) => bytes.length + uptoBulk d + 1
  | (_, d) => uptoBulk d + 1
 end
def uptoSmall : (H : Type) → List (DataW H) → Bool := fun _ ds => decide (uptoBulkAll ds ≤ 1048576)
def OpenSpec.upto (s : _root_.Go.ChangeSpec) : _root_.Go.OpenSpec := { _root_.Go.OpenSpec.ofChange s with cond := some uptoSmall }

/-- 'towncrierlaw08.ShadeAttaches', WHERE WHAT IT READS IS OF BULK AT MOST 1048576: true; the input reads as it did. -/
def shadeAttachesUptoRow : OpenClaim := { program := "ytamhlapeihcchaa", sum := "85e3c3c5a90f2c92fbb7454ecb9b90eb21ad6518dc0ea3481cdfddcea375e57f", func := "towncrier/towncrierlaw08.ShadeAttaches", spec := "shadeAttaches", unfollowed := true, recurses := true, apart := false, narrowed := true }
def ShadeAttachesUptoSaid : Prop := shadeAttachesUptoRow.holds Try.pinned (OpenSpec.upto shadeAttachesSpec)

/-- 'towncrierlaw08.ShadeTells', WHERE WHAT IT READS IS OF BULK AT MOST 1048576: true; the input reads as it did. -/
def shadeTellsUptoRow : OpenClaim := { program := "ytamhlapeihcchaa", sum := "85e3c3c5a90f2c92fbb7454ecb9b90eb21ad6518dc0ea3481cdfddcea375e57f", func := "towncrier/towncrierlaw08.ShadeTells", spec := "shadeTells", unfollowed := true, recurses := true, apart := false, narrowed := true }
def ShadeTellsUptoSaid : Prop := shadeTellsUptoRow.holds Try.pinned (OpenSpec.upto shadeTellsSpec)

/-- 'towncrierlaw08.ShadeHidden', WHERE WHAT IT READS IS OF BULK AT MOST 1048576: true; the input reads as it did. -/
def shadeHiddenUptoRow : OpenClaim := { program := "ytamhlapeihcchaa", sum := "85e3c3c5a90f2c92fbb7454ecb9b90eb21ad6518dc0ea3481cdfddcea375e57f", func := "towncrier/towncrierlaw08.ShadeHidden", spec := "shadeHidden", unfollowed := true, recurses := true, apart := false, narrowed := true }
def ShadeHiddenUptoSaid : Prop := shadeHiddenUptoRow.holds Try.pinned (OpenSpec.upto shadeHiddenSpec)

/-- 'towncrierlaw08.ShadeWhole', WHERE WHAT IT READS IS OF BULK AT MOST 1048576: true; the input reads as it did. -/
def shadeWholeUptoRow : OpenClaim := { program := "ytamhlapeihcchaa", sum := "85e3c3c5a90f2c92fbb7454ecb9b90eb21ad6518dc0ea3481cdfddcea375e57f", func := "towncrier/towncrierlaw08.ShadeWhole", spec := "shadeWhole", unfollowed := true, recurses := true, apart := false, narrowed := true }
def ShadeWholeUptoSaid : Prop := shadeWholeUptoRow.holds Try.pinned (OpenSpec.upto shadeWholeSpec)

end Rows
end Go.Proofs.Ytamhlapeihcchaa
