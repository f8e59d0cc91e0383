/-
  No cell of these rows narrows 'for every input' (looked for: loops, veiled, ifaces, maps, wideKeys, modest, calm, conditions, laid).
  DERIVED. THE GIVEN ROWS OF THIS SEAT. 3 by the template 'for every input the law returns true; each argument reads behind the call as it read before'; 0 by the template 'total and deterministic' (their statements: YtegdhfdehcidhaaTotals.lean).
  GIVEN WITH THE SEED: the statements are not yours to turn. If you find one false, say at which input.
  Laid BY PROGRAM, IN A SANDBOX (cutbox-rows.mjs): the forced cells as the released guide's own fill.sh prints them over the translation 0236ac049c29dc2f… (all of the seat's roots in one cut). By AI agents, Wed Nov 11 2026. No macro, syntax, notation, axiom, sorry.
-/
import Derived.Test.YtegdhfdehcidhaaChecked
import GoSem.Claim
import GoSem.ClaimJoined
import GoSem.ClaimMapViews
import Derived.JoinedTies
import Derived.KernelRfl
namespace Go.Proofs.Ytegdhfdehcidhaa
/- THE CELL 'sum', in the pinned program and in every row, IS THE sha256 OF THE DUMP (.gsa) THAT YtegdhfdehcidhaaProg.lean LOADS. Nothing in Lean hashes anything: it is a label: what it is worth is what the hold of that sum in a sandbox is worth. -/
noncomputable def Try.pinned : Pinned := { name := "ytegdhfdehcidhaa", sum := "0236ac049c29dc2f0096d402afe1c8865f60a6ffd2dc70b1e1b8efc8e6145009", checked := Try.checked }
namespace Rows
def none {H : Type} : Left H := { results := [], args := [] }

/-- 'towncrierlaw10.AimTells': WHATEVER THE INPUT: true; the input reads as it did. -/
def aimTellsSpec : ChangeSpec := { name := "aimTells", fn := fun _ => fun
  | [d1, d2, d3] => { results := [.lit (.bool true)], args := [d1, d2, d3] }
  | _ => none }
def aimTellsRow : OpenClaim := { program := "ytegdhfdehcidhaa", sum := "0236ac049c29dc2f0096d402afe1c8865f60a6ffd2dc70b1e1b8efc8e6145009", func := "towncrier/towncrierlaw10.AimTells", spec := "aimTells", unfollowed := true, recurses := true, apart := false }
def AimTellsSaid : Prop := aimTellsRow.holds Try.pinned (OpenSpec.ofChange aimTellsSpec)

/-- ITS FALSE NEIGHBOUR: 'it returns false'. Refute it at one input. -/
def aimTellsWrong : ChangeSpec := { name := "aimTells", fn := fun _ => fun
  | [d1, d2, d3] => { results := [.lit (.bool false)], args := [d1, d2, d3] }
  | _ => none }
def AimTellsWrongFalsely : Prop := aimTellsRow.holds Try.pinned (OpenSpec.ofChange aimTellsWrong)

/-- 'towncrierlaw10.AimHides': WHATEVER THE INPUT: true; the input reads as it did. -/
def aimHidesSpec : ChangeSpec := { name := "aimHides", fn := fun _ => fun
  | [d1, d2, d3] => { results := [.lit (.bool true)], args := [d1, d2, d3] }
  | _ => none }
def aimHidesRow : OpenClaim := { program := "ytegdhfdehcidhaa", sum := "0236ac049c29dc2f0096d402afe1c8865f60a6ffd2dc70b1e1b8efc8e6145009", func := "towncrier/towncrierlaw10.AimHides", spec := "aimHides", unfollowed := true, recurses := true, apart := false }
def AimHidesSaid : Prop := aimHidesRow.holds Try.pinned (OpenSpec.ofChange aimHidesSpec)

/-- ITS FALSE NEIGHBOUR: 'it returns false'. Refute it at one input. -/
def aimHidesWrong : ChangeSpec := { name := "aimHides", fn := fun _ => fun
  | [d1, d2, d3] => { results := [.lit (.bool false)], args := [d1, d2, d3] }
  | _ => none }
def AimHidesWrongFalsely : Prop := aimHidesRow.holds Try.pinned (OpenSpec.ofChange aimHidesWrong)

/-- 'towncrierlaw10.AimHolds': WHATEVER THE INPUT: true; the input reads as it did. -/
def aimHoldsSpec : ChangeSpec := { name := "aimHolds", fn := fun _ => fun
  | [d1, d2, d3] => { results := [.lit (.bool true)], args := [d1, d2, d3] }
  | _ => none }
def aimHoldsRow : OpenClaim := { program := "ytegdhfdehcidhaa", sum := "0236ac049c29dc2f0096d402afe1c8865f60a6ffd2dc70b1e1b8efc8e6145009", func := "towncrier/towncrierlaw10.AimHolds", spec := "aimHolds", unfollowed := true, recurses := true, apart := false }
def AimHoldsSaid : Prop := aimHoldsRow.holds Try.pinned (OpenSpec.ofChange aimHoldsSpec)

/-- ITS FALSE NEIGHBOUR: 'it returns false'. Refute it at one input. -/
def aimHoldsWrong : ChangeSpec := { name := "aimHolds", fn := fun _ => fun
  | [d1, d2, d3] => { results := [.lit (.bool false)], args := [d1, d2, d3] }
  | _ => none }
def AimHoldsWrongFalsely : Prop := aimHoldsRow.holds Try.pinned (OpenSpec.ofChange aimHoldsWrong)

/- THE SECOND FORM. 'bulk': how many values and letters a reading holds, each counted each time it is reached (what is shared counts as often as it is met; a slice's spare places count too). A statement '..UptoSaid' is the law's where the arguments, and the package variables that the reading takes, are together of bulk at most 1048576: NARROWER than '..Said'. Prove '..Said' where nothing that the law and all that it calls make is longer than what came in: it says more and counts as full. Else prove '..UptoSaid'. A law counts once. -/
mutual
def uptoBulk {H : Type} : DataW H → Nat
  | .lit (.string bytes) => bytes.length + 1
  | .lit _ => 1
  | .nil => 1
  | .ptr d => uptoBulk d + 1
  | .slice elems spare => uptoBulkAll elems + uptoBulkAll spare + 1
  | .agg parts => uptoBulkAll parts + 1
  | .iface _ d => uptoBulk d + 1
  | .map entries => uptoBulkEntries entries + 1
  | .held _ => 1
def uptoBulkAll {H : Type} : List (DataW H) → Nat
  | [] => 0
  | d :: r => uptoBulk d + uptoBulkAll r
def uptoBulkEntries {H : Type} : List (Lit × DataW H) → Nat
  | [] => 0
  | x :: r => uptoBulkEntry x + uptoBulkEntries r
def uptoBulkEntry {H : Type} : Lit × DataW H → Nat
  | (.string bytes, d) => bytes.length + uptoBulk d + 1
  | (_, d) => uptoBulk d + 1
 end
def uptoSmall : (H : Type) → List (DataW H) → Bool := fun _ ds => decide (uptoBulkAll ds ≤ 1048576)
def OpenSpec.upto (s : _root_.Go.ChangeSpec) : _root_.Go.OpenSpec := { _root_.Go.OpenSpec.ofChange s with cond := some uptoSmall }

/-- 'towncrierlaw10.AimTells', WHERE WHAT IT READS IS OF BULK AT MOST 1048576: true; the input reads as it did. -/
def aimTellsUptoRow : OpenClaim := { program := "ytegdhfdehcidhaa", sum := "0236ac049c29dc2f0096d402afe1c8865f60a6ffd2dc70b1e1b8efc8e6145009", func := "towncrier/towncrierlaw10.AimTells", spec := "aimTells", unfollowed := true, recurses := true, apart := false, narrowed := true }
def AimTellsUptoSaid : Prop := aimTellsUptoRow.holds Try.pinned (OpenSpec.upto aimTellsSpec)

/-- 'towncrierlaw10.AimHides', WHERE WHAT IT READS IS OF BULK AT MOST 1048576: true; the input reads as it did. -/
def aimHidesUptoRow : OpenClaim := { program := "ytegdhfdehcidhaa", sum := "0236ac049c29dc2f0096d402afe1c8865f60a6ffd2dc70b1e1b8efc8e6145009", func := "towncrier/towncrierlaw10.AimHides", spec := "aimHides", unfollowed := true, recurses := true, apart := false, narrowed := true }
def AimHidesUptoSaid : Prop := aimHidesUptoRow.holds Try.pinned (OpenSpec.upto aimHidesSpec)

/-- 'towncrierlaw10.AimHolds', WHERE WHAT IT READS IS OF BULK AT MOST 1048576: true; the input reads as it did. -/
def aimHoldsUptoRow : OpenClaim := { program := "ytegdhfdehcidhaa", sum := "0236ac049c29dc2f0096d402afe1c8865f60a6ffd2dc70b1e1b8efc8e6145009", func := "towncrier/towncrierlaw10.AimHolds", spec := "aimHolds", unfollowed := true, recurses := true, apart := false, narrowed := true }
def AimHoldsUptoSaid : Prop := aimHoldsUptoRow.holds Try.pinned (OpenSpec.upto aimHoldsSpec)

end Rows
end Go.Proofs.Ytegdhfdehcidhaa
