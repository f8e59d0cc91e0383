/-
  No cell of these rows narrows 'for every input' (looked for: loops, veiled, ifaces, maps, wideKeys, modest, calm, conditions, laid).
  DERIVED. THE GIVEN ROWS OF THIS SEAT. 3 by the template 'for every input the law returns true; each argument reads behind the call as it read before'; 0 by the template 'total and deterministic' (their statements: YtgdgmcehkhimpaaTotals.lean).
  GIVEN WITH THE SEED: the statements are not yours to turn. If you find one false, say at which input.
  Laid BY PROGRAM, IN A SANDBOX (cutbox-rows.mjs): the forced cells as the released guide's own fill.sh prints them over the translation 4006d270d03c3c3a… (all of the seat's roots in one cut). By AI agents, Wed Nov 11 2026. No macro, syntax, notation, axiom, sorry.
-/
import Derived.Test.YtgdgmcehkhimpaaChecked
import GoSem.Claim
import GoSem.ClaimJoined
import GoSem.ClaimMapViews
import Derived.JoinedTies
import Derived.KernelRfl
namespace Go.Proofs.Ytgdgmcehkhimpaa
/- THE CELL 'sum', in the pinned program and in every row, IS THE sha256 OF THE DUMP (.gsa) THAT YtgdgmcehkhimpaaProg.lean LOADS. Nothing in Lean hashes anything: it is a label: what it is worth is what the hold of that sum in a sandbox is worth. -/
noncomputable def Try.pinned : Pinned := { name := "ytgdgmcehkhimpaa", sum := "4006d270d03c3c3a69ff29ca5f0c7dbaeade94f1af526a3f45cf116d011b49bf", checked := Try.checked }
namespace Rows
def none {H : Type} : Left H := { results := [], args := [] }

/-- 'towncrierlaw12.ListenPlays': WHATEVER THE INPUT: true; the input reads as it did. -/
def listenPlaysSpec : ChangeSpec := { name := "listenPlays", fn := fun _ => fun
  | [d] => { results := [.lit (.bool true)], args := [d] }
  | _ => none }
def listenPlaysRow : OpenClaim := { program := "ytgdgmcehkhimpaa", sum := "4006d270d03c3c3a69ff29ca5f0c7dbaeade94f1af526a3f45cf116d011b49bf", func := "towncrier/towncrierlaw12.ListenPlays", spec := "listenPlays", inPlace := ["sync/atomic.LoadUint64", "sync/atomic.AddUint64"], unfollowed := true, recurses := true, apart := false }
def ListenPlaysSaid : Prop := listenPlaysRow.holds Try.pinned (OpenSpec.ofChange listenPlaysSpec)

/-- ITS FALSE NEIGHBOUR: 'it returns false'. Refute it at one input. -/
def listenPlaysWrong : ChangeSpec := { name := "listenPlays", fn := fun _ => fun
  | [d] => { results := [.lit (.bool false)], args := [d] }
  | _ => none }
def ListenPlaysWrongFalsely : Prop := listenPlaysRow.holds Try.pinned (OpenSpec.ofChange listenPlaysWrong)

/-- 'towncrierlaw12.ListenNone': WHATEVER THE INPUT: true; the input reads as it did. -/
def listenNoneSpec : ChangeSpec := { name := "listenNone", fn := fun _ => fun
  | [d1, d2, d3] => { results := [.lit (.bool true)], args := [d1, d2, d3] }
  | _ => none }
def listenNoneRow : OpenClaim := { program := "ytgdgmcehkhimpaa", sum := "4006d270d03c3c3a69ff29ca5f0c7dbaeade94f1af526a3f45cf116d011b49bf", func := "towncrier/towncrierlaw12.ListenNone", spec := "listenNone", inPlace := ["sync/atomic.LoadUint64", "sync/atomic.AddUint64"], unfollowed := true, recurses := true, apart := false }
def ListenNoneSaid : Prop := listenNoneRow.holds Try.pinned (OpenSpec.ofChange listenNoneSpec)

/-- ITS FALSE NEIGHBOUR: 'it returns false'. Refute it at one input. -/
def listenNoneWrong : ChangeSpec := { name := "listenNone", fn := fun _ => fun
  | [d1, d2, d3] => { results := [.lit (.bool false)], args := [d1, d2, d3] }
  | _ => none }
def ListenNoneWrongFalsely : Prop := listenNoneRow.holds Try.pinned (OpenSpec.ofChange listenNoneWrong)

/-- 'towncrierlaw12.ListenOrder': WHATEVER THE INPUT: true; the input reads as it did. -/
def listenOrderSpec : ChangeSpec := { name := "listenOrder", fn := fun _ => fun
  | [d] => { results := [.lit (.bool true)], args := [d] }
  | _ => none }
def listenOrderRow : OpenClaim := { program := "ytgdgmcehkhimpaa", sum := "4006d270d03c3c3a69ff29ca5f0c7dbaeade94f1af526a3f45cf116d011b49bf", func := "towncrier/towncrierlaw12.ListenOrder", spec := "listenOrder", inPlace := ["sync/atomic.LoadUint64", "sync/atomic.AddUint64"], unfollowed := true, recurses := true, apart := false }
def ListenOrderSaid : Prop := listenOrderRow.holds Try.pinned (OpenSpec.ofChange listenOrderSpec)

/-- ITS FALSE NEIGHBOUR: 'it returns false'. Refute it at one input. -/
def listenOrderWrong : ChangeSpec := { name := "listenOrder", fn := fun _ => fun
  | [d] => { results := [.lit (.bool false)], args := [d] }
  | _ => none }
def ListenOrderWrongFalsely : Prop := listenOrderRow.holds Try.pinned (OpenSpec.ofChange listenOrderWrong)

/- THE SECOND FORM. 'bulk': how many values and letters a reading holds, each counted each time it is reached (what is shared counts as often as it is met; a slice's spare places count too). A statement '..UptoSaid' is the law's where the arguments, and the package variables that the reading takes, are together of bulk at most 1048576: NARROWER than '..Said'. Prove '..Said' where nothing that the law and all that it calls make is longer than what came in: it says more and counts as full. Else prove '..UptoSaid'. A law counts once. -/
mutual
def uptoBulk {H : Type} : DataW H → Nat
  | .lit (.string bytes) => bytes.length + 1
  | .lit _ => 1
  | .nil => 1
  | .ptr d => uptoBulk d + 1
  | .slice elems spare => uptoBulkAll elems + uptoBulkAll spare + 1
  | .agg parts => uptoBulkAll parts + 1
  | .iface _ d => uptoBulk d + 1
  | .map entries => uptoBulkEntries entries + 1
  | .held _ => 1
def uptoBulkAll {H : Type} : List (DataW H) → Nat
  | [] => 0
  | d :: r => uptoBulk d + uptoBulkAll r
def uptoBulkEntries {H : Type} : List (Lit × DataW H) → Nat
  | [] => 0
  | x :: r => uptoBulkEntry x + uptoBulkEntries r
def uptoBulkEntry {H : Type} : Lit × DataW H → Nat
  | (.string bytes, d) => bytes.length + uptoBulk d + 1
  | (_, d) => uptoBulk d + 1
 end
def uptoSmall : (H : Type) → List (DataW H) → Bool := fun _ ds => decide (uptoBulkAll ds ≤ 1048576)
def OpenSpec.upto (s : _root_.Go.ChangeSpec) : _root_.Go.OpenSpec := { _root_.Go.OpenSpec.ofChange s with cond := some uptoSmall }

/-- 'towncrierlaw12.ListenPlays', WHERE WHAT IT READS IS OF BULK AT MOST 1048576: true; the input reads as it did. -/
def listenPlaysUptoRow : OpenClaim := { program := "ytgdgmcehkhimpaa", sum := "4006d270d03c3c3a69ff29ca5f0c7dbaeade94f1af526a3f45cf116d011b49bf", func := "towncrier/towncrierlaw12.ListenPlays", spec := "listenPlays", inPlace := ["sync/atomic.LoadUint64", "sync/atomic.AddUint64"], unfollowed := true, recurses := true, apart := false, narrowed := true }
def ListenPlaysUptoSaid : Prop := listenPlaysUptoRow.holds Try.pinned (OpenSpec.upto listenPlaysSpec)

/-- 'towncrierlaw12.ListenNone', WHERE WHAT IT READS IS OF BULK AT MOST 1048576: true; the input reads as it did. -/
def listenNoneUptoRow : OpenClaim := { program := "ytgdgmcehkhimpaa", sum := "4006d270d03c3c3a69ff29ca5f0c7dbaeade94f1af526a3f45cf116d011b49bf", func := "towncrier/towncrierlaw12.ListenNone", spec := "listenNone", inPlace := ["sync/atomic.LoadUint64", "sync/atomic.AddUint64"], unfollowed := true, recurses := true, apart := false, narrowed := true }
def ListenNoneUptoSaid : Prop := listenNoneUptoRow.holds Try.pinned (OpenSpec.upto listenNoneSpec)

/-- 'towncrierlaw12.ListenOrder', WHERE WHAT IT READS IS OF BULK AT MOST 1048576: true; the input reads as it did. -/
def listenOrderUptoRow : OpenClaim := { program := "ytgdgmcehkhimpaa", sum := "4006d270d03c3c3a69ff29ca5f0c7dbaeade94f1af526a3f45cf116d011b49bf", func := "towncrier/towncrierlaw12.ListenOrder", spec := "listenOrder", inPlace := ["sync/atomic.LoadUint64", "sync/atomic.AddUint64"], unfollowed := true, recurses := true, apart := false, narrowed := true }
def ListenOrderUptoSaid : Prop := listenOrderUptoRow.holds Try.pinned (OpenSpec.upto listenOrderSpec)

end Rows
end Go.Proofs.Ytgdgmcehkhimpaa
