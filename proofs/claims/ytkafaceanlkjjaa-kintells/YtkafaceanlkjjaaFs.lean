/-
  What towncrierref04.Same does.
-/
import Derived.Test.YtkafaceanlkjjaaFe
import Derived.Test.YtkafaceanlkjjaaWay
namespace Go.Proofs.Ytkafaceanlkjjaa
open Go Go.RowKit
variable {G : Nat → Prop}

/-- The same nodes? -/
def sameL (a b : List Nd) : Bool := decide (a.length = b.length ∧ ∀ i, i < a.length → oneB (a.getD i Nd.zero) (b.getD i Nd.zero) = true)
theorem getD_at {l : List Nd} {i : Nat} (h : i < l.length) : l.getD i Nd.zero = l[i] := by
  rw [List.getD_eq_getElem?_getD, List.getElem?_eq_getElem h]
  rfl

end Go.Proofs.Ytkafaceanlkjjaa
