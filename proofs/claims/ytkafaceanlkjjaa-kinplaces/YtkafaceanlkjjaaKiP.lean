/-
  KinPlaces answers true.
-/
import Derived.Test.YtkafaceanlkjjaaArk
import Derived.Test.YtkafaceanlkjjaaMc
namespace Go.Proofs.Ytkafaceanlkjjaa
open Go Go.RowKit
theorem kinPlaces_here (A : Option Addr) (n c : Nat) (xs : List Ac) (id : Int) (w : World) (hn : xs.length = n) (hm : n ≤ maxLen) (h : Acts w A xs) :
    Calls Try.prog 5 #[.slice A n c, .int .i64 id] w fun e w' => e = .returned (.bool true) ∧ Below w.heap.size w w' := kinPlaces_any arOk arMore A n c xs id w hn hm h
end Go.Proofs.Ytkafaceanlkjjaa
