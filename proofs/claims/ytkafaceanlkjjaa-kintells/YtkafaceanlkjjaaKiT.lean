/-
  KinTells answers true.
-/
import Derived.Test.YtkafaceanlkjjaaArk
import Derived.Test.YtkafaceanlkjjaaMb
namespace Go.Proofs.Ytkafaceanlkjjaa
open Go Go.RowKit
theorem kinTells_here (A : Option Addr) (n c : Nat) (xs : List Ac) (a a2 kind : Int) (w : World) (hn : xs.length = n) (hm : n ≤ maxLen) (h : Acts w A xs) :
    Calls Try.prog 3 #[.slice A n c, .int .i64 a, .int .i64 a2, .int .i64 kind] w fun e w' => e = .returned (.bool true) ∧ Below w.heap.size w w' := kinTells_any arOk arMore A n c xs a a2 kind w hn hm h
end Go.Proofs.Ytkafaceanlkjjaa
