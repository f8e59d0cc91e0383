/-
  ArenaTree answers true.
-/
import Derived.Test.YtlbaahfadfmffaaArk
import Derived.Test.YtlbaahfadfmffaaLw
import Derived.Test.YtlbaahfadfmffaaLt
namespace Go.Proofs.Ytlbaahfadfmffaa
open Go Go.RowKit
theorem tree_here (A : Option Addr) (n c : Nat) (xs : List Ac) (w : World) (hn : xs.length = n) (hm : n ≤ maxLen) (h : Acts w A xs) :
    Calls Try.prog 4 #[.slice A n c] w fun e w' => e = .returned (.bool true) ∧ Below w.heap.size w w' := arenaTree_any arOk (awake4_any arOk arMore) A n c xs w hn hm h
end Go.Proofs.Ytlbaahfadfmffaa
