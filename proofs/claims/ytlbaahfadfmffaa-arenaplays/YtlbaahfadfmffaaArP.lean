/-
  ArenaPlays answers true.
-/
import Derived.Test.YtlbaahfadfmffaaArk
import Derived.Test.YtlbaahfadfmffaaLw
import Derived.Test.YtlbaahfadfmffaaLp
namespace Go.Proofs.Ytlbaahfadfmffaa
open Go Go.RowKit
theorem plays_here (A : Option Addr) (n c : Nat) (xs : List Ac) (id : Int) (w : World) (hn : xs.length = n) (hm : n ≤ maxLen) (h : Acts w A xs) :
    Calls Try.prog 3 #[.slice A n c, .int .i64 id] w fun e w' => e = .returned (.bool true) ∧ Below w.heap.size w w' := arenaPlays_any arOk arMore (awake4_any arOk arMore) A n c xs id w hn hm h
end Go.Proofs.Ytlbaahfadfmffaa
