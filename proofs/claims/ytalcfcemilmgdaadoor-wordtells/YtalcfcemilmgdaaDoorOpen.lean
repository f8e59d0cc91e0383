/-
  Arguments that came in, opened: lists of texts and of numbers. Facts of the program that every row's proof wants.
-/
import Derived.Test.YtalcfcemilmgdaaDoorMem
import Derived.Test.YtalcfcemilmgdaaDoorChecked
import Derived.ProofKit
import Derived.OpenShut
namespace Go.Proofs.YtalcfcemilmgdaaDoor
open Go.ChangeShapes Go.WideShapes Go.ChangeAt Go.RowKit

theorem own : ownKnob Tryd.prog.godebug = none := by kernel_rfl
theorem laidOut : laidOutB Tryd.prog = true := by kernel_rfl
theorem ib {a : Int} (h : (Lit.int .i64 a).wf = true) : -9223372036854775808 ≤ a ∧ a ≤ 9223372036854775807 := by
  have h1 : IntKind.i64.min = -9223372036854775808 := rfl
  have h2 : IntKind.i64.max = 9223372036854775807 := rfl
  simp only [Lit.wf, Bool.and_eq_true, decide_eq_true_eq, h1, h2] at h
  exact h
end Go.Proofs.YtalcfcemilmgdaaDoor
