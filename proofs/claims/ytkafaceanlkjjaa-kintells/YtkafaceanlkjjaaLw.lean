/-
  What towncrierlaw04.awake does with an arena that keeps its promises: it answers true.
-/
import Derived.Test.YtkafaceanlkjjaaFy
namespace Go.Proofs.Ytkafaceanlkjjaa
open Go Go.RowKit

/-- A bare element. -/
def elem : Nd := ⟨2, 0, 0, 0, 0, false, ⟨#[]⟩, ⟨#[]⟩, []⟩
theorem empty_is : (⟨#[]⟩ : ByteArray).toList.isEmpty = true := by kernel_rfl
theorem elem_err (n : Nat) (h : n < 128) : mkErr n elem = 0 := by
  have := mkErr_rest (n := n) (k := 2) (pa := 0) (ho := 0) (sh := 0) (m := 0) (sl := false) (na := ⟨#[]⟩) (wa := ⟨#[]⟩) (ks := []) (by omega) (by omega) (by omega) (by
    rw [okName_empty empty_is, empty_is]
    simp)
  rw [if_neg (by omega)] at this
  exact this
theorem two_elems : mkL (mkL [] elem) elem = [elem, elem] := by
  have e1 : mkL [] elem = [elem] := by
    unfold mkL
    rw [if_pos (elem_err _ (by simp))]
    rfl
  rw [e1]
  unfold mkL
  rw [if_pos (elem_err _ (by simp))]
  rfl
theorem good_make {l : List Nd} {d : Nd} (h : Good l) : Good (mkL l d) := good_act (x := ⟨0, 0, 0, ⟨#[]⟩, d, []⟩) h (by simp)
theorem pair_put : putErr [elem, elem] 1 [2] = 0 := by decide +kernel
theorem pair_there : thereB (putL [elem, elem] 1 [2]) 2 = true := by rw [there_len (putL_length _ _ _)]; decide
theorem pair_parent : (nd (putL [elem, elem] 1 [2]) 2).parent = 1 := by
  rw [put_nd pair_put (by decide) (by decide) (by decide)]
  decide

end Go.Proofs.Ytkafaceanlkjjaa
