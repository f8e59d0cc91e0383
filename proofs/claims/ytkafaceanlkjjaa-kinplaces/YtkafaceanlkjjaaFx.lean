/-
  What towncrierlaw04.made does with an arena that keeps its promises.
-/
import Derived.Test.YtkafaceanlkjjaaFa
namespace Go.Proofs.Ytkafaceanlkjjaa
open Go Go.RowKit

theorem good_take {xs : List Ac} (h : Small xs) : ∀ j, Good (forest (xs.take j))
  | 0 => good_nil
  | j + 1 => by
    rcases Nat.lt_or_ge j xs.length with hj | hj
    · rw [List.take_add_one, List.getElem?_eq_getElem hj]
      show Good (forest (xs.take j ++ [xs[j]]))
      rw [forest_snoc]
      exact good_act (good_take h j) (h.2 _ (List.getElem_mem hj))
    · rw [List.take_of_length_le (by omega), ← List.take_of_length_le hj]
      exact good_take h j
theorem good_forest {xs : List Ac} (h : Small xs) : Good (forest xs) := by
  have := good_take h xs.length
  rwa [List.take_length] at this

end Go.Proofs.Ytkafaceanlkjjaa
