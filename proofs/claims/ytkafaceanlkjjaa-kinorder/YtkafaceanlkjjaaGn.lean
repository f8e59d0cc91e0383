/-
  Calls on a forest that a law writes out: a literal, read as a list of calls.
-/
import Derived.Test.YtkafaceanlkjjaaFi
namespace Go.Proofs.Ytkafaceanlkjjaa
open Go Go.RowKit

/-- The cells of calls, one behind the other; beside each call where its two lists stand. -/
def rowsOf (rows : List (Ac × (Option Addr × Nat) × Option Addr × Nat)) : List Value := rows.flatMap fun r => actCells r.1 (.slice r.2.1.1 r.1.n.kids.length r.2.1.2) (.slice r.2.2.1 r.1.l.length r.2.2.2)
theorem rowsOf_get : ∀ {rows : List (Ac × (Option Addr × Nat) × Option Addr × Nat)} {i f : Nat} (hi : i < rows.length), f < 14 → (rowsOf rows)[i * 14 + f]? = (actCells rows[i].1 (.slice rows[i].2.1.1 rows[i].1.n.kids.length rows[i].2.1.2) (.slice rows[i].2.2.1 rows[i].1.l.length rows[i].2.2.2))[f]?
  | [], i, _, hi, _ => absurd hi (Nat.not_lt_zero i)
  | q :: r, 0, f, _, hf => by
    show (actCells q.1 _ _ ++ rowsOf r)[0 * 14 + f]? = _
    rw [List.getElem?_append_left (by show 0 * 14 + f < 14; omega), Nat.zero_mul, Nat.zero_add]
    rfl
  | q :: r, i + 1, f, hi, hf => by
    show (actCells q.1 _ _ ++ rowsOf r)[(i + 1) * 14 + f]? = _
    rw [List.getElem?_append_right (by show 14 ≤ (i + 1) * 14 + f; omega), show (i + 1) * 14 + f - (actCells q.1 (.slice q.2.1.1 q.1.n.kids.length q.2.1.2) (.slice q.2.2.1 q.1.l.length q.2.2.2)).length = i * 14 + f by show (i + 1) * 14 + f - 14 = _; omega]
    exact rowsOf_get (by simpa using hi) hf
theorem acts_lit {W : World} {b : Nat} {t : TypeId} {fr : Nat × Nat} {rows : List (Ac × (Option Addr × Nat) × Option Addr × Nat)} (hh : Has W b (.cells (rowsOf rows).toArray t fr)) (h : ∀ r ∈ rows, ListIn W r.2.1.1 r.2.1.2 r.1.n.kids ∧ ActIn W r.1 r.2.2.1 r.2.2.2) :
    Acts W (some ⟨b, 0, none⟩) (rows.map fun r => r.1) := fun i hi => by
  have hi' : i < rows.length := by simpa using hi
  rw [List.getElem_map]
  refine ⟨b, 0, rows[i].2.1.1, rows[i].2.1.2, rows[i].2.2.1, rows[i].2.2.2, rfl, hh.inside, fun f hf => ?_, (h _ (List.getElem_mem hi')).1, (h _ (List.getElem_mem hi')).2⟩
  rw [hh.cell, Nat.zero_add, List.getElem?_toArray]
  exact rowsOf_get hi' hf
theorem listNone (W : World) : ListIn W none 0 [] := ⟨Nat.le_refl 0, fun _ => rfl, fun i hi => absurd hi (Nat.not_lt_zero i)⟩
/-- A literal of numbers. -/
theorem listLit {W : World} {b : Nat} {t : TypeId} {fr : Nat × Nat} {xs : List Int} (hh : Has W b (.cells (xs.map (Value.int .i64)).toArray t fr)) : ListIn W (some ⟨b, 0, none⟩) xs.length xs :=
  ⟨Nat.le_refl _, (fun e => by cases e), fun i hi => ⟨b, 0, rfl, hh.inside, by rw [hh.cell, Nat.zero_add, List.getElem?_toArray, List.getElem?_map, List.getElem?_eq_getElem hi]; rfl⟩⟩
end Go.Proofs.Ytkafaceanlkjjaa
