/-
  What All of package arena does.
-/
import Derived.Test.YtkafaceanlkjjaaArg
import Derived.Test.YtkafaceanlkjjaaFk
namespace Go.Proofs.Ytkafaceanlkjjaa
open Go Go.RowKit

section
variable {rows : List (Nd × Value)} {p : Nd × Value}
theorem set_behind {X Y : List Value} (hX : X.length = 9) (n : Nat) (u : Value) : (X ++ Y).set (9 + n) u = X ++ Y.set n u := by
  rw [List.set_append_right _ _ (by omega), hX, Nat.add_sub_cancel_left]
/-- A whole node is written. -/
def put9 (us : List Value) (j : Nat) (d : Nd) (k : Value) : List Value :=
  ((((((((us.set (j * 9) (.int .i64 d.kind)).set (j * 9 + 1) (.int .i64 d.parent)).set (j * 9 + 2) (.int .i64 d.host)).set (j * 9 + 3) (.int .i64 d.shadow)).set (j * 9 + 4) (.int .i64 d.mode)).set (j * 9 + 5) (.bool d.slot)).set (j * 9 + 6) (.string d.name)).set (j * 9 + 7) (.string d.want)).set (j * 9 + 8) k
theorem flat_put (d : Nd) (k : Value) : ∀ {rows : List (Nd × Value)} {i : Nat}, i < rows.length → flat (rows.set i (d, k)) = put9 (flat rows) i d k
  | [], i, h => by simp at h
  | q :: r, 0, _ => by
    rw [List.set_cons_zero, flat_cons, flat_cons]
    simp [put9, Nd.cells]
  | q :: r, i + 1, h => by
    rw [List.set_cons_succ, flat_cons, flat_cons, flat_put d k (by simpa using h)]
    unfold put9
    have e0 : (i + 1) * 9 = 9 + i * 9 := by omega
    have e : ∀ f, (i + 1) * 9 + f = 9 + (i * 9 + f) := fun f => by omega
    simp only [e]
    rw [e0]
    simp only [set_behind (Nd.cells_length q.1 q.2)]
theorem flat_zeros (n : Nat) : (madeCells (Value.agg #[.int .i64 0, .int .i64 0, .int .i64 0, .int .i64 0, .int .i64 0, .bool false, .string ⟨#[]⟩, .string ⟨#[]⟩, .slice none 0 0]).cells (n * 9)).toList = flat (List.replicate n (Nd.zero, Value.slice none 0 0)) := by
  apply List.ext_getElem?
  intro j
  by_cases hj : j < n * 9
  · have hd : j = j / 9 * 9 + j % 9 := by omega
    have hr : (List.replicate n (Nd.zero, Value.slice none 0 0))[j / 9]? = some (Nd.zero, .slice none 0 0) := by
      rw [List.getElem?_replicate, if_pos (by omega)]
    have h2 := flat_get hr (show j % 9 < 9 by omega)
    rw [← hd] at h2
    rw [h2]
    have h3 : j % 9 < 9 := by omega
    have hs : (madeCells (Value.agg #[.int .i64 0, .int .i64 0, .int .i64 0, .int .i64 0, .int .i64 0, .bool false, .string ⟨#[]⟩, .string ⟨#[]⟩, .slice none 0 0]).cells (n * 9)).toList[j]? = some ((#[.int .i64 0, .int .i64 0, .int .i64 0, .int .i64 0, .int .i64 0, .bool false, .string ⟨#[]⟩, .string ⟨#[]⟩, .slice none 0 0] : Array Value)[j % 9]!) := by
      simp [madeCells, hj, Value.cells]
    rw [hs]
    generalize j % 9 = f at h3
    match f, h3 with
    | 0, _ => rfl
    | 1, _ => rfl
    | 2, _ => rfl
    | 3, _ => rfl
    | 4, _ => rfl
    | 5, _ => rfl
    | 6, _ => rfl
    | 7, _ => rfl
    | 8, _ => rfl
  · rw [List.getElem?_eq_none (by simp [madeCells]; omega), List.getElem?_eq_none (by rw [flat_length, List.length_replicate]; omega)]
end

section
variable {G : Nat → Prop} {w : World} {B c g i : Nat} {l : List Nd}
/-- Nine cells are written, one behind the other. -/
def store9 (w : World) (g j : Nat) (d : Nd) (k : Value) : World :=
  ((((((((w.setCell ⟨g, j * 9, none⟩ (.int .i64 d.kind)).setCell ⟨g, j * 9 + 1, none⟩ (.int .i64 d.parent)).setCell ⟨g, j * 9 + 2, none⟩ (.int .i64 d.host)).setCell ⟨g, j * 9 + 3, none⟩ (.int .i64 d.shadow)).setCell ⟨g, j * 9 + 4, none⟩ (.int .i64 d.mode)).setCell ⟨g, j * 9 + 5, none⟩ (.bool d.slot)).setCell ⟨g, j * 9 + 6, none⟩ (.string d.name)).setCell ⟨g, j * 9 + 7, none⟩ (.string d.want)).setCell ⟨g, j * 9 + 8, none⟩ k
theorem keeps9 (w : World) (g j : Nat) (d : Nd) (k : Value) : Keeps (fun i => i = g) w (store9 w g j d k) :=
  (((((((((Keeps.refl (fun i => i = g) w).store (p := ⟨g, j * 9, none⟩) (.inl rfl) _).store (p := ⟨g, j * 9 + 1, none⟩) (.inl rfl) _).store (p := ⟨g, j * 9 + 2, none⟩) (.inl rfl) _).store (p := ⟨g, j * 9 + 3, none⟩) (.inl rfl) _).store (p := ⟨g, j * 9 + 4, none⟩) (.inl rfl) _).store (p := ⟨g, j * 9 + 5, none⟩) (.inl rfl) _).store (p := ⟨g, j * 9 + 6, none⟩) (.inl rfl) _).store (p := ⟨g, j * 9 + 7, none⟩) (.inl rfl) _).store (p := ⟨g, j * 9 + 8, none⟩) (.inl rfl) _
theorem own9 {n : Nat} {us : List Value} (h : w.ownsRow B 41 9 (.slice (some ⟨g, 0, none⟩) n c) n us) (j : Nat) (d : Nd) (k : Value) : (store9 w g j d k).ownsRow B 41 9 (.slice (some ⟨g, 0, none⟩) n c) n (put9 us j d k) := by
  have h0 := (h.stored (j * 9) (.int .i64 d.kind)).1
  have h1 := (h0.stored (j * 9 + 1) (.int .i64 d.parent)).1
  have h2 := (h1.stored (j * 9 + 2) (.int .i64 d.host)).1
  have h3 := (h2.stored (j * 9 + 3) (.int .i64 d.shadow)).1
  have h4 := (h3.stored (j * 9 + 4) (.int .i64 d.mode)).1
  have h5 := (h4.stored (j * 9 + 5) (.bool d.slot)).1
  have h6 := (h5.stored (j * 9 + 6) (.string d.name)).1
  have h7 := (h6.stored (j * 9 + 7) (.string d.want)).1
  exact (h7.stored (j * 9 + 8) k).1
theorem Nodes.put (h : Nodes G w B (some ⟨g, 0, none⟩) c l) (hi : i < l.length) {d : Nd} {k : Value} (hk : Kids G w k d.kids) : Nodes G (store9 w g i d k) B (some ⟨g, 0, none⟩) c (l.set i d) := by
  obtain ⟨rows, rfl, h2, h3, h4⟩ := h
  have hi' : i < rows.length := by simpa using hi
  have far : ∀ (v : Value) (xs : List Int), Kids G w v xs → Kids G (store9 w g i d k) v xs := fun v xs hv =>
    ⟨own_kept hv.1 (keeps9 w g i d k) fun g' hg' e => kids_apart hv h2 (by decide) hg' (by rw [e]; rfl), hv.2⟩
  refine ⟨rows.set i (d, k), by rw [List.map_set], ?_, fun p hp => ?_, h4⟩
  · rw [List.length_set, flat_put d k hi']
    exact own9 h2 i d k
  · rcases List.mem_or_eq_of_mem_set hp with hp | rfl
    · exact far _ _ (h3 p hp)
    · exact far _ _ hk

theorem upto_zero (l : List Nd) : l.take 0 ++ List.replicate (l.length - 0) Nd.zero = List.replicate l.length Nd.zero := by simp
theorem upto_length {l : List Nd} {j : Nat} (hj : j ≤ l.length) : (l.take j ++ List.replicate (l.length - j) Nd.zero).length = l.length := by simp; omega
theorem upto_step {l : List Nd} {j : Nat} (hj : j < l.length) : (l.take j ++ List.replicate (l.length - j) Nd.zero).set j l[j] = l.take (j + 1) ++ List.replicate (l.length - (j + 1)) Nd.zero := by
  have hl : (l.take j).length = j := by rw [List.length_take]; omega
  rw [List.set_append_right _ _ (by omega), hl, Nat.sub_self, show l.length - j = (l.length - (j + 1)) + 1 by omega, List.replicate_succ, List.set_cons_zero, List.take_add_one, List.getElem?_eq_getElem hj, List.append_assoc]
  rfl

variable {S : Nat → Prop} {b : Nat}
end
end Go.Proofs.Ytkafaceanlkjjaa
