/-
  Forests, plain: how many children a node has at most. No program is named here.
-/
import Derived.Test.YtkafaceanlkjjaaFp
namespace Go.Proofs.Ytkafaceanlkjjaa
open Go

/-- No node has more children than a list that was handed in. -/
def Few (K : Nat) (l : List Nd) : Prop := ∀ d ∈ l, d.kids.length ≤ K
theorem few_mod {K : Nat} {l : List Nd} {id : Int} {f : Nd → Nd} (h : Few K l) (hf : ∀ d, d.kids.length ≤ K → (f d).kids.length ≤ K) : Few K (modN l id f) := by
  intro d hd
  rcases List.mem_or_eq_of_mem_set hd with hd | rfl
  · exact h d hd
  · refine hf _ ?_
    unfold nd
    rw [List.getD_eq_getElem?_getD]
    cases e : l[(id - 1).toNat]? with
    | none => exact Nat.zero_le _
    | some d => exact h d (List.mem_of_getElem? e)
theorem few_toPar {K : Nat} {p : Int} : ∀ (kids : List Int) {l : List Nd}, Few K l → Few K (toPar l p kids)
  | [], _, h => h
  | k :: r, l, h => by
    show Few K (toPar (modN l k _) p r)
    exact few_toPar r (few_mod h fun _ h => h)
theorem few_clr {K : Nat} {l : List Nd} {p : Int} (h : Few K l) : Few K (clr l p) := by
  intro d hd
  obtain ⟨d', hd', rfl⟩ := List.mem_map.1 hd
  split <;> exact h d' hd'
theorem actL_kids {K : Nat} {l : List Nd} {x : Ac} (h : Few K l) (hx : x.l.length ≤ K) : Few K (actL l x) := by
  unfold actL
  split
  · unfold mkL
    split
    · intro d hd
      rcases List.mem_append.1 hd with hd | hd
      · exact h d hd
      · obtain rfl := List.mem_singleton.1 hd
        exact Nat.zero_le _
    · exact h
  · split
    · unfold putL
      split
      · exact few_mod (few_toPar _ (few_clr h)) fun _ _ => hx
      · exact h
    · split
      · unfold tieL
        split
        · exact few_mod (few_mod h fun _ h => h) fun _ h => h
        · exact h
      · split
        · unfold nameL
          split
          · exact few_mod h fun _ h => h
          · exact h
        · split
          · unfold wantL
            split
            · exact few_mod h fun _ h => h
            · exact h
          · exact h
end Go.Proofs.Ytkafaceanlkjjaa
