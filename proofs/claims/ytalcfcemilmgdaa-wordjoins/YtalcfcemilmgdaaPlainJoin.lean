/-
  Plain facts on lists of bytes: texts that are joined by blanks, and told apart again.
-/
import Derived.Test.YtalcfcemilmgdaaPlain
namespace Go.Proofs.Ytalcfcemilmgdaa
open Go

def joinL (ls : List (List UInt8)) : List UInt8 := Lib.join ls [32]
theorem joinL_zero (ls : List (List UInt8)) : joinL (ls.take 0) = [] := rfl
theorem joinL_one (ls : List (List UInt8)) (x : List UInt8) (h : ls[0]? = some x) : joinL (ls.take 1) = x := by
  cases ls with
  | nil => simp at h
  | cons a r => simp at h; subst h; simp [joinL, Lib.join_one]
theorem joinL_succ (ls : List (List UInt8)) (k : Nat) (x : List UInt8) (hk : 0 < k) (h : ls[k]? = some x) : joinL (ls.take (k + 1)) = joinL (ls.take k) ++ [32] ++ x := by
  cases ls with
  | nil => simp at h
  | cons a r =>
    obtain ⟨j, rfl⟩ : ∃ j, k = j + 1 := ⟨k - 1, by omega⟩
    simp at h
    simp only [List.take_succ_cons]
    unfold joinL
    rw [Lib.join_cons, Lib.join_cons, Lib.joinTail_take_succ _ _ _ _ h]
    simp
theorem joinL_take_le (ls : List (List UInt8)) (k : Nat) : (joinL (ls.take k)).length ≤ (joinL ls).length := by
  cases ls with
  | nil => simp
  | cons a r =>
    cases k with
    | zero => simp [joinL, Lib.join_nil]
    | succ k =>
      rw [List.take_succ_cons]
      unfold joinL
      rw [Lib.join_cons, Lib.join_cons, List.length_append, List.length_append]
      have := Lib.joinTail_take_le [32] r k
      omega
/-- A word: not empty, without blanks. -/
def solid (l : List UInt8) : Prop := l ≠ [] ∧ ∀ c ∈ l, c ≠ 32
theorem splitGo_solid (m : List UInt8) (h : ∀ c ∈ m, c ≠ 32) : splitGo [] m = filled m := by
  have := splitGo_run m [] [] h
  simpa [splitGo_nil] using this
theorem split_tail (r : List (List UInt8)) (cur : List UInt8) (hc : cur ≠ []) (h : ∀ l ∈ r, solid l) : splitGo cur (Lib.joinTail [32] r) = cur :: r := by
  induction r generalizing cur with
  | nil => simp [Lib.joinTail, splitGo_nil, filled_of_ne hc]
  | cons a r ih =>
    have ha := h a (by simp)
    have e : Lib.joinTail [32] (a :: r) = 32 :: (a ++ Lib.joinTail [32] r) := by simp [Lib.joinTail]
    rw [e, splitGo_blank, filled_of_ne hc, splitGo_run _ _ _ ha.2, List.nil_append, ih a ha.1 (fun l hl => h l (by simp [hl]))]
    rfl
theorem split_join (ls : List (List UInt8)) (h : ∀ l ∈ ls, solid l) : splitL (joinL ls) = ls := by
  cases ls with
  | nil => rfl
  | cons a r =>
    have ha := h a (by simp)
    unfold splitL joinL
    rw [Lib.join_cons, splitGo_run _ _ _ ha.2, List.nil_append]
    exact split_tail r a ha.1 (fun l hl => h l (by simp [hl]))
theorem splitGo_mem (r cur : List UInt8) (hc : ∀ c ∈ cur, c ≠ 32) : ∀ l ∈ splitGo cur r, ∀ c ∈ l, c ≠ 32 := by
  induction r generalizing cur with
  | nil =>
    intro l hl
    rw [splitGo_nil] at hl
    unfold filled at hl
    split at hl
    · simp at hl
    · simp at hl; subst hl; exact hc
  | cons c r ih =>
    by_cases h : c = 32
    · subst h
      intro l hl
      rw [splitGo_blank, List.mem_append] at hl
      rcases hl with hl | hl
      · unfold filled at hl
        split at hl
        · simp at hl
        · simp at hl; subst hl; exact hc
      · exact ih [] (by simp) l hl
    · rw [splitGo_other _ _ _ h]
      exact ih _ (fun x hx => by
        rw [List.mem_append] at hx
        rcases hx with hx | hx
        · exact hc x hx
        · simp at hx; subst hx; exact h)
/-- What a text is that is the one thing between its blanks. -/
theorem solid_of_split {l : List UInt8} (h0 : l ≠ []) (h : (splitL l)[0]? = some l) : solid l := by
  refine ⟨h0, splitGo_mem l [] (by simp) l ?_⟩
  unfold splitL at h
  exact List.mem_of_getElem? h

end Go.Proofs.Ytalcfcemilmgdaa
