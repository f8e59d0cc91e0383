/-
  Plain facts: texts that are the one thing between their blanks.
-/
import Derived.Test.YtalcfcemilmgdaaPlainJoin
namespace Go.Proofs.Ytalcfcemilmgdaa
open Go

/-- Is the text the one thing between its blanks? -/
def okw (p : List UInt8) : Bool := decide (splitL p = [p])
/-- Are the first k texts? -/
def okTo (ls : List (List UInt8)) (k : Nat) : Bool := (ls.take k).all okw
theorem okTo_zero (ls : List (List UInt8)) : okTo ls 0 = true := rfl
theorem okTo_succ {ls : List (List UInt8)} {k : Nat} {p : List UInt8} (h : ls[k]? = some p) : okTo ls (k + 1) = (okTo ls k && okw p) := by
  unfold okTo
  rw [List.take_add_one, h]
  simp
theorem okw_nil : okw [] = false := by decide
theorem okw_len {p : List UInt8} (h : ¬ (splitL p).length = 1) : okw p = false := by
  unfold okw
  rw [decide_eq_false_iff_not]
  intro e
  rw [e] at h
  simp at h
theorem okw_one {p q : List UInt8} (h : splitL p = [q]) : okw p = decide (q = p) := by
  unfold okw
  rw [h]
  simp
theorem okw_solid {p : List UInt8} (h : okw p = true) : solid p := by
  unfold okw at h
  rw [decide_eq_true_iff] at h
  by_cases h0 : p = []
  · subst h0
    simp [splitL, splitGo_nil, filled_nil] at h
  · exact solid_of_split h0 (by rw [h]; rfl)
theorem split_of_ok {ls : List (List UInt8)} {n : Nat} (hn : ls.length ≤ n) (h : okTo ls n = true) : splitL (joinL ls) = ls := by
  refine split_join ls fun l hl => okw_solid ?_
  unfold okTo at h
  rw [List.take_of_length_le hn, List.all_eq_true] at h
  exact h l hl
theorem joinL_bound (ls : List (List UInt8)) (m : Nat) (h : ∀ l ∈ ls, l.length ≤ m) : (joinL ls).length ≤ ls.length * (m + 1) := by
  cases ls with
  | nil => simp [joinL, Lib.join_nil]
  | cons a r =>
    unfold joinL
    rw [Lib.join_length]
    have hs : ∀ r : List (List UInt8), (∀ l ∈ r, l.length ≤ m) → Lib.lens r ≤ r.length * m := by
      intro r
      induction r with
      | nil => intro _; simp [Lib.lens]
      | cons y r ih =>
        intro h
        have h1 := h y (by simp)
        have h2 := ih (fun l hl => h l (by simp [hl]))
        simp only [Lib.lens, List.map_cons, List.sum_cons, List.length_cons] at h2 ⊢
        rw [Nat.add_mul]
        omega
    have := hs (a :: r) h
    rw [Nat.mul_add]
    simp at this ⊢
    omega

end Go.Proofs.Ytalcfcemilmgdaa
