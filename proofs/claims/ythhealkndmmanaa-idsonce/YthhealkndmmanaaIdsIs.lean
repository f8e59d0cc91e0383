/-
  What (*ids.Ids).Is does, and towncrierref02's Next, and towncrierlaw02.awake.
-/
import Derived.Test.YthhealkndmmanaaIdsNext
namespace Go.Proofs.Ythhealkndmmanaa
open Go Go.RowKit

def isB (n k : Int) : Bool := decide (1 ≤ n) && decide (n ≤ k)

theorem is_any (b : Nat) (l k n : Int) (w : World) (h0 : 0 ≤ k) (h1 : k ≤ l) (hl : l ≤ 9223372036854775807) (h : Giver w b l k) :
    Calls Try.prog 10 #[.pointer (some ⟨b, 0, none⟩), .int .i64 n] w fun e w' => e = .returned (.bool (isB n k)) ∧ ∃ n, w' = w.drewN n := by
  by_cases hn : 1 ≤ n
  · have g1 : decide (1 ≤ n) = true := decide_eq_true hn
    have e1 : isB n k = decide (n ≤ k) := by unfold isB; rw [g1]; rfl
    rw [e1]
    clear e1
    go_enter Try.func10, Try.ntmps10
    go_wp2_with fail
    refine (last_any b l k w h0 h1 hl h).mono ?_
    rintro e w1 ⟨rfl, m, rfl⟩
    go_wp2
    go_ret
    exact ⟨rfl, _, rfl⟩
  · have g1 : decide (1 ≤ n) = false := decide_eq_false hn
    have e1 : isB n k = false := by unfold isB; rw [g1]; rfl
    rw [e1]
    clear e1
    go_enter Try.func10, Try.ntmps10
    go_wp2
    go_ret
    exact ⟨rfl, 0, rfl⟩
theorem is_nil (n : Int) (w : World) :
    Calls Try.prog 10 #[.pointer none, .int .i64 n] w fun e w' => e = .returned (.bool false) ∧ ∃ n, w' = w.drewN n := by
  by_cases hn : 1 ≤ n
  · have g1 : decide (1 ≤ n) = true := decide_eq_true hn
    have g2 : decide (n ≤ 0) = false := decide_eq_false (by omega)
    go_enter Try.func10, Try.ntmps10
    go_wp2_with fail
    refine (last_nil w).mono ?_
    rintro e w1 ⟨rfl, m, rfl⟩
    go_wp2
    go_ret
    exact ⟨rfl, _, rfl⟩
  · have g1 : decide (1 ≤ n) = false := decide_eq_false hn
    go_enter Try.func10, Try.ntmps10
    go_wp2
    go_ret
    exact ⟨rfl, 0, rfl⟩

/-- The document's count: how many were given, and the limit. -/
def Count (w : World) (b : Nat) (k l : Int) : Prop := Has w b (.cells #[.int .i64 k, .int .i64 l] 27 (0, 0))

theorem refNext_more (b : Nat) (l k : Int) (w : World) (h0 : 0 ≤ k) (h1 : k < l) (hl : l ≤ 9223372036854775807) (h : Count w b k l) :
    Calls Try.prog 8 #[.pointer (some ⟨b, 0, none⟩)] w fun e w' => e = .returned (.int .i64 (k + 1)) ∧ Count w' b (k + 1) l ∧ Keeps (Just [b]) w w' := by
  have hc0 : w.cell? ⟨b, 0, none⟩ = some (.int .i64 k) := Has.cell h 0
  have hc1 : w.cell? ⟨b, 1, none⟩ = some (.int .i64 l) := Has.cell h 1
  have hf0 : w.frozen? ⟨b, 0, none⟩ = false := Has.free h 0
  have g1 : decide (l ≤ k) = false := by rw [decide_eq_false_iff_not]; omega
  go_enter Try.func8, Try.ntmps8
  go_wp2_with fail
  go_quiet (fail)
  go_wp2
  go_ret
  exact ⟨rfl, (Has.drewN h _).stored 0 _, ((Keeps.refl _ _).drewN _).store1 0 _⟩
theorem refNext_none (b : Nat) (l k : Int) (w : World) (h1 : l ≤ k) (h : Count w b k l) :
    Calls Try.prog 8 #[.pointer (some ⟨b, 0, none⟩)] w fun e w' => e = .returned (.int .i64 0) ∧ ∃ n, w' = w.drewN n := by
  have hc0 : w.cell? ⟨b, 0, none⟩ = some (.int .i64 k) := Has.cell h 0
  have hc1 : w.cell? ⟨b, 1, none⟩ = some (.int .i64 l) := Has.cell h 1
  have g1 : decide (l ≤ k) = true := by rw [decide_eq_true_iff]; omega
  go_enter Try.func8, Try.ntmps8
  go_wp2_with fail
  go_quiet (fail)
  go_wp2
  go_ret
  exact ⟨rfl, _, rfl⟩

/-- Both in one: the next number, or none. -/
def nxt (l k : Int) : Int := if k < l then k + 1 else 0
def cnt (l k : Int) : Int := if k < l then k + 1 else k
theorem next_any (b : Nat) (l k : Int) (w : World) (h0 : 0 ≤ k) (hl : l ≤ 9223372036854775807) (h : Giver w b l k) :
    Calls Try.prog 7 #[.pointer (some ⟨b, 0, none⟩)] w fun e w' => e = .returned (.int .i64 (nxt l k)) ∧ Giver w' b l (cnt l k) ∧ Keeps (Just [b]) w w' := by
  unfold nxt cnt
  by_cases hk : k < l
  · rw [if_pos hk, if_pos hk]
    exact next_more b l k w h0 hk hl h
  · rw [if_neg hk, if_neg hk]
    exact (next_none b l k w (by omega) h).mono fun e w' ⟨he, n, hn⟩ => ⟨he, by rw [hn]; exact h, by rw [hn]; exact (Keeps.refl _ _).drewN _⟩
theorem refNext_any (b : Nat) (l k : Int) (w : World) (h0 : 0 ≤ k) (hl : l ≤ 9223372036854775807) (h : Count w b k l) :
    Calls Try.prog 8 #[.pointer (some ⟨b, 0, none⟩)] w fun e w' => e = .returned (.int .i64 (nxt l k)) ∧ Count w' b (cnt l k) l ∧ Keeps (Just [b]) w w' := by
  unfold nxt cnt
  by_cases hk : k < l
  · rw [if_pos hk, if_pos hk]
    exact refNext_more b l k w h0 hk hl h
  · rw [if_neg hk, if_neg hk]
    exact (refNext_none b l k w (by omega) h).mono fun e w' ⟨he, n, hn⟩ => ⟨he, by rw [hn]; exact h, by rw [hn]; exact (Keeps.refl _ _).drewN _⟩

theorem awake_any (w : World) : Calls Try.prog 5 #[] w fun e w' => e = .returned (.bool true) ∧ Below w.heap.size w w' := by
  go_enter Try.func5, Try.ntmps5
  go_wp2_with fail
  refine (new_any 2 w (by omega) (by omega)).mono ?_
  rintro e w1 ⟨rfl, hg, hb, hs⟩
  have Hs := Lib.hid hs
  clear hs
  go_wp2_with fail
  refine (next_more _ 2 0 _ (by omega) (by omega) (by omega) hg).mono ?_
  rintro e w2 ⟨rfl, hg2, ho2⟩
  go_wp2_with fail
  refine (next_more _ 2 1 _ (by omega) (by omega) (by omega) hg2).mono ?_
  rintro e w3 ⟨rfl, hg3, ho3⟩
  go_wp2_with fail
  refine (next_none _ 2 2 _ (by omega) hg3).mono ?_
  rintro e w4 ⟨rfl, n4, rfl⟩
  go_wp2_with fail
  refine (next_none _ 2 2 _ (by omega) (hg3.drewN _)).mono ?_
  rintro e w5 ⟨rfl, n5, rfl⟩
  go_wp2
  go_ret
  exact ⟨rfl, below_draws (below_then hb (ho2.also ho3) hb.size (just_far (Nat.le_refl _))) _⟩
end Go.Proofs.Ythhealkndmmanaa
