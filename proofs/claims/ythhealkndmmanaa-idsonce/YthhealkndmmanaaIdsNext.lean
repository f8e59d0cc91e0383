/-
  What (*ids.Ids).Next, Last and Is do, and towncrierref02's Next.
-/
import Derived.Test.YthhealkndmmanaaIds
namespace Go.Proofs.Ythhealkndmmanaa
open Go Go.RowKit

section
variable {b : Nat} {l k : Int} {w : World}
theorem Giver.drewN (h : Giver w b l k) (n : Nat) : Giver (w.drewN n) b l k := h
theorem Giver.c0 (h : Giver w b l k) : w.cell? ⟨b, 0, none⟩ = some (.int .u64 l) := Has.cell h 0
theorem Giver.c1 (h : Giver w b l k) : w.cell? ⟨b, 1, none⟩ = some (.int .u64 k) := Has.cell h 1
theorem Giver.f1 (h : Giver w b l k) : w.frozen? ⟨b, 1, none⟩ = false := Has.free h 1
end

set_option maxHeartbeats 400000 in
/-- A number is left. -/
theorem next_more (b : Nat) (l k : Int) (w : World) (h0 : 0 ≤ k) (h1 : k < l) (hl : l ≤ 9223372036854775807) (h : Giver w b l k) :
    Calls Try.prog 7 #[.pointer (some ⟨b, 0, none⟩)] w fun e w' => e = .returned (.int .i64 (k + 1)) ∧ Giver w' b l (k + 1) ∧ Keeps (Just [b]) w w' := by
  have hc0 := h.c0
  have hc1 := h.c1
  have hf1 := h.f1
  have g1 : decide (l ≤ k) = false := by rw [decide_eq_false_iff_not]; omega
  have g2 : ¬ l < k + 1 := by omega
  go_enter Try.func7, Try.ntmps7
  go_wp2_with fail
  go_quiet ((go_at_call 11; exact Calls.quiet_of_same (load_any _ _ _ hc1)))
  go_wp2_with fail
  refine (add_any _ k _ h0 (by omega) (h.drewN _).c1 (h.drewN _).f1).mono ?_
  rintro e w1 ⟨rfl, rfl⟩
  go_wp2
  go_ret
  exact ⟨rfl, (Has.drewN h _).stored 1 _, ((Keeps.refl _ _).drewN _).store1 1 _⟩
/-- None is left. -/
theorem next_none (b : Nat) (l k : Int) (w : World) (h1 : l ≤ k) (h : Giver w b l k) :
    Calls Try.prog 7 #[.pointer (some ⟨b, 0, none⟩)] w fun e w' => e = .returned (.int .i64 0) ∧ ∃ n, w' = w.drewN n := by
  have hc0 := h.c0
  have hc1 := h.c1
  have g1 : decide (l ≤ k) = true := by rw [decide_eq_true_iff]; omega
  go_enter Try.func7, Try.ntmps7
  go_wp2_with fail
  go_quiet ((go_at_call 11; exact Calls.quiet_of_same (load_any _ _ _ hc1)))
  go_wp2
  go_ret
  exact ⟨rfl, _, rfl⟩
theorem next_nil (w : World) :
    Calls Try.prog 7 #[.pointer none] w fun e w' => e = .returned (.int .i64 0) ∧ ∃ n, w' = w.drewN n := by
  go_enter Try.func7, Try.ntmps7
  go_wp2_with fail
  go_quiet (fail)
  go_wp2
  go_ret
  exact ⟨rfl, _, rfl⟩

theorem last_any (b : Nat) (l k : Int) (w : World) (h0 : 0 ≤ k) (h1 : k ≤ l) (hl : l ≤ 9223372036854775807) (h : Giver w b l k) :
    Calls Try.prog 9 #[.pointer (some ⟨b, 0, none⟩)] w fun e w' => e = .returned (.int .i64 k) ∧ ∃ n, w' = w.drewN n := by
  have hc0 := h.c0
  have hc1 := h.c1
  go_enter Try.func9, Try.ntmps9
  go_wp2_with fail
  go_quiet ((go_at_call 11; exact Calls.quiet_of_same (load_any _ _ _ hc1)))
  go_wp2
  go_ret
  exact ⟨rfl, _, rfl⟩
theorem last_nil (w : World) :
    Calls Try.prog 9 #[.pointer none] w fun e w' => e = .returned (.int .i64 0) ∧ ∃ n, w' = w.drewN n := by
  go_enter Try.func9, Try.ntmps9
  go_wp2
  go_ret
  exact ⟨rfl, 0, rfl⟩
end Go.Proofs.Ythhealkndmmanaa
