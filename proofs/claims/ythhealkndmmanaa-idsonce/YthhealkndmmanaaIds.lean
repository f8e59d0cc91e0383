/-
  What package ids does: New, Next, Last, Is; and the two calls of sync/atomic that it makes.
-/
import Derived.Test.YthhealkndmmanaaKeep
namespace Go.Proofs.Ythhealkndmmanaa
open Go Go.RowKit

theorem load_any (a : Addr) (x : Int) (w : World) (hc : w.cell? a = some (.int .u64 x)) :
    Calls Try.prog 11 #[.pointer (some a)] w fun e w' => e = .returned (.int .u64 x) ∧ w' = w := by
  have hl := run_call_load (P := Try.prog) Try.func13 (by kernel_rfl) (by kernel_rfl) (by kernel_rfl) .u64 (by kernel_rfl) hc
  clear hc
  go_enter Try.func11, Try.ntmps11
  go_wp2
  go_ret
  exact ⟨rfl, rfl⟩

theorem add_any (a : Addr) (x : Int) (w : World) (h0 : 0 ≤ x) (h1 : x ≤ 9223372036854775807) (hc : w.cell? a = some (.int .u64 x)) (hz : w.frozen? a = false) :
    Calls Try.prog 12 #[.pointer (some a), .int .u64 1] w fun e w' => e = .returned (.int .u64 (x + 1)) ∧ w.setCell a (.int .u64 (x + 1)) = w' := by
  have hl := run_call_add (P := Try.prog) Try.func14 (by kernel_rfl) (by kernel_rfl) (by kernel_rfl) .u64 (by kernel_rfl) (y := 1) (s := x + 1) hc hz (by
    simp [go_sem]
    rw [IntKind.wrap_u64]
    omega)
  clear hc hz
  go_enter Try.func12, Try.ntmps12
  go_wp2
  go_ret
  exact ⟨rfl, rfl⟩

/-- A giver that gave k numbers, of limit l. -/
def Giver (w : World) (b : Nat) (l k : Int) : Prop := Has w b (.cells #[.int .u64 l, .int .u64 k] 37 (0, 0))

theorem new_any (n : Int) (w : World) (h0 : -9223372036854775808 ≤ n) (h1 : n ≤ 9223372036854775807) :
    Calls Try.prog 6 #[.int .i64 n] w fun e w' => e = .returned (.pointer (some ⟨w.heap.size, 0, none⟩)) ∧ Giver w' w.heap.size (max n 0) 0 ∧ Below w.heap.size w w' ∧ w'.heap.size = w.heap.size + 1 := by
  by_cases hn : n < 0
  · have e : max n 0 = 0 := by omega
    rw [e]
    go_enter Try.func6, Try.ntmps6
    go_wp2
    go_ret
    exact ⟨rfl, Has.fresh _ _, (Below.refl _ _).alloc (Nat.le_refl _) _, by simp⟩
  · have e : max n 0 = n := by omega
    rw [e]
    go_enter Try.func6, Try.ntmps6
    go_wp2
    go_ret
    exact ⟨rfl, Has.fresh _ _, (Below.refl _ _).alloc (Nat.le_refl _) _, by simp⟩
end Go.Proofs.Ythhealkndmmanaa
