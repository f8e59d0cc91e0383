/-
  What the calls of sync and sync/atomic do that a once makes, one goroutine alone: an atomic truth that is read and set, a free lock that is taken and let go.
-/
import Derived.Test.YtbjcfncfogjamaaKeep
import Derived.Defers
import Derived.RegionCalls
namespace Go.Proofs.Ytbjcfncfogjamaa
open Go Go.RowKit

/-- A truth as the number that is kept of it. -/
def bit : Bool → Int
  | true => 1
  | false => 0

theorem bload_any (a : Addr) (s : Bool) (w : World) (hc : w.cell? a = some (.int .u32 (bit s))) :
    Calls Try.prog 17 #[.pointer (some a)] w fun e w' => e = .returned (.bool s) ∧ w' = w := by
  have hl := run_call_load (P := Try.prog) Try.func21 (by kernel_rfl) (by kernel_rfl) (by kernel_rfl) .u32 (by kernel_rfl) hc
  clear hc
  cases s
  all_goals
    simp only [bit] at hl
    go_enter Try.func17, Try.ntmps17
    go_wp2
    go_ret
    exact ⟨rfl, rfl⟩

theorem bstore_any (a : Addr) (x : Value) (w : World) (hc : w.cell? a = some x) (hz : w.frozen? a = false) :
    Calls Try.prog 16 #[.pointer (some a), .bool true] w fun e w' => e = .returned (.tuple #[]) ∧ w' = (w.drew).setCell a (.int .u32 1) := by
  have hc' : w.drew.cell? a = some x := hc
  have hz' : w.drew.frozen? a = false := hz
  have hst := run_call_store (P := Try.prog) Try.func19 (by kernel_rfl) (by kernel_rfl) (by kernel_rfl) (by kernel_rfl) (k := .u32) (y := 1) hc' hz'
  go_enter Try.func16, Try.ntmps16
  go_wp2
  go_region_calls
  all_goals (go_end0; exact ⟨rfl, rfl⟩)

/-- The same as a deferred call. -/
theorem bstore_late (a : Addr) (x : Value) (u : FrameMode) (w : World) (hc : w.cell? a = some x) (hz : w.frozen? a = false) :
    CallsD Try.prog 16 #[.pointer (some a), .bool true] u w fun e u' w' => u' = u ∧ e = .returned (.tuple #[]) ∧ w' = (w.drew).setCell a (.int .u32 1) := by
  have hc' : w.drew.cell? a = some x := hc
  have hz' : w.drew.frozen? a = false := hz
  have hst := run_call_store (P := Try.prog) Try.func19 (by kernel_rfl) (by kernel_rfl) (by kernel_rfl) (by kernel_rfl) (k := .u32) (y := 1) hc' hz'
  go_enter_d Try.func16, Try.ntmps16
  go_wp2
  go_region_calls
  all_goals (go_end0; exact ⟨rfl, rfl⟩)

theorem lock_any (a : Addr) (w : World) (hc : w.cell? a = some (.int .i32 0)) (hz : w.frozen? a = false) :
    Calls Try.prog 22 #[.pointer (some a)] w fun e w' => e = .returned (.tuple #[]) ∧ w' = w.setCell a (.int .i32 1) := by
  have h1 : ∀ w, (callFunc 26 #[]).run Try.prog w = .ok (.value (.tuple #[])) w := run_call_mark0 Try.func26 (by kernel_rfl) (by kernel_rfl) (by kernel_rfl) .disable (by kernel_rfl)
  have h2 : ∀ w, (callFunc 28 #[]).run Try.prog w = .ok (.value (.tuple #[])) w := run_call_mark0 Try.func28 (by kernel_rfl) (by kernel_rfl) (by kernel_rfl) .enable (by kernel_rfl)
  have h3 := run_call_marked (P := Try.prog) Try.func29 (by kernel_rfl) (by kernel_rfl) (by kernel_rfl) .acquire (by kernel_rfl) a
  have h4 := run_call_cas_hit (P := Try.prog) Try.func27 (by kernel_rfl) (by kernel_rfl) (by kernel_rfl) .i32 (by kernel_rfl) (y := 1) hc hz
  have h5 : (w.setCell a (.int .i32 1)).cell? a = some (.int .i32 1) := World.cell?_setCell_same w a _ hc
  have h6 := run_convert_to_unsafe (P := Try.prog) (src := 58) (dst := 62) Try.underlying58 Try.underlying62 (by kernel_rfl) h5
  go_enter Try.func22, Try.ntmps22
  go_wp2
  first | go_end0 | (simp only [Exit.inBlock, Exit.then]; refine bodyPost_ret (results_none rfl _ _ _) rfl ?_) | refine bodyPost_ret (results_none rfl _ _ _) rfl ?_
  go_wp2
  go_end0
  exact ⟨rfl, rfl⟩

theorem unlock_late (a : Addr) (u : FrameMode) (w : World) (hc : w.cell? a = some (.int .i32 1)) (hz : w.frozen? a = false) :
    CallsD Try.prog 23 #[.pointer (some a)] u w fun e u' w' => u' = u ∧ e = .returned (.tuple #[]) ∧ w' = w.setCell a (.int .i32 0) := by
  have h1 : ∀ w, (callFunc 26 #[]).run Try.prog w = .ok (.value (.tuple #[])) w := run_call_mark0 Try.func26 (by kernel_rfl) (by kernel_rfl) (by kernel_rfl) .disable (by kernel_rfl)
  have h2 : ∀ w, (callFunc 28 #[]).run Try.prog w = .ok (.value (.tuple #[])) w := run_call_mark0 Try.func28 (by kernel_rfl) (by kernel_rfl) (by kernel_rfl) .enable (by kernel_rfl)
  have h3 := run_call_marked (P := Try.prog) Try.func31 (by kernel_rfl) (by kernel_rfl) (by kernel_rfl) .releaseMerge (by kernel_rfl) a
  have h4 := run_call_add (P := Try.prog) Try.func32 (by kernel_rfl) (by kernel_rfl) (by kernel_rfl) .i32 (by kernel_rfl) (y := -1) (s := 0) hc hz (by simp [go_sem]; rfl)
  have h6 := run_convert_to_unsafe (P := Try.prog) (src := 58) (dst := 62) Try.underlying58 Try.underlying62 (by kernel_rfl) hc
  go_enter_d Try.func23, Try.ntmps23
  go_wp2
  go_end0
  go_wp2
  go_end0
  exact ⟨rfl, rfl⟩
end Go.Proofs.Ytbjcfncfogjamaa
