/-
  What towncrierlaw03.awake and LatchNone do: they answer true.
-/
import Derived.Test.YtbjcfncfogjamaaLatch
namespace Go.Proofs.Ytbjcfncfogjamaa
open Go Go.RowKit

section
variable {F : Nat → Prop} {w w' : World} {B : Nat}
theorem just_none {i : Nat} : ¬ Just [] i := fun h => by cases h
theorem below_keeps (h : Below B w w') {w'' : World} (k : Keeps (Just []) w' w'') (hB : B ≤ w'.heap.size) : Below B w w'' := below_then h k hB fun _ _ => just_none
end

theorem awake_any (w : World) : Calls Try.prog 5 #[] w fun e w' => e = .returned (.bool true) ∧ Below w.heap.size w w' := by
  have hnot : ∀ (x : Bool) (w : World), (Op.unary .not (.bool x)).run Try.prog w = .ok (.bool (!x)) w := fun _ _ => rfl
  go_enter Try.func5, Try.ntmps5
  go_wp2_with fail
  refine (new_any w).mono ?_
  rintro e w1 ⟨rfl, h1, hb, hs⟩
  have Hs := Lib.hid hs
  clear hs
  go_wp2_with fail
  refine (do_none _ _ h1).mono ?_
  rintro e w2 ⟨rfl, h2, k2⟩
  go_wp2_with fail
  refine (do_shut _ _ _ h2).mono ?_
  rintro e w3 ⟨rfl, k3⟩
  go_wp2
  go_ret
  exact ⟨rfl, below_keeps (below_then hb k2 hb.size (just_far (Nat.le_refl _))) k3 (Nat.le_trans hb.size k2.grows)⟩

/-- A number that is a variable. -/
def Num (w : World) (g : Nat) (n : Int) : Prop := Has w g (.cells #[.int .i64 n] 3 (0, 0))

/-- What is called once. -/
theorem adds_any (g : Nat) (n : Int) (w : World) (h0 : -1000000 ≤ n) (h1 : n ≤ 1000000) (h : Num w g n) :
    Calls Try.prog 13 #[.pointer (some ⟨g, 0, none⟩)] w fun e w' => e = .returned (.tuple #[]) ∧ Keeps (Just [g]) w w' ∧ Num w' g (n + 1) := by
  have c1 : w.cell? ⟨g, 0, none⟩ = some (.int .i64 n) := Has.cell h 0
  have f1 : w.frozen? ⟨g, 0, none⟩ = false := Has.free h 0
  go_enter Try.func13, Try.ntmps13
  go_wp2
  go_end0
  exact ⟨rfl, (Keeps.refl _ _).store1 0 _, Has.stored h 0 _⟩

set_option maxHeartbeats 4000000 in
theorem latchNone_any (t : Int) (w : World) (t0 : 0 ≤ t) (t1 : t ≤ 255) :
    Calls Try.prog 4 #[.int .u8 t] w fun e w' => e = .returned (.bool true) ∧ Below w.heap.size w w' := by
  have hnot : ∀ (x : Bool) (w : World), (Op.unary .not (.bool x)).run Try.prog w = .ok (.bool (!x)) w := fun _ _ => rfl
  have hmf : ∀ (fn : Fn) (first cap : Array Value) (w : World), (Instr.makeFunc fn first cap).run Try.prog w = .ok (.func fn first cap) w := fun _ _ _ _ => rfl
  go_enter Try.func4, Try.ntmps4
  go_wp2_with fail
  refine (awake_any _).mono ?_
  rintro e w0 ⟨rfl, hb0⟩
  go_wp2_with fail
  have hlt : w.heap.size ≤ w0.heap.size := hb0.size
  have hl0 : Lat ((w0.alloc (.cells #[.int .u32 0, .int .i32 0, .int .u32 0, .int .u32 0] 46)).alloc (.cells #[.int .i64 0] 3)) w0.heap.size false := Has.more (Has.fresh _ _) _
  have hn0 : Num ((w0.alloc (.cells #[.int .u32 0, .int .i32 0, .int .u32 0, .int .u32 0] 46)).alloc (.cells #[.int .i64 0] 3)) (w0.heap.size + 1) 0 := by
    have := Has.fresh (w0.alloc (.cells #[.int .u32 0, .int .i32 0, .int .u32 0, .int .u32 0] 46)) (.cells #[.int .i64 0] 3)
    simpa [Num] using this
  have hB0 : Below w.heap.size w ((w0.alloc (.cells #[.int .u32 0, .int .i32 0, .int .u32 0, .int .u32 0] 46)).alloc (.cells #[.int .i64 0] 3)) := (hb0.alloc hlt _).alloc (by simp; omega) _
  have hne : ∀ w, (callFunc 13 #[.pointer (some ⟨w0.heap.size + 1, 0, none⟩)]).run Try.prog w = .ok (.enter 13 #[.pointer (some ⟨w0.heap.size + 1, 0, none⟩)]) w := fun w => MuLone.run_callFunc_enter Try.func13 (by kernel_rfl) rfl _ w
  have Hne := Lib.hid hne
  clear hne
  go_loopw [6] (fun i wr => ∃ (j : Nat) (s : Bool), i = .int .i64 j ∧ (j : Int) ≤ t + 1 ∧ s = decide (1 ≤ j) ∧ Lat wr w0.heap.size s ∧ Num wr (w0.heap.size + 1) (bit s) ∧ Below w.heap.size w wr) (fun i _ => 257 - (intOf i).toNat)
  case atStart => exact ⟨0, false, rfl, by omega, rfl, hl0, hn0, hB0⟩
  case round =>
    obtain ⟨j, s, rfl, hj, hs, hl, hn, hB⟩ := hrel
    clear hl0 hn0 hB0
    have hlb := hl.in
    have hnb := Has.inside hn
    by_cases h0 : j = 0
    · subst h0
      obtain rfl : s = false := hs
      have ht : (0 : Int) ≤ t := t0
      go_wp2_with fail
      refine (do_nil _ wr).mono ?_
      rintro e w1 ⟨rfl, k1⟩
      go_wp2_with fail
      refine (done_nil _).mono ?_
      rintro e w2 ⟨rfl, rfl⟩
      go_wp2_with fail
      have hl1 : Lat w1 w0.heap.size false := hl.kept k1 just_none
      have hn1 : Num w1 (w0.heap.size + 1) 0 := Has.kept hn k1 just_none
      refine (do_some w0.heap.size 13 _ (Just [w0.heap.size + 1]) (fun w3 => Lat w3 w0.heap.size true ∧ Num w3 (w0.heap.size + 1) 1 ∧ Below w.heap.size w w3) w1 hl1 ?_ Hne.out ?_).mono ?_
      · intro i hi
        have := List.mem_singleton.1 hi
        have := Has.inside hn1
        omega
      · intro w3 hl3 k3
        refine (adds_any _ 0 _ (by omega) (by omega) (Has.kept hn1 k3 (just_ne (by omega)))).mono ?_
        rintro e w4 ⟨rfl, k4, hn4⟩
        exact ⟨rfl, k4, hl3.kept k4 (just_ne (by omega)), hn4, below_then (below_then (below_keeps hB k1 hB.size) k3 (Nat.le_trans hB.size k1.grows) (just_far hlt)) k4 (Nat.le_trans (Nat.le_trans hB.size k1.grows) k3.grows) (just_far (by omega))⟩
      rintro e w5 ⟨rfl, hl5, hn5, hB5⟩
      go_wp2_with fail
      refine (done_any _ _ _ hl5).mono ?_
      rintro e w6 ⟨rfl, rfl⟩
      go_wp2
      go_roundw
      case rel => exact ⟨1, true, by go_num, by omega, rfl, hl5, hn5, hB5⟩
      case measure => simp [intOf]
    · obtain rfl : s = true := by rw [hs]; exact decide_eq_true (by omega)
      clear hs
      have hj0 : ¬ (j : Int) = 0 := by omega
      by_cases hjt : (j : Int) ≤ t
      · go_wp2_with fail
        refine (do_nil _ wr).mono ?_
        rintro e w1 ⟨rfl, k1⟩
        go_wp2_with fail
        refine (done_nil _).mono ?_
        rintro e w2 ⟨rfl, rfl⟩
        go_wp2_with fail
        have hl1 : Lat w1 w0.heap.size true := hl.kept k1 just_none
        refine (do_shut w0.heap.size _ w1 hl1).mono ?_
        rintro e w5 ⟨rfl, k5⟩
        have hl5 : Lat w5 w0.heap.size true := hl1.kept k5 just_none
        have hn5 : Num w5 (w0.heap.size + 1) 1 := Has.kept (Has.kept hn k1 just_none) k5 just_none
        go_wp2_with fail
        refine (done_any _ _ _ hl5).mono ?_
        rintro e w6 ⟨rfl, rfl⟩
        go_wp2
        go_roundw
        case rel => exact ⟨j + 1, true, by go_num, by omega, by simp, hl5, hn5, below_keeps (below_keeps hB k1 hB.size) k5 (Nat.le_trans hB.size k1.grows)⟩
        case measure => simp [intOf]; omega
      · have c1 : wr.cell? ⟨w0.heap.size + 1, 0, none⟩ = some (.int .i64 1) := Has.cell hn 0
        go_wp2
        go_ret
        exact ⟨rfl, hB⟩
end Go.Proofs.Ytbjcfncfogjamaa
