/-
  What a nil forest of package arena does.
-/
import Derived.Test.YtlbaahfadfmffaaArk
namespace Go.Proofs.Ytlbaahfadfmffaa
open Go Go.RowKit

section
variable {w : World}
theorem nilLen : Calls Try.prog 11 #[.pointer none] w fun e w' => e = .returned (.int .i64 0) ∧ w = w' := by
  go_enter Try.func11, Try.ntmps11
  go_wp2
  go_ret
  exact ⟨rfl, rfl⟩
theorem nilHas (id : Int) : Calls Try.prog 29 #[.pointer none, .int .i64 id] w fun e w' => e = .returned (.bool false) ∧ w = w' := by
  by_cases h1 : 1 ≤ id
  · have e1 : decide (1 ≤ id) = true := decide_eq_true h1
    have e2 : decide (id ≤ 0) = false := decide_eq_false (by omega)
    go_enter Try.func29, Try.ntmps29
    go_wp2_with fail
    refine nilLen.mono ?_
    rintro e w1 ⟨rfl, rfl⟩
    go_wp2
    go_ret
    exact ⟨rfl, rfl⟩
  · have e1 : decide (1 ≤ id) = false := decide_eq_false h1
    go_enter Try.func29, Try.ntmps29
    go_wp2
    go_ret
    exact ⟨rfl, rfl⟩
theorem nilMake (k pa ho sh m : Int) (sl : Bool) (na wa : ByteArray) (kv : Value) : Calls Try.prog 19 #[.pointer none, .agg #[.int .i64 k, .int .i64 pa, .int .i64 ho, .int .i64 sh, .int .i64 m, .bool sl, .string na, .string wa, kv]] w fun e w' => e = .returned (.tuple #[.int .i64 0, .int .i64 1]) ∧ Below w.heap.size w w' := by
  have hb : Below w.heap.size w (w.alloc (.cells #[.int .i64 k, .int .i64 pa, .int .i64 ho, .int .i64 sh, .int .i64 m, .bool sl, .string na, .string wa, kv] 33)) := (Below.refl _ w).alloc (Nat.le_refl _) _
  go_enter Try.func19, Try.ntmps19
  go_wp2
  go_ret2
  exact ⟨rfl, hb⟩
theorem nilNode (id : Int) : Calls Try.prog 12 #[.pointer none, .int .i64 id] w fun e w' => e = .returned (.tuple #[.agg #[.int .i64 0, .int .i64 0, .int .i64 0, .int .i64 0, .int .i64 0, .bool false, .string ⟨#[]⟩, .string ⟨#[]⟩, .slice none 0 0], .bool false]) ∧ Below w.heap.size w w' := by
  have hnot : ∀ (x : Bool) (w : World), (Op.unary .not (.bool x)).run Try.prog w = .ok (.bool (!x)) w := fun _ _ => rfl
  have hb0 : Below w.heap.size w (w.alloc (.cells #[.int .i64 0, .int .i64 0, .int .i64 0, .int .i64 0, .int .i64 0, .bool false, .string ⟨#[]⟩, .string ⟨#[]⟩, .slice none 0 0] 33)) := (Below.refl _ w).alloc (Nat.le_refl _) _
  have HB0 := Lib.hid hb0
  clear hb0
  go_enter Try.func12, Try.ntmps12
  go_wp2_with fail
  refine (nilHas id).mono ?_
  rintro e w1 ⟨rfl, rfl⟩
  go_wp2
  (try simp only [Exit.inBlock, Exit.then])
  refine bodyPost_ret (v := .tuple #[.agg #[.int .i64 0, .int .i64 0, .int .i64 0, .int .i64 0, .int .i64 0, .bool false, .string ⟨#[]⟩, .string ⟨#[]⟩, .slice none 0 0], .bool false]) ?_ rfl ⟨rfl, HB0.out⟩
  rw [results_cell_tmp rfl]
  go_simp
theorem nilAll : Calls Try.prog 15 #[.pointer none] w fun e w' => ∃ A c, e = .returned (.slice A 0 c) ∧ Below w.heap.size w w' := by
  obtain ⟨j0, qi, qz0, qz1, qz2⟩ := info_parts Try.infoNode
  have hbyt : j0.bytes * 0 ≤ 281474976710656 := by omega
  have hmax : 0 ≤ maxLen := Nat.zero_le _
  have Qi := Lib.hid qi
  have Qz0 := Lib.hid qz0
  have Qz1 := Lib.hid qz1
  have Hbyt := Lib.hid hbyt
  have Hmax := Lib.hid hmax
  clear qi qz0 qz1 qz2 hbyt hmax
  go_enter Try.func15, Try.ntmps15
  go_wp2_with fail
  refine nilLen.mono ?_
  rintro e w1 ⟨rfl, rfl⟩
  go_wp2_with (with_reducible refine wpList_make_full w rfl (.tmp 6) (.tmp 6) 27 rfl w.heap.size 33 j0 _ 9 Try.underlying27 Qi.out Qz0.out Qz1.out .i64 .i64 _ _ 0 rfl rfl rfl rfl Hbyt.out Hmax.out (Nat.le_refl _) ?_; intro w1 ho1 hg1)
  have hb1 : Below w.heap.size w w1 := (Below.refl _ w).grown hg1 (Nat.le_refl _) (fun k hk => absurd hk (by simp))
  clear ho1 hg1
  go_loopw [10] (fun i wr => i = .int .i64 0 ∧ Below w.heap.size w wr) (fun _ _ => 0)
  case atStart => exact ⟨rfl, hb1⟩
  case round =>
    obtain ⟨rfl, hbj⟩ := hrel
    go_wp2
    go_ret
    exact ⟨_, _, rfl, hbj⟩
theorem nilPut (id : Int) : Calls Try.prog 20 #[.pointer none, .int .i64 id, .slice none 0 0] w fun e w' => e = .returned (.int .i64 1) ∧ w = w' := by
  have hnot : ∀ (x : Bool) (w : World), (Op.unary .not (.bool x)).run Try.prog w = .ok (.bool (!x)) w := fun _ _ => rfl
  go_enter Try.func20, Try.ntmps20
  go_wp2_with fail
  refine (nilHas id).mono ?_
  rintro e w1 ⟨rfl, rfl⟩
  go_wp2
  go_ret
  exact ⟨rfl, rfl⟩
theorem nilTie (id r : Int) : Calls Try.prog 21 #[.pointer none, .int .i64 id, .int .i64 r] w fun e w' => e = .returned (.int .i64 1) ∧ w = w' := by
  have hnot : ∀ (x : Bool) (w : World), (Op.unary .not (.bool x)).run Try.prog w = .ok (.bool (!x)) w := fun _ _ => rfl
  go_enter Try.func21, Try.ntmps21
  go_wp2_with fail
  refine (nilHas id).mono ?_
  rintro e w1 ⟨rfl, rfl⟩
  go_wp2
  go_ret
  exact ⟨rfl, rfl⟩
theorem nilName (id : Int) (s : ByteArray) : Calls Try.prog 22 #[.pointer none, .int .i64 id, .string s] w fun e w' => e = .returned (.int .i64 1) ∧ w = w' := by
  have hnot : ∀ (x : Bool) (w : World), (Op.unary .not (.bool x)).run Try.prog w = .ok (.bool (!x)) w := fun _ _ => rfl
  go_enter Try.func22, Try.ntmps22
  go_wp2_with fail
  refine (nilHas id).mono ?_
  rintro e w1 ⟨rfl, rfl⟩
  go_wp2
  go_ret
  exact ⟨rfl, rfl⟩
theorem nilWant (id : Int) (s : ByteArray) : Calls Try.prog 23 #[.pointer none, .int .i64 id, .string s] w fun e w' => e = .returned (.int .i64 1) ∧ w = w' := by
  have hnot : ∀ (x : Bool) (w : World), (Op.unary .not (.bool x)).run Try.prog w = .ok (.bool (!x)) w := fun _ _ => rfl
  go_enter Try.func23, Try.ntmps23
  go_wp2_with fail
  refine (nilHas id).mono ?_
  rintro e w1 ⟨rfl, rfl⟩
  go_wp2
  go_ret
  exact ⟨rfl, rfl⟩
end
end Go.Proofs.Ytlbaahfadfmffaa
