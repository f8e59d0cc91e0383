/-
  What towncrierref01.Text does.
-/
import Derived.Test.YtalcfcemilmgdaaDoorMem
import Derived.Test.YtalcfcemilmgdaaDoorPlainText
namespace Go.Proofs.YtalcfcemilmgdaaDoor
open Go Go.RowKit

def TextRel (u : Nat) (n s : Value) : Prop := ∃ (m : Nat) (ds : List UInt8), n = .int .i64 (-(m : Int)) ∧ s = .string (ba ds) ∧ m ≤ 9223372036854775808 ∧ TellsOf u m ds

set_option maxHeartbeats 1000000 in
set_option maxRecDepth 100000 in
theorem refText_neg (u : Nat) (hu : 1 ≤ u) (hb : u ≤ 9223372036854775808) (w : World) :
    Calls Tryd.prog 14 #[.int .i64 (-(u : Int))] w fun e w' => e = .returned (.string (ba (Lib.itoa (-(u : Int))))) ∧ w = w' := by
  go_enter Tryd.func14, Tryd.ntmps14
  go_wp2
  go_loop [0, 3] (fun n s => TextRel u n s) (fun n _ => (-(intOf n)).toNat)
  case atStart => exact ⟨u, [], rfl, rfl, hb, TellsOf.start u hu⟩
  case round =>
    obtain ⟨m, ds, rfl, rfl, hmb, htl⟩ := hrel
    have hds : (ba ds).size ≤ 19 := htl.len hb
    by_cases hm : 1 ≤ m
    · have hneg : (-(m : Int)) < 0 := by omega
      go_wp2
      refine ⟨⟨m / 10, _, by go_num, ?_, by omega, htl.step hm⟩, by simp [intOf]; omega⟩
      rw [ten_cut _ (by omega), ba_cons]
    · have h0 : m = 0 := by omega
      subst h0
      have Hd := Lib.hid htl.done
      clear htl
      go_wp2
      go_ret
      refine ⟨?_, rfl⟩
      rw [Lib.itoa_neg u hu, Hd.out, ← ba_cons]
      rfl

def TextRelP (u : Nat) (n s : Value) : Prop := ∃ (m : Nat) (ds cs : List UInt8), n = .int .i64 (m : Int) ∧ s = .string (ba cs) ∧ m ≤ u ∧ cs = UInt8.ofNat (48 + m % 10) :: ds ∧ Lib.decDigits u = Lib.decDigits m ++ ds

set_option maxHeartbeats 1000000 in
set_option maxRecDepth 100000 in
theorem refText_pos (u : Nat) (hb : u ≤ 9223372036854775807) (w : World) :
    Calls Tryd.prog 14 #[.int .i64 (u : Int)] w fun e w' => e = .returned (.string (ba (Lib.itoa (u : Int)))) ∧ w = w' := by
  go_enter Tryd.func14, Tryd.ntmps14
  go_wp2
  go_loop [0, 5] (fun n s => TextRelP u n s) (fun n _ => (intOf n).toNat)
  case atStart => exact ⟨u, [], _, rfl, by rw [ten_cut _ (by omega)], Nat.le_refl _, rfl, by simp⟩
  case round =>
    obtain ⟨m, ds, cs, rfl, rfl, hmb, hcs, htl⟩ := hrel
    have hds : (ba cs).size ≤ 20 := by
      have hl := decDigits_len 18 u (by omega)
      rw [htl, List.length_append] at hl
      rw [ba_size, hcs, List.length_cons]
      omega
    have Ht := Lib.hid htl
    have Hc := Lib.hid hcs
    clear htl hcs
    by_cases hm : 10 ≤ m
    · go_wp2
      refine ⟨⟨m / 10, cs, _, by go_num, ?_, by omega, rfl, by rw [Hc.out]; exact digits_step Ht.out hm⟩, by simp [intOf]; omega⟩
      rw [ten_cut _ (by omega), ba_cons]
    · go_wp2
      go_ret
      refine ⟨?_, rfl⟩
      have e1 : Lib.itoa (u : Int) = cs := by
        rw [Lib.itoa_nonneg, Ht.out, decDigits_small (by omega), Hc.out, show m % 10 = m by omega]
        rfl
      rw [e1]
      rfl

theorem refText_any (n : Int) (h0 : -9223372036854775808 ≤ n) (h1 : n ≤ 9223372036854775807) (w : World) :
    Calls Tryd.prog 14 #[.int .i64 n] w fun e w' => e = .returned (.string (ba (Lib.itoa n))) ∧ w = w' := by
  by_cases hn : n < 0
  · obtain ⟨u, rfl⟩ : ∃ u : Nat, n = -(u : Int) := ⟨n.natAbs, by omega⟩
    exact refText_neg u (by omega) (by omega) w
  · obtain ⟨u, rfl⟩ : ∃ u : Nat, n = (u : Int) := ⟨n.toNat, by omega⟩
    exact refText_pos u (by omega) w
end Go.Proofs.YtalcfcemilmgdaaDoor
