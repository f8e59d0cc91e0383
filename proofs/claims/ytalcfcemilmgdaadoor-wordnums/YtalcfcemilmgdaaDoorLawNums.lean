/-
  What towncrierlaw01.WordNums does: it answers true.
-/
import Derived.Test.YtalcfcemilmgdaaDoorNum
import Derived.Test.YtalcfcemilmgdaaDoorRefText
import Derived.Test.YtalcfcemilmgdaaDoorAwake
import Derived.Lib.ItoaLen
namespace Go.Proofs.YtalcfcemilmgdaaDoor
open Go Go.RowKit

theorem decDigits_inj {a b : Nat} (h : Lib.decDigits a = Lib.decDigits b) : a = b := by
  have h1 := decFrom_digits a
  rw [h, decFrom_digits b] at h1
  exact (Option.some.inj h1).symm
theorem decDigits_no45 (u : Nat) (l : List UInt8) : Lib.decDigits u ≠ 45 :: l := by
  intro e
  by_cases h0 : 1 ≤ u
  · obtain ⟨c, r, e2, hc⟩ := decDigits_head u h0
    rw [e2] at e
    injection e with e _
    subst e
    exact absurd hc.1 (by decide)
  · have : u = 0 := by omega
    subst this
    rw [decDigits_small (by omega)] at e
    injection e with e _
    exact absurd e (by decide)
theorem itoa_inj {a b : Int} (h : Lib.itoa a = Lib.itoa b) : a = b := by
  unfold Lib.itoa at h
  split at h
  · split at h
    · injection h with _ h
      have := decDigits_inj h
      omega
    · exact absurd h.symm (decDigits_no45 _ _)
  · split at h
    · exact absurd h (decDigits_no45 _ _)
    · have := decDigits_inj h
      omega
theorem numOf_in {n : Int} (h0 : -1000000 ≤ n) (h1 : n ≤ 1000000) : numOf (Lib.itoa n) = some n := numOf_iff.2 ⟨h0, h1, rfl⟩
theorem numOf_out {n : Int} (h : ¬ (-1000000 ≤ n ∧ n ≤ 1000000)) : numOf (Lib.itoa n) = none := by
  cases hc : numOf (Lib.itoa n) with
  | none => rfl
  | some v =>
    obtain ⟨h0, h1, h2⟩ := numOf_iff.1 hc
    exact absurd ⟨itoa_inj h2 ▸ h0, itoa_inj h2 ▸ h1⟩ h

set_option maxHeartbeats 2000000 in
set_option maxRecDepth 100000 in
theorem wordNums_any (n : Int) (h0 : -9223372036854775808 ≤ n) (h1 : n ≤ 9223372036854775807) (w : World) (ht : Tabs w) :
    Calls Tryd.prog 4 #[.int .i64 n] w fun e w' => e = .returned (.bool true) ∧ Below w.heap.size w w' := by
  have htext := fun (W : World) (hW : Tabs W) => text_any n h0 h1 W hW
  have href := fun (W : World) => refText_any n h0 h1 W
  have hlen := Lib.itoa_length_le n h0 h1
  have hnum := fun (W : World) (hW : Tabs W) => num_any (ba (Lib.itoa n)) W (by rw [ba_size]; omega) hW
  simp only [ba_data] at hnum
  have Ht := Lib.hid ht
  have Htext := Lib.hid htext
  have Href := Lib.hid href
  obtain ⟨t, hte⟩ : ∃ t, t = Lib.itoa n := ⟨_, rfl⟩
  by_cases hin : -1000000 ≤ n ∧ n ≤ 1000000
  · rw [numOf_in hin.1 hin.2] at hnum
    rw [← hte] at Htext Href hnum
    have Hnum := Lib.hid hnum
    obtain ⟨hlo, hhi⟩ := hin
    clear htext href hnum ht hlen hte h0 h1
    go_enter Tryd.func4, Tryd.ntmps4
    go_wp2_with fail
    refine (awake_any _).mono ?_
    rintro e w0 ⟨rfl, hb0⟩
    go_wp2_with fail
    refine (Htext.out _ (Ht.out.below hb0)).mono ?_
    rintro e w1 ⟨rfl, hb1⟩
    have hB1 : Below w.heap.size w w1 := hb0.trans (hb1.mono hb0.size)
    clear hb0 hb1
    go_wp2_with fail
    refine (Hnum.out _ (Ht.out.below hB1)).mono ?_
    rintro e w2 ⟨rfl, hb2⟩
    have hB2 : Below w.heap.size w w2 := hB1.trans (hb2.mono hB1.size)
    clear hB1 hb2
    unfold numTuple
    go_wp2_with fail
    refine (Href.out _).mono ?_
    rintro e w3 ⟨rfl, rfl⟩
    go_wp2
    go_ret
    exact ⟨rfl, hB2⟩
  · rw [numOf_out hin] at hnum
    rw [← hte] at Htext Href hnum
    have Hnum := Lib.hid hnum
    clear htext href hnum ht hlen hte h0 h1
    have hcase : (n < -1000000 ∧ decide (-1000000 ≤ n) = false) ∨ (-1000000 ≤ n ∧ decide (n ≤ 1000000) = false) := by
      rw [decide_eq_false_iff_not, decide_eq_false_iff_not]
      omega
    have hne : ((0 : Int) == n) = false := by rw [beq_eq_false_iff_ne]; omega
    clear hin
    rcases hcase with ⟨hlo, hd⟩ | ⟨hlo, hd⟩
    all_goals
      go_enter Tryd.func4, Tryd.ntmps4
      go_wp2_with fail
      refine (awake_any _).mono ?_
      rintro e w0 ⟨rfl, hb0⟩
      go_wp2_with fail
      refine (Htext.out _ (Ht.out.below hb0)).mono ?_
      rintro e w1 ⟨rfl, hb1⟩
      have hB1 : Below w.heap.size w w1 := hb0.trans (hb1.mono hb0.size)
      clear hb0 hb1
      go_wp2_with fail
      refine (Hnum.out _ (Ht.out.below hB1)).mono ?_
      rintro e w2 ⟨rfl, hb2⟩
      have hB2 : Below w.heap.size w w2 := hB1.trans (hb2.mono hB1.size)
      clear hB1 hb2
      unfold numTuple
      go_wp2_with fail
      refine (Href.out _).mono ?_
      rintro e w3 ⟨rfl, rfl⟩
      go_wp2
      go_ret
      exact ⟨rfl, hB2⟩
end Go.Proofs.YtalcfcemilmgdaaDoor
