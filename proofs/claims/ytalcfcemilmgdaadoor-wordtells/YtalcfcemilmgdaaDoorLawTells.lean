/-
  What towncrierlaw01.WordTells does: it answers true.
-/
import Derived.Test.YtalcfcemilmgdaaDoorRefNum
import Derived.Test.YtalcfcemilmgdaaDoorRight
import Derived.Test.YtalcfcemilmgdaaDoorAwake
namespace Go.Proofs.YtalcfcemilmgdaaDoor
open Go Go.RowKit

set_option maxHeartbeats 4000000 in
set_option maxRecDepth 100000 in
theorem wordTells_any (s : ByteArray) (w : World) (ht : Tabs w) :
    Calls Tryd.prog 3 #[.string s] w fun e w' => e = .returned (.bool true) ∧ Below w.heap.size w w' := by
  have Ht := Lib.hid ht
  clear ht
  by_cases hbig : s.size ≤ 1000
  · obtain ⟨x, b, hx⟩ : ∃ (x : Int) (b : Bool), numTuple (numOf s.data.toList) = .tuple #[.int .i64 x, .bool b] := by
      cases numOf s.data.toList with
      | none => exact ⟨0, false, rfl⟩
      | some v => exact ⟨v, true, rfl⟩
    have hn : ∀ W, Tabs W → Calls Tryd.prog 6 #[.string s] W fun e w' => e = .returned (.tuple #[.int .i64 x, .bool b]) ∧ Below W.heap.size W w' := fun W hW => by
      rw [← hx]
      exact num_any s W (by omega) hW
    have hr : ∀ W, Calls Tryd.prog 7 #[.string s] W fun e w' => e = .returned (.tuple #[.int .i64 x, .bool b]) ∧ W = w' := fun W => by
      rw [← hx, num_same]
      exact refNum_any s W (by omega)
    have Hn := Lib.hid hn
    have Hr := Lib.hid hr
    obtain ⟨q, hq⟩ : ∃ q, q = rightL s.data.toList := ⟨_, rfl⟩
    have h1 : ∀ W, Calls Tryd.prog 8 #[.string s] W (SaysOver W q) := fun W => by
      rw [hq]
      exact right_any s W (by omega)
    have h2 : ∀ W, Calls Tryd.prog 9 #[.string s] W fun e w' => e = .returned (.bool q) ∧ W = w' := fun W => by
      rw [hq]
      exact refRight_any s W (by omega)
    have H1 := Lib.hid h1
    have H2 := Lib.hid h2
    clear hx hn hr hq h1 h2
    go_enter Tryd.func3, Tryd.ntmps3
    go_wp2_with fail
    refine (awake_any _).mono ?_
    rintro e w0 ⟨rfl, hB0⟩
    go_wp2_with fail
    refine (Hn.out _ (Ht.out.below hB0)).mono ?_
    rintro e w1 ⟨rfl, hb1⟩
    have hB1 : Below w.heap.size w w1 := hB0.trans (hb1.mono hB0.size)
    clear hB0 hb1
    go_wp2_with fail
    refine (Hr.out _).mono ?_
    rintro e w2 ⟨rfl, rfl⟩
    go_wp2_with fail
    refine (H1.out _).mono ?_
    rintro e w3 ⟨rfl, hb3⟩
    have hB3 : Below w.heap.size w w3 := hB1.trans (hb3.mono hB1.size)
    clear hB1 hb3
    go_wp2_with fail
    refine (H2.out _).mono ?_
    rintro e w4 ⟨rfl, rfl⟩
    go_wp2_with fail
    refine (split_slice s _ (by omega)).mono ?_
    rintro e w5 ⟨A5, c5, rfl, hr5, hc5, hb5⟩
    have hB5 : Below w.heap.size w w5 := hB3.trans (hb5.mono hB3.size)
    have Hr5 := Lib.hid hr5
    clear hB3 hb5 hr5
    go_wp2_with fail
    refine (refSplit_slice s _ (by omega)).mono ?_
    rintro e w6 ⟨A6, c6, rfl, hr6, hc6, hb6⟩
    have hB6 : Below w.heap.size w w6 := hB5.trans (hb6.mono hB5.size)
    have h5 := Hr5.out.below hb6
    rw [strs_of] at h5 hr6
    have H5 := Lib.hid h5
    have H6 := Lib.hid hr6
    have hl : (splitL s.data.toList).length ≤ 1001 := by have := splitL_len s.data.toList; rw [← Lib.size_eq] at this; omega
    clear hB5 hb6 h5 hr6
    go_wp2_with fail
    refine (texts_any _ _ _ _ _ _ _ _ _ _ _ H5.out H6.out (by omega) (by omega)).mono ?_
    rintro e w7 ⟨rfl, d, rfl⟩
    have hst : ∀ xs : List ByteArray, sameTexts xs xs = true := fun xs => by unfold sameTexts; simp
    rw [hst]
    clear hst
    go_wp2
    go_ret
    exact ⟨rfl, below_drewN' hB6 d⟩
  · go_enter Tryd.func3, Tryd.ntmps3
    go_wp2_with fail
    refine (awake_any _).mono ?_
    rintro e w0 ⟨rfl, hB0⟩
    go_wp2
    go_ret
    exact ⟨rfl, hB0⟩
end Go.Proofs.YtalcfcemilmgdaaDoor
