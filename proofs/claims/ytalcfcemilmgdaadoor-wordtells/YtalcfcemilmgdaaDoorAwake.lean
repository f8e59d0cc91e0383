/-
  What towncrierlaw01.awake does: the document's example stands.
-/
import Derived.Test.YtalcfcemilmgdaaDoorTexts
namespace Go.Proofs.YtalcfcemilmgdaaDoor
open Go Go.RowKit

theorem strs_of (ls : List (List UInt8)) : strs ls = (ls.map ba).map Value.string := by simp [strs]
theorem awake_split : splitL [32, 97, 100, 100, 32, 32, 53, 32, 120] = [[97, 100, 100], [53], [120]] := by decide

theorem three_new (w : World) (a b c : ByteArray) : Reads (w.alloc (.cells #[.string a, .string b, .string c] 9)) (w.heap.size + 1) (some ⟨w.heap.size, 0, none⟩) 3 ([a, b, c].map Value.string) := by
  refine ⟨rfl, fun _ => ⟨_, _, rfl, by omega, fun j u hu => ?_⟩⟩
  match j, hu with
  | 0, hu => simp at hu; subst hu; simp
  | 1, hu => simp at hu; subst hu; simp
  | 2, hu => simp at hu; subst hu; simp

set_option maxHeartbeats 1000000 in
set_option maxRecDepth 100000 in
theorem awake_any (w : World) : Calls Tryd.prog 5 #[] w fun e w' => e = .returned (.bool true) ∧ Below w.heap.size w w' := by
  go_enter Tryd.func5, Tryd.ntmps5
  go_wp2_with fail
  refine (split_any ⟨#[32, 97, 100, 100, 32, 32, 53, 32, 120]⟩ _ (by decide)).mono ?_
  rintro e w1 ⟨v, rfl, hown, hb⟩
  rw [awake_split] at hown
  obtain ⟨A, c, rfl, hnc⟩ := Own.form hown
  have hr := Reads.of_own hown
  rw [strs_of] at hr
  have Hr := Lib.hid hr
  clear hown hr
  go_wp2_with fail
  refine (texts_any _ _ _ _ _ _ w1.heap.size (w1.heap.size + 1) _ _ _ (Hr.out.below ((Below.refl _ w1).alloc (Nat.le_refl _) _)) (three_new w1 _ _ _) (by decide) (by decide)).mono ?_
  rintro e w2 ⟨rfl, d, rfl⟩
  go_wp2
  go_ret
  refine ⟨?_, (below_drewN' (hb.alloc hb.size _) d)⟩
  rfl
end Go.Proofs.YtalcfcemilmgdaaDoor
