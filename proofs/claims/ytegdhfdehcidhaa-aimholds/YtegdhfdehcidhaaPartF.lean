/-
  What towncrierlaw10.awake does: it answers true.
  What towncrierref08.Host, Whole, Holds, Hidden and Closed do.
  What towncrierref10.Aim does.
  What towncrierlaw10.AimTells does with an arena that keeps its promises: it answers true.
  What towncrierlaw10.AimHides does with an arena that keeps its promises: it answers true.
  What towncrierlaw10.AimHolds does with an arena that keeps its promises: it answers true.
  What stage 10's laws do with this arena.
  Arguments that came in, opened: lists of texts and of numbers. Facts of the program that every row's proof wants.
  Proved: the law answers true for every input, and each argument reads afterwards as it read before. No condition.
-/
import Derived.Test.YtegdhfdehcidhaaPartE
import Derived.Test.YtegdhfdehcidhaaProg
import Derived.Test.YtegdhfdehcidhaaChecked
import Derived.ProofKit
import Derived.OpenShut
import Derived.Test.YtegdhfdehcidhaaRows
import Derived.ChangeOld

namespace Go.Proofs.Ytegdhfdehcidhaa
open Go Go.RowKit

theorem openTen_err (n : Nat) (h : n < 128) : mkErr n (shadeNd 1) = 0 := by
  have := mkErr_rest (n := n) (k := 3) (pa := 0) (ho := 0) (sh := 0) (m := 1) (sl := false) (na := ⟨#[]⟩) (wa := ⟨#[]⟩) (ks := []) (by omega) (by omega) (by omega) (by
    rw [okName_empty empty_is, empty_is]
    simp)
  rw [if_neg (by omega)] at this
  exact this
theorem elemTen_err (n : Nat) (h : n < 128) : mkErr n elem = 0 := by
  have := mkErr_rest (n := n) (k := 2) (pa := 0) (ho := 0) (sh := 0) (m := 0) (sl := false) (na := ⟨#[]⟩) (wa := ⟨#[]⟩) (ks := []) (by omega) (by omega) (by omega) (by
    rw [okName_empty empty_is]
    simp)
  rw [if_neg (by omega)] at this
  exact this
/-- The calls of the document's example. -/
def actE10 : Ac := ⟨0, 0, 0, ⟨#[]⟩, elem, []⟩
def actS10 : Ac := ⟨0, 0, 0, ⟨#[]⟩, shadeNd 1, []⟩
def actP10 : Ac := ⟨1, 1, 0, ⟨#[]⟩, Nd.zero, [2]⟩
def actI10 : Ac := ⟨2, 2, 3, ⟨#[]⟩, Nd.zero, []⟩
def actQ10 : Ac := ⟨1, 3, 0, ⟨#[]⟩, Nd.zero, [4]⟩
def acts10 : List Ac := [actE10, actE10, actS10, actE10, actP10, actI10, actQ10]
theorem acts10_small : Small acts10 := by
  unfold Small
  decide
theorem acts10_forest : forest acts10 = putL (tieL (putL [elem, elem, shadeNd 1, elem] 1 [2]) 2 3) 3 [4] := by
  have e3 : mkL [elem, elem] (shadeNd 1) = [elem, elem, shadeNd 1] := by
    unfold mkL
    rw [if_pos (openTen_err _ (by simp))]
    rfl
  have e4 : mkL [elem, elem, shadeNd 1] elem = [elem, elem, shadeNd 1, elem] := by
    unfold mkL
    rw [if_pos (elemTen_err _ (by simp))]
    rfl
  show putL (tieL (putL (mkL (mkL (mkL (mkL [] elem) elem) (shadeNd 1)) elem) 1 [2]) 2 3) 3 [4] = _
  rw [two_elems, e3, e4]
theorem acts10_far : aimL (forest acts10) 4 1 = 2 := by rw [acts10_forest]; decide +kernel
theorem acts10_near : aimL (forest acts10) 1 4 = 1 := by rw [acts10_forest]; decide +kernel
theorem acts10_in (w : World) : Acts (((w.alloc (.cells #[.int .i64 2] 3)).alloc (.cells #[.int .i64 4] 3)).alloc (.cells #[.int .i64 0, .int .i64 0, .int .i64 0, .string ⟨#[]⟩, .int .i64 2, .int .i64 0, .int .i64 0, .int .i64 0, .int .i64 0, .bool false, .string ⟨#[]⟩, .string ⟨#[]⟩, .slice none 0 0, .slice none 0 0, .int .i64 0, .int .i64 0, .int .i64 0, .string ⟨#[]⟩, .int .i64 2, .int .i64 0, .int .i64 0, .int .i64 0, .int .i64 0, .bool false, .string ⟨#[]⟩, .string ⟨#[]⟩, .slice none 0 0, .slice none 0 0, .int .i64 0, .int .i64 0, .int .i64 0, .string ⟨#[]⟩, .int .i64 3, .int .i64 0, .int .i64 0, .int .i64 0, .int .i64 1, .bool false, .string ⟨#[]⟩, .string ⟨#[]⟩, .slice none 0 0, .slice none 0 0, .int .i64 0, .int .i64 0, .int .i64 0, .string ⟨#[]⟩, .int .i64 2, .int .i64 0, .int .i64 0, .int .i64 0, .int .i64 0, .bool false, .string ⟨#[]⟩, .string ⟨#[]⟩, .slice none 0 0, .slice none 0 0, .int .i64 1, .int .i64 1, .int .i64 0, .string ⟨#[]⟩, .int .i64 0, .int .i64 0, .int .i64 0, .int .i64 0, .int .i64 0, .bool false, .string ⟨#[]⟩, .string ⟨#[]⟩, .slice none 0 0, .slice (some ⟨w.heap.size, 0, none⟩) 1 1, .int .i64 2, .int .i64 2, .int .i64 3, .string ⟨#[]⟩, .int .i64 0, .int .i64 0, .int .i64 0, .int .i64 0, .int .i64 0, .bool false, .string ⟨#[]⟩, .string ⟨#[]⟩, .slice none 0 0, .slice none 0 0, .int .i64 1, .int .i64 3, .int .i64 0, .string ⟨#[]⟩, .int .i64 0, .int .i64 0, .int .i64 0, .int .i64 0, .int .i64 0, .bool false, .string ⟨#[]⟩, .string ⟨#[]⟩, .slice none 0 0, .slice (some ⟨w.heap.size + 1, 0, none⟩) 1 1] 41)) (some ⟨w.heap.size + 2, 0, none⟩) acts10 := by
  have h1 : Has (((w.alloc (.cells #[.int .i64 2] 3)).alloc (.cells #[.int .i64 4] 3)).alloc (.cells #[.int .i64 0, .int .i64 0, .int .i64 0, .string ⟨#[]⟩, .int .i64 2, .int .i64 0, .int .i64 0, .int .i64 0, .int .i64 0, .bool false, .string ⟨#[]⟩, .string ⟨#[]⟩, .slice none 0 0, .slice none 0 0, .int .i64 0, .int .i64 0, .int .i64 0, .string ⟨#[]⟩, .int .i64 2, .int .i64 0, .int .i64 0, .int .i64 0, .int .i64 0, .bool false, .string ⟨#[]⟩, .string ⟨#[]⟩, .slice none 0 0, .slice none 0 0, .int .i64 0, .int .i64 0, .int .i64 0, .string ⟨#[]⟩, .int .i64 3, .int .i64 0, .int .i64 0, .int .i64 0, .int .i64 1, .bool false, .string ⟨#[]⟩, .string ⟨#[]⟩, .slice none 0 0, .slice none 0 0, .int .i64 0, .int .i64 0, .int .i64 0, .string ⟨#[]⟩, .int .i64 2, .int .i64 0, .int .i64 0, .int .i64 0, .int .i64 0, .bool false, .string ⟨#[]⟩, .string ⟨#[]⟩, .slice none 0 0, .slice none 0 0, .int .i64 1, .int .i64 1, .int .i64 0, .string ⟨#[]⟩, .int .i64 0, .int .i64 0, .int .i64 0, .int .i64 0, .int .i64 0, .bool false, .string ⟨#[]⟩, .string ⟨#[]⟩, .slice none 0 0, .slice (some ⟨w.heap.size, 0, none⟩) 1 1, .int .i64 2, .int .i64 2, .int .i64 3, .string ⟨#[]⟩, .int .i64 0, .int .i64 0, .int .i64 0, .int .i64 0, .int .i64 0, .bool false, .string ⟨#[]⟩, .string ⟨#[]⟩, .slice none 0 0, .slice none 0 0, .int .i64 1, .int .i64 3, .int .i64 0, .string ⟨#[]⟩, .int .i64 0, .int .i64 0, .int .i64 0, .int .i64 0, .int .i64 0, .bool false, .string ⟨#[]⟩, .string ⟨#[]⟩, .slice none 0 0, .slice (some ⟨w.heap.size + 1, 0, none⟩) 1 1] 41)) w.heap.size (.cells #[.int .i64 2] 3 (0, 0)) := ((Has.fresh _ _).more _).more _
  have h1' : Has (((w.alloc (.cells #[.int .i64 2] 3)).alloc (.cells #[.int .i64 4] 3)).alloc (.cells #[.int .i64 0, .int .i64 0, .int .i64 0, .string ⟨#[]⟩, .int .i64 2, .int .i64 0, .int .i64 0, .int .i64 0, .int .i64 0, .bool false, .string ⟨#[]⟩, .string ⟨#[]⟩, .slice none 0 0, .slice none 0 0, .int .i64 0, .int .i64 0, .int .i64 0, .string ⟨#[]⟩, .int .i64 2, .int .i64 0, .int .i64 0, .int .i64 0, .int .i64 0, .bool false, .string ⟨#[]⟩, .string ⟨#[]⟩, .slice none 0 0, .slice none 0 0, .int .i64 0, .int .i64 0, .int .i64 0, .string ⟨#[]⟩, .int .i64 3, .int .i64 0, .int .i64 0, .int .i64 0, .int .i64 1, .bool false, .string ⟨#[]⟩, .string ⟨#[]⟩, .slice none 0 0, .slice none 0 0, .int .i64 0, .int .i64 0, .int .i64 0, .string ⟨#[]⟩, .int .i64 2, .int .i64 0, .int .i64 0, .int .i64 0, .int .i64 0, .bool false, .string ⟨#[]⟩, .string ⟨#[]⟩, .slice none 0 0, .slice none 0 0, .int .i64 1, .int .i64 1, .int .i64 0, .string ⟨#[]⟩, .int .i64 0, .int .i64 0, .int .i64 0, .int .i64 0, .int .i64 0, .bool false, .string ⟨#[]⟩, .string ⟨#[]⟩, .slice none 0 0, .slice (some ⟨w.heap.size, 0, none⟩) 1 1, .int .i64 2, .int .i64 2, .int .i64 3, .string ⟨#[]⟩, .int .i64 0, .int .i64 0, .int .i64 0, .int .i64 0, .int .i64 0, .bool false, .string ⟨#[]⟩, .string ⟨#[]⟩, .slice none 0 0, .slice none 0 0, .int .i64 1, .int .i64 3, .int .i64 0, .string ⟨#[]⟩, .int .i64 0, .int .i64 0, .int .i64 0, .int .i64 0, .int .i64 0, .bool false, .string ⟨#[]⟩, .string ⟨#[]⟩, .slice none 0 0, .slice (some ⟨w.heap.size + 1, 0, none⟩) 1 1] 41)) (w.heap.size + 1) (.cells #[.int .i64 4] 3 (0, 0)) := by
    have := (Has.fresh (w.alloc (.cells #[.int .i64 2] 3)) (.cells #[.int .i64 4] 3)).more (.cells #[.int .i64 0, .int .i64 0, .int .i64 0, .string ⟨#[]⟩, .int .i64 2, .int .i64 0, .int .i64 0, .int .i64 0, .int .i64 0, .bool false, .string ⟨#[]⟩, .string ⟨#[]⟩, .slice none 0 0, .slice none 0 0, .int .i64 0, .int .i64 0, .int .i64 0, .string ⟨#[]⟩, .int .i64 2, .int .i64 0, .int .i64 0, .int .i64 0, .int .i64 0, .bool false, .string ⟨#[]⟩, .string ⟨#[]⟩, .slice none 0 0, .slice none 0 0, .int .i64 0, .int .i64 0, .int .i64 0, .string ⟨#[]⟩, .int .i64 3, .int .i64 0, .int .i64 0, .int .i64 0, .int .i64 1, .bool false, .string ⟨#[]⟩, .string ⟨#[]⟩, .slice none 0 0, .slice none 0 0, .int .i64 0, .int .i64 0, .int .i64 0, .string ⟨#[]⟩, .int .i64 2, .int .i64 0, .int .i64 0, .int .i64 0, .int .i64 0, .bool false, .string ⟨#[]⟩, .string ⟨#[]⟩, .slice none 0 0, .slice none 0 0, .int .i64 1, .int .i64 1, .int .i64 0, .string ⟨#[]⟩, .int .i64 0, .int .i64 0, .int .i64 0, .int .i64 0, .int .i64 0, .bool false, .string ⟨#[]⟩, .string ⟨#[]⟩, .slice none 0 0, .slice (some ⟨w.heap.size, 0, none⟩) 1 1, .int .i64 2, .int .i64 2, .int .i64 3, .string ⟨#[]⟩, .int .i64 0, .int .i64 0, .int .i64 0, .int .i64 0, .int .i64 0, .bool false, .string ⟨#[]⟩, .string ⟨#[]⟩, .slice none 0 0, .slice none 0 0, .int .i64 1, .int .i64 3, .int .i64 0, .string ⟨#[]⟩, .int .i64 0, .int .i64 0, .int .i64 0, .int .i64 0, .int .i64 0, .bool false, .string ⟨#[]⟩, .string ⟨#[]⟩, .slice none 0 0, .slice (some ⟨w.heap.size + 1, 0, none⟩) 1 1] 41)
    rw [show (w.alloc (.cells #[.int .i64 2] 3)).heap.size = w.heap.size + 1 by simp] at this
    exact this
  have h2 : Has (((w.alloc (.cells #[.int .i64 2] 3)).alloc (.cells #[.int .i64 4] 3)).alloc (.cells #[.int .i64 0, .int .i64 0, .int .i64 0, .string ⟨#[]⟩, .int .i64 2, .int .i64 0, .int .i64 0, .int .i64 0, .int .i64 0, .bool false, .string ⟨#[]⟩, .string ⟨#[]⟩, .slice none 0 0, .slice none 0 0, .int .i64 0, .int .i64 0, .int .i64 0, .string ⟨#[]⟩, .int .i64 2, .int .i64 0, .int .i64 0, .int .i64 0, .int .i64 0, .bool false, .string ⟨#[]⟩, .string ⟨#[]⟩, .slice none 0 0, .slice none 0 0, .int .i64 0, .int .i64 0, .int .i64 0, .string ⟨#[]⟩, .int .i64 3, .int .i64 0, .int .i64 0, .int .i64 0, .int .i64 1, .bool false, .string ⟨#[]⟩, .string ⟨#[]⟩, .slice none 0 0, .slice none 0 0, .int .i64 0, .int .i64 0, .int .i64 0, .string ⟨#[]⟩, .int .i64 2, .int .i64 0, .int .i64 0, .int .i64 0, .int .i64 0, .bool false, .string ⟨#[]⟩, .string ⟨#[]⟩, .slice none 0 0, .slice none 0 0, .int .i64 1, .int .i64 1, .int .i64 0, .string ⟨#[]⟩, .int .i64 0, .int .i64 0, .int .i64 0, .int .i64 0, .int .i64 0, .bool false, .string ⟨#[]⟩, .string ⟨#[]⟩, .slice none 0 0, .slice (some ⟨w.heap.size, 0, none⟩) 1 1, .int .i64 2, .int .i64 2, .int .i64 3, .string ⟨#[]⟩, .int .i64 0, .int .i64 0, .int .i64 0, .int .i64 0, .int .i64 0, .bool false, .string ⟨#[]⟩, .string ⟨#[]⟩, .slice none 0 0, .slice none 0 0, .int .i64 1, .int .i64 3, .int .i64 0, .string ⟨#[]⟩, .int .i64 0, .int .i64 0, .int .i64 0, .int .i64 0, .int .i64 0, .bool false, .string ⟨#[]⟩, .string ⟨#[]⟩, .slice none 0 0, .slice (some ⟨w.heap.size + 1, 0, none⟩) 1 1] 41)) (w.heap.size + 2) (.cells #[.int .i64 0, .int .i64 0, .int .i64 0, .string ⟨#[]⟩, .int .i64 2, .int .i64 0, .int .i64 0, .int .i64 0, .int .i64 0, .bool false, .string ⟨#[]⟩, .string ⟨#[]⟩, .slice none 0 0, .slice none 0 0, .int .i64 0, .int .i64 0, .int .i64 0, .string ⟨#[]⟩, .int .i64 2, .int .i64 0, .int .i64 0, .int .i64 0, .int .i64 0, .bool false, .string ⟨#[]⟩, .string ⟨#[]⟩, .slice none 0 0, .slice none 0 0, .int .i64 0, .int .i64 0, .int .i64 0, .string ⟨#[]⟩, .int .i64 3, .int .i64 0, .int .i64 0, .int .i64 0, .int .i64 1, .bool false, .string ⟨#[]⟩, .string ⟨#[]⟩, .slice none 0 0, .slice none 0 0, .int .i64 0, .int .i64 0, .int .i64 0, .string ⟨#[]⟩, .int .i64 2, .int .i64 0, .int .i64 0, .int .i64 0, .int .i64 0, .bool false, .string ⟨#[]⟩, .string ⟨#[]⟩, .slice none 0 0, .slice none 0 0, .int .i64 1, .int .i64 1, .int .i64 0, .string ⟨#[]⟩, .int .i64 0, .int .i64 0, .int .i64 0, .int .i64 0, .int .i64 0, .bool false, .string ⟨#[]⟩, .string ⟨#[]⟩, .slice none 0 0, .slice (some ⟨w.heap.size, 0, none⟩) 1 1, .int .i64 2, .int .i64 2, .int .i64 3, .string ⟨#[]⟩, .int .i64 0, .int .i64 0, .int .i64 0, .int .i64 0, .int .i64 0, .bool false, .string ⟨#[]⟩, .string ⟨#[]⟩, .slice none 0 0, .slice none 0 0, .int .i64 1, .int .i64 3, .int .i64 0, .string ⟨#[]⟩, .int .i64 0, .int .i64 0, .int .i64 0, .int .i64 0, .int .i64 0, .bool false, .string ⟨#[]⟩, .string ⟨#[]⟩, .slice none 0 0, .slice (some ⟨w.heap.size + 1, 0, none⟩) 1 1] 41 (0, 0)) := by
    have := Has.fresh ((w.alloc (.cells #[.int .i64 2] 3)).alloc (.cells #[.int .i64 4] 3)) (.cells #[.int .i64 0, .int .i64 0, .int .i64 0, .string ⟨#[]⟩, .int .i64 2, .int .i64 0, .int .i64 0, .int .i64 0, .int .i64 0, .bool false, .string ⟨#[]⟩, .string ⟨#[]⟩, .slice none 0 0, .slice none 0 0, .int .i64 0, .int .i64 0, .int .i64 0, .string ⟨#[]⟩, .int .i64 2, .int .i64 0, .int .i64 0, .int .i64 0, .int .i64 0, .bool false, .string ⟨#[]⟩, .string ⟨#[]⟩, .slice none 0 0, .slice none 0 0, .int .i64 0, .int .i64 0, .int .i64 0, .string ⟨#[]⟩, .int .i64 3, .int .i64 0, .int .i64 0, .int .i64 0, .int .i64 1, .bool false, .string ⟨#[]⟩, .string ⟨#[]⟩, .slice none 0 0, .slice none 0 0, .int .i64 0, .int .i64 0, .int .i64 0, .string ⟨#[]⟩, .int .i64 2, .int .i64 0, .int .i64 0, .int .i64 0, .int .i64 0, .bool false, .string ⟨#[]⟩, .string ⟨#[]⟩, .slice none 0 0, .slice none 0 0, .int .i64 1, .int .i64 1, .int .i64 0, .string ⟨#[]⟩, .int .i64 0, .int .i64 0, .int .i64 0, .int .i64 0, .int .i64 0, .bool false, .string ⟨#[]⟩, .string ⟨#[]⟩, .slice none 0 0, .slice (some ⟨w.heap.size, 0, none⟩) 1 1, .int .i64 2, .int .i64 2, .int .i64 3, .string ⟨#[]⟩, .int .i64 0, .int .i64 0, .int .i64 0, .int .i64 0, .int .i64 0, .bool false, .string ⟨#[]⟩, .string ⟨#[]⟩, .slice none 0 0, .slice none 0 0, .int .i64 1, .int .i64 3, .int .i64 0, .string ⟨#[]⟩, .int .i64 0, .int .i64 0, .int .i64 0, .int .i64 0, .int .i64 0, .bool false, .string ⟨#[]⟩, .string ⟨#[]⟩, .slice none 0 0, .slice (some ⟨w.heap.size + 1, 0, none⟩) 1 1] 41)
    rw [show ((w.alloc (.cells #[.int .i64 2] 3)).alloc (.cells #[.int .i64 4] 3)).heap.size = w.heap.size + 2 by simp] at this
    exact this
  have h3 := acts_lit (rows := [(actE10, (none, 0), none, 0), (actE10, (none, 0), none, 0), (actS10, (none, 0), none, 0), (actE10, (none, 0), none, 0), (actP10, (none, 0), some ⟨w.heap.size, 0, none⟩, 1), (actI10, (none, 0), none, 0), (actQ10, (none, 0), some ⟨w.heap.size + 1, 0, none⟩, 1)]) h2 (by
    intro r hr
    have eE : ListIn (((w.alloc (.cells #[.int .i64 2] 3)).alloc (.cells #[.int .i64 4] 3)).alloc (.cells #[.int .i64 0, .int .i64 0, .int .i64 0, .string ⟨#[]⟩, .int .i64 2, .int .i64 0, .int .i64 0, .int .i64 0, .int .i64 0, .bool false, .string ⟨#[]⟩, .string ⟨#[]⟩, .slice none 0 0, .slice none 0 0, .int .i64 0, .int .i64 0, .int .i64 0, .string ⟨#[]⟩, .int .i64 2, .int .i64 0, .int .i64 0, .int .i64 0, .int .i64 0, .bool false, .string ⟨#[]⟩, .string ⟨#[]⟩, .slice none 0 0, .slice none 0 0, .int .i64 0, .int .i64 0, .int .i64 0, .string ⟨#[]⟩, .int .i64 3, .int .i64 0, .int .i64 0, .int .i64 0, .int .i64 1, .bool false, .string ⟨#[]⟩, .string ⟨#[]⟩, .slice none 0 0, .slice none 0 0, .int .i64 0, .int .i64 0, .int .i64 0, .string ⟨#[]⟩, .int .i64 2, .int .i64 0, .int .i64 0, .int .i64 0, .int .i64 0, .bool false, .string ⟨#[]⟩, .string ⟨#[]⟩, .slice none 0 0, .slice none 0 0, .int .i64 1, .int .i64 1, .int .i64 0, .string ⟨#[]⟩, .int .i64 0, .int .i64 0, .int .i64 0, .int .i64 0, .int .i64 0, .bool false, .string ⟨#[]⟩, .string ⟨#[]⟩, .slice none 0 0, .slice (some ⟨w.heap.size, 0, none⟩) 1 1, .int .i64 2, .int .i64 2, .int .i64 3, .string ⟨#[]⟩, .int .i64 0, .int .i64 0, .int .i64 0, .int .i64 0, .int .i64 0, .bool false, .string ⟨#[]⟩, .string ⟨#[]⟩, .slice none 0 0, .slice none 0 0, .int .i64 1, .int .i64 3, .int .i64 0, .string ⟨#[]⟩, .int .i64 0, .int .i64 0, .int .i64 0, .int .i64 0, .int .i64 0, .bool false, .string ⟨#[]⟩, .string ⟨#[]⟩, .slice none 0 0, .slice (some ⟨w.heap.size + 1, 0, none⟩) 1 1] 41)) none 0 actE10.n.kids ∧ ActIn (((w.alloc (.cells #[.int .i64 2] 3)).alloc (.cells #[.int .i64 4] 3)).alloc (.cells #[.int .i64 0, .int .i64 0, .int .i64 0, .string ⟨#[]⟩, .int .i64 2, .int .i64 0, .int .i64 0, .int .i64 0, .int .i64 0, .bool false, .string ⟨#[]⟩, .string ⟨#[]⟩, .slice none 0 0, .slice none 0 0, .int .i64 0, .int .i64 0, .int .i64 0, .string ⟨#[]⟩, .int .i64 2, .int .i64 0, .int .i64 0, .int .i64 0, .int .i64 0, .bool false, .string ⟨#[]⟩, .string ⟨#[]⟩, .slice none 0 0, .slice none 0 0, .int .i64 0, .int .i64 0, .int .i64 0, .string ⟨#[]⟩, .int .i64 3, .int .i64 0, .int .i64 0, .int .i64 0, .int .i64 1, .bool false, .string ⟨#[]⟩, .string ⟨#[]⟩, .slice none 0 0, .slice none 0 0, .int .i64 0, .int .i64 0, .int .i64 0, .string ⟨#[]⟩, .int .i64 2, .int .i64 0, .int .i64 0, .int .i64 0, .int .i64 0, .bool false, .string ⟨#[]⟩, .string ⟨#[]⟩, .slice none 0 0, .slice none 0 0, .int .i64 1, .int .i64 1, .int .i64 0, .string ⟨#[]⟩, .int .i64 0, .int .i64 0, .int .i64 0, .int .i64 0, .int .i64 0, .bool false, .string ⟨#[]⟩, .string ⟨#[]⟩, .slice none 0 0, .slice (some ⟨w.heap.size, 0, none⟩) 1 1, .int .i64 2, .int .i64 2, .int .i64 3, .string ⟨#[]⟩, .int .i64 0, .int .i64 0, .int .i64 0, .int .i64 0, .int .i64 0, .bool false, .string ⟨#[]⟩, .string ⟨#[]⟩, .slice none 0 0, .slice none 0 0, .int .i64 1, .int .i64 3, .int .i64 0, .string ⟨#[]⟩, .int .i64 0, .int .i64 0, .int .i64 0, .int .i64 0, .int .i64 0, .bool false, .string ⟨#[]⟩, .string ⟨#[]⟩, .slice none 0 0, .slice (some ⟨w.heap.size + 1, 0, none⟩) 1 1] 41)) actE10 none 0 := ⟨listNone _, Nat.zero_le _, Nat.zero_le _, Nat.zero_le _, Nat.le_refl _, fun _ => rfl, (listNone _).nums⟩
    have eS : ListIn (((w.alloc (.cells #[.int .i64 2] 3)).alloc (.cells #[.int .i64 4] 3)).alloc (.cells #[.int .i64 0, .int .i64 0, .int .i64 0, .string ⟨#[]⟩, .int .i64 2, .int .i64 0, .int .i64 0, .int .i64 0, .int .i64 0, .bool false, .string ⟨#[]⟩, .string ⟨#[]⟩, .slice none 0 0, .slice none 0 0, .int .i64 0, .int .i64 0, .int .i64 0, .string ⟨#[]⟩, .int .i64 2, .int .i64 0, .int .i64 0, .int .i64 0, .int .i64 0, .bool false, .string ⟨#[]⟩, .string ⟨#[]⟩, .slice none 0 0, .slice none 0 0, .int .i64 0, .int .i64 0, .int .i64 0, .string ⟨#[]⟩, .int .i64 3, .int .i64 0, .int .i64 0, .int .i64 0, .int .i64 1, .bool false, .string ⟨#[]⟩, .string ⟨#[]⟩, .slice none 0 0, .slice none 0 0, .int .i64 0, .int .i64 0, .int .i64 0, .string ⟨#[]⟩, .int .i64 2, .int .i64 0, .int .i64 0, .int .i64 0, .int .i64 0, .bool false, .string ⟨#[]⟩, .string ⟨#[]⟩, .slice none 0 0, .slice none 0 0, .int .i64 1, .int .i64 1, .int .i64 0, .string ⟨#[]⟩, .int .i64 0, .int .i64 0, .int .i64 0, .int .i64 0, .int .i64 0, .bool false, .string ⟨#[]⟩, .string ⟨#[]⟩, .slice none 0 0, .slice (some ⟨w.heap.size, 0, none⟩) 1 1, .int .i64 2, .int .i64 2, .int .i64 3, .string ⟨#[]⟩, .int .i64 0, .int .i64 0, .int .i64 0, .int .i64 0, .int .i64 0, .bool false, .string ⟨#[]⟩, .string ⟨#[]⟩, .slice none 0 0, .slice none 0 0, .int .i64 1, .int .i64 3, .int .i64 0, .string ⟨#[]⟩, .int .i64 0, .int .i64 0, .int .i64 0, .int .i64 0, .int .i64 0, .bool false, .string ⟨#[]⟩, .string ⟨#[]⟩, .slice none 0 0, .slice (some ⟨w.heap.size + 1, 0, none⟩) 1 1] 41)) none 0 actS10.n.kids ∧ ActIn (((w.alloc (.cells #[.int .i64 2] 3)).alloc (.cells #[.int .i64 4] 3)).alloc (.cells #[.int .i64 0, .int .i64 0, .int .i64 0, .string ⟨#[]⟩, .int .i64 2, .int .i64 0, .int .i64 0, .int .i64 0, .int .i64 0, .bool false, .string ⟨#[]⟩, .string ⟨#[]⟩, .slice none 0 0, .slice none 0 0, .int .i64 0, .int .i64 0, .int .i64 0, .string ⟨#[]⟩, .int .i64 2, .int .i64 0, .int .i64 0, .int .i64 0, .int .i64 0, .bool false, .string ⟨#[]⟩, .string ⟨#[]⟩, .slice none 0 0, .slice none 0 0, .int .i64 0, .int .i64 0, .int .i64 0, .string ⟨#[]⟩, .int .i64 3, .int .i64 0, .int .i64 0, .int .i64 0, .int .i64 1, .bool false, .string ⟨#[]⟩, .string ⟨#[]⟩, .slice none 0 0, .slice none 0 0, .int .i64 0, .int .i64 0, .int .i64 0, .string ⟨#[]⟩, .int .i64 2, .int .i64 0, .int .i64 0, .int .i64 0, .int .i64 0, .bool false, .string ⟨#[]⟩, .string ⟨#[]⟩, .slice none 0 0, .slice none 0 0, .int .i64 1, .int .i64 1, .int .i64 0, .string ⟨#[]⟩, .int .i64 0, .int .i64 0, .int .i64 0, .int .i64 0, .int .i64 0, .bool false, .string ⟨#[]⟩, .string ⟨#[]⟩, .slice none 0 0, .slice (some ⟨w.heap.size, 0, none⟩) 1 1, .int .i64 2, .int .i64 2, .int .i64 3, .string ⟨#[]⟩, .int .i64 0, .int .i64 0, .int .i64 0, .int .i64 0, .int .i64 0, .bool false, .string ⟨#[]⟩, .string ⟨#[]⟩, .slice none 0 0, .slice none 0 0, .int .i64 1, .int .i64 3, .int .i64 0, .string ⟨#[]⟩, .int .i64 0, .int .i64 0, .int .i64 0, .int .i64 0, .int .i64 0, .bool false, .string ⟨#[]⟩, .string ⟨#[]⟩, .slice none 0 0, .slice (some ⟨w.heap.size + 1, 0, none⟩) 1 1] 41)) actS10 none 0 := ⟨listNone _, Nat.zero_le _, Nat.zero_le _, Nat.zero_le _, Nat.le_refl _, fun _ => rfl, (listNone _).nums⟩
    have eI : ListIn (((w.alloc (.cells #[.int .i64 2] 3)).alloc (.cells #[.int .i64 4] 3)).alloc (.cells #[.int .i64 0, .int .i64 0, .int .i64 0, .string ⟨#[]⟩, .int .i64 2, .int .i64 0, .int .i64 0, .int .i64 0, .int .i64 0, .bool false, .string ⟨#[]⟩, .string ⟨#[]⟩, .slice none 0 0, .slice none 0 0, .int .i64 0, .int .i64 0, .int .i64 0, .string ⟨#[]⟩, .int .i64 2, .int .i64 0, .int .i64 0, .int .i64 0, .int .i64 0, .bool false, .string ⟨#[]⟩, .string ⟨#[]⟩, .slice none 0 0, .slice none 0 0, .int .i64 0, .int .i64 0, .int .i64 0, .string ⟨#[]⟩, .int .i64 3, .int .i64 0, .int .i64 0, .int .i64 0, .int .i64 1, .bool false, .string ⟨#[]⟩, .string ⟨#[]⟩, .slice none 0 0, .slice none 0 0, .int .i64 0, .int .i64 0, .int .i64 0, .string ⟨#[]⟩, .int .i64 2, .int .i64 0, .int .i64 0, .int .i64 0, .int .i64 0, .bool false, .string ⟨#[]⟩, .string ⟨#[]⟩, .slice none 0 0, .slice none 0 0, .int .i64 1, .int .i64 1, .int .i64 0, .string ⟨#[]⟩, .int .i64 0, .int .i64 0, .int .i64 0, .int .i64 0, .int .i64 0, .bool false, .string ⟨#[]⟩, .string ⟨#[]⟩, .slice none 0 0, .slice (some ⟨w.heap.size, 0, none⟩) 1 1, .int .i64 2, .int .i64 2, .int .i64 3, .string ⟨#[]⟩, .int .i64 0, .int .i64 0, .int .i64 0, .int .i64 0, .int .i64 0, .bool false, .string ⟨#[]⟩, .string ⟨#[]⟩, .slice none 0 0, .slice none 0 0, .int .i64 1, .int .i64 3, .int .i64 0, .string ⟨#[]⟩, .int .i64 0, .int .i64 0, .int .i64 0, .int .i64 0, .int .i64 0, .bool false, .string ⟨#[]⟩, .string ⟨#[]⟩, .slice none 0 0, .slice (some ⟨w.heap.size + 1, 0, none⟩) 1 1] 41)) none 0 actI10.n.kids ∧ ActIn (((w.alloc (.cells #[.int .i64 2] 3)).alloc (.cells #[.int .i64 4] 3)).alloc (.cells #[.int .i64 0, .int .i64 0, .int .i64 0, .string ⟨#[]⟩, .int .i64 2, .int .i64 0, .int .i64 0, .int .i64 0, .int .i64 0, .bool false, .string ⟨#[]⟩, .string ⟨#[]⟩, .slice none 0 0, .slice none 0 0, .int .i64 0, .int .i64 0, .int .i64 0, .string ⟨#[]⟩, .int .i64 2, .int .i64 0, .int .i64 0, .int .i64 0, .int .i64 0, .bool false, .string ⟨#[]⟩, .string ⟨#[]⟩, .slice none 0 0, .slice none 0 0, .int .i64 0, .int .i64 0, .int .i64 0, .string ⟨#[]⟩, .int .i64 3, .int .i64 0, .int .i64 0, .int .i64 0, .int .i64 1, .bool false, .string ⟨#[]⟩, .string ⟨#[]⟩, .slice none 0 0, .slice none 0 0, .int .i64 0, .int .i64 0, .int .i64 0, .string ⟨#[]⟩, .int .i64 2, .int .i64 0, .int .i64 0, .int .i64 0, .int .i64 0, .bool false, .string ⟨#[]⟩, .string ⟨#[]⟩, .slice none 0 0, .slice none 0 0, .int .i64 1, .int .i64 1, .int .i64 0, .string ⟨#[]⟩, .int .i64 0, .int .i64 0, .int .i64 0, .int .i64 0, .int .i64 0, .bool false, .string ⟨#[]⟩, .string ⟨#[]⟩, .slice none 0 0, .slice (some ⟨w.heap.size, 0, none⟩) 1 1, .int .i64 2, .int .i64 2, .int .i64 3, .string ⟨#[]⟩, .int .i64 0, .int .i64 0, .int .i64 0, .int .i64 0, .int .i64 0, .bool false, .string ⟨#[]⟩, .string ⟨#[]⟩, .slice none 0 0, .slice none 0 0, .int .i64 1, .int .i64 3, .int .i64 0, .string ⟨#[]⟩, .int .i64 0, .int .i64 0, .int .i64 0, .int .i64 0, .int .i64 0, .bool false, .string ⟨#[]⟩, .string ⟨#[]⟩, .slice none 0 0, .slice (some ⟨w.heap.size + 1, 0, none⟩) 1 1] 41)) actI10 none 0 := ⟨listNone _, Nat.zero_le _, Nat.zero_le _, Nat.zero_le _, Nat.le_refl _, fun _ => rfl, (listNone _).nums⟩
    have eP : ListIn (((w.alloc (.cells #[.int .i64 2] 3)).alloc (.cells #[.int .i64 4] 3)).alloc (.cells #[.int .i64 0, .int .i64 0, .int .i64 0, .string ⟨#[]⟩, .int .i64 2, .int .i64 0, .int .i64 0, .int .i64 0, .int .i64 0, .bool false, .string ⟨#[]⟩, .string ⟨#[]⟩, .slice none 0 0, .slice none 0 0, .int .i64 0, .int .i64 0, .int .i64 0, .string ⟨#[]⟩, .int .i64 2, .int .i64 0, .int .i64 0, .int .i64 0, .int .i64 0, .bool false, .string ⟨#[]⟩, .string ⟨#[]⟩, .slice none 0 0, .slice none 0 0, .int .i64 0, .int .i64 0, .int .i64 0, .string ⟨#[]⟩, .int .i64 3, .int .i64 0, .int .i64 0, .int .i64 0, .int .i64 1, .bool false, .string ⟨#[]⟩, .string ⟨#[]⟩, .slice none 0 0, .slice none 0 0, .int .i64 0, .int .i64 0, .int .i64 0, .string ⟨#[]⟩, .int .i64 2, .int .i64 0, .int .i64 0, .int .i64 0, .int .i64 0, .bool false, .string ⟨#[]⟩, .string ⟨#[]⟩, .slice none 0 0, .slice none 0 0, .int .i64 1, .int .i64 1, .int .i64 0, .string ⟨#[]⟩, .int .i64 0, .int .i64 0, .int .i64 0, .int .i64 0, .int .i64 0, .bool false, .string ⟨#[]⟩, .string ⟨#[]⟩, .slice none 0 0, .slice (some ⟨w.heap.size, 0, none⟩) 1 1, .int .i64 2, .int .i64 2, .int .i64 3, .string ⟨#[]⟩, .int .i64 0, .int .i64 0, .int .i64 0, .int .i64 0, .int .i64 0, .bool false, .string ⟨#[]⟩, .string ⟨#[]⟩, .slice none 0 0, .slice none 0 0, .int .i64 1, .int .i64 3, .int .i64 0, .string ⟨#[]⟩, .int .i64 0, .int .i64 0, .int .i64 0, .int .i64 0, .int .i64 0, .bool false, .string ⟨#[]⟩, .string ⟨#[]⟩, .slice none 0 0, .slice (some ⟨w.heap.size + 1, 0, none⟩) 1 1] 41)) none 0 actP10.n.kids ∧ ActIn (((w.alloc (.cells #[.int .i64 2] 3)).alloc (.cells #[.int .i64 4] 3)).alloc (.cells #[.int .i64 0, .int .i64 0, .int .i64 0, .string ⟨#[]⟩, .int .i64 2, .int .i64 0, .int .i64 0, .int .i64 0, .int .i64 0, .bool false, .string ⟨#[]⟩, .string ⟨#[]⟩, .slice none 0 0, .slice none 0 0, .int .i64 0, .int .i64 0, .int .i64 0, .string ⟨#[]⟩, .int .i64 2, .int .i64 0, .int .i64 0, .int .i64 0, .int .i64 0, .bool false, .string ⟨#[]⟩, .string ⟨#[]⟩, .slice none 0 0, .slice none 0 0, .int .i64 0, .int .i64 0, .int .i64 0, .string ⟨#[]⟩, .int .i64 3, .int .i64 0, .int .i64 0, .int .i64 0, .int .i64 1, .bool false, .string ⟨#[]⟩, .string ⟨#[]⟩, .slice none 0 0, .slice none 0 0, .int .i64 0, .int .i64 0, .int .i64 0, .string ⟨#[]⟩, .int .i64 2, .int .i64 0, .int .i64 0, .int .i64 0, .int .i64 0, .bool false, .string ⟨#[]⟩, .string ⟨#[]⟩, .slice none 0 0, .slice none 0 0, .int .i64 1, .int .i64 1, .int .i64 0, .string ⟨#[]⟩, .int .i64 0, .int .i64 0, .int .i64 0, .int .i64 0, .int .i64 0, .bool false, .string ⟨#[]⟩, .string ⟨#[]⟩, .slice none 0 0, .slice (some ⟨w.heap.size, 0, none⟩) 1 1, .int .i64 2, .int .i64 2, .int .i64 3, .string ⟨#[]⟩, .int .i64 0, .int .i64 0, .int .i64 0, .int .i64 0, .int .i64 0, .bool false, .string ⟨#[]⟩, .string ⟨#[]⟩, .slice none 0 0, .slice none 0 0, .int .i64 1, .int .i64 3, .int .i64 0, .string ⟨#[]⟩, .int .i64 0, .int .i64 0, .int .i64 0, .int .i64 0, .int .i64 0, .bool false, .string ⟨#[]⟩, .string ⟨#[]⟩, .slice none 0 0, .slice (some ⟨w.heap.size + 1, 0, none⟩) 1 1] 41)) actP10 (some ⟨w.heap.size, 0, none⟩) 1 := ⟨listNone _, Nat.zero_le _, Nat.zero_le _, Nat.zero_le _, Nat.le_refl _, (fun e => by cases e), (listLit (xs := [2]) h1).nums⟩
    have eQ : ListIn (((w.alloc (.cells #[.int .i64 2] 3)).alloc (.cells #[.int .i64 4] 3)).alloc (.cells #[.int .i64 0, .int .i64 0, .int .i64 0, .string ⟨#[]⟩, .int .i64 2, .int .i64 0, .int .i64 0, .int .i64 0, .int .i64 0, .bool false, .string ⟨#[]⟩, .string ⟨#[]⟩, .slice none 0 0, .slice none 0 0, .int .i64 0, .int .i64 0, .int .i64 0, .string ⟨#[]⟩, .int .i64 2, .int .i64 0, .int .i64 0, .int .i64 0, .int .i64 0, .bool false, .string ⟨#[]⟩, .string ⟨#[]⟩, .slice none 0 0, .slice none 0 0, .int .i64 0, .int .i64 0, .int .i64 0, .string ⟨#[]⟩, .int .i64 3, .int .i64 0, .int .i64 0, .int .i64 0, .int .i64 1, .bool false, .string ⟨#[]⟩, .string ⟨#[]⟩, .slice none 0 0, .slice none 0 0, .int .i64 0, .int .i64 0, .int .i64 0, .string ⟨#[]⟩, .int .i64 2, .int .i64 0, .int .i64 0, .int .i64 0, .int .i64 0, .bool false, .string ⟨#[]⟩, .string ⟨#[]⟩, .slice none 0 0, .slice none 0 0, .int .i64 1, .int .i64 1, .int .i64 0, .string ⟨#[]⟩, .int .i64 0, .int .i64 0, .int .i64 0, .int .i64 0, .int .i64 0, .bool false, .string ⟨#[]⟩, .string ⟨#[]⟩, .slice none 0 0, .slice (some ⟨w.heap.size, 0, none⟩) 1 1, .int .i64 2, .int .i64 2, .int .i64 3, .string ⟨#[]⟩, .int .i64 0, .int .i64 0, .int .i64 0, .int .i64 0, .int .i64 0, .bool false, .string ⟨#[]⟩, .string ⟨#[]⟩, .slice none 0 0, .slice none 0 0, .int .i64 1, .int .i64 3, .int .i64 0, .string ⟨#[]⟩, .int .i64 0, .int .i64 0, .int .i64 0, .int .i64 0, .int .i64 0, .bool false, .string ⟨#[]⟩, .string ⟨#[]⟩, .slice none 0 0, .slice (some ⟨w.heap.size + 1, 0, none⟩) 1 1] 41)) none 0 actQ10.n.kids ∧ ActIn (((w.alloc (.cells #[.int .i64 2] 3)).alloc (.cells #[.int .i64 4] 3)).alloc (.cells #[.int .i64 0, .int .i64 0, .int .i64 0, .string ⟨#[]⟩, .int .i64 2, .int .i64 0, .int .i64 0, .int .i64 0, .int .i64 0, .bool false, .string ⟨#[]⟩, .string ⟨#[]⟩, .slice none 0 0, .slice none 0 0, .int .i64 0, .int .i64 0, .int .i64 0, .string ⟨#[]⟩, .int .i64 2, .int .i64 0, .int .i64 0, .int .i64 0, .int .i64 0, .bool false, .string ⟨#[]⟩, .string ⟨#[]⟩, .slice none 0 0, .slice none 0 0, .int .i64 0, .int .i64 0, .int .i64 0, .string ⟨#[]⟩, .int .i64 3, .int .i64 0, .int .i64 0, .int .i64 0, .int .i64 1, .bool false, .string ⟨#[]⟩, .string ⟨#[]⟩, .slice none 0 0, .slice none 0 0, .int .i64 0, .int .i64 0, .int .i64 0, .string ⟨#[]⟩, .int .i64 2, .int .i64 0, .int .i64 0, .int .i64 0, .int .i64 0, .bool false, .string ⟨#[]⟩, .string ⟨#[]⟩, .slice none 0 0, .slice none 0 0, .int .i64 1, .int .i64 1, .int .i64 0, .string ⟨#[]⟩, .int .i64 0, .int .i64 0, .int .i64 0, .int .i64 0, .int .i64 0, .bool false, .string ⟨#[]⟩, .string ⟨#[]⟩, .slice none 0 0, .slice (some ⟨w.heap.size, 0, none⟩) 1 1, .int .i64 2, .int .i64 2, .int .i64 3, .string ⟨#[]⟩, .int .i64 0, .int .i64 0, .int .i64 0, .int .i64 0, .int .i64 0, .bool false, .string ⟨#[]⟩, .string ⟨#[]⟩, .slice none 0 0, .slice none 0 0, .int .i64 1, .int .i64 3, .int .i64 0, .string ⟨#[]⟩, .int .i64 0, .int .i64 0, .int .i64 0, .int .i64 0, .int .i64 0, .bool false, .string ⟨#[]⟩, .string ⟨#[]⟩, .slice none 0 0, .slice (some ⟨w.heap.size + 1, 0, none⟩) 1 1] 41)) actQ10 (some ⟨w.heap.size + 1, 0, none⟩) 1 := ⟨listNone _, Nat.zero_le _, Nat.zero_le _, Nat.zero_le _, Nat.le_refl _, (fun e => by cases e), (listLit (xs := [4]) h1').nums⟩
    simp only [List.mem_cons, List.not_mem_nil, or_false] at hr
    rcases hr with rfl | rfl | rfl | rfl | rfl | rfl | rfl
    · exact eE
    · exact eE
    · exact eS
    · exact eE
    · exact eP
    · exact eI
    · exact eQ)
  exact h3

section
variable {Rep : (Nat → Prop) → World → Nat → List Nd → Prop}
set_option maxHeartbeats 4000000 in
set_option maxRecDepth 100000 in
theorem awake10_any (O : ForestOk Rep) (M : ForestMore Rep) (w : World) : Calls Try.prog 6 #[] w fun e w' => e = .returned (.bool true) ∧ Below w.heap.size w w' := by
  have hA := acts10_in (w.alloc (.cells #[.int .i64 2, .int .i64 0, .int .i64 0, .int .i64 0, .int .i64 0, .bool false, .string ⟨#[]⟩, .string ⟨#[]⟩, .slice none 0 0] 36))
  rw [show (w.alloc (.cells #[.int .i64 2, .int .i64 0, .int .i64 0, .int .i64 0, .int .i64 0, .bool false, .string ⟨#[]⟩, .string ⟨#[]⟩, .slice none 0 0] 36)).heap.size = w.heap.size + 1 by simp] at hA
  have HA := Lib.hid hA
  have Hg := Lib.hid (good_forest acts10_small)
  have H1 := Lib.hid acts10_far
  have H2 := Lib.hid acts10_near
  obtain ⟨l, hl⟩ : ∃ l, l = forest acts10 := ⟨_, rfl⟩
  have HL := Lib.hid hl
  rw [← hl] at H1 H2 Hg
  clear hl hA
  go_enter Try.func6, Try.ntmps6
  go_wp2_with fail
  refine (built_any O _ 7 7 acts10 _ rfl HA.out acts10_small).mono ?_
  rintro e w1 ⟨b, rfl, hR, hb1⟩
  rw [← HL.out] at hR
  have hB1 : Below w.heap.size w w1 := Below.trans (((((Below.refl _ w).alloc (Nat.le_refl _) _).alloc (by simp) _).alloc (by simp; omega) _).alloc (by simp; omega) _) (hb1.mono (by simp; omega))
  have HB1 := Lib.hid hB1
  have HR := Lib.hid (O.wide hR (S' := fun _ => True) fun _ _ _ => trivial)
  clear hR hb1 HA HL hB1
  go_wp2_with fail
  refine (aiAim O M 4 1 HR.out Hg.out).mono ?_
  rintro e w2 ⟨rfl, hb2⟩
  rw [H1.out]
  have HB2 := Lib.hid (HB1.out.trans (hb2.mono HB1.out.size))
  have HR2 := Lib.hid (O.since HR.out hb2)
  clear hb2
  go_wp2_with fail
  refine (aiAim O M 1 4 HR2.out Hg.out).mono ?_
  rintro e w3 ⟨rfl, hb3⟩
  rw [H2.out]
  have HB3 := Lib.hid (HB2.out.trans (hb3.mono HB2.out.size))
  clear hb3
  go_wp2
  go_ret
  exact ⟨rfl, HB3.out⟩
end
end Go.Proofs.Ytegdhfdehcidhaa

namespace Go.Proofs.Ytegdhfdehcidhaa
open Go Go.RowKit

section
variable {l : List Nd} {i : Int}
theorem whole_at (T : Tree l) (h : hostL l i = 0) : wholeL l i = rootL l i := by
  cases ht : thereB l i with
  | false => rw [whole_no ht, rootL_no ht]
  | true => exact whole_end T ht h
theorem hostL_kind (T : Tree l) (h : thereB l i = true) (hk : (nd l (rootL l i)).kind ≠ 3) : hostL l i = 0 := by
  rw [hostL_at h]
  exact Decidable.byContradiction fun h0 => hk (T.host _ (rootL_there T h) h0).1
theorem hostL_from (h : hostL l i ≠ 0) : thereB l i = true := by
  cases ht : thereB l i with
  | true => rfl
  | false => exact absurd (hostL_no ht) h
end
section
variable {G : Nat → Prop} {w : World} {A : Option Addr} {c : Nat} {l : List Nd}
set_option maxHeartbeats 2000000 in
set_option maxRecDepth 100000 in
theorem rsHost (id : Int) (hg : Good l) (h : Nodes G w 0 A c l) :
    Calls Try.prog 25 #[.slice A l.length c, .int .i64 id] w fun e w' => e = .returned (.int .i64 (hostL l id)) ∧ Below w.heap.size w w' := by
  have H := Lib.hid h
  have Hg := Lib.hid hg
  have hll := hg.len
  obtain ⟨R, hR⟩ : ∃ R, R = hostL l id := ⟨_, rfl⟩
  rw [← hR]
  have HR := Lib.hid hR
  clear h hg hR
  go_enter Try.func25, Try.ntmps25
  go_wp2_with fail
  refine (refRoot l A c id w Hg.out H.out).mono ?_
  rintro e w1 ⟨rfl, hb1⟩
  cases ht : thereB l id with
  | false =>
    have e0 := rootL_no ht
    have e1 : R = 0 := by rw [HR.out, hostL_no ht]
    subst e1
    rw [e0]
    clear e0 ht HR
    go_wp2
    go_ret
    exact ⟨rfl, hb1⟩
  | true =>
    have hrt := rootL_there Hg.out.tree ht
    have e1 := hostL_at ht
    have e2 := hostL_kind Hg.out.tree ht
    obtain ⟨m, hr, hm⟩ := there_at hrt
    rw [hr] at e1 e2
    rw [hr]
    have hN := H.out.below hb1
    obtain ⟨g, k, rfl, -, hgw, -, -, c0, -, c2, -⟩ := hN.nine hm
    obtain ⟨d, hd⟩ : ∃ d, d = nd l ((m : Int) + 1) := ⟨_, rfl⟩
    rw [← hd] at c0 c2 e1 e2
    have z1 : (((m : Int) + 1) == 0) = false := by rw [beq_eq_false_iff_ne]; omega
    by_cases hk : d.kind = 3
    · have e3 : R = d.host := by rw [HR.out, e1]
      have z3 : (d.kind != 3) = false := by simpa using hk
      subst e3
      clear hr hrt e1 e2 ht hd HR hN hk
      go_wp2
      go_ret
      exact ⟨rfl, hb1⟩
    · have e3 : R = 0 := by rw [HR.out, e2 hk]
      have z3 : (d.kind != 3) = true := by simpa using hk
      subst e3
      clear hr hrt e1 e2 ht hd HR hN hk
      go_wp2
      go_ret
      exact ⟨rfl, hb1⟩
set_option maxHeartbeats 4000000 in
set_option maxRecDepth 100000 in
theorem rsHolds (x id : Int) (hg : Good l) (h : Nodes G w 0 A c l) :
    Calls Try.prog 26 #[.slice A l.length c, .int .i64 x, .int .i64 id] w fun e w' => e = .returned (.bool (hasB (over l id) x)) ∧ Below w.heap.size w w' := by
  have H := Lib.hid h
  have Hg := Lib.hid hg
  have hll := hg.len
  obtain ⟨R, hR⟩ : ∃ R, R = hasB (over l id) x := ⟨_, rfl⟩
  rw [← hR]
  have HR := Lib.hid hR.symm
  have H0 := Lib.hid (over_short hg.tree id)
  clear h hg hR
  go_enter Try.func26, Try.ntmps26
  go_wp2_with fail
  go_loopw [2, 7] (fun a k wr => ∃ (i : Int) (j : Nat), a = .int .i64 i ∧ k = .int .i64 j ∧ hasB (over l i) x = R ∧ j ≤ l.length + 1 ∧ (i ≠ 0 → j + (over l i).length ≤ l.length) ∧ Below w.heap.size w wr) (fun _ k _ => l.length + 2 - (intOf k).toNat)
  case atStart => exact ⟨id, 0, rfl, rfl, HR.out, Nat.zero_le _, fun _ => by have := H0.out; omega, Below.refl _ _⟩
  case round =>
    obtain ⟨i, j, rfl, rfl, hi, hj1, hj, hb⟩ := hrel
    have Hi := Lib.hid hi
    have Hb := Lib.hid hb
    have Hn := Lib.hid (H.out.kept (Keeps.of_below (F := fun i => w.heap.size ≤ i) hb fun _ _ h => h) fun _ hi => Nat.not_le.2 hi)
    clear hi hb HR H0
    by_cases h0 : i = 0
    · subst h0
      have e0 : R = false := by
        rw [← Hi.out, over_zero]
        rfl
      subst e0
      clear hj
      by_cases hjl : (j : Int) ≤ l.length
      · go_wp2
        go_ret
        exact ⟨rfl, Hb.out⟩
      · go_wp2
        go_ret
        exact ⟨rfl, Hb.out⟩
    · have Hj := Lib.hid (hj h0)
      have hjl : (j : Int) ≤ l.length := by have := Hj.out; omega
      have z0 : (i != 0) = true := by simpa using h0
      clear hj h0
      go_wp2_with fail
      refine (refAbove l A c x i wr Hg.out Hn.out).mono ?_
      rintro e w1 ⟨rfl, hb1⟩
      have Hb1 := Lib.hid (Hb.out.trans (hb1.mono Hb.out.size))
      have Hn1 := Lib.hid (Hn.out.below hb1)
      clear hb1
      cases ha : hasB (parL l i) x with
      | true =>
        have e0 : R = true := by
          rw [← Hi.out]
          exact over_hit Hg.out.tree ha
        subst e0
        clear ha
        go_wp2
        go_ret
        exact ⟨rfl, Hb1.out⟩
      | false =>
        have Ha := Lib.hid ha
        clear ha
        go_wp2_with fail
        refine (rsHost i Hg.out Hn1.out).mono ?_
        rintro e w2 ⟨rfl, hb2⟩
        have Hb2 := Lib.hid (Hb1.out.trans (hb2.mono Hb1.out.size))
        clear hb2
        have e1 : hasB (over l (hostL l i)) x = R := by
          cases ht : thereB l i with
          | true => rw [hostL_at ht, ← over_miss Hg.out.tree ht Ha.out]; exact Hi.out
          | false => rw [hostL_no ht, over_zero, ← Hi.out, over_none ht]
        have e2 : hostL l i ≠ 0 → j + 1 + (over l (hostL l i)).length ≤ l.length := fun h => by
          have h1 := host_less Hg.out.tree (hostL_from h)
          have h2 := Hj.out
          omega
        have E1 := Lib.hid e1
        have E2 := Lib.hid e2
        clear e1 e2
        go_wp2
        go_roundw
        case rel => exact ⟨_, j + 1, rfl, by go_num, E1.out, by omega, E2.out, Hb2.out⟩
        case measure => simp [intOf]; omega
end
end Go.Proofs.Ytegdhfdehcidhaa

namespace Go.Proofs.Ytegdhfdehcidhaa
open Go Go.RowKit

section
variable {G : Nat → Prop} {w : World} {A : Option Addr} {c : Nat} {l : List Nd}
set_option maxHeartbeats 4000000 in
set_option maxRecDepth 100000 in
theorem raAim (a x : Int) (hg : Good l) (h : Nodes G w 0 A c l) :
    Calls Try.prog 12 #[.slice A l.length c, .int .i64 a, .int .i64 x] w fun e w' => e = .returned (.int .i64 (aimL l a x)) ∧ Below w.heap.size w w' := by
  have hnot : ∀ (x : Bool) (w : World), (Op.unary .not (.bool x)).run Try.prog w = .ok (.bool (!x)) w := fun _ _ => rfl
  have H := Lib.hid h
  have Hg := Lib.hid hg
  have hll := hg.len
  obtain ⟨R, hR⟩ : ∃ R, R = aimL l a x := ⟨_, rfl⟩
  rw [← hR]
  have HR := Lib.hid hR.symm
  have H0 := Lib.hid (over_short hg.tree a)
  clear h hg hR
  go_enter Try.func12, Try.ntmps12
  go_wp2_with fail
  refine (there_any l A c a w).mono ?_
  rintro e w0 ⟨rfl, rfl⟩
  cases hat : thereB l a with
  | false =>
    have e0 : R = 0 := by rw [← HR.out, aimL_no hat]
    subst e0
    clear hat
    go_wp2
    go_ret
    exact ⟨rfl, Below.refl _ _⟩
  | true =>
    have Hat := Lib.hid hat
    clear hat
    go_wp2_with fail
    go_loopw [1, 7] (fun v k wr => ∃ (i : Int) (j : Nat), v = .int .i64 i ∧ k = .int .i64 j ∧ thereB l i = true ∧ aimL l i x = R ∧ j + (over l i).length ≤ l.length ∧ Below w.heap.size w wr) (fun _ k _ => l.length + 1 - (intOf k).toNat)
    case atStart => exact ⟨a, 0, rfl, rfl, Hat.out, HR.out, by have := H0.out; omega, Below.refl _ _⟩
    case round =>
      obtain ⟨i, j, rfl, rfl, ht, hi, hj, hb⟩ := hrel
      have Ht := Lib.hid ht
      have Hi := Lib.hid hi
      have Hj := Lib.hid hj
      have Hb := Lib.hid hb
      have Hn := Lib.hid (H.out.kept (Keeps.of_below (F := fun i => w.heap.size ≤ i) hb fun _ _ h => h) fun _ hi => Nat.not_le.2 hi)
      have hjl : (j : Int) ≤ l.length := by omega
      clear hi hj hb ht HR H0 Hat
      go_wp2_with fail
      refine (rsHost i Hg.out Hn.out).mono ?_
      rintro e w1 ⟨rfl, hb1⟩
      have Hb1 := Lib.hid (Hb.out.trans (hb1.mono Hb.out.size))
      have Hn1 := Lib.hid (Hn.out.below hb1)
      clear hb1 Hb Hn
      have e1 : hostL l i = 0 → aimL l i x = i := fun h => aimL_stop Ht.out (aimB_end h)
      have e2 : hasB (over l x) (rootL l i) = true → aimL l i x = i := fun h => aimL_stop Ht.out (aimB_held h)
      have e3 : hostL l i ≠ 0 → hasB (over l x) (rootL l i) = false → aimL l (hostL l i) x = aimL l i x := fun h h' => (aimL_up Hg.out.tree (aimB_go h h')).symm
      have e4 := host_less Hg.out.tree Ht.out
      have e5 : hostL l i ≠ 0 → thereB l (hostL l i) = true := hostL_there Hg.out.tree
      rw [Hi.out] at e1 e2 e3
      obtain ⟨ho, hho⟩ : ∃ ho, ho = hostL l i := ⟨_, rfl⟩
      rw [← hho] at e1 e3 e4 e5
      rw [← hho]
      have Hho := Lib.hid hho
      have E2 := Lib.hid e2
      have E4 := Lib.hid e4
      clear hho e2 e4
      by_cases h0 : ho = 0
      · have e0 : R = i := e1 h0
        subst e0
        subst h0
        clear e1 e3 e5
        go_wp2
        go_ret
        exact ⟨rfl, Hb1.out⟩
      · have z0 : (ho == 0) = false := by simpa using h0
        have E3 := Lib.hid (e3 h0)
        have E5 := Lib.hid (e5 h0)
        clear e1 e3 e5 h0
        go_wp2_with fail
        refine (refRoot l A c i w1 Hg.out Hn1.out).mono ?_
        rintro e w2 ⟨rfl, hb2⟩
        have Hb2 := Lib.hid (Hb1.out.trans (hb2.mono Hb1.out.size))
        have Hn2 := Lib.hid (Hn1.out.below hb2)
        clear hb2 Hb1 Hn1
        go_wp2_with fail
        refine (rsHolds (rootL l i) x Hg.out Hn2.out).mono ?_
        rintro e w3 ⟨rfl, hb3⟩
        have Hb3 := Lib.hid (Hb2.out.trans (hb3.mono Hb2.out.size))
        have Hn3 := Lib.hid (Hn2.out.below hb3)
        clear hb3 Hb2 Hn2
        cases hh : hasB (over l x) (rootL l i) with
        | true =>
          have e0 : R = i := E2.out hh
          subst e0
          clear hh
          go_wp2
          go_ret
          exact ⟨rfl, Hb3.out⟩
        | false =>
          have F3 := Lib.hid (E3.out hh)
          clear hh E3 E2
          go_wp2_with fail
          refine (rsHost i Hg.out Hn3.out).mono ?_
          rintro e w4 ⟨rfl, hb4⟩
          rw [← Hho.out]
          have Hb4 := Lib.hid (Hb3.out.trans (hb4.mono Hb3.out.size))
          clear hb4
          go_wp2
          go_roundw
          case rel => exact ⟨_, j + 1, rfl, by go_num, E5.out, F3.out, by have := E4.out; have := Hj.out; omega, Hb4.out⟩
          case measure => simp [intOf]; omega
end
end Go.Proofs.Ytegdhfdehcidhaa

namespace Go.Proofs.Ytegdhfdehcidhaa
open Go Go.RowKit

section
variable {Rep : (Nat → Prop) → World → Nat → List Nd → Prop}
set_option maxHeartbeats 8000000 in
set_option maxRecDepth 100000 in
theorem aimTells_any (O : ForestOk Rep) (M : ForestMore Rep) (A : Option Addr) (n c : Nat) (xs : List Ac) (a a2 : Int) (w : World) (hn : xs.length = n) (hm : n ≤ maxLen) (h : Acts w A xs) :
    Calls Try.prog 3 #[.slice A n c, .int .i64 a, .int .i64 a2] w fun e w' => e = .returned (.bool true) ∧ Below w.heap.size w w' := by
  have hnot : ∀ (x : Bool) (w : World), (Op.unary .not (.bool x)).run Try.prog w = .ok (.bool (!x)) w := fun _ _ => rfl
  have H := Lib.hid h
  have Hn := Lib.hid hn
  have Hm := Lib.hid hm
  clear h hn hm
  go_enter Try.func3, Try.ntmps3
  go_wp2_with fail
  refine (awake10_any O M w).mono ?_
  rintro e w0 ⟨rfl, hb0⟩
  go_wp2_with fail
  refine (great_any A n c xs w0 Hn.out Hm.out (H.out.below hb0)).mono ?_
  rintro e w1 ⟨⟨gr, rfl, hgr⟩, rfl⟩
  cases gr with
  | true =>
    go_wp2
    go_ret
    exact ⟨rfl, hb0⟩
  | false =>
    have Hs := Lib.hid (hgr rfl)
    have Hb0 := Lib.hid hb0
    clear hgr hb0
    go_wp2_with fail
    refine (built_any O A n c xs w0 Hn.out (H.out.below Hb0.out) Hs.out).mono ?_
    rintro e w1 ⟨b, rfl, hR, hb1⟩
    have hB1 := Hb0.out.trans (hb1.mono Hb0.out.size)
    have HB1 := Lib.hid hB1
    have HR := Lib.hid (O.wide hR (S' := fun _ => True) fun _ _ _ => trivial)
    clear hR hb1 hB1 Hb0
    go_wp2_with fail
    refine (refNodes A n c xs w1 Hn.out (H.out.below HB1.out) Hs.out).mono ?_
    rintro e w2 ⟨A2, c2, rfl, hN, hb2⟩
    have Hg := Lib.hid (good_forest Hs.out)
    obtain ⟨l, hl⟩ : ∃ l, l = forest xs := ⟨_, rfl⟩
    rw [← hl] at hN HR Hg
    rw [← hl]
    have hT2 : Two Rep w b A2 c2 l w2 := ⟨O.since HR.out hb2, hN.wide fun _ _ _ => trivial, HB1.out.trans (hb2.mono HB1.out.size)⟩
    have T2 := Lib.hid hT2
    clear hN hb2 HR HB1 Hs H Hn hl hT2
    go_wp2_with fail
    refine (aiBoth O M a a2 T2.out.rep Hg.out).mono ?_
    rintro e w3 ⟨rfl, hb3⟩
    have T3 := Lib.hid (T2.out.next O hb3)
    clear hb3 T2
    go_wp2_with fail
    refine (aiAim O M a a2 T3.out.rep Hg.out).mono ?_
    rintro e w4 ⟨rfl, hb4⟩
    have T4 := Lib.hid (T3.out.next O hb4)
    clear hb4 T3
    go_wp2_with fail
    refine (raAim a a2 Hg.out T4.out.nodes).mono ?_
    rintro e w5 ⟨rfl, hb5⟩
    have T5 := Lib.hid (T4.out.next O hb5)
    clear hb5 T4
    go_wp2_with fail
    refine (raAim a a2 Hg.out T5.out.nodes).mono ?_
    rintro e w6 ⟨rfl, hb6⟩
    have T6 := Lib.hid (T5.out.next O hb6)
    clear hb6 T5
    go_wp2_with fail
    refine (raAim a2 a Hg.out T6.out.nodes).mono ?_
    rintro e w7 ⟨rfl, hb7⟩
    have T7 := Lib.hid (T6.out.next O hb7)
    clear hb7 T6
    go_wp2
    go_ret
    exact ⟨rfl, T7.out.below⟩
end
end Go.Proofs.Ytegdhfdehcidhaa

namespace Go.Proofs.Ytegdhfdehcidhaa
open Go Go.RowKit

section
variable {Rep : (Nat → Prop) → World → Nat → List Nd → Prop}
set_option maxHeartbeats 8000000 in
set_option maxRecDepth 100000 in
theorem aimHides_any (O : ForestOk Rep) (M : ForestMore Rep) (A : Option Addr) (n c : Nat) (xs : List Ac) (a a2 : Int) (w : World) (hn : xs.length = n) (hm : n ≤ maxLen) (h : Acts w A xs) :
    Calls Try.prog 4 #[.slice A n c, .int .i64 a, .int .i64 a2] w fun e w' => e = .returned (.bool true) ∧ Below w.heap.size w w' := by
  have hnot : ∀ (x : Bool) (w : World), (Op.unary .not (.bool x)).run Try.prog w = .ok (.bool (!x)) w := fun _ _ => rfl
  have H := Lib.hid h
  have Hn := Lib.hid hn
  have Hm := Lib.hid hm
  clear h hn hm
  go_enter Try.func4, Try.ntmps4
  go_wp2_with fail
  refine (awake10_any O M w).mono ?_
  rintro e w0 ⟨rfl, hb0⟩
  go_wp2_with fail
  refine (great_any A n c xs w0 Hn.out Hm.out (H.out.below hb0)).mono ?_
  rintro e w1 ⟨⟨gr, rfl, hgr⟩, rfl⟩
  cases gr with
  | true =>
    go_wp2
    go_ret
    exact ⟨rfl, hb0⟩
  | false =>
    have Hs := Lib.hid (hgr rfl)
    have Hb0 := Lib.hid hb0
    clear hgr hb0
    go_wp2_with fail
    refine (built_any O A n c xs w0 Hn.out (H.out.below Hb0.out) Hs.out).mono ?_
    rintro e w1 ⟨b, rfl, hR, hb1⟩
    have Hg := Lib.hid (good_forest Hs.out)
    have Hh := Lib.hid (hosts_forest xs)
    obtain ⟨l, hl⟩ : ∃ l, l = forest xs := ⟨_, rfl⟩
    rw [← hl] at hR Hg Hh
    have hO1 : One Rep w b l w1 := ⟨O.wide hR (S' := fun _ => True) fun _ _ _ => trivial, Hb0.out.trans (hb1.mono Hb0.out.size)⟩
    have T1 := Lib.hid hO1
    clear hR hb1 hO1 Hb0 hl Hs H Hn
    go_wp2_with fail
    refine (aiAim O M a a2 T1.out.rep Hg.out).mono ?_
    rintro e w2 ⟨rfl, hb2⟩
    have T2 := Lib.hid (T1.out.next O hb2)
    clear hb2 T1
    cases ht : thereB l a with
    | false =>
      have e0 := aimL_no (b := a2) ht
      rw [e0]
      have Ht := Lib.hid ht
      clear ht e0
      go_wp2_with fail
      refine (nodeNo M T2.out.rep Hg.out Ht.out).mono ?_
      rintro e w3 ⟨A3, c3, rfl, -, hb3⟩
      have T3 := Lib.hid (T2.out.next O (hb3.alloc hb3.size (.cells #[.int .i64 0, .int .i64 0, .int .i64 0, .int .i64 0, .int .i64 0, .bool false, .string ⟨#[]⟩, .string ⟨#[]⟩, .slice A3 0 c3] 36)))
      clear hb3 T2
      go_wp2
      go_ret
      exact ⟨rfl, T3.out.below⟩
    | true =>
      have e1 := aimL_hides (b := a2) Hg.out.tree ht
      have e2 := aimL_again (b := a2) Hg.out.tree ht
      have e3 := aimL_self Hg.out.tree ht
      obtain ⟨x, hx⟩ : ∃ x, x = aimL l a a2 := ⟨_, rfl⟩
      rw [← hx] at e1 e2
      rw [← hx]
      have Ht := Lib.hid ht
      have E1 := Lib.hid e1
      have E2 := Lib.hid e2
      have E3 := Lib.hid e3
      clear ht e1 e2 e3 hx
      go_wp2_with fail
      refine (nodeYes M T2.out.rep Hg.out Ht.out).mono ?_
      rintro e w3 ⟨A3, c3, rfl, -, hb3⟩
      obtain ⟨d3, hd3⟩ : ∃ d, d = nd l a := ⟨_, rfl⟩
      rw [← hd3]
      have T3 := Lib.hid (T2.out.next O (hb3.alloc hb3.size (.cells #[.int .i64 d3.kind, .int .i64 d3.parent, .int .i64 d3.host, .int .i64 d3.shadow, .int .i64 d3.mode, .bool d3.slot, .string d3.name, .string d3.want, .slice A3 d3.kids.length c3] 36)))
      clear hb3 T2 hd3
      go_wp2_with fail
      refine (shHidden O M x a2 T3.out.rep Hg.out).mono ?_
      rintro e w4 ⟨rfl, hb4⟩
      rw [E1.out]
      have T4 := Lib.hid (T3.out.next O hb4)
      clear hb4 T3
      go_wp2_with fail
      refine (aiAim O M x a2 T4.out.rep Hg.out).mono ?_
      rintro e w5 ⟨rfl, hb5⟩
      rw [E2.out]
      have T5 := Lib.hid (T4.out.next O hb5)
      clear hb5 T4
      go_wp2_with fail
      refine (aiAim O M a a T5.out.rep Hg.out).mono ?_
      rintro e w6 ⟨rfl, hb6⟩
      rw [E3.out]
      have T6 := Lib.hid (T5.out.next O hb6)
      clear hb6 T5
      go_wp2
      go_ret
      exact ⟨rfl, T6.out.below⟩
end
end Go.Proofs.Ytegdhfdehcidhaa

namespace Go.Proofs.Ytegdhfdehcidhaa
open Go Go.RowKit

section
variable {Rep : (Nat → Prop) → World → Nat → List Nd → Prop}
set_option maxHeartbeats 8000000 in
set_option maxRecDepth 100000 in
theorem aimHolds_any (O : ForestOk Rep) (M : ForestMore Rep) (A : Option Addr) (n c : Nat) (xs : List Ac) (a a2 : Int) (w : World) (hn : xs.length = n) (hm : n ≤ maxLen) (h : Acts w A xs) :
    Calls Try.prog 5 #[.slice A n c, .int .i64 a, .int .i64 a2] w fun e w' => e = .returned (.bool true) ∧ Below w.heap.size w w' := by
  have hnot : ∀ (x : Bool) (w : World), (Op.unary .not (.bool x)).run Try.prog w = .ok (.bool (!x)) w := fun _ _ => rfl
  have H := Lib.hid h
  have Hn := Lib.hid hn
  have Hm := Lib.hid hm
  clear h hn hm
  go_enter Try.func5, Try.ntmps5
  go_wp2_with fail
  refine (awake10_any O M w).mono ?_
  rintro e w0 ⟨rfl, hb0⟩
  go_wp2_with fail
  refine (great_any A n c xs w0 Hn.out Hm.out (H.out.below hb0)).mono ?_
  rintro e w1 ⟨⟨gr, rfl, hgr⟩, rfl⟩
  cases gr with
  | true =>
    go_wp2
    go_ret
    exact ⟨rfl, hb0⟩
  | false =>
    have Hs := Lib.hid (hgr rfl)
    have Hb0 := Lib.hid hb0
    clear hgr hb0
    go_wp2_with fail
    refine (built_any O A n c xs w0 Hn.out (H.out.below Hb0.out) Hs.out).mono ?_
    rintro e w1 ⟨b, rfl, hR, hb1⟩
    have Hg := Lib.hid (good_forest Hs.out)
    have Hh := Lib.hid (hosts_forest xs)
    obtain ⟨l, hl⟩ : ∃ l, l = forest xs := ⟨_, rfl⟩
    rw [← hl] at hR Hg Hh
    have hO1 : One Rep w b l w1 := ⟨O.wide hR (S' := fun _ => True) fun _ _ _ => trivial, Hb0.out.trans (hb1.mono Hb0.out.size)⟩
    have T1 := Lib.hid hO1
    clear hR hb1 hO1 Hb0 hl Hs H Hn
    go_wp2_with fail
    refine (aiAim O M a a2 T1.out.rep Hg.out).mono ?_
    rintro e w2 ⟨rfl, hb2⟩
    have T2 := Lib.hid (T1.out.next O hb2)
    clear hb2 T1
    cases ht : thereB l a with
    | false =>
      have e0 := aimL_no (b := a2) ht
      rw [e0]
      have Ht := Lib.hid ht
      clear ht e0
      go_wp2_with fail
      refine (nodeNo M T2.out.rep Hg.out Ht.out).mono ?_
      rintro e w3 ⟨A3, c3, rfl, -, hb3⟩
      have T3 := Lib.hid (T2.out.next O (hb3.alloc hb3.size (.cells #[.int .i64 0, .int .i64 0, .int .i64 0, .int .i64 0, .int .i64 0, .bool false, .string ⟨#[]⟩, .string ⟨#[]⟩, .slice A3 0 c3] 36)))
      clear hb3 T2
      go_wp2
      go_ret
      exact ⟨rfl, T3.out.below⟩
    | true =>
      have e1 := aimL_there (b := a2) Hg.out.tree ht
      have e2 := hasB_yes (aimL_over (b := a2) Hg.out.tree a ht)
      have e3 := aimL_host (b := a2) Hg.out.tree Hh.out a ht
      have e4 := aimL_self Hg.out.tree e1
      have e5 := there_pos e1
      obtain ⟨x, hx⟩ : ∃ x, x = aimL l a a2 := ⟨_, rfl⟩
      rw [← hx] at e1 e2 e3 e4 e5
      rw [← hx]
      have z5 : (x == 0) = false := by simpa using e5
      have Ht := Lib.hid e1
      have E2 := Lib.hid e2
      have E4 := Lib.hid e4
      have E3 := Lib.hid e3
      clear ht e1 e2 e3 e4 e5 hx
      go_wp2_with fail
      refine (nodeYes M T2.out.rep Hg.out Ht.out).mono ?_
      rintro e w3 ⟨A3, c3, rfl, -, hb3⟩
      obtain ⟨d, hd⟩ : ∃ d, d = nd l x := ⟨_, rfl⟩
      rw [← hd] at E3
      rw [← hd]
      have T3 := Lib.hid (T2.out.next O (hb3.alloc hb3.size (.cells #[.int .i64 d.kind, .int .i64 d.parent, .int .i64 d.host, .int .i64 d.shadow, .int .i64 d.mode, .bool d.slot, .string d.name, .string d.want, .slice A3 d.kids.length c3] 36)))
      have x3 : (w3.alloc (.cells #[.int .i64 d.kind, .int .i64 d.parent, .int .i64 d.host, .int .i64 d.shadow, .int .i64 d.mode, .bool d.slot, .string d.name, .string d.want, .slice A3 d.kids.length c3] 36)).cell? ⟨w3.heap.size, 3, none⟩ = some (.int .i64 d.shadow) := (Has.fresh w3 (.cells #[.int .i64 d.kind, .int .i64 d.parent, .int .i64 d.host, .int .i64 d.shadow, .int .i64 d.mode, .bool d.slot, .string d.name, .string d.want, .slice A3 d.kids.length c3] 36)).cell 3
      have X3 : Hid (∀ w4, Below (w3.alloc (.cells #[.int .i64 d.kind, .int .i64 d.parent, .int .i64 d.host, .int .i64 d.shadow, .int .i64 d.mode, .bool d.slot, .string d.name, .string d.want, .slice A3 d.kids.length c3] 36)).heap.size (w3.alloc (.cells #[.int .i64 d.kind, .int .i64 d.parent, .int .i64 d.host, .int .i64 d.shadow, .int .i64 d.mode, .bool d.slot, .string d.name, .string d.want, .slice A3 d.kids.length c3] 36)) w4 → w4.cell? ⟨w3.heap.size, 3, none⟩ = some (.int .i64 d.shadow)) := Lib.hid fun w4 hb4 => (hb4.cell (p := ⟨w3.heap.size, 3, none⟩) (by simp)).trans x3
      clear hb3 T2 hd x3
      go_wp2_with fail
      refine (shHolds O M x a T3.out.rep Hg.out).mono ?_
      rintro e w4 ⟨rfl, hb4⟩
      rw [E2.out]
      have T4 := Lib.hid (T3.out.next O hb4)
      have x4 := X3.out w4 hb4
      clear hb4 T3 X3
      by_cases hxa : x = a
      · have z1 : (x == a) = true := by simpa using hxa
        clear hxa E3
        go_wp2_with fail
        refine (aiAim O M x x T4.out.rep Hg.out).mono ?_
        rintro e w5 ⟨rfl, hb5⟩
        rw [E4.out]
        have T5 := Lib.hid (T4.out.next O hb5)
        clear hb5 T4
        go_wp2
        go_ret
        exact ⟨rfl, T5.out.below⟩
      · have z1 : (x == a) = false := by simpa using hxa
        have z2 : (d.shadow != 0) = true := by
          rcases E3.out with h | h
          · exact absurd h hxa
          · simpa using h
        clear hxa E3
        go_wp2_with fail
        refine (aiAim O M x x T4.out.rep Hg.out).mono ?_
        rintro e w5 ⟨rfl, hb5⟩
        rw [E4.out]
        have T5 := Lib.hid (T4.out.next O hb5)
        clear hb5 T4
        go_wp2
        go_ret
        exact ⟨rfl, T5.out.below⟩
end
end Go.Proofs.Ytegdhfdehcidhaa

namespace Go.Proofs.Ytegdhfdehcidhaa
open Go Go.RowKit
theorem aimTells_here (A : Option Addr) (n c : Nat) (xs : List Ac) (a1 a2 : Int) (w : World) (hn : xs.length = n) (hm : n ≤ maxLen) (h : Acts w A xs) :
    Calls Try.prog 3 #[.slice A n c, .int .i64 a1, .int .i64 a2] w fun e w' => e = .returned (.bool true) ∧ Below w.heap.size w w' := aimTells_any arOk arMore A n c xs a1 a2 w hn hm h
theorem aimHides_here (A : Option Addr) (n c : Nat) (xs : List Ac) (a1 a2 : Int) (w : World) (hn : xs.length = n) (hm : n ≤ maxLen) (h : Acts w A xs) :
    Calls Try.prog 4 #[.slice A n c, .int .i64 a1, .int .i64 a2] w fun e w' => e = .returned (.bool true) ∧ Below w.heap.size w w' := aimHides_any arOk arMore A n c xs a1 a2 w hn hm h
theorem aimHolds_here (A : Option Addr) (n c : Nat) (xs : List Ac) (a1 a2 : Int) (w : World) (hn : xs.length = n) (hm : n ≤ maxLen) (h : Acts w A xs) :
    Calls Try.prog 5 #[.slice A n c, .int .i64 a1, .int .i64 a2] w fun e w' => e = .returned (.bool true) ∧ Below w.heap.size w w' := aimHolds_any arOk arMore A n c xs a1 a2 w hn hm h
end Go.Proofs.Ytegdhfdehcidhaa

namespace Go.Proofs.Ytegdhfdehcidhaa
open Go.ChangeShapes Go.WideShapes Go.ChangeAt Go.RowKit

theorem own : ownKnob Try.prog.godebug = none := by kernel_rfl
theorem laidOut : laidOutB Try.prog = true := by kernel_rfl
theorem ib {a : Int} (h : (Lit.int .i64 a).wf = true) : -9223372036854775808 ≤ a ∧ a ≤ 9223372036854775807 := by
  have h1 : IntKind.i64.min = -9223372036854775808 := rfl
  have h2 : IntKind.i64.max = 9223372036854775807 := rfl
  simp only [Lit.wf, Bool.and_eq_true, decide_eq_true_eq, h1, h2] at h
  exact h
theorem ib8 {a : Int} (h : (Lit.int .u8 a).wf = true) : 0 ≤ a ∧ a ≤ 255 := by
  have h1 : IntKind.u8.min = 0 := rfl
  have h2 : IntKind.u8.max = 255 := rfl
  simp only [Lit.wf, Bool.and_eq_true, decide_eq_true_eq, h1, h2] at h
  exact h
theorem ib16 {a : Int} (h : (Lit.int .u16 a).wf = true) : 0 ≤ a ∧ a ≤ 65535 := by
  have h1 : IntKind.u16.min = 0 := rfl
  have h2 : IntKind.u16.max = 65535 := rfl
  simp only [Lit.wf, Bool.and_eq_true, decide_eq_true_eq, h1, h2] at h
  exact h
end Go.Proofs.Ytegdhfdehcidhaa

namespace Go.Proofs.Ytegdhfdehcidhaa
open Go.ChangeShapes Go.WideShapes Go.ChangeAt Go.RowKit
open Go.ChangeMaps (open_string shut_string)

set_option maxRecDepth 100000 in
theorem aimHolds_lifted (os : Os) (started : os.Started) (H : Type) (enc : TypeId × Value → H) :
    ReturnsInHanded {} Try.checked os 5 .any (Rows.aimHoldsSpec.pre6 enc Try.prog Try.f5 Rows.aimHoldsRow.domain false) (Rows.aimHoldsSpec.post enc Try.prog Try.f5 false true false false) := by
  refine returnsInHanded_of_change (C := Try.checked) own started (by kernel_rfl) Try.func5
    (ChangeSpec.witness6 (enc := enc) (C := Try.checked) false ⟨#[], #[.slice none 0 0, .int .i64 0, .int .i64 0], []⟩ 8 (by kernel_rfl) (by kernel_rfl) (by kernel_rfl) (by kernel_rfl)) ?_
  intro W base args ds gs before hval0 hW hcnd _
  have hval : ∀ (j : Nat) t v, Try.f5.params[j]? = some t → args[j]? = some v → Value.okWide Try.prog W .any base t v := hval0
  clear hval0 hcnd
  have hW' := hW
  obtain ⟨p, q, hA0, hV, rfl, hfz, hnd⟩ := hW
  have hA : DataW.TrodAll enc Try.prog W 0 (fun _ => true) true Try.f5.params.toList args.toList ds p := hA0
  rw [Try.params5] at hA hval
  obtain ⟨v0, vs0, d0, ds0, p0, q0, hargs, rfl, rfl, h0, r0⟩ := trodAll_cons hA
  obtain ⟨v1, vs1, d1, ds1, p1, q1, rfl, rfl, rfl, h1, r1⟩ := trodAll_cons r0
  obtain ⟨v2, vs2, d2, ds2, p2, q2, rfl, rfl, rfl, h2, r2⟩ := trodAll_cons r1
  obtain ⟨rfl, rfl, rfl⟩ := trodAll_nil r2
  obtain rfl : args = #[v0, v1, v2] := by cases args; simp_all
  obtain ⟨rfl, rfl⟩ := trodVars_none hV
  obtain ⟨A0, n0, c0, rfl⟩ := okWide_slice Try.underlying22 (hval 0 22 v0 rfl rfl)
  have k0 := h0
  have lt0 : ∀ x ∈ p0, x.block < W.heap.size := by obtain ⟨m, hm⟩ := k0; exact DataW.trod_lt m _ _ _ hm
  obtain ⟨x0, l0, y0, z0, q0x⟩ : ∃ xs : List Ac, xs.length = n0 ∧ Acts W A0 xs ∧ n0 ≤ c0 ∧ n0 ≤ maxLen := by
    obtain ⟨fuel, hf⟩ := h0
    exact acts_in hf
  obtain ⟨a1, rfl, rfl, rfl, w1⟩ := open_int Try.underlying3 (hval 1 3 v1 rfl rfl) h1
  obtain ⟨a2, rfl, rfl, rfl, w2⟩ := open_int Try.underlying3 (hval 2 3 v2 rfl rfl) h2
  clear hA0
  refine (aimHolds_here A0 n0 c0 x0 a1 a2 W l0 q0x y0).mono fun e W' ⟨he, bel⟩ => ?_
  subst he
  exact ⟨_, rfl, _, _, _, [], _, [], hW', trodAll_mk1 (shut_bool Try.underlying4 _), (trodAll_cons_mk (Below.trod laidOut (by kernel_rfl) (of_decide_eq_true (by kernel_rfl)) k0 bel lt0) (trodAll_cons_mk (shut_int Try.underlying3 w1) (trodAll_cons_mk (shut_int Try.underlying3 w2) trodAll_mk0))), rfl, bel.frame _, fun h => by cases h⟩

theorem aimHolds_holds : Rows.AimHoldsSaid :=
  OpenClaim.holds_of_wide 5 Try.f5 rfl rfl rfl rfl rfl rfl rfl ⟨rfl, rfl, rfl, rfl, rfl⟩ rfl rfl rfl rfl rfl (by kernel_rfl) Try.func5 (by kernel_rfl)
    (of_decide_eq_true (by kernel_rfl)) (by unfold Func.isWrapper; rw [if_neg (by decide +kernel)]; exact ⟨rfl, rfl⟩)
    (fun os started H enc _ => aimHolds_lifted os started H enc)
end Go.Proofs.Ytegdhfdehcidhaa
