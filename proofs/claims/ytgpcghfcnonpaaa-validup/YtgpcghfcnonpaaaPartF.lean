/-
  What towncrierlaw06.awake does: it answers true.
  A forest and the document's list of the same nodes, side by side.
  What towncrierlaw06.ValidTells and ValidUp do with an arena that keeps its promises: they answer true.
  ValidTells answers true.
  Arguments that came in, opened: lists of texts and of numbers. Facts of the program that every row's proof wants.
  Proved: the law answers true for every input, and each argument reads afterwards as it read before. No condition.
-/
import Derived.Test.YtgpcghfcnonpaaaPartE
import Derived.Test.YtgpcghfcnonpaaaProg
import Derived.Test.YtgpcghfcnonpaaaChecked
import Derived.ProofKit
import Derived.OpenShut
import Derived.Test.YtgpcghfcnonpaaaRows
import Derived.ChangeOld

namespace Go.Proofs.Ytgpcghfcnonpaaa
open Go Go.RowKit

/-- A bare document. -/
def docu : Nd := ⟨1, 0, 0, 0, 0, false, ⟨#[]⟩, ⟨#[]⟩, []⟩
theorem docu_err (n : Nat) (h : n < 128) : mkErr n docu = 0 := by
  have := mkErr_rest (n := n) (k := 1) (pa := 0) (ho := 0) (sh := 0) (m := 0) (sl := false) (na := ⟨#[]⟩) (wa := ⟨#[]⟩) (ks := []) (by omega) (by omega) (by omega) (by
    rw [okName_empty empty_is, empty_is]
    simp)
  rw [if_neg (by omega)] at this
  exact this
/-- The calls of the document's example. -/
def actD : Ac := ⟨0, 0, 0, ⟨#[]⟩, docu, []⟩
def actE : Ac := ⟨0, 0, 0, ⟨#[]⟩, elem, []⟩
def actP : Ac := ⟨1, 1, 0, ⟨#[]⟩, Nd.zero, [2]⟩
def acts6 : List Ac := [actD, actE, actE, actP]
theorem acts6_small : Small acts6 := by
  unfold Small
  decide
theorem acts6_forest : forest acts6 = putL [docu, elem, elem] 1 [2] := by
  have e1 : mkL [] docu = [docu] := by
    unfold mkL
    rw [if_pos (docu_err _ (by simp))]
    rfl
  have e2 : mkL [docu] elem = [docu, elem] := by
    unfold mkL
    rw [if_pos (elem_err _ (by simp))]
    rfl
  have e3 : mkL [docu, elem] elem = [docu, elem, elem] := by
    unfold mkL
    rw [if_pos (elem_err _ (by simp))]
    rfl
  show putL (mkL (mkL (mkL [] docu) elem) elem) 1 [2] = _
  rw [e1, e2, e3]
theorem acts6_check : chkErr (forest acts6) 3 1 0 = 3 := by rw [acts6_forest]; decide +kernel
theorem acts6_host : hasB (over (forest acts6) 2) 1 = true := by rw [acts6_forest]; decide +kernel
theorem acts6_in (w : World) : Acts ((w.alloc (.cells #[.int .i64 2] 3)).alloc (.cells #[.int .i64 0, .int .i64 0, .int .i64 0, .string ⟨#[]⟩, .int .i64 1, .int .i64 0, .int .i64 0, .int .i64 0, .int .i64 0, .bool false, .string ⟨#[]⟩, .string ⟨#[]⟩, .slice none 0 0, .slice none 0 0, .int .i64 0, .int .i64 0, .int .i64 0, .string ⟨#[]⟩, .int .i64 2, .int .i64 0, .int .i64 0, .int .i64 0, .int .i64 0, .bool false, .string ⟨#[]⟩, .string ⟨#[]⟩, .slice none 0 0, .slice none 0 0, .int .i64 0, .int .i64 0, .int .i64 0, .string ⟨#[]⟩, .int .i64 2, .int .i64 0, .int .i64 0, .int .i64 0, .int .i64 0, .bool false, .string ⟨#[]⟩, .string ⟨#[]⟩, .slice none 0 0, .slice none 0 0, .int .i64 1, .int .i64 1, .int .i64 0, .string ⟨#[]⟩, .int .i64 0, .int .i64 0, .int .i64 0, .int .i64 0, .int .i64 0, .bool false, .string ⟨#[]⟩, .string ⟨#[]⟩, .slice none 0 0, .slice (some ⟨w.heap.size, 0, none⟩) 1 1] 44)) (some ⟨w.heap.size + 1, 0, none⟩) acts6 := by
  have h1 : Has ((w.alloc (.cells #[.int .i64 2] 3)).alloc (.cells #[.int .i64 0, .int .i64 0, .int .i64 0, .string ⟨#[]⟩, .int .i64 1, .int .i64 0, .int .i64 0, .int .i64 0, .int .i64 0, .bool false, .string ⟨#[]⟩, .string ⟨#[]⟩, .slice none 0 0, .slice none 0 0, .int .i64 0, .int .i64 0, .int .i64 0, .string ⟨#[]⟩, .int .i64 2, .int .i64 0, .int .i64 0, .int .i64 0, .int .i64 0, .bool false, .string ⟨#[]⟩, .string ⟨#[]⟩, .slice none 0 0, .slice none 0 0, .int .i64 0, .int .i64 0, .int .i64 0, .string ⟨#[]⟩, .int .i64 2, .int .i64 0, .int .i64 0, .int .i64 0, .int .i64 0, .bool false, .string ⟨#[]⟩, .string ⟨#[]⟩, .slice none 0 0, .slice none 0 0, .int .i64 1, .int .i64 1, .int .i64 0, .string ⟨#[]⟩, .int .i64 0, .int .i64 0, .int .i64 0, .int .i64 0, .int .i64 0, .bool false, .string ⟨#[]⟩, .string ⟨#[]⟩, .slice none 0 0, .slice (some ⟨w.heap.size, 0, none⟩) 1 1] 44)) w.heap.size (.cells #[.int .i64 2] 3 (0, 0)) := (Has.fresh _ _).more _
  have h2 : Has ((w.alloc (.cells #[.int .i64 2] 3)).alloc (.cells #[.int .i64 0, .int .i64 0, .int .i64 0, .string ⟨#[]⟩, .int .i64 1, .int .i64 0, .int .i64 0, .int .i64 0, .int .i64 0, .bool false, .string ⟨#[]⟩, .string ⟨#[]⟩, .slice none 0 0, .slice none 0 0, .int .i64 0, .int .i64 0, .int .i64 0, .string ⟨#[]⟩, .int .i64 2, .int .i64 0, .int .i64 0, .int .i64 0, .int .i64 0, .bool false, .string ⟨#[]⟩, .string ⟨#[]⟩, .slice none 0 0, .slice none 0 0, .int .i64 0, .int .i64 0, .int .i64 0, .string ⟨#[]⟩, .int .i64 2, .int .i64 0, .int .i64 0, .int .i64 0, .int .i64 0, .bool false, .string ⟨#[]⟩, .string ⟨#[]⟩, .slice none 0 0, .slice none 0 0, .int .i64 1, .int .i64 1, .int .i64 0, .string ⟨#[]⟩, .int .i64 0, .int .i64 0, .int .i64 0, .int .i64 0, .int .i64 0, .bool false, .string ⟨#[]⟩, .string ⟨#[]⟩, .slice none 0 0, .slice (some ⟨w.heap.size, 0, none⟩) 1 1] 44)) (w.heap.size + 1) (.cells #[.int .i64 0, .int .i64 0, .int .i64 0, .string ⟨#[]⟩, .int .i64 1, .int .i64 0, .int .i64 0, .int .i64 0, .int .i64 0, .bool false, .string ⟨#[]⟩, .string ⟨#[]⟩, .slice none 0 0, .slice none 0 0, .int .i64 0, .int .i64 0, .int .i64 0, .string ⟨#[]⟩, .int .i64 2, .int .i64 0, .int .i64 0, .int .i64 0, .int .i64 0, .bool false, .string ⟨#[]⟩, .string ⟨#[]⟩, .slice none 0 0, .slice none 0 0, .int .i64 0, .int .i64 0, .int .i64 0, .string ⟨#[]⟩, .int .i64 2, .int .i64 0, .int .i64 0, .int .i64 0, .int .i64 0, .bool false, .string ⟨#[]⟩, .string ⟨#[]⟩, .slice none 0 0, .slice none 0 0, .int .i64 1, .int .i64 1, .int .i64 0, .string ⟨#[]⟩, .int .i64 0, .int .i64 0, .int .i64 0, .int .i64 0, .int .i64 0, .bool false, .string ⟨#[]⟩, .string ⟨#[]⟩, .slice none 0 0, .slice (some ⟨w.heap.size, 0, none⟩) 1 1] 44 (0, 0)) := by
    have := Has.fresh (w.alloc (.cells #[.int .i64 2] 3)) (.cells #[.int .i64 0, .int .i64 0, .int .i64 0, .string ⟨#[]⟩, .int .i64 1, .int .i64 0, .int .i64 0, .int .i64 0, .int .i64 0, .bool false, .string ⟨#[]⟩, .string ⟨#[]⟩, .slice none 0 0, .slice none 0 0, .int .i64 0, .int .i64 0, .int .i64 0, .string ⟨#[]⟩, .int .i64 2, .int .i64 0, .int .i64 0, .int .i64 0, .int .i64 0, .bool false, .string ⟨#[]⟩, .string ⟨#[]⟩, .slice none 0 0, .slice none 0 0, .int .i64 0, .int .i64 0, .int .i64 0, .string ⟨#[]⟩, .int .i64 2, .int .i64 0, .int .i64 0, .int .i64 0, .int .i64 0, .bool false, .string ⟨#[]⟩, .string ⟨#[]⟩, .slice none 0 0, .slice none 0 0, .int .i64 1, .int .i64 1, .int .i64 0, .string ⟨#[]⟩, .int .i64 0, .int .i64 0, .int .i64 0, .int .i64 0, .int .i64 0, .bool false, .string ⟨#[]⟩, .string ⟨#[]⟩, .slice none 0 0, .slice (some ⟨w.heap.size, 0, none⟩) 1 1] 44)
    rw [show (w.alloc (.cells #[.int .i64 2] 3)).heap.size = w.heap.size + 1 by simp] at this
    exact this
  have h3 := acts_lit (rows := [(actD, (none, 0), none, 0), (actE, (none, 0), none, 0), (actE, (none, 0), none, 0), (actP, (none, 0), some ⟨w.heap.size, 0, none⟩, 1)]) h2 (by
    intro r hr
    have eD : ListIn ((w.alloc (.cells #[.int .i64 2] 3)).alloc (.cells #[.int .i64 0, .int .i64 0, .int .i64 0, .string ⟨#[]⟩, .int .i64 1, .int .i64 0, .int .i64 0, .int .i64 0, .int .i64 0, .bool false, .string ⟨#[]⟩, .string ⟨#[]⟩, .slice none 0 0, .slice none 0 0, .int .i64 0, .int .i64 0, .int .i64 0, .string ⟨#[]⟩, .int .i64 2, .int .i64 0, .int .i64 0, .int .i64 0, .int .i64 0, .bool false, .string ⟨#[]⟩, .string ⟨#[]⟩, .slice none 0 0, .slice none 0 0, .int .i64 0, .int .i64 0, .int .i64 0, .string ⟨#[]⟩, .int .i64 2, .int .i64 0, .int .i64 0, .int .i64 0, .int .i64 0, .bool false, .string ⟨#[]⟩, .string ⟨#[]⟩, .slice none 0 0, .slice none 0 0, .int .i64 1, .int .i64 1, .int .i64 0, .string ⟨#[]⟩, .int .i64 0, .int .i64 0, .int .i64 0, .int .i64 0, .int .i64 0, .bool false, .string ⟨#[]⟩, .string ⟨#[]⟩, .slice none 0 0, .slice (some ⟨w.heap.size, 0, none⟩) 1 1] 44)) none 0 actD.n.kids ∧ ActIn ((w.alloc (.cells #[.int .i64 2] 3)).alloc (.cells #[.int .i64 0, .int .i64 0, .int .i64 0, .string ⟨#[]⟩, .int .i64 1, .int .i64 0, .int .i64 0, .int .i64 0, .int .i64 0, .bool false, .string ⟨#[]⟩, .string ⟨#[]⟩, .slice none 0 0, .slice none 0 0, .int .i64 0, .int .i64 0, .int .i64 0, .string ⟨#[]⟩, .int .i64 2, .int .i64 0, .int .i64 0, .int .i64 0, .int .i64 0, .bool false, .string ⟨#[]⟩, .string ⟨#[]⟩, .slice none 0 0, .slice none 0 0, .int .i64 0, .int .i64 0, .int .i64 0, .string ⟨#[]⟩, .int .i64 2, .int .i64 0, .int .i64 0, .int .i64 0, .int .i64 0, .bool false, .string ⟨#[]⟩, .string ⟨#[]⟩, .slice none 0 0, .slice none 0 0, .int .i64 1, .int .i64 1, .int .i64 0, .string ⟨#[]⟩, .int .i64 0, .int .i64 0, .int .i64 0, .int .i64 0, .int .i64 0, .bool false, .string ⟨#[]⟩, .string ⟨#[]⟩, .slice none 0 0, .slice (some ⟨w.heap.size, 0, none⟩) 1 1] 44)) actD none 0 := ⟨listNone _, Nat.zero_le _, Nat.zero_le _, Nat.zero_le _, Nat.le_refl _, fun _ => rfl, (listNone _).nums⟩
    have eE : ListIn ((w.alloc (.cells #[.int .i64 2] 3)).alloc (.cells #[.int .i64 0, .int .i64 0, .int .i64 0, .string ⟨#[]⟩, .int .i64 1, .int .i64 0, .int .i64 0, .int .i64 0, .int .i64 0, .bool false, .string ⟨#[]⟩, .string ⟨#[]⟩, .slice none 0 0, .slice none 0 0, .int .i64 0, .int .i64 0, .int .i64 0, .string ⟨#[]⟩, .int .i64 2, .int .i64 0, .int .i64 0, .int .i64 0, .int .i64 0, .bool false, .string ⟨#[]⟩, .string ⟨#[]⟩, .slice none 0 0, .slice none 0 0, .int .i64 0, .int .i64 0, .int .i64 0, .string ⟨#[]⟩, .int .i64 2, .int .i64 0, .int .i64 0, .int .i64 0, .int .i64 0, .bool false, .string ⟨#[]⟩, .string ⟨#[]⟩, .slice none 0 0, .slice none 0 0, .int .i64 1, .int .i64 1, .int .i64 0, .string ⟨#[]⟩, .int .i64 0, .int .i64 0, .int .i64 0, .int .i64 0, .int .i64 0, .bool false, .string ⟨#[]⟩, .string ⟨#[]⟩, .slice none 0 0, .slice (some ⟨w.heap.size, 0, none⟩) 1 1] 44)) none 0 actE.n.kids ∧ ActIn ((w.alloc (.cells #[.int .i64 2] 3)).alloc (.cells #[.int .i64 0, .int .i64 0, .int .i64 0, .string ⟨#[]⟩, .int .i64 1, .int .i64 0, .int .i64 0, .int .i64 0, .int .i64 0, .bool false, .string ⟨#[]⟩, .string ⟨#[]⟩, .slice none 0 0, .slice none 0 0, .int .i64 0, .int .i64 0, .int .i64 0, .string ⟨#[]⟩, .int .i64 2, .int .i64 0, .int .i64 0, .int .i64 0, .int .i64 0, .bool false, .string ⟨#[]⟩, .string ⟨#[]⟩, .slice none 0 0, .slice none 0 0, .int .i64 0, .int .i64 0, .int .i64 0, .string ⟨#[]⟩, .int .i64 2, .int .i64 0, .int .i64 0, .int .i64 0, .int .i64 0, .bool false, .string ⟨#[]⟩, .string ⟨#[]⟩, .slice none 0 0, .slice none 0 0, .int .i64 1, .int .i64 1, .int .i64 0, .string ⟨#[]⟩, .int .i64 0, .int .i64 0, .int .i64 0, .int .i64 0, .int .i64 0, .bool false, .string ⟨#[]⟩, .string ⟨#[]⟩, .slice none 0 0, .slice (some ⟨w.heap.size, 0, none⟩) 1 1] 44)) actE none 0 := ⟨listNone _, Nat.zero_le _, Nat.zero_le _, Nat.zero_le _, Nat.le_refl _, fun _ => rfl, (listNone _).nums⟩
    have eP : ListIn ((w.alloc (.cells #[.int .i64 2] 3)).alloc (.cells #[.int .i64 0, .int .i64 0, .int .i64 0, .string ⟨#[]⟩, .int .i64 1, .int .i64 0, .int .i64 0, .int .i64 0, .int .i64 0, .bool false, .string ⟨#[]⟩, .string ⟨#[]⟩, .slice none 0 0, .slice none 0 0, .int .i64 0, .int .i64 0, .int .i64 0, .string ⟨#[]⟩, .int .i64 2, .int .i64 0, .int .i64 0, .int .i64 0, .int .i64 0, .bool false, .string ⟨#[]⟩, .string ⟨#[]⟩, .slice none 0 0, .slice none 0 0, .int .i64 0, .int .i64 0, .int .i64 0, .string ⟨#[]⟩, .int .i64 2, .int .i64 0, .int .i64 0, .int .i64 0, .int .i64 0, .bool false, .string ⟨#[]⟩, .string ⟨#[]⟩, .slice none 0 0, .slice none 0 0, .int .i64 1, .int .i64 1, .int .i64 0, .string ⟨#[]⟩, .int .i64 0, .int .i64 0, .int .i64 0, .int .i64 0, .int .i64 0, .bool false, .string ⟨#[]⟩, .string ⟨#[]⟩, .slice none 0 0, .slice (some ⟨w.heap.size, 0, none⟩) 1 1] 44)) none 0 actP.n.kids ∧ ActIn ((w.alloc (.cells #[.int .i64 2] 3)).alloc (.cells #[.int .i64 0, .int .i64 0, .int .i64 0, .string ⟨#[]⟩, .int .i64 1, .int .i64 0, .int .i64 0, .int .i64 0, .int .i64 0, .bool false, .string ⟨#[]⟩, .string ⟨#[]⟩, .slice none 0 0, .slice none 0 0, .int .i64 0, .int .i64 0, .int .i64 0, .string ⟨#[]⟩, .int .i64 2, .int .i64 0, .int .i64 0, .int .i64 0, .int .i64 0, .bool false, .string ⟨#[]⟩, .string ⟨#[]⟩, .slice none 0 0, .slice none 0 0, .int .i64 0, .int .i64 0, .int .i64 0, .string ⟨#[]⟩, .int .i64 2, .int .i64 0, .int .i64 0, .int .i64 0, .int .i64 0, .bool false, .string ⟨#[]⟩, .string ⟨#[]⟩, .slice none 0 0, .slice none 0 0, .int .i64 1, .int .i64 1, .int .i64 0, .string ⟨#[]⟩, .int .i64 0, .int .i64 0, .int .i64 0, .int .i64 0, .int .i64 0, .bool false, .string ⟨#[]⟩, .string ⟨#[]⟩, .slice none 0 0, .slice (some ⟨w.heap.size, 0, none⟩) 1 1] 44)) actP (some ⟨w.heap.size, 0, none⟩) 1 := ⟨listNone _, Nat.zero_le _, Nat.zero_le _, Nat.zero_le _, Nat.le_refl _, (fun e => by cases e), (listLit (xs := [2]) h1).nums⟩
    simp only [List.mem_cons, List.not_mem_nil, or_false] at hr
    rcases hr with rfl | rfl | rfl | rfl
    · exact eD
    · exact eE
    · exact eE
    · exact eP)
  exact h3

section
variable {Rep : (Nat → Prop) → World → Nat → List Nd → Prop}
set_option maxHeartbeats 4000000 in
set_option maxRecDepth 100000 in
theorem awake6_any (O : ForestOk Rep) (M : ForestMore Rep) (w : World) : Calls Try.prog 5 #[] w fun e w' => e = .returned (.bool true) ∧ Below w.heap.size w w' := by
  have HA := Lib.hid (acts6_in w)
  have HB : Hid (Below w.heap.size w ((w.alloc (.cells #[.int .i64 2] 3)).alloc (.cells #[.int .i64 0, .int .i64 0, .int .i64 0, .string ⟨#[]⟩, .int .i64 1, .int .i64 0, .int .i64 0, .int .i64 0, .int .i64 0, .bool false, .string ⟨#[]⟩, .string ⟨#[]⟩, .slice none 0 0, .slice none 0 0, .int .i64 0, .int .i64 0, .int .i64 0, .string ⟨#[]⟩, .int .i64 2, .int .i64 0, .int .i64 0, .int .i64 0, .int .i64 0, .bool false, .string ⟨#[]⟩, .string ⟨#[]⟩, .slice none 0 0, .slice none 0 0, .int .i64 0, .int .i64 0, .int .i64 0, .string ⟨#[]⟩, .int .i64 2, .int .i64 0, .int .i64 0, .int .i64 0, .int .i64 0, .bool false, .string ⟨#[]⟩, .string ⟨#[]⟩, .slice none 0 0, .slice none 0 0, .int .i64 1, .int .i64 1, .int .i64 0, .string ⟨#[]⟩, .int .i64 0, .int .i64 0, .int .i64 0, .int .i64 0, .int .i64 0, .bool false, .string ⟨#[]⟩, .string ⟨#[]⟩, .slice none 0 0, .slice (some ⟨w.heap.size, 0, none⟩) 1 1] 44))) := Lib.hid (((Below.refl _ w).alloc (Nat.le_refl _) _).alloc (by simp) _)
  have Hg := Lib.hid (good_forest acts6_small)
  have H1 := Lib.hid acts6_check
  have H2 := Lib.hid acts6_host
  obtain ⟨l, hl⟩ : ∃ l, l = forest acts6 := ⟨_, rfl⟩
  have HL := Lib.hid hl
  rw [← hl] at H1 H2 Hg
  clear hl
  go_enter Try.func5, Try.ntmps5
  go_wp2_with fail
  refine (built_any O _ 4 4 acts6 _ rfl HA.out acts6_small).mono ?_
  rintro e w1 ⟨b, rfl, hR, hb1⟩
  rw [← HL.out] at hR
  have HB1 := Lib.hid (HB.out.trans (hb1.mono HB.out.size))
  have HR := Lib.hid hR
  clear hR hb1 HB HA HL
  go_wp2_with fail
  refine (vaCheck O M 3 1 0 HR.out Hg.out).mono ?_
  rintro e w2 ⟨rfl, hb2⟩
  rw [H1.out]
  have HB2 := Lib.hid (HB1.out.trans (hb2.mono HB1.out.size))
  have HR2 := Lib.hid (O.since HR.out hb2)
  clear hb2
  go_wp2_with fail
  refine (vaHost O M 1 2 HR2.out Hg.out).mono ?_
  rintro e w3 ⟨rfl, hb3⟩
  rw [H2.out]
  have HB3 := Lib.hid (HB2.out.trans (hb3.mono HB2.out.size))
  clear hb3
  go_wp2
  go_ret
  exact ⟨rfl, HB3.out⟩
end
end Go.Proofs.Ytgpcghfcnonpaaa

namespace Go.Proofs.Ytgpcghfcnonpaaa
open Go Go.RowKit

/-- A forest and a list of the same nodes. -/
structure Two (Rep : (Nat → Prop) → World → Nat → List Nd → Prop) (w : World) (b : Nat) (A : Option Addr) (c : Nat) (l : List Nd) (v : World) : Prop where
  rep : Rep (fun _ => True) v b l
  nodes : Nodes (fun _ => True) v 0 A c l
  below : Below w.heap.size w v
section
variable {Rep : (Nat → Prop) → World → Nat → List Nd → Prop} {w v v' : World} {b : Nat} {A : Option Addr} {c : Nat} {l : List Nd}
theorem Two.next (O : ForestOk Rep) (h : Two Rep w b A c l v) (hb : Below v.heap.size v v') : Two Rep w b A c l v' := ⟨O.since h.rep hb, h.nodes.below hb, h.below.trans (hb.mono h.below.size)⟩
theorem sameInts_self (xs : List Int) : sameInts xs xs = true := decide_eq_true rfl
/-- A forest, and what is below it. -/
structure One (Rep : (Nat → Prop) → World → Nat → List Nd → Prop) (w : World) (b : Nat) (l : List Nd) (v : World) : Prop where
  rep : Rep (fun _ => True) v b l
  below : Below w.heap.size w v
theorem One.next (O : ForestOk Rep) {w v v' : World} {b : Nat} {l : List Nd} (h : One Rep w b l v) (hb : Below v.heap.size v v') : One Rep w b l v' := ⟨O.since h.rep hb, h.below.trans (hb.mono h.below.size)⟩
end
end Go.Proofs.Ytgpcghfcnonpaaa

namespace Go.Proofs.Ytgpcghfcnonpaaa
open Go Go.RowKit

section
variable {Rep : (Nat → Prop) → World → Nat → List Nd → Prop}
set_option maxHeartbeats 8000000 in
set_option maxRecDepth 100000 in
theorem validTells_any (O : ForestOk Rep) (M : ForestMore Rep) (A : Option Addr) (n c : Nat) (xs : List Ac) (a a2 a3 : Int) (w : World) (hn : xs.length = n) (hm : n ≤ maxLen) (h : Acts w A xs) :
    Calls Try.prog 3 #[.slice A n c, .int .i64 a, .int .i64 a2, .int .i64 a3] w fun e w' => e = .returned (.bool true) ∧ Below w.heap.size w w' := by
  have hnot : ∀ (x : Bool) (w : World), (Op.unary .not (.bool x)).run Try.prog w = .ok (.bool (!x)) w := fun _ _ => rfl
  have H := Lib.hid h
  have Hn := Lib.hid hn
  have Hm := Lib.hid hm
  clear h hn hm
  go_enter Try.func3, Try.ntmps3
  go_wp2_with fail
  refine (awake6_any O M w).mono ?_
  rintro e w0 ⟨rfl, hb0⟩
  go_wp2_with fail
  refine (great_any A n c xs w0 Hn.out Hm.out (H.out.below hb0)).mono ?_
  rintro e w1 ⟨⟨gr, rfl, hgr⟩, rfl⟩
  cases gr with
  | true =>
    go_wp2
    go_ret
    exact ⟨rfl, hb0⟩
  | false =>
    have Hs := Lib.hid (hgr rfl)
    have Hb0 := Lib.hid hb0
    clear hgr hb0
    go_wp2_with fail
    refine (built_any O A n c xs w0 Hn.out (H.out.below Hb0.out) Hs.out).mono ?_
    rintro e w1 ⟨b, rfl, hR, hb1⟩
    have hB1 := Hb0.out.trans (hb1.mono Hb0.out.size)
    have HB1 := Lib.hid hB1
    have HR := Lib.hid (O.wide hR (S' := fun _ => True) fun _ _ _ => trivial)
    clear hR hb1 hB1 Hb0
    go_wp2_with fail
    refine (refNodes A n c xs w1 Hn.out (H.out.below HB1.out) Hs.out).mono ?_
    rintro e w2 ⟨A2, c2, rfl, hN, hb2⟩
    have Hg := Lib.hid (good_forest Hs.out)
    obtain ⟨l, hl⟩ : ∃ l, l = forest xs := ⟨_, rfl⟩
    rw [← hl] at hN HR Hg
    rw [← hl]
    have hT2 : Two Rep w b A2 c2 l w2 := ⟨O.since HR.out hb2, hN.wide fun _ _ _ => trivial, HB1.out.trans (hb2.mono HB1.out.size)⟩
    have T2 := Lib.hid hT2
    clear hN hb2 HR HB1 Hs H Hn hl hT2
    go_wp2_with fail
    refine (vaHost O M a a2 T2.out.rep Hg.out).mono ?_
    rintro e w3 ⟨rfl, hb3⟩
    have T3 := Lib.hid (T2.out.next O hb3)
    clear hb3 T2
    go_wp2_with fail
    refine (rfHost a a2 Hg.out T3.out.nodes).mono ?_
    rintro e w4 ⟨rfl, hb4⟩
    have T4 := Lib.hid (T3.out.next O hb4)
    clear hb4 T3
    go_wp2_with fail
    refine (vaCheck O M a a2 a3 T4.out.rep Hg.out).mono ?_
    rintro e w5 ⟨rfl, hb5⟩
    have T5 := Lib.hid (T4.out.next O hb5)
    clear hb5 T4
    go_wp2_with fail
    refine (rfCheck a a2 a3 Hg.out T5.out.nodes).mono ?_
    rintro e w6 ⟨rfl, hb6⟩
    have T6 := Lib.hid (T5.out.next O hb6)
    clear hb6 T5
    go_wp2_with fail
    refine (O.all _ w6 b l T6.out.rep Hg.out).mono ?_
    rintro e w7 ⟨A7, c7, rfl, hN7, hb7⟩
    have T7 := Lib.hid (T6.out.next O hb7)
    have N7 := Lib.hid (hN7.wide (G' := fun _ => True) fun _ _ _ => trivial)
    clear hb7 T6 hN7
    go_wp2_with fail
    refine (same_any l l A7 A2 c7 c2 _ 0 w7 (Nat.le_trans Hg.out.len (by decide)) (fun d hd => Nat.le_trans (Hg.out.few d hd) (by decide)) N7.out T7.out.nodes).mono ?_
    rintro e w8 ⟨rfl, hb8⟩
    rw [sameL_refl]
    have T8 := Lib.hid (T7.out.next O hb8)
    clear hb8 T7
    go_wp2
    go_ret
    exact ⟨rfl, T8.out.below⟩

theorem over_there {l : List Nd} {i x : Int} (h : x ∈ over l i) : thereB l x = true := up_there _ i x h
theorem chk_self {l : List Nd} (T : Tree l) {a : Int} (h : thereB l a = true) : chkErr l a a 0 = 3 := by
  rw [chk_on (by rw [h]; simp), if_pos (hasB_yes (over_self T h))]
theorem over_shade {l : List Nd} (T : Tree l) {a : Int} (h : thereB l a = true) (hs : (nd l a).shadow ≠ 0) : a ∈ over l (nd l a).shadow := by
  obtain ⟨h1, h2, h3⟩ := T.shade a h hs
  have hp := T.bare _ h1 (.inr h3)
  have e : upOf l (nd l a).shadow = a := (if_pos hp).trans h2
  rw [over_step T h1, e]
  exact List.mem_cons_of_mem _ (over_self T h)
theorem chk_shade {l : List Nd} (T : Tree l) {a : Int} (h : thereB l a = true) (hs : (nd l a).shadow ≠ 0) : chkErr l a (nd l a).shadow 0 = 3 := by
  rw [chk_on (by rw [h, (T.shade a h hs).1]; simp), if_pos (hasB_yes (over_shade T h hs))]

set_option maxHeartbeats 8000000 in
set_option maxRecDepth 100000 in
theorem validUp_any (O : ForestOk Rep) (M : ForestMore Rep) (A : Option Addr) (n c : Nat) (xs : List Ac) (a a2 : Int) (w : World) (hn : xs.length = n) (hm : n ≤ maxLen) (h : Acts w A xs) :
    Calls Try.prog 4 #[.slice A n c, .int .i64 a, .int .i64 a2] w fun e w' => e = .returned (.bool true) ∧ Below w.heap.size w w' := by
  have hnot : ∀ (x : Bool) (w : World), (Op.unary .not (.bool x)).run Try.prog w = .ok (.bool (!x)) w := fun _ _ => rfl
  have H := Lib.hid h
  have Hn := Lib.hid hn
  have Hm := Lib.hid hm
  clear h hn hm
  go_enter Try.func4, Try.ntmps4
  go_wp2_with fail
  refine (awake6_any O M w).mono ?_
  rintro e w0 ⟨rfl, hb0⟩
  go_wp2_with fail
  refine (great_any A n c xs w0 Hn.out Hm.out (H.out.below hb0)).mono ?_
  rintro e w1 ⟨⟨gr, rfl, hgr⟩, rfl⟩
  cases gr with
  | true =>
    go_wp2
    go_ret
    exact ⟨rfl, hb0⟩
  | false =>
    have Hs := Lib.hid (hgr rfl)
    have Hb0 := Lib.hid hb0
    clear hgr hb0
    go_wp2_with fail
    refine (built_any O A n c xs w0 Hn.out (H.out.below Hb0.out) Hs.out).mono ?_
    rintro e w1 ⟨b, rfl, hR, hb1⟩
    have Hg := Lib.hid (good_forest Hs.out)
    obtain ⟨l, hl⟩ : ∃ l, l = forest xs := ⟨_, rfl⟩
    rw [← hl] at hR Hg
    have hO1 : One Rep w b l w1 := ⟨O.wide hR (S' := fun _ => True) fun _ _ _ => trivial, Hb0.out.trans (hb1.mono Hb0.out.size)⟩
    have T1 := Lib.hid hO1
    clear hR hb1 hO1 Hb0 hl Hs H Hn
    cases ht : thereB l a with
    | false =>
      have e1 : chkErr l a a2 0 = 1 := chk_arg (.inl ht)
      have e2 : hasB (over l a2) a = false := hasB_no fun hx => by rw [over_there hx] at ht; cases ht
      have Ht := Lib.hid ht
      have E1 := Lib.hid e1
      have E2 := Lib.hid e2
      clear ht e1 e2
      go_wp2_with fail
      refine (nodeNo M T1.out.rep Hg.out Ht.out).mono ?_
      rintro e w2 ⟨A2, c2, rfl, -, hb2⟩
      have hb3 : Below w1.heap.size w1 (w2.alloc (.cells #[.int .i64 0, .int .i64 0, .int .i64 0, .int .i64 0, .int .i64 0, .bool false, .string ⟨#[]⟩, .string ⟨#[]⟩, .slice A2 0 c2] 39)) := hb2.alloc hb2.size _
      have T2 := Lib.hid (T1.out.next O hb3)
      clear hb2 hb3
      go_wp2_with fail
      refine (vaCheck O M a a2 0 T2.out.rep Hg.out).mono ?_
      rintro e w3 ⟨rfl, hb3⟩
      rw [E1.out]
      have T3 := Lib.hid (T2.out.next O hb3)
      clear hb3
      go_wp2_with fail
      refine (vaHost O M a a2 T3.out.rep Hg.out).mono ?_
      rintro e w4 ⟨rfl, hb4⟩
      rw [E2.out]
      have T4 := Lib.hid (T3.out.next O hb4)
      clear hb4
      go_wp2
      go_ret
      exact ⟨rfl, T4.out.below⟩
    | true =>
      have E1 := Lib.hid (chk_self Hg.out.tree ht)
      have E2 := Lib.hid (hasB_yes (over_self Hg.out.tree ht))
      have E3 := Lib.hid (chk_shade Hg.out.tree ht)
      have E4 := Lib.hid (over_shade Hg.out.tree ht)
      have Ht := Lib.hid ht
      clear ht
      go_wp2_with fail
      refine (nodeYes M T1.out.rep Hg.out Ht.out).mono ?_
      rintro e w2 ⟨A2, c2, rfl, -, hb2⟩
      obtain ⟨d, hd⟩ : ∃ d, d = nd l a := ⟨_, rfl⟩
      rw [← hd] at E3 E4
      rw [← hd]
      have hb3 : Below w1.heap.size w1 (w2.alloc (.cells #[.int .i64 d.kind, .int .i64 d.parent, .int .i64 d.host, .int .i64 d.shadow, .int .i64 d.mode, .bool d.slot, .string d.name, .string d.want, .slice A2 d.kids.length c2] 39)) := hb2.alloc hb2.size _
      have hX : Has (w2.alloc (.cells #[.int .i64 d.kind, .int .i64 d.parent, .int .i64 d.host, .int .i64 d.shadow, .int .i64 d.mode, .bool d.slot, .string d.name, .string d.want, .slice A2 d.kids.length c2] 39)) w2.heap.size (.cells #[.int .i64 d.kind, .int .i64 d.parent, .int .i64 d.host, .int .i64 d.shadow, .int .i64 d.mode, .bool d.slot, .string d.name, .string d.want, .slice A2 d.kids.length c2] 39 (0, 0)) := Has.fresh _ _
      have X2 := Lib.hid hX
      have T2 := Lib.hid (T1.out.next O hb3)
      clear hb2 hb3 hX hd
      go_wp2_with fail
      refine (vaHost O M a a T2.out.rep Hg.out).mono ?_
      rintro e w3 ⟨rfl, hb3⟩
      rw [E2.out]
      have T3 := Lib.hid (T2.out.next O hb3)
      have X3 := Lib.hid (X2.out.below hb3 X2.out.inside)
      clear hb3 X2
      go_wp2_with fail
      refine (vaCheck O M a a 0 T3.out.rep Hg.out).mono ?_
      rintro e w4 ⟨rfl, hb4⟩
      rw [E1.out]
      have T4 := Lib.hid (T3.out.next O hb4)
      have X4 := Lib.hid (X3.out.below hb4 X3.out.inside)
      have x4 : w4.cell? ⟨w2.heap.size, 3, none⟩ = some (.int .i64 d.shadow) := X4.out.cell 3
      clear hb4 X3
      by_cases h0 : d.shadow = 0
      · have z0 : (d.shadow == 0) = true := by simpa using h0
        clear h0
        go_wp2
        go_ret
        exact ⟨rfl, T4.out.below⟩
      · have z0 : (d.shadow == 0) = false := by simpa using h0
        have E5 := Lib.hid (E3.out h0)
        have E6 := Lib.hid (hasB_yes (E4.out h0))
        clear h0 E3 E4
        go_wp2_with fail
        refine (vaHost O M a d.shadow T4.out.rep Hg.out).mono ?_
        rintro e w5 ⟨rfl, hb5⟩
        rw [E6.out]
        have T5 := Lib.hid (T4.out.next O hb5)
        have x5 : w5.cell? ⟨w2.heap.size, 3, none⟩ = some (.int .i64 d.shadow) := (X4.out.below hb5 X4.out.inside).cell 3
        clear hb5 x4
        go_wp2_with fail
        refine (vaCheck O M a d.shadow 0 T5.out.rep Hg.out).mono ?_
        rintro e w6 ⟨rfl, hb6⟩
        rw [E5.out]
        have T6 := Lib.hid (T5.out.next O hb6)
        clear hb6 x5
        go_wp2
        go_ret
        exact ⟨rfl, T6.out.below⟩
end
end Go.Proofs.Ytgpcghfcnonpaaa

namespace Go.Proofs.Ytgpcghfcnonpaaa
open Go Go.RowKit
theorem validTells_here (A : Option Addr) (n c : Nat) (xs : List Ac) (a a2 a3 : Int) (w : World) (hn : xs.length = n) (hm : n ≤ maxLen) (h : Acts w A xs) :
    Calls Try.prog 3 #[.slice A n c, .int .i64 a, .int .i64 a2, .int .i64 a3] w fun e w' => e = .returned (.bool true) ∧ Below w.heap.size w w' := validTells_any arOk arMore A n c xs a a2 a3 w hn hm h
theorem validUp_here (A : Option Addr) (n c : Nat) (xs : List Ac) (a a2 : Int) (w : World) (hn : xs.length = n) (hm : n ≤ maxLen) (h : Acts w A xs) :
    Calls Try.prog 4 #[.slice A n c, .int .i64 a, .int .i64 a2] w fun e w' => e = .returned (.bool true) ∧ Below w.heap.size w w' := validUp_any arOk arMore A n c xs a a2 w hn hm h
end Go.Proofs.Ytgpcghfcnonpaaa

namespace Go.Proofs.Ytgpcghfcnonpaaa
open Go.ChangeShapes Go.WideShapes Go.ChangeAt Go.RowKit

theorem own : ownKnob Try.prog.godebug = none := by kernel_rfl
theorem laidOut : laidOutB Try.prog = true := by kernel_rfl
theorem ib {a : Int} (h : (Lit.int .i64 a).wf = true) : -9223372036854775808 ≤ a ∧ a ≤ 9223372036854775807 := by
  have h1 : IntKind.i64.min = -9223372036854775808 := rfl
  have h2 : IntKind.i64.max = 9223372036854775807 := rfl
  simp only [Lit.wf, Bool.and_eq_true, decide_eq_true_eq, h1, h2] at h
  exact h
theorem ib8 {a : Int} (h : (Lit.int .u8 a).wf = true) : 0 ≤ a ∧ a ≤ 255 := by
  have h1 : IntKind.u8.min = 0 := rfl
  have h2 : IntKind.u8.max = 255 := rfl
  simp only [Lit.wf, Bool.and_eq_true, decide_eq_true_eq, h1, h2] at h
  exact h
theorem ib16 {a : Int} (h : (Lit.int .u16 a).wf = true) : 0 ≤ a ∧ a ≤ 65535 := by
  have h1 : IntKind.u16.min = 0 := rfl
  have h2 : IntKind.u16.max = 65535 := rfl
  simp only [Lit.wf, Bool.and_eq_true, decide_eq_true_eq, h1, h2] at h
  exact h
end Go.Proofs.Ytgpcghfcnonpaaa

namespace Go.Proofs.Ytgpcghfcnonpaaa
open Go.ChangeShapes Go.WideShapes Go.ChangeAt Go.RowKit
open Go.ChangeMaps (open_string shut_string)

set_option maxRecDepth 100000 in
theorem validUp_lifted (os : Os) (started : os.Started) (H : Type) (enc : TypeId × Value → H) :
    ReturnsInHanded {} Try.checked os 4 .any (Rows.validUpSpec.pre6 enc Try.prog Try.f4 Rows.validUpRow.domain false) (Rows.validUpSpec.post enc Try.prog Try.f4 false true false false) := by
  refine returnsInHanded_of_change (C := Try.checked) own started (by kernel_rfl) Try.func4
    (ChangeSpec.witness6 (enc := enc) (C := Try.checked) false ⟨#[], #[.slice none 0 0, .int .i64 0, .int .i64 0], []⟩ 8 (by kernel_rfl) (by kernel_rfl) (by kernel_rfl) (by kernel_rfl)) ?_
  intro W base args ds gs before hval0 hW hcnd _
  have hval : ∀ (j : Nat) t v, Try.f4.params[j]? = some t → args[j]? = some v → Value.okWide Try.prog W .any base t v := hval0
  clear hval0 hcnd
  have hW' := hW
  obtain ⟨p, q, hA0, hV, rfl, hfz, hnd⟩ := hW
  have hA : DataW.TrodAll enc Try.prog W 0 (fun _ => true) true Try.f4.params.toList args.toList ds p := hA0
  rw [Try.params4] at hA hval
  obtain ⟨v0, vs0, d0, ds0, p0, q0, hargs, rfl, rfl, h0, r0⟩ := trodAll_cons hA
  obtain ⟨v1, vs1, d1, ds1, p1, q1, rfl, rfl, rfl, h1, r1⟩ := trodAll_cons r0
  obtain ⟨v2, vs2, d2, ds2, p2, q2, rfl, rfl, rfl, h2, r2⟩ := trodAll_cons r1
  obtain ⟨rfl, rfl, rfl⟩ := trodAll_nil r2
  obtain rfl : args = #[v0, v1, v2] := by cases args; simp_all
  obtain ⟨rfl, rfl⟩ := trodVars_none hV
  obtain ⟨A0, n0, c0, rfl⟩ := okWide_slice Try.underlying22 (hval 0 22 v0 rfl rfl)
  have k0 := h0
  have lt0 : ∀ x ∈ p0, x.block < W.heap.size := by obtain ⟨m, hm⟩ := k0; exact DataW.trod_lt m _ _ _ hm
  obtain ⟨x0, l0, y0, z0, q0x⟩ : ∃ xs : List Ac, xs.length = n0 ∧ Acts W A0 xs ∧ n0 ≤ c0 ∧ n0 ≤ maxLen := by
    obtain ⟨fuel, hf⟩ := h0
    exact acts_in hf
  obtain ⟨a1, rfl, rfl, rfl, w1⟩ := open_int Try.underlying3 (hval 1 3 v1 rfl rfl) h1
  obtain ⟨a2, rfl, rfl, rfl, w2⟩ := open_int Try.underlying3 (hval 2 3 v2 rfl rfl) h2
  clear hA0
  refine (validUp_here A0 n0 c0 x0 a1 a2 W l0 q0x y0).mono fun e W' ⟨he, bel⟩ => ?_
  subst he
  exact ⟨_, rfl, _, _, _, [], _, [], hW', trodAll_mk1 (shut_bool Try.underlying4 _), (trodAll_cons_mk (Below.trod laidOut (by kernel_rfl) (of_decide_eq_true (by kernel_rfl)) k0 bel lt0) (trodAll_cons_mk (shut_int Try.underlying3 w1) (trodAll_cons_mk (shut_int Try.underlying3 w2) trodAll_mk0))), rfl, bel.frame _, fun h => by cases h⟩

theorem validUp_holds : Rows.ValidUpSaid :=
  OpenClaim.holds_of_wide 4 Try.f4 rfl rfl rfl rfl rfl rfl rfl ⟨rfl, rfl, rfl, rfl, rfl⟩ rfl rfl rfl rfl rfl (by kernel_rfl) Try.func4 (by kernel_rfl)
    (of_decide_eq_true (by kernel_rfl)) (by unfold Func.isWrapper; rw [if_neg (by decide +kernel)]; exact ⟨rfl, rfl⟩)
    (fun os started H enc _ => validUp_lifted os started H enc)
end Go.Proofs.Ytgpcghfcnonpaaa
