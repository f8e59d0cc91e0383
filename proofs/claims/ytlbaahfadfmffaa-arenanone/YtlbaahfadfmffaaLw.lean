/-
  What towncrierlaw04.awake does with an arena that keeps its promises: it answers true.
-/
import Derived.Test.YtlbaahfadfmffaaFy
namespace Go.Proofs.Ytlbaahfadfmffaa
open Go Go.RowKit

/-- A bare element. -/
def elem : Nd := ⟨2, 0, 0, 0, 0, false, ⟨#[]⟩, ⟨#[]⟩, []⟩
theorem empty_is : (⟨#[]⟩ : ByteArray).toList.isEmpty = true := by kernel_rfl
theorem elem_err (n : Nat) (h : n < 128) : mkErr n elem = 0 := by
  have := mkErr_rest (n := n) (k := 2) (pa := 0) (ho := 0) (sh := 0) (m := 0) (sl := false) (na := ⟨#[]⟩) (wa := ⟨#[]⟩) (ks := []) (by omega) (by omega) (by omega) (by
    rw [okName_empty empty_is, empty_is]
    simp)
  rw [if_neg (by omega)] at this
  exact this
theorem two_elems : mkL (mkL [] elem) elem = [elem, elem] := by
  have e1 : mkL [] elem = [elem] := by
    unfold mkL
    rw [if_pos (elem_err _ (by simp))]
    rfl
  rw [e1]
  unfold mkL
  rw [if_pos (elem_err _ (by simp))]
  rfl
theorem good_make {l : List Nd} {d : Nd} (h : Good l) : Good (mkL l d) := good_act (x := ⟨0, 0, 0, ⟨#[]⟩, d, []⟩) h (by simp)
theorem pair_put : putErr [elem, elem] 1 [2] = 0 := by decide +kernel
theorem pair_there : thereB (putL [elem, elem] 1 [2]) 2 = true := by rw [there_len (putL_length _ _ _)]; decide
theorem pair_parent : (nd (putL [elem, elem] 1 [2]) 2).parent = 1 := by
  rw [put_nd pair_put (by decide) (by decide) (by decide)]
  decide

section
variable {Rep : (Nat → Prop) → World → Nat → List Nd → Prop}
set_option maxHeartbeats 4000000 in
set_option maxRecDepth 100000 in
theorem awake4_any (O : ForestOk Rep) (M : ForestMore Rep) (w : World) : Calls Try.prog 6 #[] w fun e w' => e = .returned (.bool true) ∧ Below w.heap.size w w' := by
  have nn : ∀ w' : World, ListIn w' none 0 [] := fun w' => ⟨Nat.le_refl 0, fun _ => rfl, fun i hi => absurd hi (Nat.not_lt_zero i)⟩
  have e0 : mkErr 0 elem = 0 := elem_err 0 (by omega)
  have Nn := Lib.hid nn
  clear nn
  go_enter Try.func6, Try.ntmps6
  go_wp2_with fail
  refine (O.new (fun i => w.heap.size ≤ i) w (fun _ h => h)).mono ?_
  rintro e w1 ⟨b, rfl, hR1, hb1⟩
  go_wp2_with fail
  refine (O.make (fun i => w.heap.size ≤ i) w1 b [] 2 0 0 0 0 false ⟨#[]⟩ ⟨#[]⟩ [] none 0 hR1 good_nil (fun i hi => Nat.le_trans hb1.size hi) (Nat.zero_le _) (Nat.zero_le _) (Nn.out _)).mono ?_
  rintro e w2 ⟨rfl, hR2, hk2⟩
  have hb2 : Below w.heap.size w w2 := below_then hb1 hk2 hb1.size fun i hi hh => by omega
  clear hR1 hk2 hb1
  go_wp2_with fail
  refine (O.make (fun i => w.heap.size ≤ i) w2 b (mkL [] elem) 2 0 0 0 0 false ⟨#[]⟩ ⟨#[]⟩ [] none 0 hR2 (good_make good_nil) (fun i hi => Nat.le_trans hb2.size hi) (Nat.zero_le _) (Nat.zero_le _) (Nn.out _)).mono ?_
  rintro e w3 ⟨rfl, hR3, hk3⟩
  have hR3' : Rep (fun i => w.heap.size ≤ i) w3 b [elem, elem] := by rw [← two_elems]; exact hR3
  have hG3 : Good [elem, elem] := by rw [← two_elems]; exact good_make (good_make good_nil)
  have hb3 : Below w.heap.size w w3 := below_then hb2 hk3 hb2.size fun i hi hh => by omega
  clear hR2 hR3 hk3 hb2
  go_wp2_with fail
  have hb4 : Below w3.heap.size w3 (w3.alloc (.cells #[.int .i64 2] 3)) := (Below.refl _ w3).alloc (Nat.le_refl _) _
  have hs4 : (w3.alloc (.cells #[.int .i64 2] 3)).heap.size = w3.heap.size + 1 := by simp
  have hnums : Nums (w3.alloc (.cells #[.int .i64 2] 3)) (w3.alloc (.cells #[.int .i64 2] 3)).heap.size (some ⟨w3.heap.size, 0, none⟩) .i64 [2] := fun i hi => by
    obtain rfl : i = 0 := by simp at hi; omega
    exact ⟨w3.heap.size, 0, rfl, by rw [hs4]; omega, Has.cell (Has.fresh _ _) 0⟩
  have hR4 : Rep (fun i => (w.heap.size ≤ i ∧ i < w3.heap.size) ∨ (w3.alloc (.cells #[.int .i64 2] 3)).heap.size ≤ i) (w3.alloc (.cells #[.int .i64 2] 3)) b [elem, elem] :=
    O.wide (O.below (O.wide hR3' (S' := fun i => w.heap.size ≤ i ∧ i < w3.heap.size) fun i hi hlt => ⟨hi, hlt⟩) hb4) fun i hi _ => .inl hi
  have hws := hb3.size
  refine (O.put _ (w3.alloc (.cells #[.int .i64 2] 3)) b [elem, elem] 1 [2] (some ⟨w3.heap.size, 0, none⟩) 1 hR4 hG3 (fun i hi => .inr hi) (by simp) ⟨by simp, fun e => absurd e (by simp), hnums⟩ (fun b' off s e hlt hh => by
    cases e
    rw [hs4] at hh
    rcases hh with ⟨_, h⟩ | h <;> omega)).mono ?_
  rintro e w5 ⟨rfl, hR5, hk5⟩
  rw [pair_put]
  have hb5 : Below w.heap.size w w5 := below_then (hb3.alloc hws _) hk5 (by rw [hs4]; omega) fun i hi hh => by
    rw [hs4] at hh
    rcases hh with ⟨h, _⟩ | h <;> omega
  have hG5 : Good (putL [elem, elem] 1 [2]) := good_act (x := ⟨1, 1, 0, ⟨#[]⟩, Nd.zero, [2]⟩) hG3 (by simp)
  clear hR4 hnums hk5 hR3' hb4 hs4
  go_wp2_with fail
  refine (M.node _ w5 b _ 2 hR5 hG5).mono ?_
  rintro e w6 ⟨d, Ad, cd, rfl, hd, -, hb6⟩
  rw [pair_there] at hd
  rw [if_pos rfl] at hd
  rw [pair_there]
  have hdp : d.parent = 1 := by rw [hd]; exact pair_parent
  have hB6 : Below w.heap.size w w6 := hb5.trans (hb6.mono hb5.size)
  have Hdp := Lib.hid hdp
  obtain ⟨dp, hdp'⟩ : ∃ dp, dp = d.parent := ⟨_, rfl⟩
  rw [← hdp'] at hdp
  subst hdp
  rw [← hdp']
  have hBF : Below w.heap.size w (w6.alloc (.cells #[.int .i64 d.kind, .int .i64 1, .int .i64 d.host, .int .i64 d.shadow, .int .i64 d.mode, .bool d.slot, .string d.name, .string d.want, .slice Ad d.kids.length cd] 33)) := hB6.alloc hB6.size _
  clear hd hdp' Hdp hb6 hR5 hG5
  go_wp2
  go_ret
  exact ⟨rfl, hBF⟩
end
end Go.Proofs.Ytlbaahfadfmffaa
