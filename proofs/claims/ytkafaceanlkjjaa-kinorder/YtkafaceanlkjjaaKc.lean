/-
  What package kin's Root, Above, row, Index and Next do with an arena that keeps its promises.
-/
import Derived.Test.YtkafaceanlkjjaaKb
namespace Go.Proofs.Ytkafaceanlkjjaa
open Go Go.RowKit

theorem lastL_at {xs : List Int} {m : Nat} (h : xs.length = m + 1) : lastL xs = xs[m]'(by omega) := by
  unfold lastL
  have e : xs.length - 1 = m := by omega
  rw [List.getLastD_eq_getLast?, List.getLast?_eq_getElem?, e, List.getElem?_eq_getElem (by omega)]
  rfl
/-- The children among which a node stands. -/
def rowL (l : List Nd) (id : Int) : List Int := if thereB l id = true then if thereB l (nd l id).parent = true then (nd l (nd l id).parent).kids else [] else []
/-- The one behind. -/
def nextL (xs : List Int) (x : Int) : Int := if idxL xs x < 0 then 0 else xs.getD ((idxL xs x).toNat + 1) 0
theorem few_nd {l : List Nd} {K : Nat} (h : Few K l) (i : Int) : (nd l i).kids.length ≤ K := by
  unfold nd
  rw [List.getD_eq_getElem?_getD]
  cases e : l[(i - 1).toNat]? with
  | none => exact Nat.zero_le _
  | some d => exact h d (List.mem_of_getElem? e)
theorem rowL_len {l : List Nd} (h : Few 200 l) (i : Int) : (rowL l i).length ≤ 200 := by
  unfold rowL
  split
  · split
    · exact few_nd h _
    · exact Nat.zero_le _
  · exact Nat.zero_le _
theorem idxL_range (xs : List Int) (x : Int) : idxL xs x = -1 ∨ ∃ k : Nat, idxL xs x = (k : Int) ∧ k < xs.length := by
  unfold idxL
  by_cases h : x ∈ xs
  · rw [if_pos h]
    exact .inr ⟨_, rfl, List.idxOf_lt_length_of_mem h⟩
  · rw [if_neg h]
    exact .inl rfl

section
variable {Rep : (Nat → Prop) → World → Nat → List Nd → Prop} {S : Nat → Prop} {w : World} {b : Nat} {l : List Nd}
set_option maxHeartbeats 1000000 in
theorem kinRoot (O : ForestOk Rep) (M : ForestMore Rep) (id : Int) (h : Rep S w b l) (hg : Good l) :
    Calls Try.prog 10 #[at_ b, .int .i64 id] w fun e w' => e = .returned (.int .i64 (rootL l id)) ∧ Below w.heap.size w w' := by
  have C := Lib.hid (kinUp O M id h hg)
  have hRl : (parL l id).length ≤ 128 := Nat.le_trans (parL_len hg.tree id) hg.len
  have hroot : rootL l id = lastL (parL l id) := rfl
  rw [hroot]
  obtain ⟨R, hR⟩ : ∃ R, R = parL l id := ⟨_, rfl⟩
  rw [← hR] at hRl C
  rw [← hR]
  clear h hg hR hroot
  go_enter Try.func10, Try.ntmps10
  go_wp2_with fail
  refine C.out.mono ?_
  rintro e w1 ⟨v, rfl, hP, hb⟩
  obtain ⟨A, c, rfl, hL⟩ := hP.form
  clear C hP
  cases hm : R.length with
  | zero =>
    have e0 : lastL R = 0 := by rw [List.length_eq_zero_iff.1 hm]; rfl
    have E0 := Lib.hid e0
    have Hm := Lib.hid hm
    clear e0 hm
    go_wp2
    go_ret
    rw [E0.out]
    exact ⟨rfl, hb⟩
  | succ m =>
    have e0 := lastL_at hm
    obtain ⟨b', off, rfl, -, hc⟩ := hL.nums m (by omega)
    obtain ⟨y, hy⟩ : ∃ y, y = R[m]'(by omega) := ⟨_, rfl⟩
    rw [← hy] at hc e0
    have E0 := Lib.hid e0
    clear e0
    have hm' : m ≤ 128 := by omega
    have z1 : (((m : Int) + 1) == 0) = false := by rw [beq_eq_false_iff_ne]; omega
    clear hm hy hL hRl
    go_wp2
    go_ret
    rw [E0.out]
    exact ⟨rfl, hb⟩
theorem kinAbove (O : ForestOk Rep) (M : ForestMore Rep) (x id : Int) (h : Rep S w b l) (hg : Good l) :
    Calls Try.prog 15 #[at_ b, .int .i64 x, .int .i64 id] w fun e w' => e = .returned (.bool (hasB (parL l id) x)) ∧ Below w.heap.size w w' := by
  have C := Lib.hid (kinUp O M id h hg)
  have hRl : (parL l id).length ≤ 1000000 := Nat.le_trans (Nat.le_trans (parL_len hg.tree id) hg.len) (by decide)
  obtain ⟨R, hR⟩ : ∃ R, R = parL l id := ⟨_, rfl⟩
  rw [← hR] at hRl C
  rw [← hR]
  clear h hg hR
  go_enter Try.func15, Try.ntmps15
  go_wp2_with fail
  refine C.out.mono ?_
  rintro e w1 ⟨v, rfl, hP, hb⟩
  obtain ⟨A, c, rfl, hL⟩ := hP.form
  clear C hP
  go_wp2_with fail
  refine (contains_any R A R.length c x w1 rfl hRl hL.nums).mono ?_
  rintro e w2 ⟨rfl, rfl⟩
  go_wp2
  go_ret
  exact ⟨rfl, hb⟩
set_option maxHeartbeats 2000000 in
theorem kinRow (O : ForestOk Rep) (M : ForestMore Rep) (id : Int) (h : Rep S w b l) (hg : Good l) :
    Calls Try.prog 38 #[at_ b, .int .i64 id] w fun e w' => ∃ v, e = .returned v ∧ Pile w.heap.size w' v (rowL l id) ∧ Below w.heap.size w w' := by
  have H := Lib.hid h
  have Hg := Lib.hid hg
  obtain ⟨R, hR⟩ : ∃ R, R = rowL l id := ⟨_, rfl⟩
  rw [← hR]
  unfold rowL at hR
  cases ht : thereB l id with
  | false =>
    rw [ht, if_neg (by decide)] at hR
    subst hR
    have Ht := Lib.hid ht
    clear ht h hg
    go_enter Try.func38, Try.ntmps38
    go_wp2_with fail
    refine (nodeNo M H.out Hg.out Ht.out).mono ?_
    rintro e w1 ⟨A1, c1, rfl, -, hb1⟩
    have hb2 : Below w.heap.size w (w1.alloc (.cells #[.int .i64 0, .int .i64 0, .int .i64 0, .int .i64 0, .int .i64 0, .bool false, .string ⟨#[]⟩, .string ⟨#[]⟩, .slice A1 0 c1] 41)) := hb1.alloc hb1.size _
    have hR2 := O.keep H.out (Keeps.of_below (F := fun i => w.heap.size ≤ i) hb2 fun _ _ h => h) fun _ _ hi => Nat.not_le.2 hi
    have HR2 := Lib.hid hR2
    have Hb2 := Lib.hid hb2
    clear hR2 hb1 hb2
    go_wp2_with fail
    refine (nodeNo M HR2.out Hg.out (there_zero l)).mono ?_
    rintro e w3 ⟨A3, c3, rfl, hk3, hb3⟩
    have hs3 := Hb2.out.size
    have HF : Hid (Pile w.heap.size (w3.alloc (.cells #[.int .i64 0, .int .i64 0, .int .i64 0, .int .i64 0, .int .i64 0, .bool false, .string ⟨#[]⟩, .string ⟨#[]⟩, .slice A3 0 c3] 41)) (.slice A3 0 c3) [] ∧ Below w.heap.size w (w3.alloc (.cells #[.int .i64 0, .int .i64 0, .int .i64 0, .int .i64 0, .int .i64 0, .bool false, .string ⟨#[]⟩, .string ⟨#[]⟩, .slice A3 0 c3] 41))) := Lib.hid ⟨(Pile.of_kids hk3 fun g hg _ => Nat.le_trans hs3 hg).alloc _, (Hb2.out.trans (hb3.mono hs3)).alloc (Nat.le_trans hs3 hb3.size) _⟩
    clear hb3 hk3 HR2 Hb2 hs3
    go_wp2
    go_ret
    exact ⟨_, rfl, HF.out.1, HF.out.2⟩
  | true =>
    rw [ht, if_pos rfl] at hR
    have Ht := Lib.hid ht
    clear ht h hg
    go_enter Try.func38, Try.ntmps38
    go_wp2_with fail
    refine (nodeYes M H.out Hg.out Ht.out).mono ?_
    rintro e w1 ⟨A1, c1, rfl, -, hb1⟩
    obtain ⟨d, hd⟩ : ∃ d, d = nd l id := ⟨_, rfl⟩
    rw [← hd] at hR
    rw [← hd]
    have hb2 : Below w.heap.size w (w1.alloc (.cells #[.int .i64 d.kind, .int .i64 d.parent, .int .i64 d.host, .int .i64 d.shadow, .int .i64 d.mode, .bool d.slot, .string d.name, .string d.want, .slice A1 d.kids.length c1] 41)) := hb1.alloc hb1.size _
    have hR2 := O.keep H.out (Keeps.of_below (F := fun i => w.heap.size ≤ i) hb2 fun _ _ h => h) fun _ _ hi => Nat.not_le.2 hi
    have HR2 := Lib.hid hR2
    have Hb2 := Lib.hid hb2
    clear hR2 hb1 hb2 hd
    cases hp : thereB l d.parent with
    | false =>
      rw [hp, if_neg (by decide)] at hR
      subst hR
      have Hp := Lib.hid hp
      clear hp
      go_wp2_with fail
      refine (nodeNo M HR2.out Hg.out Hp.out).mono ?_
      rintro e w3 ⟨A3, c3, rfl, hk3, hb3⟩
      have hs3 := Hb2.out.size
      have HF : Hid (Pile w.heap.size (w3.alloc (.cells #[.int .i64 0, .int .i64 0, .int .i64 0, .int .i64 0, .int .i64 0, .bool false, .string ⟨#[]⟩, .string ⟨#[]⟩, .slice A3 0 c3] 41)) (.slice A3 0 c3) [] ∧ Below w.heap.size w (w3.alloc (.cells #[.int .i64 0, .int .i64 0, .int .i64 0, .int .i64 0, .int .i64 0, .bool false, .string ⟨#[]⟩, .string ⟨#[]⟩, .slice A3 0 c3] 41))) := Lib.hid ⟨(Pile.of_kids hk3 fun g hg _ => Nat.le_trans hs3 hg).alloc _, (Hb2.out.trans (hb3.mono hs3)).alloc (Nat.le_trans hs3 hb3.size) _⟩
      clear hb3 hk3 HR2 Hb2 hs3
      go_wp2
      go_ret
      exact ⟨_, rfl, HF.out.1, HF.out.2⟩
    | true =>
      rw [hp, if_pos rfl] at hR
      have Hp := Lib.hid hp
      clear hp
      go_wp2_with fail
      refine (nodeYes M HR2.out Hg.out Hp.out).mono ?_
      rintro e w3 ⟨A3, c3, rfl, hk3, hb3⟩
      obtain ⟨d3, hd3⟩ : ∃ d3, d3 = nd l d.parent := ⟨_, rfl⟩
      rw [← hd3] at hR hk3
      rw [← hd3]
      subst hR
      have hs3 := Hb2.out.size
      have HF : Hid (Pile w.heap.size (w3.alloc (.cells #[.int .i64 d3.kind, .int .i64 d3.parent, .int .i64 d3.host, .int .i64 d3.shadow, .int .i64 d3.mode, .bool d3.slot, .string d3.name, .string d3.want, .slice A3 d3.kids.length c3] 41)) (.slice A3 d3.kids.length c3) d3.kids ∧ Below w.heap.size w (w3.alloc (.cells #[.int .i64 d3.kind, .int .i64 d3.parent, .int .i64 d3.host, .int .i64 d3.shadow, .int .i64 d3.mode, .bool d3.slot, .string d3.name, .string d3.want, .slice A3 d3.kids.length c3] 41))) := Lib.hid ⟨(Pile.of_kids hk3 fun g hg _ => Nat.le_trans hs3 hg).alloc _, (Hb2.out.trans (hb3.mono hs3)).alloc (Nat.le_trans hs3 hb3.size) _⟩
      clear hb3 hk3 HR2 Hb2 hs3 hd3
      go_wp2
      go_ret
      exact ⟨_, rfl, HF.out.1, HF.out.2⟩
theorem kinIndex (O : ForestOk Rep) (M : ForestMore Rep) (id : Int) (h : Rep S w b l) (hg : Good l) :
    Calls Try.prog 19 #[at_ b, .int .i64 id] w fun e w' => e = .returned (.int .i64 (idxL (rowL l id) id)) ∧ Below w.heap.size w w' := by
  have C := Lib.hid (kinRow O M id h hg)
  have hRl : (rowL l id).length ≤ 1000000 := Nat.le_trans (rowL_len hg.few id) (by decide)
  obtain ⟨R, hR⟩ : ∃ R, R = rowL l id := ⟨_, rfl⟩
  rw [← hR] at hRl C
  rw [← hR]
  clear h hg hR
  go_enter Try.func19, Try.ntmps19
  go_wp2_with fail
  refine C.out.mono ?_
  rintro e w1 ⟨v, rfl, hP, hb⟩
  obtain ⟨A, c, rfl, hL⟩ := hP.form
  clear C hP
  go_wp2_with fail
  refine (index_any R A R.length c id w1 rfl hRl hL.nums).mono ?_
  rintro e w2 ⟨rfl, rfl⟩
  go_wp2
  go_ret
  exact ⟨rfl, hb⟩
set_option maxHeartbeats 2000000 in
theorem kinNext (O : ForestOk Rep) (M : ForestMore Rep) (id : Int) (h : Rep S w b l) (hg : Good l) :
    Calls Try.prog 21 #[at_ b, .int .i64 id] w fun e w' => e = .returned (.int .i64 (nextL (rowL l id) id)) ∧ Below w.heap.size w w' := by
  have C := Lib.hid (kinRow O M id h hg)
  have hRl : (rowL l id).length ≤ 1000000 := Nat.le_trans (rowL_len hg.few id) (by decide)
  obtain ⟨R, hR⟩ : ∃ R, R = rowL l id := ⟨_, rfl⟩
  rw [← hR] at hRl C
  rw [← hR]
  clear h hg hR
  go_enter Try.func21, Try.ntmps21
  go_wp2_with fail
  refine C.out.mono ?_
  rintro e w1 ⟨v, rfl, hP, hb⟩
  obtain ⟨A, c, rfl, hL⟩ := hP.form
  clear C hP
  go_wp2_with fail
  refine (index_any R A R.length c id w1 rfl hRl hL.nums).mono ?_
  rintro e w2 ⟨rfl, rfl⟩
  rcases idxL_range R id with hi | ⟨k, hi, hk⟩
  · have e0 : nextL R id = 0 := by unfold nextL; rw [hi]; rfl
    rw [hi]
    have E0 := Lib.hid e0
    clear hi e0
    go_wp2
    go_ret
    rw [E0.out]
    exact ⟨rfl, hb⟩
  · have e0 : nextL R id = R.getD (k + 1) 0 := by
      unfold nextL
      rw [hi, if_neg (by omega)]
      rfl
    rw [hi]
    have E0 := Lib.hid e0
    clear hi e0
    obtain ⟨n, hn⟩ : ∃ n, n = R.length := ⟨_, rfl⟩
    rw [← hn] at hRl hk
    rw [← hn]
    by_cases hlast : k + 1 = n
    · subst hlast
      have e1 : R.getD (k + 1) 0 = 0 := by rw [List.getD_eq_getElem?_getD, List.getElem?_eq_none (by omega)]; rfl
      have E1 := Lib.hid e1
      clear hL hn e1
      go_wp2
      go_ret
      rw [E0.out, E1.out]
      exact ⟨rfl, hb⟩
    · have hk1 : k + 1 < R.length := by omega
      obtain ⟨b', off, rfl, -, hc⟩ := hL.nums (k + 1) hk1
      have e1 : R.getD (k + 1) 0 = R[k + 1] := by rw [List.getD_eq_getElem?_getD, List.getElem?_eq_getElem hk1]; rfl
      obtain ⟨y, hy⟩ : ∃ y, y = R[k + 1] := ⟨_, rfl⟩
      rw [← hy] at hc e1
      have E1 := Lib.hid e1
      have hkn : (k : Int) + 1 < n := by omega
      have z1 : ((k : Int) == (n : Int) - 1) = false := by rw [beq_eq_false_iff_ne]; omega
      have hc' : w1.cell? ⟨b', off + k + 1, none⟩ = some (.int .i64 y) := hc
      clear hL hn e1 hy hk1
      go_wp2
      go_ret
      rw [E0.out, E1.out]
      exact ⟨rfl, hb⟩
end
end Go.Proofs.Ytkafaceanlkjjaa
