/-
  What is seen of a path, as the document tells it, plain: the place, the level, the flags of all entries; of a path of a forest they tell just what isn't hidden. No program is named here.
  What is seen of a path, as loops do it, plain: the place from behind; flags written into a table. No program is named here.
  What is seen of a path, plain: it is a part of the path and has the node; of a path without closed trees it is all. No program is named here.
  What is seen of a path, as a walk over an iterator does it, plain: entries with their places, from behind and from ahead; levels; what a walk has told when so many entries have come. No program is named here.
  The library's iterators over a list of entries: slices.Backward, slices.All; a list of entries, cut.
  What place and Level of package see do: they range over slices.Backward.
  What Level of package see does.
  A list of numbers, cut: s[:k], s[k:].
  What walk of package see does, for whatever iterator and whatever function it is handed.
  What the library's slices.Reverse does with a list of numbers of the call's own.
  What From of package see does.
  Arguments that came in, opened: lists of texts and of numbers. Facts of the program that every row's proof wants.
-/
import Derived.Test.YtphpbeapibohiaaPartC
import Derived.RangeFuncNested
import Derived.RangeFuncBound
import Derived.RangeFuncCalls
import Derived.RangeFuncLeaves
import Derived.Shelf.Abstract
import Derived.Shelf.RegionOpen
import Derived.WalkKit
import Derived.OwnWalkIn
import Derived.TacticsInMore
import Derived.LoopNIn
import Derived.LoopIn
import Derived.Maps.AppendAt
import Derived.Test.YtphpbeapibohiaaProg
import Derived.Test.YtphpbeapibohiaaChecked
import Derived.ProofKit
import Derived.OpenShut

namespace Go.Proofs.Ytphpbeapibohiaa
open Go

/-- The last entry of a node, and the level there. -/
def placeL (v : Int) : List Stp → Option (Nat × Int)
  | [] => none
  | s :: r =>
    match placeL v r with
    | some (k, lev) => some (k + 1, lev)
    | none => if s.node = v then some (0, (if s.cr = true then 1 else 0) + (r.map fun e => (if e.cr = true then (1 : Int) else 0) - (if e.cs = true then 1 else 0)).sum) else none
/-- Which entries are seen from the one at the place k. -/
def flagsP (p : List Stp) (k : Nat) (lev : Int) : List Bool := (walkF lev lev ((p.take k).reverse.map fun s => (s.cr, s.cs))).reverse ++ true :: walkF lev lev ((p.drop (k + 1)).map fun s => (s.cs, s.cr))
/-- The nodes that are seen, in the path's order. -/
def pickF : List Stp → List Bool → List Int
  | s :: r, f :: fs => if f = true then s.node :: pickF r fs else pickF r fs
  | _, _ => []
def seeP (p : List Stp) (v : Int) : List Int :=
  match placeL v p with
  | none => []
  | some (k, lev) => pickF p (flagsP p k lev)
def levelP (p : List Stp) (v : Int) : Int :=
  match placeL v p with
  | none => 0
  | some (_, lev) => lev
section
variable {l : List Nd} {first rel target v : Int} {comp : Bool} {p : List Stp} {i k : Nat} {lev : Int}
theorem flags_len (hk : k < p.length) : (flagsP p k lev).length = p.length := by
  unfold flagsP
  rw [List.length_append, List.length_reverse, List.length_cons, walk_len, walk_len, List.length_map, List.length_map, List.length_reverse, List.length_take, List.length_drop]
  omega
theorem flags_at (hk : k < p.length) : (flagsP p k lev)[k]? = some true := by
  unfold flagsP
  have hl : (walkF lev lev ((p.take k).reverse.map fun s => (s.cr, s.cs))).reverse.length = k := by
    rw [List.length_reverse, walk_len, List.length_map, List.length_reverse, List.length_take]
    omega
  rw [List.getElem?_append_right (by rw [hl]; exact Nat.le_refl _), hl, Nat.sub_self]
  rfl
/-- Of a path of a forest what is seen is what isn't hidden. -/
theorem flags_right (T : Tree l) (hp : PthOk l first comp p) (h0 : ∀ h t, p = h :: t → h.cs = false) (hk : k < p.length) (hi : i < p.length) : (flagsP p k lev)[i]? = some (!hidL l p[i].node p[k].node) := by
  have hsp : p = p.take k ++ p[k] :: p.drop (k + 1) := by rw [← List.drop_eq_getElem_cons hk, List.take_append_drop]
  obtain ⟨hr, hf⟩ := at_ok (pre := p.take k) (s := p[k]) (post := p.drop (k + 1)) (by rw [← hsp]; exact hp) (fun h t e => h0 h t (by rw [hsp]; exact e))
  have hl : (walkF lev lev ((p.take k).reverse.map fun s => (s.cr, s.cs))).reverse.length = k := by
    rw [List.length_reverse, walk_len, List.length_map, List.length_reverse, List.length_take]
    omega
  have hlen := flags_len (lev := lev) hk
  rcases Nat.lt_trichotomy i k with h | h | h
  · have hw : k - 1 - i < (walkF lev lev ((p.take k).reverse.map fun s => (s.cr, s.cs))).length := by
      rw [List.length_reverse] at hl
      omega
    have hw2 := hl
    rw [List.length_reverse] at hw2
    have e1 : (flagsP p k lev)[i]? = some ((walkF lev lev ((p.take k).reverse.map fun s => (s.cr, s.cs)))[k - 1 - i]) := by
      unfold flagsP
      rw [List.getElem?_append_left (by rw [hl]; exact h), List.getElem?_reverse (by rw [hw2]; exact h), hw2, List.getElem?_eq_getElem hw]
    have he : (p.take k).reverse[k - 1 - i]? = some p[i] := by
      have ht : (p.take k).length = k := by rw [List.length_take]; omega
      rw [List.getElem?_reverse (by rw [ht]; omega), ht, show k - 1 - (k - 1 - i) = i by omega, List.getElem?_take, if_pos h, List.getElem?_eq_getElem hi]
    rw [e1, bwd_right T hf.1 hr lev (List.getElem?_eq_getElem hw) he, Bool.not_not]
  · subst h
    rw [flags_at hk, hid_self T]
    rfl
  · have hj : i - (k + 1) < (walkF lev lev ((p.drop (k + 1)).map fun s => (s.cs, s.cr))).length := by
      rw [walk_len, List.length_map, List.length_drop]
      omega
    have e1 : (flagsP p k lev)[i]? = some ((walkF lev lev ((p.drop (k + 1)).map fun s => (s.cs, s.cr)))[i - (k + 1)]) := by
      unfold flagsP
      rw [List.getElem?_append_right (by rw [hl]; omega), hl, show i - k = (i - (k + 1)) + 1 by omega, List.getElem?_cons_succ, List.getElem?_eq_getElem hj]
    have he : (p.drop (k + 1))[i - (k + 1)]? = some p[i] := by
      rw [List.getElem?_drop, show k + 1 + (i - (k + 1)) = i by omega, List.getElem?_eq_getElem hi]
    rw [e1, fwd_right T hf lev (List.getElem?_eq_getElem hj) he, Bool.not_not]
theorem place_last : ∀ (p : List Stp) (k : Nat) (lev : Int), placeL v p = some (k, lev) → ∃ h : k < p.length, p[k].node = v
  | [], _, _, h => by cases h
  | s :: r, k, lev, h => by
    rw [placeL] at h
    cases hr : placeL v r with
    | some a =>
      obtain ⟨k', lev'⟩ := a
      rw [hr] at h
      obtain ⟨rfl, rfl⟩ : k' + 1 = k ∧ lev' = lev := by simpa using h
      obtain ⟨h1, h2⟩ := place_last r k' lev' hr
      exact ⟨by rw [List.length_cons]; omega, h2⟩
    | none =>
      rw [hr] at h
      dsimp only at h
      by_cases hv : s.node = v
      · rw [if_pos hv] at h
        injection h with h
        injection h with h _
        subst h
        exact ⟨by rw [List.length_cons]; omega, hv⟩
      · rw [if_neg hv] at h
        cases h
theorem place_some : ∀ (p : List Stp), (∃ s ∈ p, s.node = v) → ∃ k lev, placeL v p = some (k, lev)
  | [], ⟨s, h, _⟩ => by cases h
  | s :: r, ⟨s', h, hv⟩ => by
    rw [placeL]
    cases hr : placeL v r with
    | some a => exact ⟨a.1 + 1, a.2, rfl⟩
    | none =>
      rcases List.mem_cons.1 h with rfl | h
      · exact ⟨0, _, if_pos hv⟩
      · obtain ⟨k, lev, e⟩ := place_some r ⟨s', h, hv⟩
        rw [hr] at e
        cases e
theorem pick_mem {x : Int} : ∀ (p : List Stp) (fs : List Bool), x ∈ pickF p fs ↔ ∃ (i : Nat) (s : Stp), p[i]? = some s ∧ fs[i]? = some true ∧ s.node = x
  | [], fs => by
    rw [pickF]
    · simp
    · intro s r f fs h
      cases h
  | s :: r, [] => by
    rw [pickF]
    · simp
    · intro s r f fs _ h
      cases h
  | s :: r, f :: fs => by
    rw [pickF]
    have ih := pick_mem (x := x) r fs
    cases f with
    | true =>
      rw [if_pos rfl, List.mem_cons, ih]
      constructor
      · rintro (rfl | ⟨i, s', h1, h2, h3⟩)
        · exact ⟨0, s, rfl, rfl, rfl⟩
        · exact ⟨i + 1, s', h1, h2, h3⟩
      · rintro ⟨i, s', h1, h2, h3⟩
        cases i with
        | zero =>
          obtain rfl : s = s' := by simpa using h1
          exact .inl h3.symm
        | succ i => exact .inr ⟨i, s', h1, h2, h3⟩
    | false =>
      rw [if_neg (by decide), ih]
      constructor
      · rintro ⟨i, s', h1, h2, h3⟩
        exact ⟨i + 1, s', h1, h2, h3⟩
      · rintro ⟨i, s', h1, h2, h3⟩
        cases i with
        | zero => cases h2
        | succ i => exact ⟨i, s', h1, h2, h3⟩
/-- What is seen isn't hidden; what isn't hidden is seen. -/
theorem see_hides (T : Tree l) {x : Int} (h : x ∈ seeP (makeP l target rel comp) v) : hidL l x v = false := by
  obtain ⟨hp, h0⟩ := makeP_ok (l := l) (target := target) (rel := rel) (comp := comp)
  unfold seeP at h
  cases hv : placeL v (makeP l target rel comp) with
  | none => rw [hv] at h; cases h
  | some a =>
    obtain ⟨k, lev⟩ := a
    rw [hv] at h
    obtain ⟨hk, rfl⟩ := place_last _ k lev hv
    obtain ⟨i, s, h1, h2, rfl⟩ := (pick_mem _ _).1 h
    obtain ⟨hi, rfl⟩ := List.getElem?_eq_some_iff.1 h1
    rw [flags_right T hp h0 hk hi] at h2
    simpa using h2
theorem see_nested (T : Tree l) (hk : k < (makeP l target rel comp).length) (hi : i < (makeP l target rel comp).length) (hh : hidL l (makeP l target rel comp)[i].node (makeP l target rel comp)[k].node = false) :
    (makeP l target rel comp)[i].node ∈ seeP (makeP l target rel comp) (makeP l target rel comp)[k].node := by
  obtain ⟨hp, h0⟩ := makeP_ok (l := l) (target := target) (rel := rel) (comp := comp)
  obtain ⟨k', lev, hv⟩ := place_some (v := (makeP l target rel comp)[k].node) _ ⟨_, List.getElem_mem hk, rfl⟩
  obtain ⟨hk', he⟩ := place_last _ k' lev hv
  unfold seeP
  rw [hv]
  refine (pick_mem _ _).2 ⟨i, _, List.getElem?_eq_getElem hi, ?_, rfl⟩
  rw [flags_right T hp h0 hk' hi, he, hh]
  rfl
/-- A path without closed trees: all is seen. -/
theorem walk_open : ∀ (es : List (Bool × Bool)) (lev : Int), (∀ e ∈ es, e = (false, false)) → walkF lev lev es = es.map fun _ => true
  | [], _, _ => rfl
  | e :: r, lev, h => by
    obtain rfl := h e (by simp)
    have e0 : lev + (if (false : Bool) = true then (1 : Int) else 0) = lev := by simp
    rw [walkF, e0, if_neg (by decide), walk_open r lev fun e he => h e (by simp [he])]
    simp
end
end Go.Proofs.Ytphpbeapibohiaa

namespace Go.Proofs.Ytphpbeapibohiaa
open Go

/-- What the entries of a list do to the level. -/
def sumL (p : List Stp) : Int := (p.map fun e => (if e.cr = true then (1 : Int) else 0) - (if e.cs = true then 1 else 0)).sum
section
variable {v : Int} {p : List Stp} {i k : Nat} {lev lim : Int} {done : List Bool}
theorem sum_nil : sumL [] = 0 := rfl
theorem sum_cons (s : Stp) (r : List Stp) : sumL (s :: r) = (if s.cr = true then (1 : Int) else 0) - (if s.cs = true then 1 else 0) + sumL r := rfl
theorem sum_len : ∀ (p : List Stp), -(p.length : Int) ≤ sumL p ∧ sumL p ≤ p.length
  | [] => ⟨by simp [sumL], by simp [sumL]⟩
  | s :: r => by
    have ih := sum_len r
    rw [sum_cons, List.length_cons]
    constructor <;> split <;> split <;> omega
theorem place_shift : ∀ (xs ys : List Stp) (k : Nat) (lev : Int), placeL v ys = some (k, lev) → placeL v (xs ++ ys) = some (xs.length + k, lev)
  | [], ys, k, lev, h => by simpa using h
  | s :: r, ys, k, lev, h => by
    rw [List.cons_append, placeL, place_shift r ys k lev h]
    simp only [List.length_cons]
    rw [show r.length + k + 1 = r.length + 1 + k by omega]
/-- From behind: none of this node yet. -/
theorem place_step (hi : i < p.length) (h : placeL v (p.drop (i + 1)) = none) :
    (p[i].node = v → placeL v p = some (i, (if p[i].cr = true then (1 : Int) else 0) + sumL (p.drop (i + 1)))) ∧ (p[i].node ≠ v → placeL v (p.drop i) = none) ∧ sumL (p.drop i) = (if p[i].cr = true then (1 : Int) else 0) - (if p[i].cs = true then 1 else 0) + sumL (p.drop (i + 1)) := by
  have hd : p.drop i = p[i] :: p.drop (i + 1) := List.drop_eq_getElem_cons hi
  refine ⟨fun hv => ?_, fun hv => ?_, by rw [hd, sum_cons]⟩
  · have h1 : placeL v (p.drop i) = some (0, (if p[i].cr = true then (1 : Int) else 0) + sumL (p.drop (i + 1))) := by
      rw [hd, placeL, h]
      exact if_pos hv
    have h2 := place_shift (p.take i) (p.drop i) _ _ h1
    rw [List.take_append_drop, List.length_take, Nat.min_eq_left (by omega), Nat.add_zero] at h2
    exact h2
  · rw [hd, placeL, h]
    exact if_neg hv
theorem place_none_zero (h : placeL v (p.drop 0) = none) : placeL v p = none := by simpa using h
theorem place_lev : ∀ (p : List Stp) (k : Nat) (lev : Int), placeL v p = some (k, lev) → ∃ h : k < p.length, lev = (if p[k].cr = true then (1 : Int) else 0) + sumL (p.drop (k + 1))
  | [], _, _, h => by cases h
  | s :: r, k, lev, h => by
    rw [placeL] at h
    cases hr : placeL v r with
    | some a =>
      obtain ⟨k', lev'⟩ := a
      rw [hr] at h
      obtain ⟨rfl, rfl⟩ : k' + 1 = k ∧ lev' = lev := by simpa using h
      obtain ⟨h1, h2⟩ := place_lev r k' lev' hr
      exact ⟨by rw [List.length_cons]; omega, h2⟩
    | none =>
      rw [hr] at h
      dsimp only at h
      by_cases hv : s.node = v
      · rw [if_pos hv] at h
        injection h with h
        injection h with h h'
        subst h
        exact ⟨by rw [List.length_cons]; omega, h'.symm⟩
      · rw [if_neg hv] at h
        cases h
/-- A walk's next entry: what it tells, and how it goes on. -/
def nextLev (a o : Bool) (lev : Int) : Int := if o = true then lev + (if a = true then 1 else 0) - 1 else lev + (if a = true then 1 else 0)
def nextLim (a o : Bool) (lev lim : Int) : Int := if o = true then (if lev + (if a = true then 1 else 0) - 1 < lim then lev + (if a = true then 1 else 0) - 1 else lim) else lim
theorem walk_cons (a o : Bool) (lev lim : Int) (r : List (Bool × Bool)) : walkF lev lim ((a, o) :: r) = decide (lev + (if a = true then 1 else 0) ≤ lim) :: walkF (nextLev a o lev) (nextLim a o lev lim) r := by
  unfold nextLev nextLim
  rw [walkF]
  cases o <;> simp
/-- Back: flags of the entries ahead of i. -/
def backF (p : List Stp) (i : Nat) (lev lim : Int) : List Bool := (walkF lev lim ((p.take i).reverse.map fun s => (s.cr, s.cs))).reverse
theorem back_zero : backF p 0 lev lim = [] := rfl
theorem back_step (hi : i < p.length) : backF p (i + 1) lev lim = backF p i (nextLev p[i].cr p[i].cs lev) (nextLim p[i].cr p[i].cs lev lim) ++ [decide (lev + (if p[i].cr = true then 1 else 0) ≤ lim)] := by
  unfold backF
  rw [List.take_add_one, List.getElem?_eq_getElem hi, Option.toList_some, List.reverse_append, List.reverse_singleton, List.singleton_append, List.map_cons, walk_cons, List.reverse_cons]
theorem back_len : (backF p i lev lim).length = min i p.length := by
  unfold backF
  rw [List.length_reverse, walk_len, List.length_map, List.length_reverse, List.length_take]
/-- On: flags of the entries from i on. -/
def onF (p : List Stp) (i : Nat) (lev lim : Int) : List Bool := walkF lev lim ((p.drop i).map fun s => (s.cs, s.cr))
theorem on_end (hi : p.length ≤ i) : onF p i lev lim = [] := by
  unfold onF
  rw [List.drop_eq_nil_of_le hi]
  rfl
theorem on_step (hi : i < p.length) : onF p i lev lim = decide (lev + (if p[i].cs = true then 1 else 0) ≤ lim) :: onF p (i + 1) (nextLev p[i].cs p[i].cr lev) (nextLim p[i].cs p[i].cr lev lim) := by
  unfold onF
  rw [List.drop_eq_getElem_cons hi, List.map_cons, walk_cons]
theorem on_len : (onF p i lev lim).length = p.length - i := by
  unfold onF
  rw [walk_len, List.length_map, List.length_drop]
theorem flags_split : flagsP p k lev = backF p k lev lev ++ true :: onF p (k + 1) lev lev := rfl
/-- Levels are small. -/
theorem next_small {a o : Bool} {n : Int} (h : -n ≤ lev ∧ lev ≤ n) (h' : -n ≤ lim ∧ lim ≤ n) : (-(n + 1) ≤ nextLev a o lev ∧ nextLev a o lev ≤ n + 1) ∧ (-(n + 1) ≤ nextLim a o lev lim ∧ nextLim a o lev lim ≤ n + 1) := by
  unfold nextLev nextLim
  cases a <;> cases o <;> simp <;> (try split) <;> omega
/-- Of flags that stand in a table the nodes, entry by entry. -/
theorem pick_step : ∀ (p : List Stp) (fs : List Bool) (k : Nat) (hk : k < p.length) (hf : k < fs.length), pickF (p.take (k + 1)) (fs.take (k + 1)) = pickF (p.take k) (fs.take k) ++ (if fs[k] = true then [p[k].node] else [])
  | [], _, _, hk, _ => absurd hk (Nat.not_lt_zero _)
  | _ :: _, [], _, _, hf => absurd hf (Nat.not_lt_zero _)
  | s :: r, f :: fs, 0, _, _ => by
    simp only [List.take_succ_cons, List.take_zero, List.getElem_cons_zero]
    rw [pickF]
    cases f <;> simp [pickF]
  | s :: r, f :: fs, k + 1, hk, hf => by
    simp only [List.take_succ_cons, List.getElem_cons_succ]
    rw [pickF, pickF, pick_step r fs k (Nat.lt_of_succ_lt_succ hk) (Nat.lt_of_succ_lt_succ hf)]
    cases f <;> simp
theorem pick_len : ∀ (p : List Stp) (fs : List Bool), (pickF p fs).length ≤ p.length
  | [], fs => by
    rw [pickF]
    · exact Nat.le_refl _
    · intro s r f fs h
      cases h
  | s :: r, [] => by
    rw [pickF]
    · exact Nat.zero_le _
    · intro s r f fs _ h
      cases h
  | s :: r, f :: fs => by
    rw [pickF]
    have := pick_len r fs
    split
    · simp only [List.length_cons]
      omega
    · simp only [List.length_cons]
      omega
end
end Go.Proofs.Ytphpbeapibohiaa

namespace Go.Proofs.Ytphpbeapibohiaa
open Go

/-- A list is eaten along another one: what is left of it. -/
def eatL : List Int → List Int → List Int
  | _, [] => []
  | [], x :: r => x :: r
  | n :: ns, x :: r => if n = x then eatL ns r else eatL ns (x :: r)
section
variable {v x : Int} {p : List Stp} {k : Nat} {lev : Int}
theorem eat_nil (ns : List Int) : eatL ns [] = [] := by cases ns <;> rfl
theorem eat_sub : ∀ (ns l : List Int), l.Sublist ns → eatL ns l = []
  | [], l, h => by
    rw [List.sublist_nil.1 h]
    rfl
  | n :: ns, [], _ => rfl
  | n :: ns, x :: r, h => by
    rw [eatL]
    by_cases e : n = x
    · rw [if_pos e]
      subst e
      exact eat_sub ns r (List.cons_sublist_cons.1 h)
    · rw [if_neg e]
      refine eat_sub ns (x :: r) ?_
      cases h with
      | cons _ h => exact h
      | cons_cons _ h => exact absurd rfl e
/-- What is left is the end of it; so much is eaten as it is shorter. -/
theorem eat_suffix : ∀ (ns l : List Int), eatL ns l <:+ l
  | ns, [] => by rw [eat_nil]; exact List.suffix_refl _
  | [], x :: r => List.suffix_refl _
  | n :: ns, x :: r => by
    rw [eatL]
    split
    · exact (eat_suffix ns r).trans (List.suffix_cons _ _)
    · exact eat_suffix ns (x :: r)
theorem pick_sub : ∀ (p : List Stp) (fs : List Bool), (pickF p fs).Sublist (p.map Stp.node)
  | [], fs => by cases fs <;> exact List.Sublist.refl _
  | s :: r, [] => List.nil_sublist _
  | s :: r, f :: fs => by
    rw [pickF, List.map_cons]
    split
    · exact (pick_sub r fs).cons_cons _
    · exact (pick_sub r fs).cons _
theorem see_sub : (seeP p v).Sublist (p.map Stp.node) := by
  unfold seeP
  split
  · exact List.nil_sublist _
  · exact pick_sub _ _
theorem place_none : ∀ (p : List Stp), (¬ ∃ s ∈ p, s.node = v) → placeL v p = none := fun p h => by
  cases hv : placeL v p with
  | none => rfl
  | some a =>
    obtain ⟨k, lev⟩ := a
    obtain ⟨h1, h2⟩ := place_last p k lev hv
    exact absurd ⟨_, List.getElem_mem h1, h2⟩ h
theorem see_none (h : ¬ ∃ s ∈ p, s.node = v) : seeP p v = [] ∧ levelP p v = 0 := by
  unfold seeP levelP
  rw [place_none p h]
  exact ⟨rfl, rfl⟩
theorem see_has (h : ∃ s ∈ p, s.node = v) : v ∈ seeP p v := by
  obtain ⟨k, lev, hv⟩ := place_some p h
  obtain ⟨h1, h2⟩ := place_last p k lev hv
  unfold seeP
  rw [hv]
  exact (pick_mem _ _).2 ⟨k, _, List.getElem?_eq_getElem h1, flags_at h1, h2⟩
theorem see_empty (p : List Stp) (v : Int) : (∃ s ∈ p, s.node = v) ∨ seeP p v = [] := by
  by_cases h : ∃ s ∈ p, s.node = v
  · exact .inl h
  · exact .inr (see_none h).1
/-- A path without closed trees. -/
def OpenP (p : List Stp) : Prop := ∀ s ∈ p, s.cr = false ∧ s.cs = false
theorem pick_all : ∀ (p : List Stp), pickF p (p.map fun _ => true) = p.map Stp.node
  | [] => rfl
  | s :: r => by
    rw [List.map_cons, pickF, if_pos rfl, pick_all r]
    rfl
theorem flags_open (h : OpenP p) (hk : k < p.length) : flagsP p k lev = p.map fun _ => true := by
  unfold flagsP
  rw [walk_open _ _ (fun e he => ?_), walk_open _ _ (fun e he => ?_)]
  · have hsp : p = p.take k ++ p[k] :: p.drop (k + 1) := by rw [← List.drop_eq_getElem_cons hk, List.take_append_drop]
    have e2 := congrArg (List.map fun _ => true) hsp
    rw [e2, List.map_append, List.map_cons, List.map_map, List.map_map, ← List.map_reverse, List.reverse_reverse]
    rfl
  · obtain ⟨s, hs, rfl⟩ := List.mem_map.1 he
    obtain ⟨h1, h2⟩ := h s (List.mem_of_mem_drop hs)
    rw [h1, h2]
  · obtain ⟨s, hs, rfl⟩ := List.mem_map.1 he
    obtain ⟨h1, h2⟩ := h s (List.mem_of_mem_take (List.mem_reverse.1 hs))
    rw [h1, h2]
theorem sum_zero : ∀ (r : List Stp), OpenP r → (r.map fun e => (if e.cr = true then (1 : Int) else 0) - (if e.cs = true then 1 else 0)).sum = 0
  | [], _ => rfl
  | s :: r, h => by
    obtain ⟨h1, h2⟩ := h s (by simp)
    rw [List.map_cons, List.sum_cons, sum_zero r fun x hx => h x (by simp [hx]), h1, h2]
    rfl
theorem place_open : ∀ (p : List Stp) (k : Nat) (lev : Int), OpenP p → placeL v p = some (k, lev) → lev = 0
  | [], _, _, _, h => by cases h
  | s :: r, k, lev, ho, h => by
    have hr' : OpenP r := fun x hx => ho x (by simp [hx])
    rw [placeL] at h
    cases hr : placeL v r with
    | some a =>
      rw [hr] at h
      injection h with h
      injection h with _ h
      rw [← h]
      exact place_open r a.1 a.2 hr' hr
    | none =>
      rw [hr] at h
      dsimp only at h
      by_cases hv : s.node = v
      · rw [if_pos hv] at h
        injection h with h
        injection h with _ h
        rw [← h, sum_zero r hr', (ho s (by simp)).1]
        rfl
      · rw [if_neg hv] at h
        cases h
theorem see_open (h : OpenP p) (hv : ∃ s ∈ p, s.node = v) : seeP p v = p.map Stp.node ∧ levelP p v = 0 := by
  obtain ⟨k, lev, hp⟩ := place_some p hv
  obtain ⟨h1, -⟩ := place_last p k lev hp
  unfold seeP levelP
  rw [hp]
  refine ⟨?_, place_open p k lev h hp⟩
  show pickF p (flagsP p k lev) = _
  rw [flags_open h h1, pick_all]
end
end Go.Proofs.Ytphpbeapibohiaa

namespace Go.Proofs.Ytphpbeapibohiaa
open Go

/-- Entries with their places; from behind. -/
def fwL : Nat → List Stp → List (Nat × Stp)
  | _, [] => []
  | i, s :: r => (i, s) :: fwL (i + 1) r
def bkL (p : List Stp) : List (Nat × Stp) := (fwL 0 p).reverse
/-- What entries do to the level; the first one's own slot doesn't count. -/
def lvlI (ys : List (Nat × Stp)) : Int := (ys.map fun x => (if x.2.cr = true then (1 : Int) else 0) - (if x.2.cs = true ∧ 0 < x.1 then 1 else 0)).sum
/-- A walk, entry by entry: the level, the limit, what was told. -/
def stepW (fl : Stp → Bool × Bool) (q : Int × Int × List Int) (s : Stp) : Int × Int × List Int :=
  (nextLev (fl s).1 (fl s).2 q.1, nextLim (fl s).1 (fl s).2 q.1 q.2.1, q.2.2 ++ if q.1 + (if (fl s).1 = true then 1 else 0) ≤ q.2.1 then [s.node] else [])
def goW (fl : Stp → Bool × Bool) (q : Int × Int × List Int) (xs : List Stp) : Int × Int × List Int := xs.foldl (stepW fl) q
def flB (s : Stp) : Bool × Bool := (s.cr, s.cs)
def flO (s : Stp) : Bool × Bool := (s.cs, s.cr)
section
variable {v : Int} {p xs : List Stp} {ys zs : List (Nat × Stp)} {x : Nat × Stp} {s : Stp} {i k : Nat} {lev lim : Int} {acc : List Int} {fl : Stp → Bool × Bool}
theorem fw_len : ∀ (xs : List Stp) (i : Nat), (fwL i xs).length = xs.length
  | [], _ => rfl
  | s :: r, i => by rw [fwL, List.length_cons, fw_len r, List.length_cons]
theorem fw_get : ∀ (xs : List Stp) (i k : Nat) (h : k < xs.length), (fwL i xs)[k]? = some (i + k, xs[k])
  | [], _, _, h => absurd h (Nat.not_lt_zero _)
  | s :: r, i, 0, h => by simp [fwL]
  | s :: r, i, k + 1, h => by
    rw [fwL, List.getElem?_cons_succ, fw_get r (i + 1) k (Nat.lt_of_succ_lt_succ h)]
    simp only [List.getElem_cons_succ]
    rw [show i + 1 + k = i + (k + 1) by omega]
theorem fw_snd : ∀ (xs : List Stp) (i : Nat), (fwL i xs).map (·.2) = xs
  | [], _ => rfl
  | s :: r, i => by rw [fwL, List.map_cons, fw_snd r]
theorem bk_len (p : List Stp) : (bkL p).length = p.length := by rw [bkL, List.length_reverse, fw_len]
theorem bk_get (h : k < p.length) : (bkL p)[k]? = some (p.length - 1 - k, p[p.length - 1 - k]) := by
  rw [bkL, List.getElem?_reverse (by rw [fw_len]; exact h), fw_len, fw_get p 0 _ (by omega), Nat.zero_add]
theorem bk_snd : (bkL p).map (·.2) = p.reverse := by rw [bkL, List.map_reverse, fw_snd]
theorem lvlI_append : lvlI (ys ++ zs) = lvlI ys + lvlI zs := by
  unfold lvlI
  rw [List.map_append, List.sum_append]
theorem lvlI_snoc : lvlI (ys ++ [x]) = lvlI ys + ((if x.2.cr = true then (1 : Int) else 0) - (if x.2.cs = true ∧ 0 < x.1 then 1 else 0)) := by
  rw [lvlI_append]
  simp [lvlI]
theorem lvlI_rev : ∀ (ys : List (Nat × Stp)), lvlI ys.reverse = lvlI ys
  | [] => rfl
  | y :: r => by
    have e : lvlI (y :: r) = lvlI [y] + lvlI r := lvlI_append (ys := [y])
    rw [List.reverse_cons, lvlI_append, lvlI_rev r, e]
    omega
theorem lvlI_len : ∀ (ys : List (Nat × Stp)), -(ys.length : Int) ≤ lvlI ys ∧ lvlI ys ≤ ys.length
  | [] => ⟨by simp [lvlI], by simp [lvlI]⟩
  | y :: r => by
    have ih := lvlI_len r
    have e : lvlI (y :: r) = (if y.2.cr = true then (1 : Int) else 0) - (if y.2.cs = true ∧ 0 < y.1 then 1 else 0) + lvlI r := rfl
    rw [e, List.length_cons]
    constructor <;> split <;> split <;> omega
theorem lvlI_fw : ∀ (xs : List Stp) (i : Nat), lvlI (fwL (i + 1) xs) = sumL xs
  | [], _ => rfl
  | s :: r, i => by
    have e : lvlI (fwL (i + 1) (s :: r)) = (if s.cr = true then (1 : Int) else 0) - (if s.cs = true ∧ 0 < i + 1 then 1 else 0) + lvlI (fwL (i + 1 + 1) r) := rfl
    rw [e, lvlI_fw r, sum_cons]
    simp
theorem lvlI_all (s : Stp) (r : List Stp) : lvlI (bkL (s :: r)) = (if s.cr = true then (1 : Int) else 0) + sumL r := by
  have e : lvlI (fwL 0 (s :: r)) = (if s.cr = true then (1 : Int) else 0) - (if s.cs = true ∧ 0 < 0 then 1 else 0) + lvlI (fwL (0 + 1) r) := rfl
  rw [bkL, lvlI_rev, e, lvlI_fw]
  simp
theorem lvlI_level (h : placeL v p = some (k, lev)) : lvlI (bkL (p.drop k)) = lev := by
  obtain ⟨hk, e⟩ := place_lev p k lev h
  rw [List.drop_eq_getElem_cons hk, lvlI_all, e]
/-- The place is the last one. -/
theorem place_max : ∀ (p : List Stp) (k : Nat) (lev : Int), placeL v p = some (k, lev) → ∀ j (h : j < p.length), k < j → p[j].node ≠ v
  | [], _, _, h, _, _, _ => by cases h
  | s :: r, k, lev, h, j, hj, hkj => by
    rw [placeL] at h
    cases j with
    | zero => omega
    | succ j =>
      simp only [List.getElem_cons_succ]
      have hj' : j < r.length := Nat.lt_of_succ_lt_succ hj
      cases hr : placeL v r with
      | some a =>
        obtain ⟨k', lev'⟩ := a
        rw [hr] at h
        obtain ⟨rfl, rfl⟩ : k' + 1 = k ∧ lev' = lev := by simpa using h
        exact place_max r k' lev' hr j hj' (by omega)
      | none =>
        intro e
        obtain ⟨k', lev', e'⟩ := place_some (v := v) r ⟨_, List.getElem_mem hj', e⟩
        rw [hr] at e'
        cases e'
theorem place_no (h : ∀ x ∈ bkL p, x.2.node ≠ v) : placeL v p = none := place_none p fun ⟨s, hs, he⟩ => by
  have : s ∈ (bkL p).map (·.2) := by rw [bk_snd]; exact List.mem_reverse.2 hs
  obtain ⟨x, hx, rfl⟩ := List.mem_map.1 this
  exact h x hx he
theorem place_hit (hk : k < p.length) (h : ∀ x ∈ (bkL p).take k, x.2.node ≠ v) (hv : p[p.length - 1 - k].node = v) : ∃ lev, placeL v p = some (p.length - 1 - k, lev) := by
  obtain ⟨k', lev, e⟩ := place_some (v := v) p ⟨_, List.getElem_mem (by omega), hv⟩
  refine ⟨lev, ?_⟩
  obtain ⟨hk', hn⟩ := place_last p k' lev e
  rcases Nat.lt_trichotomy k' (p.length - 1 - k) with h1 | h1 | h1
  · exact absurd hv (place_max p k' lev e _ (by omega) h1)
  · rw [← h1]
    exact e
  · have hj : p.length - 1 - k' < k := by omega
    have hg := bk_get (p := p) (k := p.length - 1 - k') (by omega)
    have h2 : ((bkL p).take k)[p.length - 1 - k']? = some (p.length - 1 - (p.length - 1 - k'), p[p.length - 1 - (p.length - 1 - k')]) := by
      rw [List.getElem?_take, if_pos hj, hg]
    have h3 := h _ (List.mem_of_getElem? h2)
    simp only [show p.length - 1 - (p.length - 1 - k') = k' by omega] at h3
    exact absurd hn h3
theorem goW_snoc (q : Int × Int × List Int) : goW fl q (xs ++ [s]) = stepW fl (goW fl q xs) s := by
  unfold goW
  rw [List.foldl_append]
  rfl
theorem goW_pick : ∀ (xs : List Stp) (lev lim : Int) (acc : List Int), (goW fl (lev, lim, acc) xs).2.2 = acc ++ pickF xs (walkF lev lim (xs.map fl))
  | [], lev, lim, acc => by
    show acc = acc ++ pickF [] []
    rw [pickF]
    · rw [List.append_nil]
    · intro s r f fs h
      cases h
  | s :: r, lev, lim, acc => by
    have e : goW fl (lev, lim, acc) (s :: r) = goW fl (stepW fl (lev, lim, acc) s) r := rfl
    rw [e, stepW, goW_pick r, List.map_cons, show fl s = ((fl s).1, (fl s).2) from rfl, walk_cons, pickF, List.append_assoc]
    congr 1
    simp only
    by_cases h : lev + (if (fl s).1 = true then 1 else 0) ≤ lim
    · rw [if_pos h, if_pos (decide_eq_true h)]
      rfl
    · rw [if_neg h, if_neg (by rw [decide_eq_true_iff]; exact h)]
      rfl
theorem goW_small (h1 : -1000 ≤ lev ∧ lev ≤ 1000) (h2 : -1000 ≤ lim ∧ lim ≤ 1000) : ∀ (xs : List Stp), (-(1000 + xs.length : Int) ≤ (goW fl (lev, lim, []) xs).1 ∧ (goW fl (lev, lim, []) xs).1 ≤ 1000 + xs.length) ∧ (-(1000 + xs.length : Int) ≤ (goW fl (lev, lim, []) xs).2.1 ∧ (goW fl (lev, lim, []) xs).2.1 ≤ 1000 + xs.length) ∧ (goW fl (lev, lim, []) xs).2.2.length ≤ xs.length := fun xs => by
  induction hn : xs.length generalizing xs with
  | zero =>
    obtain rfl := List.eq_nil_of_length_eq_zero hn
    exact ⟨by simpa [goW] using h1, by simpa [goW] using h2, Nat.le_refl 0⟩
  | succ n ih =>
    obtain ⟨ys, s, rfl⟩ : ∃ ys s, xs = ys ++ [s] := by
      have : xs ≠ [] := fun e => by rw [e] at hn; cases hn
      exact ⟨xs.dropLast, xs.getLast this, (List.dropLast_concat_getLast this).symm⟩
    have hn' : ys.length = n := by simpa using hn
    obtain ⟨g1, g2, g3⟩ := ih ys hn'
    rw [goW_snoc]
    have hs := next_small (a := (fl s).1) (o := (fl s).2) (n := (1000 + n : Int)) g1 g2
    refine ⟨?_, ?_, ?_⟩
    · unfold stepW
      simp only
      have := hs.1
      omega
    · unfold stepW
      simp only
      have := hs.2
      omega
    · unfold stepW
      have h1 : ∀ (c : Prop) [Decidable c], (if c then [s.node] else []).length ≤ 1 := fun c _ => by split <;> simp
      rw [List.length_append]
      have := h1 ((goW fl (lev, lim, []) ys).1 + (if (fl s).1 = true then 1 else 0) ≤ (goW fl (lev, lim, []) ys).2.1)
      omega
theorem pick_app : ∀ (xs ys : List Stp) (fs gs : List Bool), fs.length = xs.length → pickF (xs ++ ys) (fs ++ gs) = pickF xs fs ++ pickF ys gs
  | [], ys, fs, gs, h => by
    obtain rfl := List.eq_nil_of_length_eq_zero h
    rw [List.nil_append, List.nil_append, pickF.eq_2 []]
    · rfl
    · intro s r f fs h
      cases h
  | s :: r, ys, [], gs, h => by cases h
  | s :: r, ys, f :: fs, gs, h => by
    rw [List.cons_append, List.cons_append, pickF, pickF, pick_app r ys fs gs (by simpa using h)]
    split
    · rw [List.cons_append]
    · rfl
theorem pick_one (s : Stp) (f : Bool) : pickF [s] [f] = if f = true then [s.node] else [] := by
  rw [pickF, pickF.eq_2 []]
  intro s r f fs h
  cases h
theorem pick_rev : ∀ (xs : List Stp) (fs : List Bool), fs.length = xs.length → pickF xs.reverse fs.reverse = (pickF xs fs).reverse
  | [], fs, h => by
    obtain rfl := List.eq_nil_of_length_eq_zero h
    rw [List.reverse_nil, List.reverse_nil, pickF.eq_2 []]
    · rfl
    · intro s r f fs h
      cases h
  | s :: r, [], h => by cases h
  | s :: r, f :: fs, h => by
    have h' : fs.length = r.length := by simpa using h
    rw [List.reverse_cons, List.reverse_cons, pick_app _ _ _ _ (by simpa using h'), pick_rev r fs h', pick_one, pickF]
    split
    · rw [List.reverse_cons]
    · rw [List.append_nil]
/-- What both walks tell. -/
theorem from_is (h : placeL v p = some (k, lev)) : ((goW flB (lev, lev, []) (p.take k).reverse).2.2.reverse ++ [v]) ++ (goW flO (lev, lev, []) (p.drop (k + 1))).2.2 = seeP p v := by
  obtain ⟨hk, hv⟩ := place_last p k lev h
  have hp : p = p.take k ++ p[k] :: p.drop (k + 1) := by rw [← List.drop_eq_getElem_cons hk, List.take_append_drop]
  have e1 : seeP p v = pickF p (flagsP p k lev) := by
    unfold seeP
    rw [h]
  have e2 : pickF p (flagsP p k lev) = pickF (p.take k ++ p[k] :: p.drop (k + 1)) (flagsP p k lev) := congrArg (fun z => pickF z (flagsP p k lev)) hp
  rw [e1, e2, flagsP, pick_app _ _ _ _ (by rw [List.length_reverse, walk_len, List.length_map, List.length_reverse]), pickF, if_pos rfl, hv, goW_pick, goW_pick, List.nil_append, List.nil_append]
  have e3 := pick_rev (p.take k).reverse (walkF lev lev ((p.take k).reverse.map flB)) (by rw [walk_len, List.length_map])
  rw [List.reverse_reverse] at e3
  rw [← e3, List.append_assoc]
  rfl
theorem from_no (h : placeL v p = none) : seeP p v = [] ∧ levelP p v = 0 := by
  unfold seeP levelP
  rw [h]
  exact ⟨rfl, rfl⟩
theorem level_is (h : placeL v p = some (k, lev)) : levelP p v = lev := by
  unfold levelP
  rw [h]
theorem place_small (h : placeL v p = some (k, lev)) (hp : p.length ≤ 300) : k < p.length ∧ -1000 ≤ lev ∧ lev ≤ 1000 := by
  obtain ⟨hk, e⟩ := place_lev p k lev h
  have hs := sum_len (p.drop (k + 1))
  rw [List.length_drop] at hs
  refine ⟨hk, ?_, ?_⟩ <;> rw [e] <;> split <;> omega
end
end Go.Proofs.Ytphpbeapibohiaa

namespace Go.Proofs.Ytphpbeapibohiaa
open Go Go.RowKit Go.Shelf
attribute [local go_sem] Oper.semAt_some

/-- What lies below n₀, and the block Bs, lies as it lay. -/
def KpS (n₀ Bs : Nat) (X Y : World) : Prop := Below n₀ X Y ∧ ∀ o, X.heap[Bs]? = some o → Y.heap[Bs]? = some o
section
variable {n₀ Bs : Nat} {w X Y Z W : World} {A : Option Addr} {c : Nat} {xs : List Stp}
theorem KpS.refl (n₀ Bs : Nat) (X : World) : KpS n₀ Bs X X := ⟨Below.refl _ _, fun _ h => h⟩
theorem KpS.trans (h : KpS n₀ Bs X Y) (k : KpS n₀ Bs Y Z) : KpS n₀ Bs X Z := ⟨h.1.trans k.1, fun o ho => k.2 o (h.2 o ho)⟩
theorem KpS.book (hn : n₀ ≤ w.heap.size) (hB : Bs < w.heap.size) (W : World) (l : Nat) (o o' : Obj) (hl : w.heap.size ≤ l) (h : W.heap[l]? = some o) (h1 : o.isCells = false) (h2 : o.isWalk = false) : KpS n₀ Bs W (W.putObj l o') :=
  ⟨belowK_b hn W l o o' hl h h1 h2, fun u hu => (World.putObj_heap_other (by omega)).trans hu⟩
theorem KpS.alloc (hn : n₀ ≤ X.heap.size) (o : Obj) : KpS n₀ Bs X (X.alloc o) := ⟨(Below.refl _ X).alloc hn o, fun _ hu => (Below.heap_alloc X o Bs (Array.getElem?_eq_some_iff.1 hu).1).trans hu⟩
theorem KpS.cell (h : KpS n₀ Bs X Y) {p : Addr} (hp : p.block < n₀) : Y.cell? p = X.cell? p := h.1.cell hp
theorem KpS.box {t : TypeId} {v : Value} (h : KpS n₀ Bs X Y) (hb : Boxed X Bs t v) : Boxed Y Bs t v := h.2 _ hb
theorem rec_kps (hR : RecIn RS X A c xs) (hA : 0 < xs.length → ∀ b off s, A = some ⟨b, off, s⟩ → b < n₀) (h : KpS n₀ Bs X Y) : RecIn RS Y A c xs :=
  hR.kept (F := fun i => n₀ ≤ i) (Keeps.of_below h.1 fun _ _ h => h) fun h0 b off s e _ => Nat.not_le.2 (hA h0 b off s e)

/-- A list of entries, cut. -/
theorem elem_steps : Try.prog.elem 22 = 28 := by kernel_rfl
theorem stepCut_low (A : Option Addr) (N k a : Nat) (ha : a ≤ k) (w : World) : (Instr.slice 22 (.slice A N k) none (some (.int .i64 (a : Int))) none).run Try.prog w = .ok (.slice A a k) w := by
  have hu : Try.prog.underlying 22 = some (.slice (Try.prog.elem 22)) := by rw [elem_steps]; exact Try.underlying22
  have hs : (sizeOf (Try.prog.elem 22)).run Try.prog w = .ok 5 w := by kernel_rfl
  rw [run_slice_h _ _ _ _ _ hu _ _ (by omega) (by omega), hs]
  simp only [Result.andThen, sliced, Int.toNat_natCast, Nat.sub_zero, Nat.zero_mul]
  by_cases h : k = 0
  · rw [if_pos h]
  · rw [if_neg h]
    cases A with
    | none => rfl
    | some x => simp [Addr.add]
theorem stepCut_high (A : Option Addr) (N k a : Nat) (ha : a ≤ N) (w : World) : (Instr.slice 22 (.slice A N k) (some (.int .i64 (a : Int))) none none).run Try.prog w = .ok (.slice (if k = a then A else A.map (·.add (a * 5))) (N - a) (k - a)) w := by
  have hu : Try.prog.underlying 22 = some (.slice (Try.prog.elem 22)) := by rw [elem_steps]; exact Try.underlying22
  have hs : (sizeOf (Try.prog.elem 22)).run Try.prog w = .ok 5 w := by kernel_rfl
  rw [run_slice_l _ _ _ _ _ hu _ _ (by omega) (by omega), hs]
  simp only [Result.andThen, sliced, Int.toNat_natCast]
theorem rec_low {k a : Nat} (h : RecIn RS w A k xs) (ha : a ≤ xs.length) : RecIn RS w A k (xs.take a) := by
  refine ⟨Nat.le_trans (by rw [List.length_take]; omega) h.cap, h.nil, fun i hi => ?_⟩
  rw [List.length_take] at hi
  obtain ⟨b, off, e, hb, hc⟩ := h.at_ i (by omega)
  refine ⟨b, off, e, hb, fun f hf => ?_⟩
  rw [hc f hf, List.getElem_take]
theorem rec_high {k a : Nat} (h : RecIn RS w A k xs) (ha : a ≤ xs.length) : RecIn RS w (if k = a then A else A.map (·.add (a * 5))) (k - a) (xs.drop a) := by
  have hc := h.cap
  refine ⟨by rw [List.length_drop]; omega, fun e => ?_, fun i hi => ?_⟩
  · by_cases hk : k = a
    · omega
    · rw [if_neg hk] at e
      have : A = none := by cases A with
        | none => rfl
        | some x => cases e
      have := h.nil this
      omega
  · rw [List.length_drop] at hi
    obtain ⟨b, off, rfl, hb, hcell⟩ := h.at_ (a + i) (by omega)
    refine ⟨b, off + a * 5, ?_, hb, fun f hf => ?_⟩
    · rw [if_neg (by omega)]
      simp [Addr.add]
    · have h5 : RS.n = 5 := rfl
      have e1 := hcell f hf
      rw [List.getElem_drop]
      rw [h5] at *
      rw [show off + a * 5 + (i * 5 + f) = off + ((a + i) * 5 + f) by omega]
      exact e1
end

section
variable {w : World}
--@if slices.Backward[[]towncrier/api.Step,towncrier/api.Step]@
set_option maxHeartbeats 1000000 in
theorem bkA (A : Option Addr) (len cap : Nat) (w : World) : Calls Try.prog 23 #[.slice A len cap] w fun e w' => e = .returned (.func (.func 42) #[] #[.pointer (some ⟨w.heap.size, 0, none⟩)]) ∧ w' = w.alloc (.cells #[.slice A len cap] 22) := by
  go_enter Try.func23, Try.ntmps23
  go_wp2
  go_ret
  exact ⟨rfl, rfl⟩
set_option maxRecDepth 100000 in
set_option maxHeartbeats 2000000 in
theorem bk1_in (n : Nat) (hn : 1 ≤ n) (l Bs n₀ len cap : Nat) (A : Option Addr) (xs : List Stp) (hlen : xs.length = len) (hl : len ≤ 1000000) (hA : 0 < xs.length → ∀ b off s, A = some ⟨b, off, s⟩ → b < n₀) (J Jx : List (Nat × Stp) → World → Prop)
    (hY : ∀ pre x W, J pre W → pre.length < len → YieldAt Fence.wide (n - 1) Try.prog l #[.int .i64 (x.1 : Int), .agg #[.int .i64 x.2.node, .int .i64 x.2.target, .int .i64 x.2.related, .bool x.2.cr, .bool x.2.cs]] W fun e W' =>
      (e = .returned (.bool true) ∧ J (pre ++ [x]) W' ∧ KpS n₀ Bs W W') ∨ (e = .returned (.bool false) ∧ Jx (pre ++ [x]) W'))
    (W : World) (hBs : Boxed W Bs 22 (.slice A len cap)) (hR : RecIn RS W A cap xs) (h0 : J [] W) :
    CallsIn Fence.wide n Try.prog 42 #[.func (.yield l) #[] #[], .pointer (some ⟨Bs, 0, none⟩)] W fun e W' => (∃ v, e = .returned v) ∧
      ((∃ ys, ys = bkL xs ∧ J ys W') ∨ (∃ pre, (∃ k, k ≤ len ∧ pre = (bkL xs).take k) ∧ Jx pre W')) := by
  have HR := Lib.hid hR
  have HY := Lib.hid hY
  have HA := Lib.hid hA
  have HL := Lib.hid hlen
  have HB := Lib.hid hBs
  have q0 := hBs.cell
  have hwl : IntKind.i64.wrap ((len : Int) - 1) = (len : Int) - 1 := wrap_small (by omega) (by omega)
  clear hR hY hA hlen hBs
  refine callsIn_of_wp Try.func42 rfl trivial ?_ rfl
  simp only [Try.ntmps42, List.size_toArray, List.length_cons, List.length_nil, Nat.reduceAdd, Nat.reduceSub, Array.replicate_succ, Array.replicate_zero, List.push_toArray, List.append_toArray, List.nil_append, List.cons_append]
  gi_wp2
  gi_loopw [3] (fun i wr => ∃ m : Nat, m ≤ len ∧ i = .int .i64 ((m : Int) - 1) ∧ J ((bkL xs).take (len - m)) wr ∧ KpS n₀ Bs W wr) (fun i _ => (intOf i + 1).toNat)
  case atStart => exact ⟨len, Nat.le_refl _, rfl, by rw [Nat.sub_self]; exact h0, KpS.refl _ _ _⟩
  case round =>
    obtain ⟨m, hm, rfl, hJs, hk⟩ := hrel
    cases m with
    | zero =>
      rw [Nat.sub_zero, List.take_of_length_le (by rw [bk_len, HL.out]; exact Nat.le_refl _)] at hJs
      have HJ := Lib.hid hJs
      clear hJs
      gi_wp2
      go_end0
      exact ⟨⟨_, rfl⟩, .inl ⟨_, rfl, HJ.out⟩⟩
    | succ k =>
      have hkl : k < xs.length := by rw [HL.out]; omega
      have hR2 := rec_kps HR.out HA.out hk
      obtain ⟨b, off, rfl, c0, c1, c2, c3, c4⟩ := five_of hR2 hkl
      have hnx : (bkL xs)[len - (k + 1)]? = some (k, xs[k]) := by
        have := bk_get (p := xs) (k := len - (k + 1)) (by rw [HL.out]; omega)
        rw [this]
        simp only [show xs.length - 1 - (len - (k + 1)) = k by rw [HL.out]; omega]
      obtain ⟨x, hx⟩ : ∃ x, x = xs[k] := ⟨_, rfl⟩
      rw [← hx] at c0 c1 c2 c3 c4 hnx
      have htk : (bkL xs).take (len - k) = (bkL xs).take (len - (k + 1)) ++ [(k, x)] := by
        rw [show len - k = len - (k + 1) + 1 by omega, List.take_add_one, hnx]
        rfl
      have hle : ((bkL xs).take (len - (k + 1))).length < len := by
        rw [List.length_take, bk_len, HL.out]
        omega
      obtain ⟨x0, x1, x2, x3, x4⟩ := x
      obtain ⟨fn, tmps, assign, body, hy, hRd⟩ := HY.out _ (k, ⟨x0, x1, x2, x3, x4⟩) wr hJs hle
      have hkk : (((k + 1 : Nat) : Int) - 1) = (k : Int) := by omega
      rw [hkk]
      dsimp only at hy c0 c1 c2 c3 c4
      have q1 := (hk.box HB.out).cell
      have hwk : IntKind.i64.wrap ((k : Int) - 1) = (k : Int) - 1 := wrap_small (by omega) (by omega)
      have HK := Lib.hid hk
      have HT := Lib.hid htk
      have HJ := Lib.hid hJs
      have HRd := Lib.hid hRd
      clear hR2 hnx hx hkk hk htk hle hJs hRd q0
      gi_wp2
      refine HRd.out.mono ?_
      rintro e W3 (⟨rfl, hJ3, hk3⟩ | ⟨rfl, hJx3⟩)
      · have HJ3 := Lib.hid hJ3
        have HK3 := Lib.hid hk3
        clear hJ3 hk3 c0 c1 c2 c3 c4 q1 hy
        gi_wp2
        go_roundw
        case rel => exact ⟨k, by omega, rfl, by rw [HT.out]; exact HJ3.out, HK.out.trans HK3.out⟩
        case measure => simp [intOf]
      · have HJ3 := Lib.hid hJx3
        clear hJx3 c0 c1 c2 c3 c4 q1 hy
        gi_wp2
        refine bodyPost_ret (results_none rfl _ _ _) rfl ?_
        exact ⟨⟨_, rfl⟩, .inr ⟨_, ⟨len - k, by omega, HT.out.symm⟩, HJ3.out⟩⟩
theorem bk_stops (n : Nat) (hn : 1 ≤ n) (Bs n₀ len cap : Nat) (A : Option Addr) (xs : List Stp) (hlen : xs.length = len) (hl : len ≤ 1000000) (w : World) (hBs : Bs < w.heap.size) (hA : 0 < xs.length → ∀ b off s, A = some ⟨b, off, s⟩ → b < n₀)
    (hc : Boxed w Bs 22 (.slice A len cap)) (hR : RecIn RS w A cap xs) :
    SeqStopsK Fence.wide n Try.prog 42 #[.pointer (some ⟨Bs, 0, none⟩)] (fun x : Nat × Stp => #[Value.int .i64 (x.1 : Int), .agg #[.int .i64 x.2.node, .int .i64 x.2.target, .int .i64 x.2.related, .bool x.2.cr, .bool x.2.cs]]) (KpS n₀ Bs) (fun ys => ys = bkL xs)
      (fun pre => ∃ k, k ≤ len ∧ pre = (bkL xs).take k) len w := fun l J Jx W hW _ _ hY h0 =>
  bk1_in n hn l Bs n₀ len cap A xs hlen hl hA J Jx hY W ((hW.block Bs hBs).trans hc) (hR.below hW) h0
--@end@
--@if slices.All[[]towncrier/api.Step,towncrier/api.Step]@
set_option maxHeartbeats 1000000 in
theorem alA (A : Option Addr) (len cap : Nat) (w : World) : Calls Try.prog 25 #[.slice A len cap] w fun e w' => e = .returned (.func (.func 43) #[] #[.pointer (some ⟨w.heap.size, 0, none⟩)]) ∧ w' = w.alloc (.cells #[.slice A len cap] 22) := by
  go_enter Try.func25, Try.ntmps25
  go_wp2
  go_ret
  exact ⟨rfl, rfl⟩
set_option maxRecDepth 100000 in
set_option maxHeartbeats 2000000 in
theorem al1_in (n : Nat) (hn : 1 ≤ n) (l Bs n₀ len cap : Nat) (A : Option Addr) (xs : List Stp) (hlen : xs.length = len) (hl : len ≤ 1000000) (hA : 0 < xs.length → ∀ b off s, A = some ⟨b, off, s⟩ → b < n₀) (J Jx : List (Nat × Stp) → World → Prop)
    (W : World) (hn₀ : n₀ ≤ W.heap.size) (hJ : AbidesFrom W.heap.size J)
    (hY : ∀ pre x W, J pre W → pre.length < len → YieldAt Fence.wide (n - 1) Try.prog l #[.int .i64 (x.1 : Int), .agg #[.int .i64 x.2.node, .int .i64 x.2.target, .int .i64 x.2.related, .bool x.2.cr, .bool x.2.cs]] W fun e W' =>
      (e = .returned (.bool true) ∧ J (pre ++ [x]) W' ∧ KpS n₀ Bs W W') ∨ (e = .returned (.bool false) ∧ Jx (pre ++ [x]) W'))
    (hBs : Boxed W Bs 22 (.slice A len cap)) (hR : RecIn RS W A cap xs) (h0 : J [] W) :
    CallsIn Fence.wide n Try.prog 43 #[.func (.yield l) #[] #[], .pointer (some ⟨Bs, 0, none⟩)] W fun e W' => (∃ v, e = .returned v) ∧
      ((∃ ys, ys = fwL 0 xs ∧ J ys W') ∨ (∃ pre, (∃ k, k ≤ len ∧ pre = (fwL 0 xs).take k) ∧ Jx pre W')) := by
  have HR := Lib.hid hR
  have HY := Lib.hid hY
  have HA := Lib.hid hA
  have HL := Lib.hid hlen
  have HJJ := Lib.hid hJ
  have HN := Lib.hid hn₀
  have q0 := hBs.cell
  clear hR hY hA hlen hBs hJ hn₀
  refine callsIn_of_wp Try.func43 rfl trivial ?_ rfl
  simp only [Try.ntmps43, List.size_toArray, List.length_cons, List.length_nil, Nat.reduceAdd, Nat.reduceSub, Array.replicate_succ, Array.replicate_zero, List.push_toArray, List.append_toArray, List.nil_append, List.cons_append]
  gi_wp2
  gi_loopw [7] (fun i wr => ∃ k : Nat, k ≤ len ∧ i = .int .i64 (k : Int) ∧ J ((fwL 0 xs).take k) wr ∧ KpS n₀ Bs W wr) (fun i _ => len - (intOf i).toNat)
  case atStart => exact ⟨0, Nat.zero_le _, rfl, h0, KpS.refl _ _ _⟩
  case round =>
    obtain ⟨k, hm, rfl, hJs, hk⟩ := hrel
    by_cases hlt : k < len
    · have hkl : k < xs.length := by rw [HL.out]; omega
      have hR2 := rec_kps HR.out HA.out hk
      obtain ⟨b, off, rfl, c0, c1, c2, c3, c4⟩ := five_of hR2 hkl
      have hnx : (fwL 0 xs)[k]? = some (k, xs[k]) := by
        rw [fw_get xs 0 k hkl, Nat.zero_add]
      obtain ⟨x, hx⟩ : ∃ x, x = xs[k] := ⟨_, rfl⟩
      rw [← hx] at c0 c1 c2 c3 c4 hnx
      have htk : (fwL 0 xs).take (k + 1) = (fwL 0 xs).take k ++ [(k, x)] := by
        rw [List.take_add_one, hnx]
        rfl
      have hle : ((fwL 0 xs).take k).length < len := by
        rw [List.length_take, fw_len, HL.out]
        omega
      obtain ⟨x0, x1, x2, x3, x4⟩ := x
      obtain ⟨W2, hW2⟩ : ∃ W2, W2 = wr.alloc (.cells #[.int .i64 x0, .int .i64 x1, .int .i64 x2, .bool x3, .bool x4] 28) := ⟨_, rfl⟩
      have hJ2 : J ((fwL 0 xs).take k) W2 := by
        rw [hW2]
        exact HJJ.out _ wr _ none hJs (World.grownBy_alloc wr _ none) (fun r e => by cases e)
      obtain ⟨fn, tmps, assign, body, hy, hRd⟩ := HY.out _ (k, ⟨x0, x1, x2, x3, x4⟩) W2 hJ2 hle
      dsimp only at hy c0 c1 c2 c3 c4
      have hk2 : KpS n₀ Bs W W2 := by
        rw [hW2]
        exact hk.trans (KpS.alloc (Nat.le_trans HN.out hk.1.size) _)
      have HK := Lib.hid hk2
      have HT := Lib.hid htk
      have HRd := Lib.hid hRd
      have HW := Lib.hid hW2
      have hwk : IntKind.i64.wrap ((k : Int) + 1) = (k : Int) + 1 := wrap_small (by omega) (by omega)
      rw [hW2] at hy
      clear hR2 hnx hx hk hk2 htk hle hJs hJ2 hRd q0 hW2
      gi_wp2
      rw [← HW.out]
      refine HRd.out.mono ?_
      rintro e W3 (⟨rfl, hJ3, hk3⟩ | ⟨rfl, hJx3⟩)
      · have HJ3 := Lib.hid hJ3
        have HK3 := Lib.hid hk3
        clear hJ3 hk3 c0 c1 c2 c3 c4 hy
        gi_wp2
        go_roundw
        case rel => exact ⟨k + 1, by omega, by go_num, by rw [HT.out]; exact HJ3.out, HK.out.trans HK3.out⟩
        case measure => simp [intOf]; omega
      · have HJ3 := Lib.hid hJx3
        clear hJx3 c0 c1 c2 c3 c4 hy
        gi_wp2
        refine bodyPost_ret (results_none rfl _ _ _) rfl ?_
        exact ⟨⟨_, rfl⟩, .inr ⟨_, ⟨k + 1, by omega, HT.out.symm⟩, HJ3.out⟩⟩
    · obtain rfl : k = len := by omega
      rw [List.take_of_length_le (by rw [fw_len, HL.out]; exact Nat.le_refl _)] at hJs
      have HJ := Lib.hid hJs
      clear hJs
      gi_wp2
      go_end0
      exact ⟨⟨_, rfl⟩, .inl ⟨_, rfl, HJ.out⟩⟩
theorem al_stops (n : Nat) (hn : 1 ≤ n) (Bs n₀ len cap : Nat) (A : Option Addr) (xs : List Stp) (hlen : xs.length = len) (hl : len ≤ 1000000) (w : World) (hBs : Bs < w.heap.size) (hn₀ : n₀ ≤ w.heap.size) (hA : 0 < xs.length → ∀ b off s, A = some ⟨b, off, s⟩ → b < n₀)
    (hc : Boxed w Bs 22 (.slice A len cap)) (hR : RecIn RS w A cap xs) :
    SeqStopsK Fence.wide n Try.prog 43 #[.pointer (some ⟨Bs, 0, none⟩)] (fun x : Nat × Stp => #[Value.int .i64 (x.1 : Int), .agg #[.int .i64 x.2.node, .int .i64 x.2.target, .int .i64 x.2.related, .bool x.2.cr, .bool x.2.cs]]) (KpS n₀ Bs) (fun ys => ys = fwL 0 xs)
      (fun pre => ∃ k, k ≤ len ∧ pre = (fwL 0 xs).take k) len w := fun l J Jx W hW hJ _ hY h0 =>
  al1_in n hn l Bs n₀ len cap A xs hlen hl hA J Jx W (Nat.le_trans hn₀ hW.size) hJ hY ((hW.block Bs hBs).trans hc) (hR.below hW) h0
--@end@
end
end Go.Proofs.Ytphpbeapibohiaa

namespace Go.Proofs.Ytphpbeapibohiaa
open Go Go.RowKit Go.Shelf
attribute [local go_sem] Oper.semAt_some

/-- 'Block B holds these cells' abides whatever turns no cells. -/
theorem has_own {β : Type} (B : Nat) (f : β → Array Value) (t : TypeId) (fr : Nat × Nat) : Own (fun s W => Has W B (.cells (f s) t fr)) := fun s X Y row hs hg hrow =>
  (hg.block B hs.inside fun e' => by
    obtain ⟨o, ho, hc⟩ := hrow B e'.symm
    rw [show X.heap[B]? = _ from hs] at ho
    cases ho
    cases hc).trans hs
/-- The last place of a node; -1: there is none. -/
def placeI (p : List Stp) (v : Int) : Int := match placeL v p with
  | none => -1
  | some (k, _) => k
theorem place_found {p : List Stp} {v : Int} {n k : Nat} {ini : List (Nat × Stp)} {last : Nat × Stp} (hn : p.length = n) (hk : k ≤ n) (e1 : (bkL p).take k = ini ++ [last]) (e2 : ∀ q ∈ ini, q.2.node ≠ v) (e3 : last.2.node = v) : placeI p v = (last.1 : Int) := by
  obtain ⟨k', rfl⟩ : ∃ k', k = k' + 1 := by
    cases k with
    | zero => simp at e1
    | succ k' => exact ⟨k', rfl⟩
  have hkp : k' < p.length := by omega
  rw [List.take_add_one, bk_get hkp] at e1
  obtain ⟨e4, e5⟩ := List.append_inj' e1 rfl
  have e6 : (p.length - 1 - k', p[p.length - 1 - k']'(by omega)) = last := by simpa using e5
  rw [← e6] at e3
  obtain ⟨lev, h⟩ := place_hit (v := v) hkp (by rw [e4]; exact e2) e3
  unfold placeI
  rw [h, ← e6]
section
variable {w : World} {A : Option Addr} {c n : Nat} {p : List Stp} {v : Int}
set_option maxRecDepth 100000 in
set_option maxHeartbeats 4000000 in
theorem sePlace (v : Int) (hR : RecIn RS w A c p) (hn : p.length = n) (hl : n ≤ 300) :
    Calls Try.prog 19 #[.slice A n c, .int .i64 v] w fun e w' => e = .returned (.int .i64 (placeI p v)) ∧ Below w.heap.size w w' := by
  refine (callsIn_wide (n := 9)).1 ?_
  refine callsIn_of_wp_marks Try.func19 rfl trivial ?_ rfl
  simp only [Try.ntmps19, List.size_toArray, List.length_cons, List.length_nil, Nat.reduceAdd, Nat.reduceSub, Array.replicate_succ, Array.replicate_zero, List.push_toArray, List.append_toArray, List.nil_append, List.cons_append]
  gi_wp2_with (refine ⟨trivial, ?_⟩; gi_at_call 23; refine (callsIn_wide.2 (bkA _ _ _ _)).mono ?_; rintro e w' ⟨rfl, rfl⟩)
  have b0 := Boxed.new w 3 (.int .i64 v)
  have b1 := Boxed.new (w.alloc (.cells #[.int .i64 v] 3)) 3 (.int .i64 0)
  have b2 := Boxed.new ((w.alloc (.cells #[.int .i64 v] 3)).alloc (.cells #[.int .i64 0] 3)) 22 (.slice A n c)
  have b0 := (b0.alloc (.cells #[.int .i64 0] 3)).alloc (.cells #[.slice A n c] 22)
  have b1 := b1.alloc (.cells #[.slice A n c] 22)
  simp only [World.size_alloc] at b1 b2
  have hB0 : Below w.heap.size w (((w.alloc (.cells #[.int .i64 v] 3)).alloc (.cells #[.int .i64 0] 3)).alloc (.cells #[.slice A n c] 22)) := (((Below.refl _ w).alloc (Nat.le_refl _) _).alloc (by simp) _).alloc (by simp; omega) _
  have hsz : (((w.alloc (.cells #[.int .i64 v] 3)).alloc (.cells #[.int .i64 0] 3)).alloc (.cells #[.slice A n c] 22)).heap.size = w.heap.size + 3 := by simp
  obtain ⟨W0, hW0⟩ : ∃ W0, ((w.alloc (.cells #[.int .i64 v] 3)).alloc (.cells #[.int .i64 0] 3)).alloc (.cells #[.slice A n c] 22) = W0 := ⟨_, rfl⟩
  rw [hW0] at b0 b1 b2 hB0 hsz ⊢
  clear hW0
  have hA : 0 < p.length → ∀ b off s, A = some ⟨b, off, s⟩ → b < w.heap.size := fun h0 b off s e => by
    obtain ⟨b', off', e', hb, -⟩ := hR.at_ 0 h0
    rw [e] at e'
    cases e'
    exact hb
  refine wpIn_rangeFunc_ownH rfl (by decide) (gf := 42) (lb := #[.pointer (some ⟨w.heap.size + 1 + 1, 0, none⟩)]) rfl trivial (enters_of Try.func42 (by kernel_rfl) rfl)
    (bk_stops (9 - 1) (by decide) (w.heap.size + 1 + 1) w.heap.size n c A p hn (by omega) W0 (by omega) hA b2 (hR.below hB0)) KpS.trans (KpS.book (by omega) (by omega)) (Below.refl _ _) (fun _ => rfl)
    (fun pre W => ((∀ q ∈ pre, q.2.node ≠ v) ∧ Boxed W w.heap.size 3 (.int .i64 v) ∧ Boxed W (w.heap.size + 1) 3 (.int .i64 0)) ∧ Below w.heap.size w W)
    (fun cd pre W => (cd = .ret ∧ ∃ ini last, pre = ini ++ [last] ∧ (∀ q ∈ ini, q.2.node ≠ v) ∧ last.2.node = v ∧ Boxed W (w.heap.size + 1) 3 (.int .i64 (last.1 : Int))) ∧ Below w.heap.size w W)
    (OwnFrom.and (OwnFrom.and (ownFrom_pure _ _) (OwnFrom.and (Own.from (boxed_own _ _ _) _) (Own.from (boxed_own _ _ _) _))) (ownFrom_below (Nat.le_refl _) (by omega)))
    (fun cd => OwnFrom.and (Own.from (fun s A B row hs hg hr => by obtain ⟨h1, ini, last, e1, e2, e3, e4⟩ := hs; exact ⟨h1, ini, last, e1, e2, e3, boxed_own _ _ (fun (_ : Unit) => .int .i64 (last.1 : Int)) () A B row e4 hg hr⟩) _) (ownFrom_below (Nat.le_refl _) (by omega)))
    ⟨⟨(fun q hq => by cases hq), b0, b1⟩, hB0⟩
    (fun x a' W => ∃ Bx, w.heap.size + 1 < Bx ∧ Has W Bx (.cells #[.int .i64 x.2.node, .int .i64 x.2.target, .int .i64 x.2.related, .bool x.2.cr, .bool x.2.cs] 28 (0, 0)) ∧ a' = { tmps := #[.slice A n c, .int .i64 v, undef, .pointer (some ⟨w.heap.size, 0, none⟩), .pointer (some ⟨w.heap.size + 1, 0, none⟩), .int .i64 (x.1 : Int), .pointer (some ⟨Bx, 0, none⟩), .slice A n c, .func (.func 42) #[] #[.pointer (some ⟨w.heap.size + 1 + 1, 0, none⟩)], .int .i64 (x.1 : Int), .agg #[.int .i64 x.2.node, .int .i64 x.2.target, .int .i64 x.2.related, .bool x.2.cr, .bool x.2.cs], undef, undef, undef, undef, undef], defers := [] })
    (fun x a' _ X Y row hs hg hr => by obtain ⟨Bx, h1, h2, h3⟩ := hs; exact ⟨Bx, h1, has_own Bx (fun (_ : Unit) => #[.int .i64 x.2.node, .int .i64 x.2.target, .int .i64 x.2.related, .bool x.2.cr, .bool x.2.cs]) _ _ () X Y row h2 hg (fun r e => (hr r e).2), h3⟩)
    ?assign ?body ?done ?stop
  case assign =>
    rintro l pre x W K ⟨⟨hp, q0, q1⟩, hB⟩ hK
    gi_wp2
    exact hK _ _ ((KeepsOthers.alloc _ _).from _) (KpS.alloc hB.size _) ⟨⟨hp, q0.alloc _, q1.alloc _⟩, hB.alloc hB.size _⟩ ⟨W.heap.size, q1.lt, Has.fresh W (.cells #[.int .i64 x.2.node, .int .i64 x.2.target, .int .i64 x.2.related, .bool x.2.cr, .bool x.2.cs] 28), rfl⟩
  case body =>
    rintro l pre x a' W hl ⟨r, hr⟩ ⟨⟨hp, q0, q1⟩, hB⟩ ⟨Bx, hBx, bX, rfl⟩ hlt
    have c0 := bX.cell 0
    have d0 := q0.cell
    have d1 := q1.cell
    have f1 := q1.frozen
    by_cases hx : x.2.node = v
    · have z : (x.2.node == v) = true := by simpa using hx
      have Hx := Lib.hid hx
      clear hx
      gi_wp2
      exact ⟨(KeepsOthers.setCell _ _ _).from _, ⟨rfl, pre, x, rfl, hp, Hx.out, q1.set _⟩, hB.setCell (p := ⟨w.heap.size + 1, 0, none⟩) (by simp) _⟩
    · have z : (x.2.node == v) = false := by simpa using hx
      have Hx := Lib.hid hx
      clear hx
      gi_wp2
      exact ⟨KeepsFrom.refl _ _, KpS.refl _ _ _, ⟨fun q hq => (List.mem_append.1 hq).elim (hp q) (fun e => by rw [List.mem_singleton.1 e]; exact Hx.out), q0, q1⟩, hB⟩
  case done =>
    rintro D ys W hD rfl ⟨⟨hp, q0, q1⟩, hB⟩ hK
    have d1 := q1.cell
    have f1 := q1.frozen
    gi_wp2
    have hK' := (KeepsOthers.setCell W ⟨w.heap.size + 1, 0, none⟩ (.int .i64 (-1))).same D _ hK rfl
    refine ⟨by simp, .inl ⟨_, _, rfl, run_takeDeferred hK', ?_⟩⟩
    have hc5 := cell_kept (q1.set (.int .i64 (-1))).cell (grownBy_putObj' _ D (.deferred none)) (fun r e => by cases e; exact ⟨_, hK', rfl⟩)
    have e1 : placeI p v = -1 := by
      unfold placeI
      rw [place_no hp]
    refine ⟨.int .i64 (-1), ?_, by rw [e1], (hB.setCell (p := ⟨w.heap.size + 1, 0, none⟩) (by simp) _).trans (belowK_b (w := w) (Nat.le_refl _) _ D _ _ (by omega) hK' rfl rfl)⟩
    simp [results, Try.f19, go_sem, hc5]
  case stop =>
    rintro D cd pre W hD ⟨k, hk, rfl⟩ ⟨⟨rfl, ini, last, e1, e2, e3, q1⟩, hB⟩ hK
    gi_wp2
    refine ⟨by simp, .inl ⟨_, _, rfl, run_takeDeferred hK, ?_⟩⟩
    have hc5 := cell_kept q1.cell (grownBy_putObj' _ D (.deferred none)) (fun r e => by cases e; exact ⟨_, hK, rfl⟩)
    have e5 : placeI p v = (last.1 : Int) := place_found hn hk e1 e2 e3
    refine ⟨.int .i64 (last.1 : Int), ?_, by rw [e5], hB.trans (belowK_b (w := w) (Nat.le_refl _) W D _ _ (by omega) hK rfl rfl)⟩
    simp [results, Try.f19, go_sem, hc5]
end
end Go.Proofs.Ytphpbeapibohiaa

namespace Go.Proofs.Ytphpbeapibohiaa
open Go Go.RowKit Go.Shelf
attribute [local go_sem] Oper.semAt_some

theorem KpS.store {n₀ Bs B : Nat} {X : World} (hn : n₀ ≤ B) (hne : B ≠ Bs) (o : Nat) (u : Value) : KpS n₀ Bs X (X.setCell ⟨B, o, none⟩ u) :=
  ⟨(Below.refl _ X).setCell (p := ⟨B, o, none⟩) hn u, fun _ hz => (Below.heap_setCell X ⟨B, o, none⟩ u Bs (fun e => hne e.symm)).trans hz⟩
section
variable {w : World} {A : Option Addr} {c n : Nat} {p : List Stp} {v : Int}
theorem rec_low0 {n₀ : Nat} (hR : RecIn RS w A c p) (hn₀ : w.heap.size = n₀) : 0 < p.length → ∀ b off s, A = some ⟨b, off, s⟩ → b < n₀ := fun h0 b off s e => by
  obtain ⟨b', off', e', hb, -⟩ := hR.at_ 0 h0
  rw [e] at e'
  cases e'
  omega
set_option maxRecDepth 100000 in
set_option maxHeartbeats 4000000 in
theorem seLevel (v : Int) (hR : RecIn RS w A c p) (hn : p.length = n) (hl : n ≤ 300) :
    Calls Try.prog 10 #[.slice A n c, .int .i64 v] w fun e w' => e = .returned (.int .i64 (levelP p v)) ∧ Below w.heap.size w w' := by
  have HP := Lib.hid (sePlace v hR hn hl)
  have HR := Lib.hid hR
  have HN := Lib.hid hn
  clear hR hn
  cases hp : placeL v p with
  | none =>
    have e1 : placeI p v = -1 := by
      unfold placeI
      rw [hp]
    have e2 := (from_no hp).2
    rw [e1] at HP
    rw [e2]
    clear e1 e2 hp
    refine (callsIn_wide (n := 9)).1 ?_
    refine callsIn_of_wp_marks Try.func10 rfl trivial ?_ rfl
    simp only [Try.ntmps10, List.size_toArray, List.length_cons, List.length_nil, Nat.reduceAdd, Nat.reduceSub, Array.replicate_succ, Array.replicate_zero, List.push_toArray, List.append_toArray, List.nil_append, List.cons_append]
    gi_wp2_with (refine ⟨trivial, ?_⟩; gi_at_call 19; refine (callsIn_wide.2 HP.out).mono ?_; rintro e w' ⟨rfl, hb⟩)
    exact ⟨_, results_tmp rfl _ _ _, rfl, hb⟩
  | some kl =>
    obtain ⟨k, lev⟩ := kl
    have e1 : placeI p v = (k : Int) := by
      unfold placeI
      rw [hp]
    obtain ⟨hk, hs1, hs2⟩ := place_small hp (by rw [HN.out]; exact hl)
    have e2 := level_is hp
    have e3 := lvlI_level hp
    rw [e1] at HP
    rw [e2]
    rw [HN.out] at hk
    clear e1 e2 hp
    refine (callsIn_wide (n := 9)).1 ?_
    refine callsIn_of_wp_marks Try.func10 rfl trivial ?_ rfl
    simp only [Try.ntmps10, List.size_toArray, List.length_cons, List.length_nil, Nat.reduceAdd, Nat.reduceSub, Array.replicate_succ, Array.replicate_zero, List.push_toArray, List.append_toArray, List.nil_append, List.cons_append]
    have z0 : decide ((k : Int) < 0) = false := by rw [decide_eq_false_iff_not]; omega
    have hcut : ∀ w, _ := fun w => stepCut_high A n c k (by omega) w
    have hR2 := rec_high HR.out (a := k) (by rw [HN.out]; omega)
    obtain ⟨A2, hA2⟩ : ∃ A2, A2 = if c = k then A else A.map (·.add (k * 5)) := ⟨_, rfl⟩
    rw [← hA2] at hcut hR2
    have HE3 := Lib.hid e3
    have HR2 := Lib.hid hR2
    clear hA2 e3 hR2
    gi_wp2_with (refine ⟨trivial, ?_⟩; first | (gi_at_call 19; refine (callsIn_wide.2 HP.out).mono ?_; rintro e w' ⟨rfl, hb⟩) | (gi_at_call 23; refine (callsIn_wide.2 (bkA _ _ _ _)).mono ?_; rintro e w' ⟨rfl, rfl⟩))
    have b0 := Boxed.new w' 3 (.int .i64 0)
    have b1 := Boxed.new (w'.alloc (.cells #[.int .i64 0] 3)) 22 (.slice A2 (n - k) (c - k))
    have b0 := b0.alloc (.cells #[.slice A2 (n - k) (c - k)] 22)
    simp only [World.size_alloc] at b1
    have hB0 : Below w.heap.size w ((w'.alloc (.cells #[.int .i64 0] 3)).alloc (.cells #[.slice A2 (n - k) (c - k)] 22)) := (hb.alloc hb.size _).alloc (by have := hb.size; simp; omega) _
    have hsz : ((w'.alloc (.cells #[.int .i64 0] 3)).alloc (.cells #[.slice A2 (n - k) (c - k)] 22)).heap.size = w'.heap.size + 2 := by simp
    obtain ⟨W0, hW0⟩ : ∃ W0, (w'.alloc (.cells #[.int .i64 0] 3)).alloc (.cells #[.slice A2 (n - k) (c - k)] 22) = W0 := ⟨_, rfl⟩
    rw [hW0] at b0 b1 hB0 hsz ⊢
    have hT := hb.size
    obtain ⟨T, eT⟩ : ∃ T, T = w'.heap.size := ⟨_, rfl⟩
    rw [← eT] at b0 b1 hsz hT ⊢
    clear hW0 eT hcut z0 hb HP
    have hn2 : (p.drop k).length = n - k := by rw [List.length_drop, HN.out]
    refine wpIn_rangeFunc_ownH rfl (by decide) (gf := 42) (lb := #[.pointer (some ⟨T + 1, 0, none⟩)]) rfl trivial (enters_of Try.func42 (by kernel_rfl) rfl)
      (bk_stops (9 - 1) (by decide) (T + 1) w.heap.size (n - k) (c - k) A2 (p.drop k) hn2 (by omega) W0 (by omega) (rec_low0 HR2.out rfl) b1 (HR2.out.below hB0)) KpS.trans (KpS.book (by omega) (by omega)) (Below.refl _ _) (fun _ => rfl)
      (fun pre W => Boxed W T 3 (.int .i64 (lvlI pre)) ∧ Below w.heap.size w W)
      (fun _ _ _ => False)
      (OwnFrom.and (Own.from (boxed_own _ _ _) _) (ownFrom_below (Nat.le_refl _) (by omega)))
      (fun _ _ _ _ _ hs _ _ => hs)
      ⟨b0, hB0⟩
      (fun x a' W => ∃ Bx, T < Bx ∧ Has W Bx (.cells #[.int .i64 x.2.node, .int .i64 x.2.target, .int .i64 x.2.related, .bool x.2.cr, .bool x.2.cs] 28 (0, 0)) ∧ a' = { tmps := #[.slice A n c, .int .i64 v, undef, undef, .int .i64 0, .int .i64 (k : Int), .pointer (some ⟨T, 0, none⟩), .int .i64 (x.1 : Int), .pointer (some ⟨Bx, 0, none⟩), .slice A n c, .int .i64 v, .int .i64 (k : Int), .int .i64 (k : Int), .bool false, .slice A n c, .int .i64 (k : Int), .slice A2 (n - k) (c - k), .func (.func 42) #[] #[.pointer (some ⟨T + 1, 0, none⟩)], .int .i64 (x.1 : Int), .agg #[.int .i64 x.2.node, .int .i64 x.2.target, .int .i64 x.2.related, .bool x.2.cr, .bool x.2.cs], undef, undef, undef, undef, undef, undef, undef, undef, undef, undef, undef, undef, undef], defers := [] })
      (fun x a' _ X Y row hs hg hr => by obtain ⟨Bx, h1, h2, h3⟩ := hs; exact ⟨Bx, h1, has_own Bx (fun (_ : Unit) => #[.int .i64 x.2.node, .int .i64 x.2.target, .int .i64 x.2.related, .bool x.2.cr, .bool x.2.cs]) _ _ () X Y row h2 hg (fun r e => (hr r e).2), h3⟩)
      ?assign ?body ?done ?stop
    case assign =>
      rintro l pre x W K ⟨q0, hB⟩ hK
      gi_wp2
      exact hK _ _ ((KeepsOthers.alloc _ _).from _) (KpS.alloc hB.size _) ⟨q0.alloc _, hB.alloc hB.size _⟩ ⟨W.heap.size, q0.lt, Has.fresh W (.cells #[.int .i64 x.2.node, .int .i64 x.2.target, .int .i64 x.2.related, .bool x.2.cr, .bool x.2.cs] 28), rfl⟩
    case body =>
      rintro l pre x a' W hl ⟨r, hr⟩ ⟨q0, hB⟩ ⟨Bx, hBx, bX, rfl⟩ hlt
      have hlv := lvlI_len pre
      have c3 := bX.cell 3
      have c4 := bX.cell 4
      have d0 := q0.cell
      have f0 := q0.frozen
      obtain ⟨i, x0, x1, x2, cr, cs⟩ := x
      simp only at c3 c4
      have ebx : Bx ≠ T := by omega
      have es := lvlI_snoc (ys := pre) (x := (i, ⟨x0, x1, x2, cr, cs⟩))
      simp only at es
      obtain ⟨lv, hlvv⟩ : ∃ lv, lv = lvlI pre := ⟨_, rfl⟩
      rw [← hlvv] at hlv d0 es q0
      have hw1 : IntKind.i64.wrap (lv + 1) = lv + 1 := wrap_small (by omega) (by omega)
      have hw2 : IntKind.i64.wrap (lv + 1 - 1) = lv := by rw [show lv + 1 - 1 = lv by omega]; exact wrap_small (by omega) (by omega)
      have hw4 : wrap64 lv = lv := by
        unfold wrap64
        omega
      have hw3 : IntKind.i64.wrap (lv - 1) = lv - 1 := wrap_small (by omega) (by omega)
      have e4 : (W.setCell ⟨T, 0, none⟩ (.int .i64 (lv + 1))).cell? ⟨Bx, 4, none⟩ = some (.bool cs) := by
        rw [World.cell?_of_block (w := W) (Below.heap_setCell _ _ _ _ ebx)]
        exact c4
      have e0 := (q0.set (.int .i64 (lv + 1))).cell
      have Hq := Lib.hid q0
      have HB := Lib.hid hB
      have Hes := Lib.hid es
      have HT := Lib.hid hT
      clear hlvv hlv es q0 hB hr hlt HR2 HE3 HR HN
      by_cases hi : 0 < i
      · have hi1 : decide ((0 : Int) < (i : Int)) = true := by rw [decide_eq_true_iff]; omega
        have hi2 : (0 : Int) < (i : Int) := by omega
        have Hi := Lib.hid hi
        clear hi
        cases cr <;> cases cs
        · have e5 := Hes.out
          simp at e5
          have E5 := Lib.hid e5
          clear e5
          gi_wp2
          exact ⟨KeepsFrom.refl _ _, KpS.refl _ _ _, by rw [E5.out]; exact Hq.out, HB.out⟩
        · have e5 : lvlI (pre ++ [(i, ⟨x0, x1, x2, false, true⟩)]) = lv - 1 := by
            rw [Hes.out, if_neg (by decide), if_pos ⟨rfl, Hi.out⟩]
            omega
          have E5 := Lib.hid e5
          clear e5
          gi_wp2
          exact ⟨(KeepsOthers.setCell _ _ _).from _, KpS.store HT.out (by omega) _ _, by rw [E5.out]; exact Hq.out.set _, HB.out.setCell (p := ⟨T, 0, none⟩) HT.out _⟩
        · have e5 : lvlI (pre ++ [(i, ⟨x0, x1, x2, true, false⟩)]) = lv + 1 := by
            rw [Hes.out, if_pos rfl, if_neg (fun h => by cases h.1)]
            omega
          have E5 := Lib.hid e5
          clear e5
          gi_wp2
          exact ⟨(KeepsOthers.setCell _ _ _).from _, KpS.store HT.out (by omega) _ _, by rw [E5.out]; exact Hq.out.set _, HB.out.setCell (p := ⟨T, 0, none⟩) HT.out _⟩
        · have e5 : lvlI (pre ++ [(i, ⟨x0, x1, x2, true, true⟩)]) = lv := by
            rw [Hes.out, if_pos rfl, if_pos ⟨rfl, Hi.out⟩]
            omega
          have E5 := Lib.hid e5
          have f1 := (Hq.out.set (.int .i64 (lv + 1))).frozen
          clear e5
          gi_wp2
          exact ⟨((KeepsOthers.setCell _ _ _).trans (KeepsOthers.setCell _ _ _)).from _, (KpS.store HT.out (by omega) _ _).trans (KpS.store HT.out (by omega) _ _), by rw [E5.out]; exact (Hq.out.set _).set _, (HB.out.setCell (p := ⟨T, 0, none⟩) HT.out _).setCell (p := ⟨T, 0, none⟩) HT.out _⟩
      · obtain rfl : i = 0 := by omega
        have hi1 : decide ((0 : Int) < ((0 : Nat) : Int)) = false := by decide
        cases cr
        · have e5 : lvlI (pre ++ [(0, ⟨x0, x1, x2, false, cs⟩)]) = lv := by
            rw [Hes.out, if_neg (by decide), if_neg (fun h => Nat.lt_irrefl 0 h.2)]
            omega
          have E5 := Lib.hid e5
          clear e5
          cases cs
          · gi_wp2
            exact ⟨KeepsFrom.refl _ _, KpS.refl _ _ _, by rw [E5.out]; exact Hq.out, HB.out⟩
          · gi_wp2
            exact ⟨KeepsFrom.refl _ _, KpS.refl _ _ _, by rw [E5.out]; exact Hq.out, HB.out⟩
        · have e5 : lvlI (pre ++ [(0, ⟨x0, x1, x2, true, cs⟩)]) = lv + 1 := by
            rw [Hes.out, if_pos rfl, if_neg (fun h => Nat.lt_irrefl 0 h.2)]
            omega
          have E5 := Lib.hid e5
          clear e5
          cases cs
          · gi_wp2
            exact ⟨(KeepsOthers.setCell _ _ _).from _, KpS.store HT.out (by omega) _ _, by rw [E5.out]; exact Hq.out.set _, HB.out.setCell (p := ⟨T, 0, none⟩) HT.out _⟩
          · gi_wp2
            exact ⟨(KeepsOthers.setCell _ _ _).from _, KpS.store HT.out (by omega) _ _, by rw [E5.out]; exact Hq.out.set _, HB.out.setCell (p := ⟨T, 0, none⟩) HT.out _⟩
    case done =>
      rintro D ys W hD rfl ⟨q0, hB⟩ hK
      have d0 := q0.cell
      rw [HE3.out] at d0
      gi_wp2
      refine ⟨by simp, .inl ⟨_, _, rfl, run_takeDeferred hK, ?_⟩⟩
      exact ⟨_, results_tmp rfl _ _ _, rfl, hB.trans (belowK_b (w := w) (Nat.le_refl _) W D _ _ (by omega) hK rfl rfl)⟩
    case stop =>
      rintro D cd pre W hD _ h _
      exact h.elim
end
end Go.Proofs.Ytphpbeapibohiaa

namespace Go.Proofs.Ytphpbeapibohiaa
open Go Go.RowKit

theorem Pile.of_own {base : Nat} {w : World} {v : Value} {xs : List Int} (h : w.ownsRow base 3 1 v xs.length (xs.map (Value.int .i64))) : Pile base w v xs :=
  Pile.of_kids (G := fun g => base ≤ g) ⟨own_base h (Nat.zero_le _), fun g hg => (h.lt g hg).1⟩ fun _ hg _ => hg
theorem own_below {w w' : World} {base n size : Nat} {e : TypeId} {v : Value} {us : List Value} (h : w.ownsRow base e size v n us) (k : Below w.heap.size w w') : w'.ownsRow base e size v n us :=
  own_kept h (Keeps.of_below (F := fun i => w.heap.size ≤ i) k fun _ _ h => h) fun g hg => Nat.not_le.2 (own_in h g hg)
section
variable {w : World}
/-- What a cut gives. -/
theorem elem_ints : Try.prog.elem 24 = 3 := by kernel_rfl
theorem cut_low (A : Option Addr) (N k a : Nat) (ha : a ≤ k) (w : World) : (Instr.slice 24 (.slice A N k) none (some (.int .i64 (a : Int))) none).run Try.prog w = .ok (.slice A a k) w := by
  have hu : Try.prog.underlying 24 = some (.slice (Try.prog.elem 24)) := by rw [elem_ints]; exact Try.underlying24
  have hs : (sizeOf (Try.prog.elem 24)).run Try.prog w = .ok 1 w := by kernel_rfl
  rw [run_slice_h _ _ _ _ _ hu _ _ (by omega) (by omega), hs]
  simp only [Result.andThen, sliced, Int.toNat_natCast, Nat.sub_zero, Nat.zero_mul]
  by_cases h : k = 0
  · rw [if_pos h]
  · rw [if_neg h]
    cases A with
    | none => rfl
    | some x => simp [Addr.add]
theorem cut_high (A : Option Addr) (N k a : Nat) (ha : a ≤ N) (w : World) : (Instr.slice 24 (.slice A N k) (some (.int .i64 (a : Int))) none none).run Try.prog w = .ok (.slice (if k = a then A else A.map (·.add a)) (N - a) (k - a)) w := by
  have hu : Try.prog.underlying 24 = some (.slice (Try.prog.elem 24)) := by rw [elem_ints]; exact Try.underlying24
  have hs : (sizeOf (Try.prog.elem 24)).run Try.prog w = .ok 1 w := by kernel_rfl
  rw [run_slice_l _ _ _ _ _ hu _ _ (by omega) (by omega), hs]
  simp only [Result.andThen, sliced, Int.toNat_natCast, Nat.mul_one]
theorem ListIn.low {A : Option Addr} {k : Nat} {xa xb : List Int} (h : ListIn w A k (xa ++ xb)) : ListIn w A k xa := by
  refine ⟨Nat.le_trans (by simp) h.cap, h.nil, fun i hi => ?_⟩
  have := h.nums i (by rw [List.length_append]; omega)
  rwa [List.getElem_append_left hi] at this
theorem ListIn.high {A : Option Addr} {k : Nat} {xa xb : List Int} (h : ListIn w A k (xa ++ xb)) : ListIn w (if k = xa.length then A else A.map (·.add xa.length)) (k - xa.length) xb := by
  have hc := h.cap
  rw [List.length_append] at hc
  refine ⟨by omega, fun e => ?_, fun i hi => ?_⟩
  · by_cases hk : k = xa.length
    · omega
    · rw [if_neg hk] at e
      have : A = none := by cases A with
        | none => rfl
        | some x => cases e
      have := h.nil this
      omega
  · obtain ⟨g, off, rfl, hg, hcell⟩ := h.nums (xa.length + i) (by rw [List.length_append]; omega)
    rw [List.getElem_append_right (by omega)] at hcell
    simp only [Nat.add_sub_cancel_left] at hcell
    refine ⟨g, off + xa.length, ?_, hg, by rw [Nat.add_assoc]; exact hcell⟩
    rw [if_neg (by omega)]
    simp [Addr.add]
end
end Go.Proofs.Ytphpbeapibohiaa

namespace Go.Proofs.Ytphpbeapibohiaa
open Go Go.RowKit Go.Shelf
attribute [local go_sem] Oper.semAt_some

theorem keepsFrom_below {X Y : World} (h : Below X.heap.size X Y) (B : Nat) : KeepsFrom B X Y := ⟨h.size, fun k _ _ hk _ => (h.block k (Array.getElem?_eq_some_iff.1 hk).1).trans hk⟩
/-- While a walk runs: the level, the function, what was told, the limit, each in a box of its own; since the round began (Wr) nothing else turned. -/
structure WS (fn T Bs B : Nat) (w Wr W : World) (q : Int × Int × List Int) : Prop where
  lev : Boxed W T 3 (.int .i64 q.1)
  fun_ : Boxed W (T + 1) 42 (.func (.func fn) #[] #[])
  seen : ∃ v, Boxed W (T + 1 + 1) 24 v ∧ W.ownsRow (T + 4) 3 1 v q.2.2.length (q.2.2.map (Value.int .i64)) ∧ True
  lim : Boxed W (T + 1 + 1 + 1) 3 (.int .i64 q.2.1)
  below : Below T w W
  keeps : KeepsFrom B Wr W
  kp : KpS T Bs Wr W
section
variable {fn T Bs B : Nat} {w Wr W W' : World} {q : Int × Int × List Int}
theorem WS.start (h : WS fn T Bs B w Wr W q) : WS fn T Bs B w W W q := ⟨h.lev, h.fun_, h.seen, h.lim, h.below, KeepsFrom.refl _ _, KpS.refl _ _ _⟩
theorem WS.next (h : WS fn T Bs B w Wr W q) (hT : T = w.heap.size) (hb : Below W.heap.size W W') : WS fn T Bs B w Wr W' q := by
  have hs := h.below.size
  refine ⟨(hb.block _ h.lev.lt).trans h.lev, (hb.block _ h.fun_.lt).trans h.fun_, ?_, (hb.block _ h.lim.lt).trans h.lim, h.below.trans (hb.mono (by omega)), h.keeps.trans (keepsFrom_below hb B), h.kp.trans ⟨hb.mono (by omega), fun _ ho => (hb.block _ (Array.getElem?_eq_some_iff.1 ho).1).trans ho⟩⟩
  obtain ⟨v, h1, h2, -⟩ := h.seen
  exact ⟨v, (hb.block _ h1.lt).trans h1, own_below h2 hb, trivial⟩
theorem own_aside2 {X : World} {base n size b o : Nat} {e : TypeId} {v u : Value} {us : List Value} (h : X.ownsRow base e size v n us) (hb : b < base) : (X.setCell ⟨b, o, none⟩ u).ownsRow base e size v n us :=
  own_kept h (Keeps.store (F := fun i => i = b) (p := ⟨b, o, none⟩) (Keeps.refl _ _) (.inl rfl) u) fun g hg e => by
    have := (h.lt g hg).1
    omega
theorem WS.setLev (h : WS fn T Bs B w Wr W q) (hT : Bs < T) (y : Int) : WS fn T Bs B w Wr (W.setCell ⟨T, 0, none⟩ (.int .i64 y)) (y, q.2) := by
  refine ⟨h.lev.set _, h.fun_.other (by omega) _, ?_, h.lim.other (by omega) _, h.below.setCell (p := ⟨T, 0, none⟩) (Nat.le_refl _) _, h.keeps.trans ((KeepsOthers.setCell _ _ _).from _), h.kp.trans (KpS.store (Nat.le_refl _) (by omega) _ _)⟩
  obtain ⟨v, h1, h2, -⟩ := h.seen
  exact ⟨v, h1.other (by omega) _, own_aside2 h2 (by omega), trivial⟩
theorem WS.setLim (h : WS fn T Bs B w Wr W q) (hT : Bs < T) (y : Int) : WS fn T Bs B w Wr (W.setCell ⟨T + 1 + 1 + 1, 0, none⟩ (.int .i64 y)) (q.1, y, q.2.2) := by
  refine ⟨h.lev.other (by omega) _, h.fun_.other (by omega) _, ?_, h.lim.set _, h.below.setCell (p := ⟨T + 1 + 1 + 1, 0, none⟩) (by show T ≤ T + 1 + 1 + 1; omega) _, h.keeps.trans ((KeepsOthers.setCell _ _ _).from _), h.kp.trans (KpS.store (by omega) (by omega) _ _)⟩
  obtain ⟨v, h1, h2, -⟩ := h.seen
  exact ⟨v, h1.other (by omega) _, own_aside2 h2 (by omega), trivial⟩
theorem WS.push (h : WS fn T Bs B w Wr W q) (hT : Bs < T) {v v' : Value} {k m : Nat} {xs ys : List Value} {tmp : Obj} {w1 : World} (hv : Boxed W (T + 1 + 1) 24 v) (hrow : W.ownsRow (T + 4) 3 1 v k xs) (hs : T + 4 ≤ W.heap.size)
    (hown : w1.ownsRow (T + 4) 3 1 v' m ys) (hgrow : (W.alloc tmp).grownBy w1 v.ownBlock) {l : List Int} (hm : m = l.length) (hy : ys = l.map (Value.int .i64)) :
    WS fn T Bs B w Wr (w1.setCell ⟨T + 1 + 1, 0, none⟩ v') (q.1, q.2.1, l) := by
  subst hm hy
  have hg : ∀ g, v.ownBlock = some g → T + 4 ≤ g := fun g hg => (hrow.lt g hg).1
  have one : ∀ {b : Nat} {t : TypeId} {u : Value}, b < T + 4 → b ≠ T + 1 + 1 → Boxed W b t u → Boxed (w1.setCell ⟨T + 1 + 1, 0, none⟩ v') b t u := fun hb hne hx => ((hx.alloc tmp).kept hgrow fun e => by have := hg _ e.symm; omega).other hne _
  have hv1 : Boxed w1 (T + 1 + 1) 24 v := (hv.alloc tmp).kept hgrow fun e => by have := hg _ e.symm; omega
  have hb1 : Below T W (w1.setCell ⟨T + 1 + 1, 0, none⟩ v') := (((Below.refl T W).alloc (by omega) tmp).grown hgrow (by simp; omega) fun j ej => by have := hg _ ej; omega).setCell (p := ⟨T + 1 + 1, 0, none⟩) (by show T ≤ T + 1 + 1; omega) v'
  refine ⟨one (by omega) (by omega) h.lev, one (by omega) (by omega) h.fun_, ⟨v', hv1.set v', own_aside2 hown (by omega), trivial⟩, one (by omega) (by omega) h.lim, h.below.trans hb1, h.keeps.trans (KeepsOthers.from ?_ B), h.kp.trans ⟨hb1, fun _ ho => (hb1.block Bs hT).trans ho⟩⟩
  refine ((KeepsOthers.alloc W tmp).trans (KeepsOthers.of_grownBy hgrow fun j o ej hj => ?_)).trans (KeepsOthers.setCell _ _ _)
  rcases (hrow.alloc tmp).2 with ⟨rfl, _⟩ | ⟨g, cap, cur, rfl, _, hgb, _⟩
  · simp [Value.ownBlock] at ej
  · obtain rfl : g = j := by simpa [Value.ownBlock] using ej
    rw [hgb] at hj
    cases hj
    rfl
theorem ws_own {β : Type} (B' : Nat) (f : β → Int × Int × List Int) (hB : T ≤ w.heap.size) (hw : T ≤ B') : OwnFrom B' (fun s W => Boxed W T 3 (.int .i64 (f s).1) ∧ Boxed W (T + 1) 42 (.func (.func fn) #[] #[]) ∧ (∃ v, Boxed W (T + 1 + 1) 24 v ∧ W.ownsRow (T + 4) 3 1 v (f s).2.2.length ((f s).2.2.map (Value.int .i64)) ∧ True) ∧ Boxed W (T + 1 + 1 + 1) 3 (.int .i64 (f s).2.1) ∧ Below T w W) :=
  OwnFrom.and (Own.from (boxed_own _ _ _) _) (OwnFrom.and (Own.from (boxed_own _ _ _) _) (OwnFrom.and (Own.from (holdsRow_own (T + 4) (T + 1 + 1) 24 3 1 _ _ fun _ _ => True) _) (OwnFrom.and (Own.from (boxed_own _ _ _) _) (ownFrom_below hB hw))))
theorem WS.done2 {q' : Int × Int × List Int} (h : WS fn T Bs B w Wr W q) (e : q' = q) : KeepsFrom B Wr W ∧ KpS T Bs Wr W ∧ (Boxed W T 3 (.int .i64 q'.1) ∧ Boxed W (T + 1) 42 (.func (.func fn) #[] #[]) ∧ (∃ v, Boxed W (T + 1 + 1) 24 v ∧ W.ownsRow (T + 4) 3 1 v q'.2.2.length (q'.2.2.map (Value.int .i64))) ∧ Boxed W (T + 1 + 1 + 1) 3 (.int .i64 q'.2.1) ∧ Below T w W) := by
  subst e
  obtain ⟨v, h1, h2, -⟩ := h.seen
  exact ⟨h.keeps, h.kp, h.lev, h.fun_, ⟨v, h1, h2⟩, h.lim, h.below⟩
theorem lev_ff (lv : Int) : nextLev false false lv = lv := by simp [nextLev]
theorem lev_ft (lv : Int) : nextLev false true lv = lv - 1 := by simp [nextLev]
theorem lev_tf (lv : Int) : nextLev true false lv = lv + 1 := by simp [nextLev]
theorem lev_tt (lv : Int) : nextLev true true lv = lv := by
  simp [nextLev]
theorem lim_f (a : Bool) (lv lm : Int) : nextLim a false lv lm = lm := by simp [nextLim]
theorem lim_ft (lv lm : Int) : nextLim false true lv lm = if lv - 1 < lm then lv - 1 else lm := by simp [nextLim]
theorem lim_tt (lv lm : Int) : nextLim true true lv lm = if lv < lm then lv else lm := by simp [nextLim]
theorem inc_f (lv : Int) : lv + (if (false : Bool) = true then 1 else 0) = lv := by simp
theorem inc_t (lv : Int) : lv + (if (true : Bool) = true then 1 else 0) = lv + 1 := by simp
theorem WS.done {q' : Int × Int × List Int} (h : WS fn T Bs B w Wr W q) (e : q' = q) : KeepsFrom B Wr W ∧ KpS T Bs Wr W ∧ (Boxed W T 3 (.int .i64 q'.1) ∧ Boxed W (T + 1) 42 (.func (.func fn) #[] #[]) ∧ (∃ v, Boxed W (T + 1 + 1) 24 v ∧ W.ownsRow (T + 4) 3 1 v q'.2.2.length (q'.2.2.map (Value.int .i64)) ∧ True) ∧ Boxed W (T + 1 + 1 + 1) 3 (.int .i64 q'.2.1) ∧ Below T w W) := by
  subst e
  exact ⟨h.keeps, h.kp, h.lev, h.fun_, h.seen, h.lim, h.below⟩
end
section
variable {w : World} {A : Option Addr} {c n : Nat} {p : List Stp} {v : Int}
set_option maxHeartbeats 1000000 in
theorem seBack (s : Stp) (w : World) : Calls Try.prog 20 #[.agg #[.int .i64 s.node, .int .i64 s.target, .int .i64 s.related, .bool s.cr, .bool s.cs]] w fun e w' => e = .returned (.tuple #[.bool (flB s).1, .bool (flB s).2]) ∧ Below w.heap.size w w' := by
  obtain ⟨x0, x1, x2, cr, cs⟩ := s
  have hX : Has (w.alloc (.cells #[.int .i64 x0, .int .i64 x1, .int .i64 x2, .bool cr, .bool cs] 28)) w.heap.size _ := Has.fresh w (.cells #[.int .i64 x0, .int .i64 x1, .int .i64 x2, .bool cr, .bool cs] 28)
  have c3 := hX.cell 3
  have c4 := hX.cell 4
  clear hX
  go_enter Try.func20, Try.ntmps20
  go_wp2
  go_quiet (fail)
  go_wp2
  go_ret2
  exact ⟨rfl, below_draws ((Below.refl _ w).alloc (Nat.le_refl _) _) _⟩
set_option maxHeartbeats 1000000 in
theorem seOn (s : Stp) (w : World) : Calls Try.prog 21 #[.agg #[.int .i64 s.node, .int .i64 s.target, .int .i64 s.related, .bool s.cr, .bool s.cs]] w fun e w' => e = .returned (.tuple #[.bool (flO s).1, .bool (flO s).2]) ∧ Below w.heap.size w w' := by
  obtain ⟨x0, x1, x2, cr, cs⟩ := s
  have hX : Has (w.alloc (.cells #[.int .i64 x0, .int .i64 x1, .int .i64 x2, .bool cr, .bool cs] 28)) w.heap.size _ := Has.fresh w (.cells #[.int .i64 x0, .int .i64 x1, .int .i64 x2, .bool cr, .bool cs] 28)
  have c3 := hX.cell 3
  have c4 := hX.cell 4
  clear hX
  go_enter Try.func21, Try.ntmps21
  go_wp2
  go_quiet (fail)
  go_wp2
  go_ret2
  exact ⟨rfl, below_draws ((Below.refl _ w).alloc (Nat.le_refl _) _) _⟩
set_option maxRecDepth 100000 in
set_option maxHeartbeats 4000000 in
theorem seWalk (fn gf Bs N : Nat) (L : List (Nat × Stp)) (Sp : List (Nat × Stp) → Prop) (fl : Stp → Bool × Bool) (lev : Int) (h1 : -1000 ≤ lev ∧ lev ≤ 1000) (hN : N ≤ 300) (hBs : Bs < w.heap.size)
    (hE : ∀ (args : Array Value) (w : World), (callFunc fn args).run Try.prog w = .ok (.enter fn args) w) (hG : ∀ (args : Array Value) (w : World), (callFunc gf args).run Try.prog w = .ok (.enter gf args) w)
    (hfl : ∀ (s : Stp) (w1 : World), Calls Try.prog fn #[.agg #[.int .i64 s.node, .int .i64 s.target, .int .i64 s.related, .bool s.cr, .bool s.cs]] w1 fun e w2 => e = .returned (.tuple #[.bool (fl s).1, .bool (fl s).2]) ∧ Below w1.heap.size w1 w2)
    (hseq : SeqStopsK Fence.wide (9 - 1) Try.prog gf #[.pointer (some ⟨Bs, 0, none⟩)] (fun x : Nat × Stp => #[Value.int .i64 (x.1 : Int), .agg #[.int .i64 x.2.node, .int .i64 x.2.target, .int .i64 x.2.related, .bool x.2.cr, .bool x.2.cs]]) (KpS w.heap.size Bs) (fun ys => ys = L) Sp N w) :
    Calls Try.prog 22 #[.func (.func gf) #[] #[.pointer (some ⟨Bs, 0, none⟩)], .int .i64 lev, .func (.func fn) #[] #[]] w fun e w' => ∃ v, e = .returned v ∧ w'.ownsRow w.heap.size 3 1 v (goW fl (lev, lev, []) (L.map (·.2))).2.2.length ((goW fl (lev, lev, []) (L.map (·.2))).2.2.map (Value.int .i64)) ∧ Below w.heap.size w w' := by
  refine (callsIn_wide (n := 9)).1 ?_
  refine callsIn_of_wp_marks Try.func22 rfl trivial ?_ rfl
  simp only [Try.ntmps22, List.size_toArray, List.length_cons, List.length_nil, Nat.reduceAdd, Nat.reduceSub, Array.replicate_succ, Array.replicate_zero, List.push_toArray, List.append_toArray, List.nil_append, List.cons_append]
  gi_wp2
  have b0 := (((Boxed.new w 3 (.int .i64 lev)).alloc (.cells #[.func (.func fn) #[] #[]] 42)).alloc (.cells #[.slice none 0 0] 24)).alloc (.cells #[.int .i64 lev] 3)
  have b1 := ((Boxed.new (w.alloc (.cells #[.int .i64 lev] 3)) 42 (.func (.func fn) #[] #[])).alloc (.cells #[.slice none 0 0] 24)).alloc (.cells #[.int .i64 lev] 3)
  have b2 := (Boxed.new ((w.alloc (.cells #[.int .i64 lev] 3)).alloc (.cells #[.func (.func fn) #[] #[]] 42)) 24 (.slice none 0 0)).alloc (.cells #[.int .i64 lev] 3)
  have b3 := Boxed.new (((w.alloc (.cells #[.int .i64 lev] 3)).alloc (.cells #[.func (.func fn) #[] #[]] 42)).alloc (.cells #[.slice none 0 0] 24)) 3 (.int .i64 lev)
  simp only [World.size_alloc] at b1 b2 b3
  have hB0 : Below w.heap.size w ((((w.alloc (.cells #[.int .i64 lev] 3)).alloc (.cells #[.func (.func fn) #[] #[]] 42)).alloc (.cells #[.slice none 0 0] 24)).alloc (.cells #[.int .i64 lev] 3)) := ((((Below.refl _ w).alloc (Nat.le_refl _) _).alloc (by simp) _).alloc (by simp; omega) _).alloc (by simp; omega) _
  have hsz : ((((w.alloc (.cells #[.int .i64 lev] 3)).alloc (.cells #[.func (.func fn) #[] #[]] 42)).alloc (.cells #[.slice none 0 0] 24)).alloc (.cells #[.int .i64 lev] 3)).heap.size = w.heap.size + 1 + 1 + 1 + 1 := by simp
  obtain ⟨W0, hW0⟩ : ∃ W0, ((((w.alloc (.cells #[.int .i64 lev] 3)).alloc (.cells #[.func (.func fn) #[] #[]] 42)).alloc (.cells #[.slice none 0 0] 24)).alloc (.cells #[.int .i64 lev] 3)) = W0 := ⟨_, rfl⟩
  rw [hW0] at b0 b1 b2 b3 hB0 hsz ⊢
  clear hW0
  obtain ⟨T, eT⟩ : ∃ T, T = w.heap.size := ⟨_, rfl⟩
  rw [← eT] at b0 b1 b2 b3 hB0 hsz hBs hseq ⊢
  obtain ⟨B, eB⟩ : ∃ B, B = W0.heap.size := ⟨_, rfl⟩
  refine wpIn_rangeFunc_ownH rfl (by decide) (gf := gf) (lb := #[.pointer (some ⟨Bs, 0, none⟩)]) rfl trivial hG
    hseq KpS.trans (KpS.book (by omega) (by omega)) (hB0.mono (by omega)) (fun _ => rfl)
    (fun pre W => Boxed W T 3 (.int .i64 (goW fl (lev, lev, []) (pre.map (·.2))).1) ∧ Boxed W (T + 1) 42 (.func (.func fn) #[] #[]) ∧ (∃ v, Boxed W (T + 1 + 1) 24 v ∧ W.ownsRow (T + 4) 3 1 v (goW fl (lev, lev, []) (pre.map (·.2))).2.2.length ((goW fl (lev, lev, []) (pre.map (·.2))).2.2.map (Value.int .i64)) ∧ True) ∧ Boxed W (T + 1 + 1 + 1) 3 (.int .i64 (goW fl (lev, lev, []) (pre.map (·.2))).2.1) ∧ Below T w W)
    (fun _ _ _ => False)
    (ws_own _ (fun pre : List (Nat × Stp) => goW fl (lev, lev, []) (pre.map (·.2))) (by omega) (by omega))
    (fun _ _ _ _ _ hs _ _ => hs)
    ⟨b0, b1, ⟨_, b2, World.ownsRow_nil _ _ _ _, trivial⟩, b3, hB0⟩
    (fun x a' W => ∃ Bx, B ≤ Bx ∧ Has W Bx (.cells #[.int .i64 x.2.node, .int .i64 x.2.target, .int .i64 x.2.related, .bool x.2.cr, .bool x.2.cs] 28 (0, 0)) ∧ a' = { tmps := #[.func (.func gf) #[] #[.pointer (some ⟨Bs, 0, none⟩)], .int .i64 lev, .func (.func fn) #[] #[], undef, .pointer (some ⟨T, 0, none⟩), .pointer (some ⟨T + 1, 0, none⟩), .slice none 0 0, .pointer (some ⟨T + 1 + 1, 0, none⟩), .pointer (some ⟨T + 1 + 1 + 1, 0, none⟩), undef, .pointer (some ⟨Bx, 0, none⟩), undef, undef, .int .i64 lev, .func (.func gf) #[] #[.pointer (some ⟨Bs, 0, none⟩)], .int .i64 (x.1 : Int), .agg #[.int .i64 x.2.node, .int .i64 x.2.target, .int .i64 x.2.related, .bool x.2.cr, .bool x.2.cs], undef, undef, undef, undef, undef, undef, undef, undef, undef, undef, undef, undef, undef, undef, undef, undef, undef, undef, undef, undef, undef, undef, undef, undef], defers := [] })
    (fun x a' _ X Y row hs hg hr => by obtain ⟨Bx, h1, h2, h3⟩ := hs; exact ⟨Bx, h1, has_own Bx (fun (_ : Unit) => #[.int .i64 x.2.node, .int .i64 x.2.target, .int .i64 x.2.related, .bool x.2.cr, .bool x.2.cs]) _ _ () X Y row h2 hg (fun r e => (hr r e).2), h3⟩)
    ?assign ?body ?done ?stop
  case assign =>
    rintro l pre x W K ⟨q0, q1, ⟨vv, q2, q3, -⟩, q4, hB⟩ hK
    have hbs := hB.size
    have hlt := q4.lt
    have HT := Lib.hid eT
    have HBB := Lib.hid eB
    clear eT eB
    gi_wp2
    have eT := HT.out
    have eB := HBB.out
    exact hK _ _ ((KeepsOthers.alloc _ _).from _) (KpS.alloc (by omega) _) ⟨q0.alloc _, q1.alloc _, ⟨vv, q2.alloc _, q3.alloc _, trivial⟩, q4.alloc _, hB.alloc (by omega) _⟩ ⟨W.heap.size, by omega, Has.fresh W (.cells #[.int .i64 x.2.node, .int .i64 x.2.target, .int .i64 x.2.related, .bool x.2.cr, .bool x.2.cs] 28), rfl⟩
  case body =>
    rintro l pre x a' W hl ⟨r, hr⟩ ⟨q0, q1, q2, q4, hB⟩ ⟨Bx, hBx, bX, rfl⟩ hlt
    have hS : WS fn T Bs B w W W (goW fl (lev, lev, []) (pre.map (·.2))) := ⟨q0, q1, q2, q4, hB, KeepsFrom.refl _ _, KpS.refl _ _ _⟩
    have hsm := goW_small (fl := fl) (lim := lev) h1 h1 (pre.map (·.2))
    have hst := goW_snoc (fl := fl) (xs := pre.map (·.2)) (s := x.2) (lev, lev, [])
    rw [show pre.map (·.2) ++ [x.2] = (pre ++ [x]).map (·.2) by simp] at hst
    rw [List.length_map] at hsm
    obtain ⟨q, hq⟩ : ∃ q, q = goW fl (lev, lev, []) (pre.map (·.2)) := ⟨_, rfl⟩
    rw [← hq] at hS hsm hst
    obtain ⟨lv, lm, pk⟩ := q
    have hF := hfl x.2
    rw [← eB]
    obtain ⟨i, s⟩ := x
    obtain ⟨x0, x1, x2, cr, cs⟩ := s
    simp only at hF hst bX hsm
    obtain ⟨a, o, hao⟩ : ∃ a o, fl ⟨x0, x1, x2, cr, cs⟩ = (a, o) := ⟨_, _, rfl⟩
    unfold stepW at hst
    rw [hao] at hF hst
    simp only at hF hst
    have hq0 := hS.lev.cell
    have hq1 := hS.fun_.cell
    have k0 := bX.cell 0
    have k1 := bX.cell 1
    have k2 := bX.cell 2
    have k3 := bX.cell 3
    have k4 := bX.cell 4
    simp only at hq0 k0 k1 k2 k3 k4
    have HS := Lib.hid hS
    have HSM := Lib.hid hsm
    have HST := Lib.hid hst
    have HT := Lib.hid eT
    have HBB := Lib.hid eB
    have HF := Lib.hid hF
    have HX := Lib.hid bX
    have HBX := Lib.hid hBx
    have HBT : Hid (B = T + 4) := Lib.hid (by omega)
    have HLT := Lib.hid hlt
    have HBs := Lib.hid hBs
    clear q0 q1 q2 q4 hB hr hq hao hS hsm hst eT eB hF bX hBx hlt hBs hfl hseq hsz hB0 b0 b1 b2 b3 hl
    gi_wp2_with fail
    refine ⟨trivial, (CallsIn.inRound l (callsIn_wide.2 (HF.out W))).mono ?_⟩
    rintro e w2 ⟨rfl, hb⟩
    have h2 := HS.out.next HT.out hb
    have hsb : Hid (Below W.heap.size W w2) := Lib.hid hb
    have hTs : T + 4 ≤ w2.heap.size := by
      have := h2.lim.lt
      omega
    have hX2 := HX.out.below hb HX.out.inside
    clear hq0 hq1 k0 k1 k2 k3 k4 hb HS HX HF
    have HX2 := Lib.hid hX2
    obtain ⟨j0, qi, qz0, qz1, qz2⟩ := info_parts Try.infoInt
    have Qi := Lib.hid qi
    have Qz0 := Lib.hid qz0
    have Qz1 := Lib.hid qz1
    have Qz2 := Lib.hid qz2
    clear hX2 qi qz0 qz1 qz2
    obtain ⟨⟨s1, s2⟩, ⟨s3, s4⟩, s5⟩ := HSM.out
    have hlt := HLT.out
    clear HSM
    cases a
    · have hw3 : IntKind.i64.wrap (lv - 1) = lv - 1 := wrap_small (by omega) (by omega)
      have h3 := h2
      have a2 := h3.lev.cell
      have a3 := h3.lim.cell
      have a4 : w2.cell? ⟨Bx, 0, none⟩ = some (.int .i64 x0) := HX2.out.cell 0
      have hTs3 := hTs
      simp only at a2 a3
      obtain ⟨m2, hm2⟩ : ∃ m2, m2 = if (lv - 1) < lm then (lv - 1) else lm := ⟨_, rfl⟩
      have hmin : ∀ (w : World), (Builtin.min_ #[3, 3] 3 #[.int .i64 lm, .int .i64 (lv - 1)]).run Try.prog w = .ok (.int .i64 m2) w := by
        rw [hm2]
        exact fun _ => rfl
      have HM2 := Lib.hid hm2
      have H3 := Lib.hid h3
      have HTS := Lib.hid hTs3
      clear hm2 h2 h3 hTs hTs3
      by_cases hle : lv ≤ lm
      · have z : decide (lv ≤ lm) = true := by simpa using hle
        have HLE := Lib.hid hle
        clear hle
        obtain ⟨vv, u1, u2, -⟩ := H3.out.seen
        have a5 := u1.cell
        have a6 := u1.frozen
        have U1 := Lib.hid u1
        have U2 := Lib.hid u2
        clear u1 u2
        have hx7 : ∀ j u, [Value.int .i64 x0][j]? = some u → (w2.alloc (.cells #[.int .i64 x0] 3)).cell? ((⟨w2.heap.size, 0, none⟩ : Addr).add j) = some u := by
          have := cell_one_new w2 (.int .i64 x0) 3
          exact this
        have HX7 := Lib.hid hx7
        clear hx7
        cases o
        · have e9 : goW fl (lev, lev, []) ((pre ++ [(i, (⟨x0, x1, x2, cr, cs⟩ : Stp))]).map (·.2)) = (lv, lm, (pk ++ [x0])) := by
            rw [HST.out, lev_ff, lim_f, if_pos (by rw [inc_f]; exact HLE.out)]
          have E9 := Lib.hid e9
          clear e9
          gi_wp2_with (gi_at_builtin; refine wpListIn_append_own _ rfl _ _ 24 rfl (T + 4) 3 j0 _ 1 8 Try.underlying24 Qi.out Qz0.out Qz1.out Qz2.out rfl (by decide) _ _ _ rfl (U2.out.alloc _) ⟨w2.heap.size, 0, none⟩ 1 1 [.int .i64 x0] rfl rfl HX7.out (by simp [Value.oneCell']) (by unfold maxLen; omega) (by omega) (by rw [World.size_alloc]; have := HTS.out; omega) ?_; intro v' w4 hown' hgrow _; obtain ⟨g', cap', rfl⟩ := ownsRow_succ hown'; have h4 := H3.out.push HBs.out U1.out U2.out HTS.out hown' hgrow (l := pk ++ [x0]) (by simp) (by simp); have u4 := (U1.out.alloc _).kept hgrow (fun e => by have := (U2.out.lt _ e.symm).1; omega); have a7 := u4.cell; have a8 := u4.frozen; have H5 := Lib.hid h4; clear h4; clear hown' hgrow u4)
          first | exact H5.out.done E9.out | exact H5.out.done2 E9.out
        · have e9 : goW fl (lev, lev, []) ((pre ++ [(i, (⟨x0, x1, x2, cr, cs⟩ : Stp))]).map (·.2)) = ((lv - 1), m2, (pk ++ [x0])) := by
            rw [HST.out, lev_ft, lim_ft, ← HM2.out, if_pos (by rw [inc_f]; exact HLE.out)]
          have E9 := Lib.hid e9
          clear e9
          gi_wp2_with (gi_at_builtin; refine wpListIn_append_own _ rfl _ _ 24 rfl (T + 4) 3 j0 _ 1 8 Try.underlying24 Qi.out Qz0.out Qz1.out Qz2.out rfl (by decide) _ _ _ rfl (U2.out.alloc _) ⟨w2.heap.size, 0, none⟩ 1 1 [.int .i64 x0] rfl rfl HX7.out (by simp [Value.oneCell']) (by unfold maxLen; omega) (by omega) (by rw [World.size_alloc]; have := HTS.out; omega) ?_; intro v' w4 hown' hgrow _; obtain ⟨g', cap', rfl⟩ := ownsRow_succ hown'; have h4 := H3.out.push HBs.out U1.out U2.out HTS.out hown' hgrow (l := pk ++ [x0]) (by simp) (by simp); have u4 := (U1.out.alloc _).kept hgrow (fun e => by have := (U2.out.lt _ e.symm).1; omega); have a7 := u4.cell; have a8 := u4.frozen; have g0 := h4.lev.cell; have g1 := h4.lev.frozen; have h5 := h4.setLev HBs.out (lv - 1); have g2 := h5.lev.cell; have g3 := h5.lim.cell; have g4 := h5.lim.frozen; simp only at g0 g2 g3; have H5 := Lib.hid (h5.setLim HBs.out m2); clear h5 h4; clear hown' hgrow u4)
          first | exact H5.out.done E9.out | exact H5.out.done2 E9.out
      · have z : decide (lv ≤ lm) = false := by simpa using hle
        have HLE := Lib.hid hle
        clear hle
        cases o
        · have e9 : goW fl (lev, lev, []) ((pre ++ [(i, (⟨x0, x1, x2, cr, cs⟩ : Stp))]).map (·.2)) = (lv, lm, pk) := by
            rw [HST.out, lev_ff, lim_f, if_neg (by rw [inc_f]; exact HLE.out), List.append_nil]
          have E9 := Lib.hid e9
          clear e9
          have h4 := H3.out
          have H5 := Lib.hid h4
          clear h4
          gi_wp2
          first | exact H5.out.done E9.out | exact H5.out.done2 E9.out
        · have e9 : goW fl (lev, lev, []) ((pre ++ [(i, (⟨x0, x1, x2, cr, cs⟩ : Stp))]).map (·.2)) = ((lv - 1), m2, pk) := by
            rw [HST.out, lev_ft, lim_ft, ← HM2.out, if_neg (by rw [inc_f]; exact HLE.out), List.append_nil]
          have E9 := Lib.hid e9
          clear e9
          have h4 := H3.out
          have g0 := h4.lev.cell
          have g1 := h4.lev.frozen
          have h5 := h4.setLev HBs.out (lv - 1)
          have g2 := h5.lev.cell
          have g3 := h5.lim.cell
          have g4 := h5.lim.frozen
          simp only at g0 g2 g3
          have H5 := Lib.hid (h5.setLim HBs.out m2)
          clear h5 h4
          gi_wp2
          first | exact H5.out.done E9.out | exact H5.out.done2 E9.out
    · have hw1 : IntKind.i64.wrap (lv + 1) = lv + 1 := wrap_small (by omega) (by omega)
      have hw4 : wrap64 lv = lv := by
        unfold wrap64
        omega
      have h3 := h2.setLev HBs.out (lv + 1)
      have a0 := h2.lev.cell
      have a1 := h2.lev.frozen
      have a2 := h3.lev.cell
      have a3 := h3.lim.cell
      have a4 : (w2.setCell ⟨T, 0, none⟩ (.int .i64 (lv + 1))).cell? ⟨Bx, 0, none⟩ = some (.int .i64 x0) := (HX2.out.aside (p := ⟨T, 0, none⟩) (by have := HBX.out; have := HBT.out; show Bx ≠ T; omega) _).cell 0
      have hTs3 : T + 4 ≤ (w2.setCell ⟨T, 0, none⟩ (.int .i64 (lv + 1))).heap.size := by simp [World.setCell]; omega
      simp only at a2 a3 a0
      obtain ⟨m2, hm2⟩ : ∃ m2, m2 = if lv < lm then lv else lm := ⟨_, rfl⟩
      have hmin : ∀ (w : World), (Builtin.min_ #[3, 3] 3 #[.int .i64 lm, .int .i64 lv]).run Try.prog w = .ok (.int .i64 m2) w := by
        rw [hm2]
        exact fun _ => rfl
      have HM2 := Lib.hid hm2
      have H3 := Lib.hid h3
      have HTS := Lib.hid hTs3
      clear hm2 h2 h3 hTs hTs3
      by_cases hle : (lv + 1) ≤ lm
      · have z : decide ((lv + 1) ≤ lm) = true := by simpa using hle
        have HLE := Lib.hid hle
        clear hle
        obtain ⟨vv, u1, u2, -⟩ := H3.out.seen
        have a5 := u1.cell
        have a6 := u1.frozen
        have U1 := Lib.hid u1
        have U2 := Lib.hid u2
        clear u1 u2
        have hx7 : ∀ j u, [Value.int .i64 x0][j]? = some u → ((w2.setCell ⟨T, 0, none⟩ (.int .i64 (lv + 1))).alloc (.cells #[.int .i64 x0] 3)).cell? ((⟨w2.heap.size, 0, none⟩ : Addr).add j) = some u := by
          have := cell_one_new (w2.setCell ⟨T, 0, none⟩ (.int .i64 (lv + 1))) (.int .i64 x0) 3
          rwa [show (w2.setCell ⟨T, 0, none⟩ (.int .i64 (lv + 1))).heap.size = w2.heap.size by simp [World.setCell]] at this
        have HX7 := Lib.hid hx7
        clear hx7
        cases o
        · have e9 : goW fl (lev, lev, []) ((pre ++ [(i, (⟨x0, x1, x2, cr, cs⟩ : Stp))]).map (·.2)) = ((lv + 1), lm, (pk ++ [x0])) := by
            rw [HST.out, lev_tf, lim_f, if_pos (by rw [inc_t]; exact HLE.out)]
          have E9 := Lib.hid e9
          clear e9
          gi_wp2_with (gi_at_builtin; refine wpListIn_append_own _ rfl _ _ 24 rfl (T + 4) 3 j0 _ 1 8 Try.underlying24 Qi.out Qz0.out Qz1.out Qz2.out rfl (by decide) _ _ _ rfl (U2.out.alloc _) ⟨w2.heap.size, 0, none⟩ 1 1 [.int .i64 x0] rfl rfl HX7.out (by simp [Value.oneCell']) (by unfold maxLen; omega) (by omega) (by rw [World.size_alloc]; have := HTS.out; omega) ?_; intro v' w4 hown' hgrow _; obtain ⟨g', cap', rfl⟩ := ownsRow_succ hown'; have h4 := H3.out.push HBs.out U1.out U2.out HTS.out hown' hgrow (l := pk ++ [x0]) (by simp) (by simp); have u4 := (U1.out.alloc _).kept hgrow (fun e => by have := (U2.out.lt _ e.symm).1; omega); have a7 := u4.cell; have a8 := u4.frozen; have H5 := Lib.hid h4; clear h4; clear hown' hgrow u4)
          first | exact H5.out.done E9.out | exact H5.out.done2 E9.out
        · have e9 : goW fl (lev, lev, []) ((pre ++ [(i, (⟨x0, x1, x2, cr, cs⟩ : Stp))]).map (·.2)) = (lv, m2, (pk ++ [x0])) := by
            rw [HST.out, lev_tt, lim_tt, ← HM2.out, if_pos (by rw [inc_t]; exact HLE.out)]
          have E9 := Lib.hid e9
          clear e9
          gi_wp2_with (gi_at_builtin; refine wpListIn_append_own _ rfl _ _ 24 rfl (T + 4) 3 j0 _ 1 8 Try.underlying24 Qi.out Qz0.out Qz1.out Qz2.out rfl (by decide) _ _ _ rfl (U2.out.alloc _) ⟨w2.heap.size, 0, none⟩ 1 1 [.int .i64 x0] rfl rfl HX7.out (by simp [Value.oneCell']) (by unfold maxLen; omega) (by omega) (by rw [World.size_alloc]; have := HTS.out; omega) ?_; intro v' w4 hown' hgrow _; obtain ⟨g', cap', rfl⟩ := ownsRow_succ hown'; have h4 := H3.out.push HBs.out U1.out U2.out HTS.out hown' hgrow (l := pk ++ [x0]) (by simp) (by simp); have u4 := (U1.out.alloc _).kept hgrow (fun e => by have := (U2.out.lt _ e.symm).1; omega); have a7 := u4.cell; have a8 := u4.frozen; have g0 := h4.lev.cell; have g1 := h4.lev.frozen; have h5 := h4.setLev HBs.out lv; have g2 := h5.lev.cell; have g3 := h5.lim.cell; have g4 := h5.lim.frozen; simp only at g0 g2 g3; have H5 := Lib.hid (h5.setLim HBs.out m2); clear h5 h4; clear hown' hgrow u4)
          first | exact H5.out.done E9.out | exact H5.out.done2 E9.out
      · have z : decide ((lv + 1) ≤ lm) = false := by simpa using hle
        have HLE := Lib.hid hle
        clear hle
        cases o
        · have e9 : goW fl (lev, lev, []) ((pre ++ [(i, (⟨x0, x1, x2, cr, cs⟩ : Stp))]).map (·.2)) = ((lv + 1), lm, pk) := by
            rw [HST.out, lev_tf, lim_f, if_neg (by rw [inc_t]; exact HLE.out), List.append_nil]
          have E9 := Lib.hid e9
          clear e9
          have h4 := H3.out
          have H5 := Lib.hid h4
          clear h4
          gi_wp2
          first | exact H5.out.done E9.out | exact H5.out.done2 E9.out
        · have e9 : goW fl (lev, lev, []) ((pre ++ [(i, (⟨x0, x1, x2, cr, cs⟩ : Stp))]).map (·.2)) = (lv, m2, pk) := by
            rw [HST.out, lev_tt, lim_tt, ← HM2.out, if_neg (by rw [inc_t]; exact HLE.out), List.append_nil]
          have E9 := Lib.hid e9
          clear e9
          have h4 := H3.out
          have g0 := h4.lev.cell
          have g1 := h4.lev.frozen
          have h5 := h4.setLev HBs.out lv
          have g2 := h5.lev.cell
          have g3 := h5.lim.cell
          have g4 := h5.lim.frozen
          simp only at g0 g2 g3
          have H5 := Lib.hid (h5.setLim HBs.out m2)
          clear h5 h4
          gi_wp2
          first | exact H5.out.done E9.out | exact H5.out.done2 E9.out
  case done =>
    rintro D ys W hD rfl ⟨q0, q1, ⟨vv, q2, q3, -⟩, q4, hB⟩ hK
    have d2 := q2.cell
    have HT := Lib.hid eT
    have HBB := Lib.hid eB
    clear eT eB
    gi_wp2
    have eT := HT.out
    have eB := HBB.out
    refine ⟨by simp, .inl ⟨_, _, rfl, run_takeDeferred hK, ?_⟩⟩
    exact ⟨_, results_tmp rfl _ _ _, _, rfl, ownsRow_putObj (own_base q3 (by omega)) _ hK rfl, by rw [← eT]; exact hB.trans (belowK_b (w := w) (by omega) W D _ _ (by omega) hK rfl rfl)⟩
  case stop =>
    rintro D cd pre W hD _ h _
    exact h.elim
end
end Go.Proofs.Ytphpbeapibohiaa

namespace Go.Proofs.Ytphpbeapibohiaa
open Go Go.RowKit

/-- So many from each end have changed places. -/
def Turned (xs ys : List Int) (k : Nat) : Prop := ys.length = xs.length ∧ ∀ t (h : t < ys.length) (h' : xs.length - 1 - t < xs.length) (h2 : t < xs.length), ys[t] = if t < k ∨ xs.length ≤ t + k then xs[xs.length - 1 - t] else xs[t]
theorem turned_zero (xs : List Int) : Turned xs xs 0 := ⟨rfl, fun t h _ _ => by rw [if_neg (by omega)]⟩
theorem turned_step {xs ys : List Int} {k : Nat} (h : Turned xs ys k) (hk : k < xs.length - 1 - k) (h1 : k < ys.length) (h2 : ys.length - 1 - k < ys.length) : Turned xs ((ys.set k ys[ys.length - 1 - k]).set (ys.length - 1 - k) ys[k]) (k + 1) := by
  obtain ⟨hl, he⟩ := h
  refine ⟨by simp [hl], fun t ht h' h3 => ?_⟩
  have e1 := he k h1 (by omega) (by omega)
  have e2 := he (ys.length - 1 - k) h2 (by omega) (by omega)
  rw [if_neg (by omega)] at e1 e2
  rw [List.getElem_set, List.getElem_set]
  by_cases a : ys.length - 1 - k = t
  · subst a
    rw [if_pos rfl, if_pos (by omega), e1]
    congr 1
    omega
  · rw [if_neg a]
    by_cases b : k = t
    · subst b
      rw [if_pos rfl, if_pos (by omega), e2]
      congr 1
      omega
    · rw [if_neg b]
      simp only [List.length_set] at ht
      rw [he t ht h' h3]
      by_cases c : t < k ∨ xs.length ≤ t + k
      · rw [if_pos c, if_pos (by omega)]
      · rw [if_neg c, if_neg (by omega)]
theorem turned_end {xs ys : List Int} {k : Nat} (h : Turned xs ys k) (hk : xs.length - 1 ≤ k + k) : ys = xs.reverse := by
  obtain ⟨hl, he⟩ := h
  refine List.ext_getElem (by rw [hl, List.length_reverse]) fun t h1 h2 => ?_
  rw [List.length_reverse] at h2
  rw [he t h1 (by omega) h2, List.getElem_reverse]
  by_cases c : t < k ∨ xs.length ≤ t + k
  · rw [if_pos c]
  · rw [if_neg c]
    congr 1
    omega

section
variable {w : World} {base : Nat} {v : Value} {xs : List Int}
--@if slices.Reverse[[]int,int]@
set_option maxHeartbeats 4000000 in
theorem revInts (h : w.ownsRow base 3 1 v xs.length (xs.map (Value.int .i64))) (hl : xs.length ≤ 1000000) :
    Calls Try.prog 24 #[v] w fun e w' => e = .returned (.tuple #[]) ∧ w'.ownsRow base 3 1 v xs.length (xs.reverse.map (Value.int .i64)) ∧ Keeps (fun i => v.ownBlock = some i) w w' := by
  obtain ⟨n, hn⟩ : ∃ n, n = xs.length := ⟨_, rfl⟩
  rw [← hn] at h hl ⊢
  have HN := Lib.hid hn
  have h0 := h
  rcases h.2 with ⟨rfl, e0⟩ | ⟨g, cap, cur, rfl, hb, hg, hc, hm, _⟩
  · obtain rfl := e0
    obtain rfl : xs = [] := List.eq_nil_of_length_eq_zero hn.symm
    have H0 := Lib.hid h0
    clear h h0 hn HN
    go_enter Try.func24, Try.ntmps24
    go_wp2
    go_loopw [2, 3] (fun i j wr => i = .int .i64 0 ∧ j = .int .i64 (-1) ∧ wr = w) (fun _ _ _ => 0)
    case atStart => exact ⟨rfl, rfl, rfl⟩
    case round =>
      obtain ⟨rfl, rfl, rfl⟩ := hrel
      go_wp2
      first | go_end0 | (simp only [Exit.inBlock, Exit.then]; refine bodyPost_ret (results_none rfl _ _ _) rfl ?_) | refine bodyPost_ret (results_none rfl _ _ _) rfl ?_
      exact ⟨rfl, H0.out, Keeps.refl _ _⟩
  · have H0 := Lib.hid h0
    have hwn : IntKind.i64.wrap ((n : Int) - 1) = (n : Int) - 1 := wrap_small (by omega) (by omega)
    clear h h0 hn hg hb hm
    go_enter Try.func24, Try.ntmps24
    go_wp2
    go_loopw [2, 3] (fun i j wr => ∃ (k : Nat) (ys : List Int), i = .int .i64 (k : Int) ∧ j = .int .i64 ((n : Int) - 1 - k) ∧ (k : Int) ≤ n ∧ Turned xs ys k ∧ wr.ownsRow base 3 1 (.slice (some ⟨g, 0, none⟩) n cap) n (ys.map (Value.int .i64)) ∧ Keeps (fun i => i = g) w wr) (fun i _ _ => n - (intOf i).toNat)
    case atStart => exact ⟨0, xs, rfl, by simp, by omega, turned_zero xs, H0.out, Keeps.refl _ _⟩
    case round =>
      obtain ⟨k, ys, rfl, rfl, hk, hT, hO, hK⟩ := hrel
      have HT := Lib.hid hT
      have HO := Lib.hid hO
      have HK := Lib.hid hK
      by_cases hlt : (k : Int) < (n : Int) - 1 - k
      · have hyl : ys.length = n := by rw [hT.1, HN.out]
        have c1 := hO.cellAt k (by omega)
        have c2 := hO.cellAt (n - 1 - k) (by omega)
        have f1 := hO.frozenAt k
        have f2 := hO.frozenAt (n - 1 - k)
        rw [List.getElem?_map, List.getElem?_eq_getElem (by omega)] at c1 c2
        simp only [Option.map_some] at c1 c2
        have hsp := turned_step hT (by rw [← HN.out]; omega) (by omega) (by omega)
        obtain ⟨j, hj⟩ : ∃ j, j = n - 1 - k := ⟨_, rfl⟩
        have hji : (n : Int) - 1 - k = (j : Int) := by omega
        simp only [hyl] at hsp
        rw [hji]
        simp only [← hj] at c2 f2 hsp
        obtain ⟨y1, hy1⟩ : ∃ y, y = ys[k]'(by omega) := ⟨_, rfl⟩
        obtain ⟨y2, hy2⟩ : ∃ y, y = ys[j]'(by omega) := ⟨_, rfl⟩
        simp only [← hy1, ← hy2] at c1 c2 hsp
        have hwk : IntKind.i64.wrap ((k : Int) + 1) = (k : Int) + 1 := wrap_small (by omega) (by omega)
        have hwj : IntKind.i64.wrap ((j : Int) - 1) = (j : Int) - 1 := wrap_small (by omega) (by omega)
        have hjn : (j : Int) < n := by omega
        have hkn : (k : Int) < n := by omega
        have hkj : (k : Int) < j := by omega
        have HS := Lib.hid hsp
        have HJ := Lib.hid hj
        clear hT hO hK hsp hji hj hy1 hy2 hlt
        go_wp2
        go_region
        go_wp2
        go_roundw
        case rel =>
          have q1 := (HO.out.stored k (.int .i64 y2))
          have q2 := (q1.1.stored j (.int .i64 y1)).1
          rw [← List.map_set, ← List.map_set] at q2
          refine ⟨k + 1, _, by go_num, ?_, by omega, HS.out, q2, ((HK.out.store (p := ⟨g, k, none⟩) (.inl rfl) _).store (p := ⟨g, j, none⟩) (.inl rfl) _).drew⟩
          have := HJ.out
          go_num
        case measure => simp [intOf]; omega
      · have e1 := turned_end hT (by rw [← HN.out]; omega)
        have E1 := Lib.hid e1
        clear e1 hT hO hK
        go_wp2
        first | go_end0 | (simp only [Exit.inBlock, Exit.then]; refine bodyPost_ret (results_none rfl _ _ _) rfl ?_) | refine bodyPost_ret (results_none rfl _ _ _) rfl ?_
        refine ⟨rfl, ?_, HK.out.wide fun i _ e => by rw [e]; rfl⟩
        have := HO.out
        rw [E1.out] at this
        first | exact this | (rw [List.map_reverse] at this; exact this)
--@end@
end
end Go.Proofs.Ytphpbeapibohiaa

namespace Go.Proofs.Ytphpbeapibohiaa
open Go Go.RowKit Go.Shelf

section
variable {w : World} {A : Option Addr} {c n : Nat} {p : List Stp} {v : Int}
theorem own_gives1 {w : World} {b : Nat} {x : Int} {t : TypeId} {fr : Nat × Nat} (h : Has w b (.cells #[.int .i64 x] t fr)) : Gives w 1 (.slice (some ⟨b, 0, none⟩) 1 1) 1 [.int .i64 x] := .inr ⟨_, 1, rfl, rfl, World.news_of_block h⟩
theorem goW_len (fl : Stp → Bool × Bool) {lev : Int} (h1 : -1000 ≤ lev ∧ lev ≤ 1000) (xs : List Stp) : (goW fl (lev, lev, []) xs).2.2.length ≤ xs.length := (goW_small h1 h1 xs).2.2
set_option maxRecDepth 100000 in
set_option maxHeartbeats 4000000 in
theorem seFrom (v : Int) (hR : RecIn RS w A c p) (hn : p.length = n) (hl : n ≤ 300) :
    Calls Try.prog 9 #[.slice A n c, .int .i64 v] w fun e w' => ∃ x, e = .returned x ∧ w'.ownsRow w.heap.size 3 1 x (seeP p v).length ((seeP p v).map (Value.int .i64)) ∧ Below w.heap.size w w' := by
  have HP := Lib.hid (sePlace v hR hn hl)
  cases hp : placeL v p with
  | none =>
    have e1 : placeI p v = -1 := by
      unfold placeI
      rw [hp]
    rw [e1] at HP
    rw [(from_no hp).1]
    clear e1 hp hR hn
    go_enter Try.func9, Try.ntmps9
    go_wp2_with fail
    refine HP.out.mono ?_
    rintro e w1 ⟨rfl, hb1⟩
    have HB1 := Lib.hid hb1
    clear hb1
    go_wp2
    go_ret
    exact ⟨_, rfl, World.ownsRow_nil _ _ _ _, HB1.out⟩
  | some kl =>
    obtain ⟨k, lev⟩ := kl
    have e1 : placeI p v = (k : Int) := by
      unfold placeI
      rw [hp]
    obtain ⟨hk, hs1, hs2⟩ := place_small hp (by rw [hn]; exact hl)
    have hfr := from_is hp
    have hlv := level_is hp
    rw [e1] at HP
    rw [hn] at hk
    have z0 : decide ((k : Int) < 0) = false := by rw [decide_eq_false_iff_not]; omega
    have z1 : ((k : Int) < 0) = False := by rw [eq_iff_iff]; exact ⟨fun h => by omega, False.elim⟩
    have hwk : IntKind.i64.wrap ((k : Int) + 1) = (k : Int) + 1 := wrap_small (by omega) (by omega)
    have hc1 : ∀ w, _ := fun w => stepCut_low A n c k (by have := hR.cap; omega) w
    have hc2 : ∀ w, _ := fun w => stepCut_high A n c (k + 1) (by omega) w
    rw [show ((k + 1 : Nat) : Int) = (k : Int) + 1 by omega] at hc2
    have hR1 := rec_low hR (a := k) (by omega)
    have hR2 := rec_high hR (a := k + 1) (by omega)
    obtain ⟨A2, hA2⟩ : ∃ A2, A2 = if c = k + 1 then A else A.map (·.add ((k + 1) * 5)) := ⟨_, rfl⟩
    rw [← hA2] at hc2 hR2
    have hl1 : (p.take k).length = k := by rw [List.length_take]; omega
    have hl2 : (p.drop (k + 1)).length = n - (k + 1) := by rw [List.length_drop, hn]
    have hg1 := goW_len flB ⟨hs1, hs2⟩ (p.take k).reverse
    have hg2 := goW_len flO ⟨hs1, hs2⟩ (p.drop (k + 1))
    rw [List.length_reverse, hl1] at hg1
    rw [hl2] at hg2
    obtain ⟨x1, hx1⟩ : ∃ x1, x1 = (goW flB (lev, lev, []) (p.take k).reverse).2.2 := ⟨_, rfl⟩
    obtain ⟨x2, hx2⟩ : ∃ x2, x2 = (goW flO (lev, lev, []) (p.drop (k + 1))).2.2 := ⟨_, rfl⟩
    rw [← hx1] at hfr hg1
    rw [← hx2] at hfr hg2
    have hLv := fun (w1 : World) (hb : Below w.heap.size w w1) => seLevel v (hR.below hb) hn hl
    rw [hlv] at hLv
    have hW1 := fun (w1 : World) (hb : Below w.heap.size w w1) => seWalk (w := w1.alloc (.cells #[.slice A k c] 22)) 20 42 w1.heap.size k (bkL (p.take k)) (fun pre => ∃ j, j ≤ k ∧ pre = (bkL (p.take k)).take j) flB lev ⟨hs1, hs2⟩ (by omega) (by simp) (enters_of Try.func20 (by kernel_rfl) rfl) (enters_of Try.func42 (by kernel_rfl) rfl) seBack
      (bk_stops (9 - 1) (by decide) w1.heap.size _ k c A (p.take k) hl1 (by omega) _ (by simp) (rec_low0 ((hR1.below hb).below ((Below.refl _ w1).alloc (Nat.le_refl _) _)) rfl) (Boxed.new w1 _ _) ((hR1.below hb).below ((Below.refl _ w1).alloc (Nat.le_refl _) _)))
    have hW2 := fun (w1 : World) (hb : Below w.heap.size w w1) => seWalk (w := w1.alloc (.cells #[.slice A2 (n - (k + 1)) (c - (k + 1))] 22)) 21 43 w1.heap.size (n - (k + 1)) (fwL 0 (p.drop (k + 1))) (fun pre => ∃ j, j ≤ n - (k + 1) ∧ pre = (fwL 0 (p.drop (k + 1))).take j) flO lev ⟨hs1, hs2⟩ (by omega) (by simp) (enters_of Try.func21 (by kernel_rfl) rfl) (enters_of Try.func43 (by kernel_rfl) rfl) seOn
      (al_stops (9 - 1) (by decide) w1.heap.size _ (n - (k + 1)) (c - (k + 1)) A2 (p.drop (k + 1)) hl2 (by omega) _ (by simp) (Nat.le_refl _) (rec_low0 ((hR2.below hb).below ((Below.refl _ w1).alloc (Nat.le_refl _) _)) rfl) (Boxed.new w1 _ _) ((hR2.below hb).below ((Below.refl _ w1).alloc (Nat.le_refl _) _)))
    rw [bk_snd, ← hx1] at hW1
    rw [fw_snd, ← hx2] at hW2
    rw [← hfr]
    obtain ⟨j0, qi, qz0, qz1, qz2⟩ := info_parts Try.infoInt
    have Qi := Lib.hid qi
    have Qz0 := Lib.hid qz0
    have Qz1 := Lib.hid qz1
    have Qz2 := Lib.hid qz2
    have HL := Lib.hid hLv
    have HW1 := Lib.hid hW1
    have HW2 := Lib.hid hW2
    clear qi qz0 qz1 qz2 hLv hW1 hW2 hfr hx1 hx2 hR1 hR2 hA2 hlv hp e1 hn hR hl1 hl2
    go_enter Try.func9, Try.ntmps9
    go_wp2_with fail
    refine HP.out.mono ?_
    rintro e w1 ⟨rfl, hb1⟩
    have HB1 := Lib.hid hb1
    clear hb1
    go_wp2_with fail
    refine (HL.out w1 HB1.out).mono ?_
    rintro e w2 ⟨rfl, hb2⟩
    have HB2 := Lib.hid (HB1.out.trans (hb2.mono HB1.out.size))
    clear hb2 HB1
    go_wp2_with fail
    refine (bkA _ _ _ _).mono ?_
    rintro e w3 ⟨rfl, rfl⟩
    go_wp2_with fail
    refine (HW1.out w2 HB2.out).mono ?_
    rintro e w3 ⟨v3, rfl, ho3, hb3⟩
    have HB3 := Lib.hid ((HB2.out.alloc HB2.out.size (.cells #[.slice A k c] 22)).trans (hb3.mono (by rw [World.size_alloc]; have := HB2.out.size; omega)))
    have HO3 := Lib.hid (own_base ho3 (B := w.heap.size) (by rw [World.size_alloc]; have := HB2.out.size; omega))
    clear ho3 hb3 HB2
    go_wp2_with fail
    refine (revInts HO3.out (by omega)).mono ?_
    rintro e w4 ⟨rfl, ho4, hk4⟩
    have HB4 := Lib.hid (below_then HB3.out hk4 HB3.out.size fun i hi e => by have := (HO3.out.lt i e).1; omega)
    have HO4 := Lib.hid ho4
    clear ho4 hk4 HB3 HO3
    have hgv := own_gives1 (Has.fresh w4 (.cells #[.int .i64 v] 3))
    have HGV := Lib.hid hgv
    have HS4 : Hid (w.heap.size ≤ (w4.alloc (.cells #[.int .i64 v] 3)).heap.size) := Lib.hid (by rw [World.size_alloc]; have := HB4.out.size; omega)
    clear hgv
    obtain ⟨n1, hn1⟩ : ∃ n1, n1 = x1.length := ⟨_, rfl⟩
    have HN1 := Lib.hid hn1
    rw [← hn1] at hg1 HO4
    clear hn1
    go_wp2_with (at_builtin; refine wpList_append_gives rfl (.tmp 27) (.tmp 29) 24 rfl w.heap.size 3 j0 _ 1 8 Try.underlying24 Qi.out Qz0.out Qz1.out Qz2.out rfl (by decide) v3 n1 (x1.reverse.map (Value.int .i64)) rfl (HO4.out.alloc _) _ 1 [.int .i64 v] rfl HGV.out (by intro u hu; obtain rfl := List.mem_singleton.1 hu; rfl) (by unfold maxLen; omega) (by omega) HS4.out ?_; intro v5 w5 ho5 hg5; have HB5 := Lib.hid ((HB4.out.alloc HB4.out.size (.cells #[.int .i64 v] 3)).grown hg5 HS4.out fun i e => (HO4.out.lt i e).1); have HO5 := Lib.hid ho5; clear ho5 hg5)
    refine (alA _ _ _ _).mono ?_
    rintro e w6 ⟨rfl, rfl⟩
    go_wp2_with fail
    refine (HW2.out w5 HB5.out).mono ?_
    rintro e w7 ⟨v7, rfl, ho7, hb7⟩
    have HB7 := Lib.hid ((HB5.out.alloc HB5.out.size (.cells #[.slice A2 (n - (k + 1)) (c - (k + 1))] 22)).trans (hb7.mono (by rw [World.size_alloc]; have := HB5.out.size; omega)))
    have HO7 := Lib.hid (own_below (own_below HO5.out ((Below.refl _ w5).alloc (Nat.le_refl _) _)) hb7)
    have hgv := own_gives ho7
    have HG7 := Lib.hid hgv
    clear ho7 hb7 hgv HB4 HO4 HB5 HO5 HGV HS4 HW1 HW2 HL HP
    go_wp2_with (at_builtin; refine wpList_append_gives rfl (.tmp 31) (.tmp 39) 24 rfl w.heap.size 3 j0 _ 1 8 Try.underlying24 Qi.out Qz0.out Qz1.out Qz2.out rfl (by decide) v5 (n1 + 1) _ rfl HO7.out v7 x2.length (x2.map (Value.int .i64)) rfl HG7.out (kids_one x2) (by unfold maxLen; omega) (by omega) HB7.out.size ?_; intro v8 w8 ho8 hg8; have HB8 := Lib.hid (HB7.out.grown hg8 HB7.out.size fun i e => (HO7.out.lt i e).1); have HO8 := Lib.hid ho8; clear ho8 hg8)
    go_ret
    have e8 : ((x1.reverse ++ [v]) ++ x2).length = n1 + 1 + x2.length := by
      have := HN1.out
      simp only [List.length_append, List.length_reverse, List.length_cons, List.length_nil]
      omega
    have e9 : ((x1.reverse ++ [v]) ++ x2).map (Value.int .i64) = x1.reverse.map (Value.int .i64) ++ [.int .i64 v] ++ x2.map (Value.int .i64) := by
      rw [List.map_append, List.map_append]
      rfl
    refine ⟨_, rfl, ?_, HB8.out⟩
    rw [e8, e9]
    exact HO8.out
end
end Go.Proofs.Ytphpbeapibohiaa

namespace Go.Proofs.Ytphpbeapibohiaa
open Go.ChangeShapes Go.WideShapes Go.ChangeAt Go.RowKit

theorem own : ownKnob Try.prog.godebug = none := by kernel_rfl
theorem laidOut : laidOutB Try.prog = true := by kernel_rfl
theorem ib {a : Int} (h : (Lit.int .i64 a).wf = true) : -9223372036854775808 ≤ a ∧ a ≤ 9223372036854775807 := by
  have h1 : IntKind.i64.min = -9223372036854775808 := rfl
  have h2 : IntKind.i64.max = 9223372036854775807 := rfl
  simp only [Lit.wf, Bool.and_eq_true, decide_eq_true_eq, h1, h2] at h
  exact h
theorem ib8 {a : Int} (h : (Lit.int .u8 a).wf = true) : 0 ≤ a ∧ a ≤ 255 := by
  have h1 : IntKind.u8.min = 0 := rfl
  have h2 : IntKind.u8.max = 255 := rfl
  simp only [Lit.wf, Bool.and_eq_true, decide_eq_true_eq, h1, h2] at h
  exact h
theorem ib16 {a : Int} (h : (Lit.int .u16 a).wf = true) : 0 ≤ a ∧ a ≤ 65535 := by
  have h1 : IntKind.u16.min = 0 := rfl
  have h2 : IntKind.u16.max = 65535 := rfl
  simp only [Lit.wf, Bool.and_eq_true, decide_eq_true_eq, h1, h2] at h
  exact h
end Go.Proofs.Ytphpbeapibohiaa
