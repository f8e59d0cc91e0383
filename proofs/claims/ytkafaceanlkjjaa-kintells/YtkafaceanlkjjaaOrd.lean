/-
  A region that leaves its order open, walked once, in an order that is typed out: what yields its value in every world that meets S comes up when it is named; a pinned operation comes up when nothing else can. S may be made narrower on the way. No program is named here.
-/
import Derived.Deep.RegionHeld3
namespace Go.Proofs.Ytkafaceanlkjjaa
open Go

section
variable {P : Program} {ops : Array Oper} {Q : Exit → Act → World → Prop} {pin : List Nat}

/-- May the operations come up in this order, each pinned one alone? -/
def ordOk (md : Region.Mode) (ops : Array Oper) (pin : List Nat) : List Nat → Array Bool → Bool
  | [], listed => Region.ready md ops listed == []
  | i :: r, listed => (if pin.contains i then Region.ready md ops listed == [i] else (Region.free md ops listed i && (Region.ready md ops listed).contains i)) && (ops[i]?).isSome && ordOk md ops pin r (listed.setIfInBounds i true)

/-- The operations in that order. -/
def picked (l : List Oper) : List Nat → List (Nat × Oper)
  | [] => []
  | i :: r => match l[i]? with
    | some o => (i, o) :: picked l r
    | none => picked l r

def wpOrd (P : Program) (ops : Array Oper) (Q : Exit → Act → World → Prop) (pin : List Nat) : (World → Prop) → List (Nat × Oper) → Act → World → Prop
  | _, [], a, w => Q .normal a w
  | S, (i, o) :: r, a, w => ∃ S' : World → Prop, (∀ w, S' w → S w) ∧
      if pin.contains i = true then wpOp P ops Q i (fun a' w' => S' w' ∧ wpOrd P ops Q pin S' r a' w') a w
      else ∃ v, YieldsIf P ops S' o v a ∧ S' w ∧ wpOrd P ops Q pin S' r (a.put o.dst v) w

theorem wpAnyH_wide {md : Region.Mode} {S S' : World → Prop} (hS : ∀ w, S' w → S w) : ∀ (fuel : Nat) (listed : Array Bool) (a : Act) (w : World), wpAnyH P md ops Q S' fuel listed a w → wpAnyH P md ops Q S fuel listed a w
  | 0, _, _, _, h => h
  | fuel + 1, _, _, _, h => ⟨h.1, fun i hi => wpOp_mono (fun a' w' h' => ⟨hS _ h'.1, wpAnyH_wide hS fuel _ a' w' h'.2⟩) (h.2 i hi)⟩

theorem wpAnyH_of_ord {md : Region.Mode} (hs : Region.noSelect ops = true) (hQ : ∀ c a d v w, Q (.panic c) (Act.put a d v) w → Q (.panic c) a w) :
    ∀ (l : List Nat) (S : World → Prop) (fuel : Nat) (listed : Array Bool) (a : Act) (w : World), l.length ≤ fuel → ordOk md ops pin l listed = true → wpOrd P ops Q pin S (picked ops.toList l) a w → wpAnyH P md ops Q S fuel listed a w
  | [], S, fuel, listed, a, w, _, hk, h => wpAnyH_done (by simpa [ordOk] using hk) h fuel
  | i :: r, _, 0, _, _, _, hl, _, _ => by simp at hl
  | i :: r, S, fuel + 1, listed, a, w, hl, hk, h => by
    simp only [ordOk, Bool.and_eq_true] at hk
    obtain ⟨⟨hk1, hk3⟩, hk2⟩ := hk
    obtain ⟨o, ho⟩ := Option.isSome_iff_exists.1 hk3
    have ho' : ops.toList[i]? = some o := by simpa using ho
    simp only [picked, ho', wpOrd] at h
    obtain ⟨S', hSS, h⟩ := h
    refine wpAnyH_wide hSS _ _ _ _ ?_
    have hl' : r.length ≤ fuel := by simpa using hl
    by_cases hp : pin.contains i = true
    · rw [if_pos hp] at h hk1
      have hr : Region.ready md ops listed = [i] := by simpa using hk1
      refine wpAnyH_all hr (by simp) fun j hj => ?_
      have : j = i := by simpa using hj
      subst this
      exact wpOp_mono (fun a' w' h' => ⟨h'.1, wpAnyH_of_ord hs hQ r _ fuel _ a' w' hl' hk2 h'.2⟩) h
    · rw [if_neg hp] at h hk1
      obtain ⟨v, hy, hS, h⟩ := h
      simp only [Bool.and_eq_true] at hk1
      exact wpAnyH_take ho hs hk1.1 hk1.2 (fun c a w => hQ c a _ v w) hy hS (wpAnyH_of_ord hs hQ r _ fuel _ _ _ hl' hk2 h)

/-- The beginning. -/
theorem wp_region_ord {S : World → Prop} {ol : List Oper} {id : Nat} {a : Act} {w : World} {l : List Nat} (hm : P.follows .mixedOrders = true) (hs : Region.noSelect ol.toArray = true) (hl : (l.length == ol.length) = true)
    (hk : ordOk .any ol.toArray pin l (Array.replicate ol.length false) = true) (hS : S w.drew)
    (h : S w.drew → wpOrd P ol.toArray (NoPanic Q) pin S (picked ol l) a w.drew) : (Code.region id ol.toArray true).wp P Q a w :=
  wp_region_noPanic (wp_region_held hm (wpAnyH_of_ord hs (fun _ _ _ _ _ h => h) l S ol.toArray.size _ a _ (by
    have : l.length = ol.length := by simpa using hl
    simp; omega) (by simpa using hk) (h hS)))

variable {i : Nat} {r : List (Nat × Oper)} {o : Oper} {a : Act} {w : World} {v : Value} {S : World → Prop}
/-- From here on S' holds. -/
theorem ord_tight (S' : World → Prop) (hS : ∀ w, S' w → S w) (hw : S' w) (h : S' w → wpOrd P ops Q pin S' r a w) : wpOrd P ops Q pin S r a w := by
  match r, h hw with
  | [], h => exact h
  | (_, _) :: _, ⟨S'', h1, h2⟩ => exact ⟨S'', fun w hw => hS w (h1 w hw), h2⟩
theorem ord_skip (hp : pin.contains i = false) (hw : Region.wanted o (yielded ops a.tmps) = false) (hS : S w) (h : wpOrd P ops Q pin S r (a.put o.dst undef) w) : wpOrd P ops Q pin S ((i, o) :: r) a w := by
  unfold wpOrd
  refine ⟨S, fun _ h => h, ?_⟩
  rw [if_neg (by rw [hp]; decide)]
  exact ⟨undef, .inr ⟨hw, rfl⟩, hS, h⟩
theorem ord_take (hp : pin.contains i = false) (hw : Region.wanted o (yielded ops a.tmps) = true) (hy : ∀ w, S w → (execOp a.eval o).run P w = .ok (.value v) w) (hS : S w)
    (h : wpOrd P ops Q pin S r (a.put o.dst v) w) : wpOrd P ops Q pin S ((i, o) :: r) a w := by
  unfold wpOrd
  refine ⟨S, fun _ h => h, ?_⟩
  rw [if_neg (by rw [hp]; decide)]
  exact ⟨v, .inl ⟨hw, hy⟩, hS, h⟩
theorem ord_run (hp : pin.contains i = true) (ho : ops[i]? = some o) (hw : Region.wanted o (yielded ops a.tmps) = true)
    (h : ∀ K' : Act → World → Prop, Shut (∀ a w, S w → (S w → wpOrd P ops Q pin S r a w) → K' a w) → Oper.wp P o a w K' Q) : wpOrd P ops Q pin S ((i, o) :: r) a w := by
  unfold wpOrd
  refine ⟨S, fun _ h => h, ?_⟩
  rw [if_pos hp]
  exact wpOp_step ho fun K' hK => by rw [if_pos hw]; exact h K' fun a w hS hW => hK a w ⟨hS, hW hS⟩
theorem ord_pass (hp : pin.contains i = true) (ho : ops[i]? = some o) (hw : Region.wanted o (yielded ops a.tmps) = false) (hS : S w) (h : wpOrd P ops Q pin S r (a.put o.dst undef) w) : wpOrd P ops Q pin S ((i, o) :: r) a w := by
  unfold wpOrd
  refine ⟨S, fun _ h => h, ?_⟩
  rw [if_pos hp]
  exact wpOp_step ho fun K' hK => by rw [if_neg (by rw [hw]; decide)]; exact hK _ _ ⟨hS, h⟩
theorem ord_done (h : Q .normal a w) : wpOrd P ops (NoPanic Q) pin S [] a w := h
end
end Go.Proofs.Ytkafaceanlkjjaa
