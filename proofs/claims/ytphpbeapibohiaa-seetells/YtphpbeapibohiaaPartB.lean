/-
  A region that leaves its order open, walked once, in an order that is typed out: what yields its value in every world that meets S comes up when it is named; a pinned operation comes up when nothing else can. S may be made narrower on the way. No program is named here.
  A region that leaves its order open and writes what it has read: 'x = append(x, ..)'. As Ord, but of the operations named 'late' (each waits for all that was taken first) nothing is asked behind them: what was read may be written by them. No program is named here.
  A region that leaves its order open, walked by a way that is typed out: what is taken first, what comes up alone, and where two may come up, both ways. As Late, but with forks. No program is named here.
  What towncrierref04.Make does.
  What towncrierref04.Put does.
  What towncrierref04.Do does.
  Calls on a forest that came in: a list of them, each with its text, its node and its list of numbers, read cell by cell.
  Lists of numbers that a call builds: put behind, cut off at the end, read. No function is named here.
  Lists of numbers that a call builds: put behind, cut off at the end, read. Only towncrier's types are named here, and slices.Index, slices.Contains.
  What towncrierlaw15.great does: where it says no, there are few calls with short lists.
  What a package arena must do (the document's promises, as contracts), and what towncrierlaw04.do and made do with such a one.
  What towncrierlaw04.made does with an arena that keeps its promises.
  What towncrierref01.Ints does.
  What towncrierref04.One and Same do.
  What towncrierref04.Same does.
  More promises of arena; what may be written over; a node is the same as itself.
  What package kin's Up, Root, Above do with an arena that keeps its promises.
  What package kin's Root, Above, row, Index and Next do with an arena that keeps its promises.
  What package kin's Count and Order do with an arena that keeps its promises.
  The forest of package arena in memory; what its small functions do: New, Len, has, fitsName, nextAbove, isAbove.
  Forests, plain: host-including ancestors, and what the document says of Check. No program is named here.
-/
import Derived.Test.YtphpbeapibohiaaPartA
import Derived.Deep.RegionHeld3

namespace Go.Proofs.Ytphpbeapibohiaa
open Go

section
variable {P : Program} {ops : Array Oper} {Q : Exit → Act → World → Prop} {pin : List Nat}

/-- May the operations come up in this order, each pinned one alone? -/
def ordOk (md : Region.Mode) (ops : Array Oper) (pin : List Nat) : List Nat → Array Bool → Bool
  | [], listed => Region.ready md ops listed == []
  | i :: r, listed => (if pin.contains i then Region.ready md ops listed == [i] else (Region.free md ops listed i && (Region.ready md ops listed).contains i)) && (ops[i]?).isSome && ordOk md ops pin r (listed.setIfInBounds i true)

/-- The operations in that order. -/
def picked (l : List Oper) : List Nat → List (Nat × Oper)
  | [] => []
  | i :: r => match l[i]? with
    | some o => (i, o) :: picked l r
    | none => picked l r

def wpOrd (P : Program) (ops : Array Oper) (Q : Exit → Act → World → Prop) (pin : List Nat) : (World → Prop) → List (Nat × Oper) → Act → World → Prop
  | _, [], a, w => Q .normal a w
  | S, (i, o) :: r, a, w => ∃ S' : World → Prop, (∀ w, S' w → S w) ∧
      if pin.contains i = true then wpOp P ops Q i (fun a' w' => S' w' ∧ wpOrd P ops Q pin S' r a' w') a w
      else ∃ v, YieldsIf P ops S' o v a ∧ S' w ∧ wpOrd P ops Q pin S' r (a.put o.dst v) w

theorem wpAnyH_wide {md : Region.Mode} {S S' : World → Prop} (hS : ∀ w, S' w → S w) : ∀ (fuel : Nat) (listed : Array Bool) (a : Act) (w : World), wpAnyH P md ops Q S' fuel listed a w → wpAnyH P md ops Q S fuel listed a w
  | 0, _, _, _, h => h
  | fuel + 1, _, _, _, h => ⟨h.1, fun i hi => wpOp_mono (fun a' w' h' => ⟨hS _ h'.1, wpAnyH_wide hS fuel _ a' w' h'.2⟩) (h.2 i hi)⟩

theorem wpAnyH_of_ord {md : Region.Mode} (hs : Region.noSelect ops = true) (hQ : ∀ c a d v w, Q (.panic c) (Act.put a d v) w → Q (.panic c) a w) :
    ∀ (l : List Nat) (S : World → Prop) (fuel : Nat) (listed : Array Bool) (a : Act) (w : World), l.length ≤ fuel → ordOk md ops pin l listed = true → wpOrd P ops Q pin S (picked ops.toList l) a w → wpAnyH P md ops Q S fuel listed a w
  | [], S, fuel, listed, a, w, _, hk, h => wpAnyH_done (by simpa [ordOk] using hk) h fuel
  | i :: r, _, 0, _, _, _, hl, _, _ => by simp at hl
  | i :: r, S, fuel + 1, listed, a, w, hl, hk, h => by
    simp only [ordOk, Bool.and_eq_true] at hk
    obtain ⟨⟨hk1, hk3⟩, hk2⟩ := hk
    obtain ⟨o, ho⟩ := Option.isSome_iff_exists.1 hk3
    have ho' : ops.toList[i]? = some o := by simpa using ho
    simp only [picked, ho', wpOrd] at h
    obtain ⟨S', hSS, h⟩ := h
    refine wpAnyH_wide hSS _ _ _ _ ?_
    have hl' : r.length ≤ fuel := by simpa using hl
    by_cases hp : pin.contains i = true
    · rw [if_pos hp] at h hk1
      have hr : Region.ready md ops listed = [i] := by simpa using hk1
      refine wpAnyH_all hr (by simp) fun j hj => ?_
      have : j = i := by simpa using hj
      subst this
      exact wpOp_mono (fun a' w' h' => ⟨h'.1, wpAnyH_of_ord hs hQ r _ fuel _ a' w' hl' hk2 h'.2⟩) h
    · rw [if_neg hp] at h hk1
      obtain ⟨v, hy, hS, h⟩ := h
      simp only [Bool.and_eq_true] at hk1
      exact wpAnyH_take ho hs hk1.1 hk1.2 (fun c a w => hQ c a _ v w) hy hS (wpAnyH_of_ord hs hQ r _ fuel _ _ _ hl' hk2 h)

/-- The beginning. -/
theorem wp_region_ord {S : World → Prop} {ol : List Oper} {id : Nat} {a : Act} {w : World} {l : List Nat} (hm : P.follows .mixedOrders = true) (hs : Region.noSelect ol.toArray = true) (hl : (l.length == ol.length) = true)
    (hk : ordOk .any ol.toArray pin l (Array.replicate ol.length false) = true) (hS : S w.drew)
    (h : S w.drew → wpOrd P ol.toArray (NoPanic Q) pin S (picked ol l) a w.drew) : (Code.region id ol.toArray true).wp P Q a w :=
  wp_region_noPanic (wp_region_held hm (wpAnyH_of_ord hs (fun _ _ _ _ _ h => h) l S ol.toArray.size _ a _ (by
    have : l.length = ol.length := by simpa using hl
    simp; omega) (by simpa using hk) (h hS)))

variable {i : Nat} {r : List (Nat × Oper)} {o : Oper} {a : Act} {w : World} {v : Value} {S : World → Prop}
/-- From here on S' holds. -/
theorem ord_tight (S' : World → Prop) (hS : ∀ w, S' w → S w) (hw : S' w) (h : S' w → wpOrd P ops Q pin S' r a w) : wpOrd P ops Q pin S r a w := by
  match r, h hw with
  | [], h => exact h
  | (_, _) :: _, ⟨S'', h1, h2⟩ => exact ⟨S'', fun w hw => hS w (h1 w hw), h2⟩
theorem ord_skip (hp : pin.contains i = false) (hw : Region.wanted o (yielded ops a.tmps) = false) (hS : S w) (h : wpOrd P ops Q pin S r (a.put o.dst undef) w) : wpOrd P ops Q pin S ((i, o) :: r) a w := by
  unfold wpOrd
  refine ⟨S, fun _ h => h, ?_⟩
  rw [if_neg (by rw [hp]; decide)]
  exact ⟨undef, .inr ⟨hw, rfl⟩, hS, h⟩
theorem ord_take (hp : pin.contains i = false) (hw : Region.wanted o (yielded ops a.tmps) = true) (hy : ∀ w, S w → (execOp a.eval o).run P w = .ok (.value v) w) (hS : S w)
    (h : wpOrd P ops Q pin S r (a.put o.dst v) w) : wpOrd P ops Q pin S ((i, o) :: r) a w := by
  unfold wpOrd
  refine ⟨S, fun _ h => h, ?_⟩
  rw [if_neg (by rw [hp]; decide)]
  exact ⟨v, .inl ⟨hw, hy⟩, hS, h⟩
theorem ord_run (hp : pin.contains i = true) (ho : ops[i]? = some o) (hw : Region.wanted o (yielded ops a.tmps) = true)
    (h : ∀ K' : Act → World → Prop, Shut (∀ a w, S w → (S w → wpOrd P ops Q pin S r a w) → K' a w) → Oper.wp P o a w K' Q) : wpOrd P ops Q pin S ((i, o) :: r) a w := by
  unfold wpOrd
  refine ⟨S, fun _ h => h, ?_⟩
  rw [if_pos hp]
  exact wpOp_step ho fun K' hK => by rw [if_pos hw]; exact h K' fun a w hS hW => hK a w ⟨hS, hW hS⟩
theorem ord_pass (hp : pin.contains i = true) (ho : ops[i]? = some o) (hw : Region.wanted o (yielded ops a.tmps) = false) (hS : S w) (h : wpOrd P ops Q pin S r (a.put o.dst undef) w) : wpOrd P ops Q pin S ((i, o) :: r) a w := by
  unfold wpOrd
  refine ⟨S, fun _ h => h, ?_⟩
  rw [if_pos hp]
  exact wpOp_step ho fun K' hK => by rw [if_neg (by rw [hw]; decide)]; exact hK _ _ ⟨hS, h⟩
theorem ord_done (h : Q .normal a w) : wpOrd P ops (NoPanic Q) pin S [] a w := h
end
end Go.Proofs.Ytphpbeapibohiaa

namespace Go.Proofs.Ytphpbeapibohiaa
open Go

section
variable {P : Program} {ops : Array Oper} {Q : Exit → Act → World → Prop} {md : Region.Mode} {late pin : List Nat}

/-- Does each late operation wait for i? -/
def waits (md : Region.Mode) (ops : Array Oper) (late : List Nat) (i : Nat) : Bool :=
  late.all fun z => match ops[z]? with
    | some o => o.after.any fun e => Region.binds md e && e.on == i
    | none => true

/-- Whatever order is picked; S holds behind every operation that is not late. -/
def wpAnyZ (P : Program) (md : Region.Mode) (ops : Array Oper) (Q : Exit → Act → World → Prop) (late : List Nat) (S : World → Prop) : Nat → Array Bool → Act → World → Prop
  | 0, listed, a, w => Region.ready md ops listed = [] ∧ Q .normal a w
  | n + 1, listed, a, w => (Region.ready md ops listed = [] → Q .normal a w) ∧
      ∀ i ∈ Region.ready md ops listed, wpOp P ops Q i (fun a' w' => (late.contains i = false → S w') ∧ wpAnyZ P md ops Q late S n (listed.setIfInBounds i true) a' w') a w

theorem wpAny_of_Z {S : World → Prop} : ∀ (n : Nat) (listed : Array Bool) (a : Act) (w : World), wpAnyZ P md ops Q late S n listed a w → wpAny P md ops Q n listed a w
  | 0, _, _, _, h => h
  | n + 1, _, _, _, h => ⟨h.1, fun i hi => wpOp_mono (fun a' w' h' => wpAny_of_Z n _ a' w' h'.2) (h.2 i hi)⟩

theorem wpAnyZ_wide {S S' : World → Prop} (hS : ∀ w, S' w → S w) : ∀ (n : Nat) (listed : Array Bool) (a : Act) (w : World), wpAnyZ P md ops Q late S' n listed a w → wpAnyZ P md ops Q late S n listed a w
  | 0, _, _, _, h => h
  | n + 1, _, _, _, h => ⟨h.1, fun i hi => wpOp_mono (fun a' w' h' => ⟨fun hl => hS _ (h'.1 hl), wpAnyZ_wide hS n _ a' w' h'.2⟩) (h.2 i hi)⟩

theorem wpAnyZ_done {S : World → Prop} {listed : Array Bool} {a : Act} {w : World} (hr : Region.ready md ops listed = []) (h : Q .normal a w) : ∀ n, wpAnyZ P md ops Q late S n listed a w
  | 0 => ⟨hr, h⟩
  | _ + 1 => ⟨fun _ => h, fun _ hi => absurd (hr ▸ hi) (List.not_mem_nil)⟩

/-- What is not listed is waited for. -/
theorem not_waiting {listed : Array Bool} {i : Nat} {oj : Oper} (hi : listed.getD i true = false) (hall : ∀ e ∈ oj.after, Region.binds md e = true → listed.getD e.on false = true) : ∀ e ∈ oj.after, Region.binds md e = true → e.on ≠ i := by
  rintro e he hb rfl
  have h := hall e he hb
  simp only [Array.getD] at hi h
  split at hi
  · rename_i hlt
    rw [dif_pos hlt] at h
    exact absurd (h.symm.trans hi) (by decide)
  · cases hi

theorem not_late {i j : Nat} {oj : Oper} (hw : waits md ops late i = true) (hj : ops[j]? = some oj) (hno : ∀ e ∈ oj.after, Region.binds md e = true → e.on ≠ i) : late.contains j = false := by
  cases hl : late.contains j with
  | false => rfl
  | true =>
    have h := List.all_eq_true.1 hw j (List.contains_iff_mem.1 hl)
    rw [hj] at h
    obtain ⟨e, he, hb⟩ := Array.any_eq_true'.1 h
    simp only [Bool.and_eq_true, beq_iff_eq] at hb
    exact absurd hb.2 (hno e he hb.1)

/-- Operation i may be taken first: it yields v in every world that meets S, and whoever could come ahead of it leaves S standing. -/
theorem wpAnyZ_take {S : World → Prop} {i : Nat} {oi : Oper} {v : Value} (hi : ops[i]? = some oi) (hs : Region.noSelect ops = true) (hw : waits md ops late i = true)
    (hQ : ∀ c a w, Q (.panic c) (Act.put a oi.dst v) w → Q (.panic c) a w) :
    ∀ (n : Nat) (listed : Array Bool) (a : Act) (w : World), Region.free md ops listed i = true → i ∈ Region.ready md ops listed → YieldsIf P ops S oi v a → S w →
      wpAnyZ P md ops Q late S n (listed.setIfInBounds i true) (a.put oi.dst v) w → wpAnyZ P md ops Q late S (n + 1) listed a w := by
  intro n
  induction n with
  | zero =>
    intro listed a w _ hr hy hS H
    refine ⟨fun h => absurd (h ▸ hr) List.not_mem_nil, fun j hj => ?_⟩
    by_cases hji : j = i
    · subst hji
      exact hy.wpOp hi hS ⟨fun _ => hS, H⟩
    · exact absurd (H.1 ▸ ready_mono hj hji) List.not_mem_nil
  | succ n ih =>
    intro listed a w hf hr hy hS H
    refine ⟨fun h => absurd (h ▸ hr) List.not_mem_nil, fun j hj => ?_⟩
    by_cases hji : j = i
    · subst hji
      exact hy.wpOp hi hS ⟨fun _ => hS, H⟩
    · obtain ⟨hun, oj, hoj, hall⟩ := mem_ready.1 hj
      have hno := not_waiting (mem_ready.1 hr).1 hall
      have hnl := not_late hw hoj hno
      have step := wpOp_putIf hoj (Region.free_spec hi hf j oj hoj hji hun hno) (fun cs b => Region.noSelect_spec hs i oi cs b hi) (fun cs b => Region.noSelect_spec hs j oj cs b hoj) hQ hy (H.2 j (ready_mono hj hji))
      have hf' : Region.free md ops (listed.setIfInBounds j true) i = true := by
        simp only [Region.free, hi, List.all_eq_true, List.mem_range] at hf ⊢
        intro k hk
        have := hf k hk
        by_cases hjk : j = k
        · subst hjk
          have hlt : j < listed.size := by
            rcases Nat.lt_or_ge j listed.size with h | h
            · exact h
            · simp [Array.getD, Nat.not_lt.2 h] at hun
          simp [Array.getD, hlt]
        · rw [getD_set_ne true hjk]
          exact this
      refine wpOp_mono (fun a' w' h' => ⟨fun _ => h'.2.1 hnl, ih _ a' w' hf' (ready_mono hr (Ne.symm hji)) h'.1 (h'.2.1 hnl) ?_⟩) step
      rw [Array.setIfInBounds_comm _ _ hji]
      exact h'.2.2

/-- May the operations come up in this order, each pinned one alone, each late one behind what was taken first? -/
def lateOk (md : Region.Mode) (ops : Array Oper) (late pin : List Nat) : List Nat → Array Bool → Bool
  | [], listed => Region.ready md ops listed == []
  | i :: r, listed => (if pin.contains i then Region.ready md ops listed == [i] else (Region.free md ops listed i && (Region.ready md ops listed).contains i && waits md ops late i)) && (ops[i]?).isSome && lateOk md ops late pin r (listed.setIfInBounds i true)

def wpLate (P : Program) (ops : Array Oper) (Q : Exit → Act → World → Prop) (late pin : List Nat) : (World → Prop) → List (Nat × Oper) → Act → World → Prop
  | _, [], a, w => Q .normal a w
  | S, (i, o) :: r, a, w => ∃ S' : World → Prop, (∀ w, S' w → S w) ∧
      if pin.contains i = true then wpOp P ops Q i (fun a' w' => (late.contains i = false → S' w') ∧ wpLate P ops Q late pin S' r a' w') a w
      else ∃ v, YieldsIf P ops S' o v a ∧ S' w ∧ wpLate P ops Q late pin S' r (a.put o.dst v) w

theorem wpAnyZ_of_late (hs : Region.noSelect ops = true) (hQ : ∀ c a d v w, Q (.panic c) (Act.put a d v) w → Q (.panic c) a w) :
    ∀ (l : List Nat) (S : World → Prop) (n : Nat) (listed : Array Bool) (a : Act) (w : World), l.length ≤ n → lateOk md ops late pin l listed = true → wpLate P ops Q late pin S (picked ops.toList l) a w → wpAnyZ P md ops Q late S n listed a w
  | [], S, n, listed, a, w, _, hk, h => wpAnyZ_done (by simpa [lateOk] using hk) h n
  | i :: r, _, 0, _, _, _, hl, _, _ => by simp at hl
  | i :: r, S, n + 1, listed, a, w, hl, hk, h => by
    simp only [lateOk, Bool.and_eq_true] at hk
    obtain ⟨⟨hk1, hk3⟩, hk2⟩ := hk
    obtain ⟨o, ho⟩ := Option.isSome_iff_exists.1 hk3
    have ho' : ops.toList[i]? = some o := by simpa using ho
    simp only [picked, ho', wpLate] at h
    obtain ⟨S', hSS, h⟩ := h
    refine wpAnyZ_wide hSS _ _ _ _ ?_
    have hl' : r.length ≤ n := by simpa using hl
    by_cases hp : pin.contains i = true
    · rw [if_pos hp] at h hk1
      have hr : Region.ready md ops listed = [i] := by simpa using hk1
      refine ⟨fun h0 => absurd (h0.symm.trans hr) (by simp), fun j hj => ?_⟩
      rw [hr] at hj
      obtain rfl := List.mem_singleton.1 hj
      exact wpOp_mono (fun a' w' h' => ⟨h'.1, wpAnyZ_of_late hs hQ r _ n _ a' w' hl' hk2 h'.2⟩) h
    · rw [if_neg hp] at h hk1
      obtain ⟨v, hy, hS, h⟩ := h
      simp only [Bool.and_eq_true] at hk1
      exact wpAnyZ_take ho hs hk1.2 (fun c a w => hQ c a _ v w) n listed a w hk1.1.1 (by simpa using hk1.1.2) hy hS (wpAnyZ_of_late hs hQ r _ n _ _ _ hl' hk2 h)

/-- The beginning. -/
theorem wp_region_late {S : World → Prop} {ol : List Oper} {id : Nat} {a : Act} {w : World} {l : List Nat} (hm : P.follows .mixedOrders = true) (hs : Region.noSelect ol.toArray = true) (hl : (l.length == ol.length) = true)
    (hk : lateOk .any ol.toArray late pin l (Array.replicate ol.length false) = true) (hS : S w.drew)
    (h : S w.drew → wpLate P ol.toArray (NoPanic Q) late pin S (picked ol l) a w.drew) : (Code.region id ol.toArray true).wp P Q a w :=
  wp_region_noPanic (wp_region_any hm (wpAny_of_Z _ _ _ _ (wpAnyZ_of_late hs (fun _ _ _ _ _ h => h) l S ol.toArray.size _ a _ (by
    have : l.length = ol.length := by simpa using hl
    simp; omega) (by simpa using hk) (h hS))))

variable {i : Nat} {r : List (Nat × Oper)} {o : Oper} {a : Act} {w : World} {v : Value} {S : World → Prop}
theorem late_tight (S' : World → Prop) (hS : ∀ w, S' w → S w) (hw : S' w) (h : S' w → wpLate P ops Q late pin S' r a w) : wpLate P ops Q late pin S r a w := by
  match r, h hw with
  | [], h => exact h
  | (_, _) :: _, ⟨S'', h1, h2⟩ => exact ⟨S'', fun w hw => hS w (h1 w hw), h2⟩
theorem late_skip (hp : pin.contains i = false) (hw : Region.wanted o (yielded ops a.tmps) = false) (hS : S w) (h : wpLate P ops Q late pin S r (a.put o.dst undef) w) : wpLate P ops Q late pin S ((i, o) :: r) a w := by
  unfold wpLate
  refine ⟨S, fun _ h => h, ?_⟩
  rw [if_neg (by rw [hp]; decide)]
  exact ⟨undef, .inr ⟨hw, rfl⟩, hS, h⟩
theorem late_take (hp : pin.contains i = false) (hw : Region.wanted o (yielded ops a.tmps) = true) (hy : ∀ w, S w → (execOp a.eval o).run P w = .ok (.value v) w) (hS : S w)
    (h : wpLate P ops Q late pin S r (a.put o.dst v) w) : wpLate P ops Q late pin S ((i, o) :: r) a w := by
  unfold wpLate
  refine ⟨S, fun _ h => h, ?_⟩
  rw [if_neg (by rw [hp]; decide)]
  exact ⟨v, .inl ⟨hw, hy⟩, hS, h⟩
/-- A pinned operation that is not late. -/
theorem late_run (hp : pin.contains i = true) (ho : ops[i]? = some o) (hw : Region.wanted o (yielded ops a.tmps) = true)
    (h : ∀ K' : Act → World → Prop, Shut (∀ a w, S w → (S w → wpLate P ops Q late pin S r a w) → K' a w) → Oper.wp P o a w K' Q) : wpLate P ops Q late pin S ((i, o) :: r) a w := by
  unfold wpLate
  refine ⟨S, fun _ h => h, ?_⟩
  rw [if_pos hp]
  exact wpOp_step ho fun K' hK => by rw [if_pos hw]; exact h K' fun a w hS hW => hK a w ⟨fun _ => hS, hW hS⟩
theorem late_pass (hp : pin.contains i = true) (ho : ops[i]? = some o) (hw : Region.wanted o (yielded ops a.tmps) = false) (hS : S w) (h : wpLate P ops Q late pin S r (a.put o.dst undef) w) : wpLate P ops Q late pin S ((i, o) :: r) a w := by
  unfold wpLate
  refine ⟨S, fun _ h => h, ?_⟩
  rw [if_pos hp]
  exact wpOp_step ho fun K' hK => by rw [if_neg (by rw [hw]; decide)]; exact hK _ _ ⟨fun _ => hS, h⟩
/-- A late one. -/
theorem late_last (hp : pin.contains i = true) (hl : late.contains i = true) (ho : ops[i]? = some o) (hw : Region.wanted o (yielded ops a.tmps) = true)
    (h : ∀ K' : Act → World → Prop, Shut (∀ a w, wpLate P ops Q late pin S r a w → K' a w) → Oper.wp P o a w K' Q) : wpLate P ops Q late pin S ((i, o) :: r) a w := by
  unfold wpLate
  refine ⟨S, fun _ h => h, ?_⟩
  rw [if_pos hp]
  exact wpOp_step ho fun K' hK => by rw [if_pos hw]; exact h K' fun a w hW => hK a w ⟨fun hf => absurd (hl.symm.trans hf) (by decide), hW⟩
theorem late_done (h : Q .normal a w) : wpLate P ops (NoPanic Q) late pin S [] a w := h
end
end Go.Proofs.Ytphpbeapibohiaa

namespace Go.Proofs.Ytphpbeapibohiaa
open Go

/-- A way through a region: take i first; i comes up alone; i or j comes up. -/
inductive Way where
  | fin : Way
  | take : Nat → Way → Way
  | run : Nat → Way → Way
  | fork : Nat → Way → Nat → Way → Way
def Way.takes : List Nat → Way → Way
  | [], p => p
  | i :: r, p => .take i (Way.takes r p)
def Way.length : Way → Nat
  | .fin => 0
  | .take _ p => p.length + 1
  | .run _ p => p.length + 1
  | .fork _ p _ q => max p.length q.length + 1

section
variable {P : Program} {ops : Array Oper} {Q : Exit → Act → World → Prop} {md : Region.Mode} {late : List Nat}

def wayOk (md : Region.Mode) (ops : Array Oper) (late : List Nat) : Way → Array Bool → Bool
  | .fin, listed => Region.ready md ops listed == []
  | .take i p, listed => Region.free md ops listed i && (Region.ready md ops listed).contains i && waits md ops late i && wayOk md ops late p (listed.setIfInBounds i true)
  | .run i p, listed => Region.ready md ops listed == [i] && wayOk md ops late p (listed.setIfInBounds i true)
  | .fork i p j q, listed => Region.ready md ops listed == [i, j] && wayOk md ops late p (listed.setIfInBounds i true) && wayOk md ops late q (listed.setIfInBounds j true)

def wpWay (P : Program) (ops : Array Oper) (Q : Exit → Act → World → Prop) (late : List Nat) : (World → Prop) → Way → Act → World → Prop
  | _, .fin, a, w => Q .normal a w
  | S, .take i p, a, w => ∃ S' : World → Prop, (∀ w, S' w → S w) ∧ ∃ o, ops[i]? = some o ∧ ∃ v, YieldsIf P ops S' o v a ∧ S' w ∧ wpWay P ops Q late S' p (a.put o.dst v) w
  | S, .run i p, a, w => ∃ S' : World → Prop, (∀ w, S' w → S w) ∧ wpOp P ops Q i (fun a' w' => (late.contains i = false → S' w') ∧ wpWay P ops Q late S' p a' w') a w
  | S, .fork i p j q, a, w => (∃ S' : World → Prop, (∀ w, S' w → S w) ∧ wpOp P ops Q i (fun a' w' => (late.contains i = false → S' w') ∧ wpWay P ops Q late S' p a' w') a w) ∧
      ∃ S' : World → Prop, (∀ w, S' w → S w) ∧ wpOp P ops Q j (fun a' w' => (late.contains j = false → S' w') ∧ wpWay P ops Q late S' q a' w') a w

theorem wpAnyZ_of_way (hs : Region.noSelect ops = true) (hQ : ∀ c a d v w, Q (.panic c) (Act.put a d v) w → Q (.panic c) a w) :
    ∀ (y : Way) (S : World → Prop) (n : Nat) (listed : Array Bool) (a : Act) (w : World), y.length ≤ n → wayOk md ops late y listed = true → wpWay P ops Q late S y a w → wpAnyZ P md ops Q late S n listed a w
  | .fin, S, n, listed, a, w, _, hk, h => wpAnyZ_done (by simpa [wayOk] using hk) h n
  | .take _ _, _, 0, _, _, _, hl, _, _ => by simp [Way.length] at hl
  | .run _ _, _, 0, _, _, _, hl, _, _ => by simp [Way.length] at hl
  | .fork _ _ _ _, _, 0, _, _, _, hl, _, _ => by simp [Way.length] at hl
  | .take i p, S, n + 1, listed, a, w, hl, hk, h => by
    simp only [wayOk, Bool.and_eq_true] at hk
    obtain ⟨⟨⟨k1, k2⟩, k3⟩, k4⟩ := hk
    obtain ⟨S', hSS, o, ho, v, hy, hS, h⟩ := h
    refine wpAnyZ_wide hSS _ _ _ _ ?_
    exact wpAnyZ_take ho hs k3 (fun c a w => hQ c a _ v w) n listed a w k1 (by simpa using k2) hy hS (wpAnyZ_of_way hs hQ p _ n _ _ _ (by simpa [Way.length] using hl) k4 h)
  | .run i p, S, n + 1, listed, a, w, hl, hk, h => by
    simp only [wayOk, Bool.and_eq_true] at hk
    obtain ⟨k1, k2⟩ := hk
    obtain ⟨S', hSS, h⟩ := h
    refine wpAnyZ_wide hSS _ _ _ _ ?_
    have hr : Region.ready md ops listed = [i] := by simpa using k1
    refine ⟨fun h0 => absurd (h0.symm.trans hr) (by simp), fun j hj => ?_⟩
    rw [hr] at hj
    obtain rfl := List.mem_singleton.1 hj
    exact wpOp_mono (fun a' w' h' => ⟨h'.1, wpAnyZ_of_way hs hQ p _ n _ a' w' (by simpa [Way.length] using hl) k2 h'.2⟩) h
  | .fork i p j q, S, n + 1, listed, a, w, hl, hk, h => by
    simp only [wayOk, Bool.and_eq_true] at hk
    obtain ⟨⟨k1, k2⟩, k3⟩ := hk
    obtain ⟨⟨S1, hS1, h1⟩, S2, hS2, h2⟩ := h
    have hl1 : p.length ≤ n := by simp [Way.length] at hl; omega
    have hl2 : q.length ≤ n := by simp [Way.length] at hl; omega
    have hr : Region.ready md ops listed = [i, j] := by simpa using k1
    refine ⟨fun h0 => absurd (h0.symm.trans hr) (by simp), fun x hx => ?_⟩
    rw [hr] at hx
    rcases List.mem_cons.1 hx with rfl | hx
    · exact wpOp_mono (fun a' w' h' => ⟨fun hf => hS1 _ (h'.1 hf), wpAnyZ_wide hS1 _ _ _ _ (wpAnyZ_of_way hs hQ p _ n _ a' w' hl1 k2 h'.2)⟩) h1
    · obtain rfl := List.mem_singleton.1 hx
      exact wpOp_mono (fun a' w' h' => ⟨fun hf => hS2 _ (h'.1 hf), wpAnyZ_wide hS2 _ _ _ _ (wpAnyZ_of_way hs hQ q _ n _ a' w' hl2 k3 h'.2)⟩) h2

/-- The beginning. -/
theorem wp_region_way {S : World → Prop} {ol : List Oper} {id : Nat} {a : Act} {w : World} {y : Way} (hm : P.follows .mixedOrders = true) (hs : Region.noSelect ol.toArray = true) (hl : y.length = ol.length)
    (hk : wayOk .any ol.toArray late y (Array.replicate ol.length false) = true) (hS : S w.drew)
    (h : S w.drew → wpWay P ol.toArray (NoPanic Q) late S y a w.drew) : (Code.region id ol.toArray true).wp P Q a w :=
  wp_region_noPanic (wp_region_any hm (wpAny_of_Z _ _ _ _ (wpAnyZ_of_way hs (fun _ _ _ _ _ h => h) y S ol.toArray.size _ a _ (by simp; omega) (by simpa using hk) (h hS))))

variable {i j : Nat} {p q : Way} {o : Oper} {a : Act} {w : World} {v : Value} {S : World → Prop}
theorem way_tight (S' : World → Prop) (hS : ∀ w, S' w → S w) (hw : S' w) (h : S' w → wpWay P ops Q late S' p a w) : wpWay P ops Q late S p a w := by
  have h := h hw
  match p, h with
  | .fin, h => exact h
  | .take _ _, ⟨S'', h1, h2⟩ => exact ⟨S'', fun w hw => hS w (h1 w hw), h2⟩
  | .run _ _, ⟨S'', h1, h2⟩ => exact ⟨S'', fun w hw => hS w (h1 w hw), h2⟩
  | .fork _ _ _ _, ⟨⟨S1, h1, h2⟩, S2, h3, h4⟩ => exact ⟨⟨S1, fun w hw => hS w (h1 w hw), h2⟩, S2, fun w hw => hS w (h3 w hw), h4⟩
theorem way_skip (ho : ops[i]? = some o) (hw : Region.wanted o (yielded ops a.tmps) = false) (hS : S w) (h : wpWay P ops Q late S p (a.put o.dst undef) w) : wpWay P ops Q late S (.take i p) a w :=
  ⟨S, fun _ h => h, o, ho, undef, .inr ⟨hw, rfl⟩, hS, h⟩
theorem way_take (ho : ops[i]? = some o) (hw : Region.wanted o (yielded ops a.tmps) = true) (hy : ∀ w, S w → (execOp a.eval o).run P w = .ok (.value v) w) (hS : S w)
    (h : wpWay P ops Q late S p (a.put o.dst v) w) : wpWay P ops Q late S (.take i p) a w :=
  ⟨S, fun _ h => h, o, ho, v, .inl ⟨hw, hy⟩, hS, h⟩
theorem way_run (ho : ops[i]? = some o) (hw : Region.wanted o (yielded ops a.tmps) = true)
    (h : ∀ K' : Act → World → Prop, Shut (∀ a w, S w → (S w → wpWay P ops Q late S p a w) → K' a w) → Oper.wp P o a w K' Q) : wpWay P ops Q late S (.run i p) a w :=
  ⟨S, fun _ h => h, wpOp_step ho fun K' hK => by rw [if_pos hw]; exact h K' fun a w hS hW => hK a w ⟨fun _ => hS, hW hS⟩⟩
theorem way_pass (ho : ops[i]? = some o) (hw : Region.wanted o (yielded ops a.tmps) = false) (hS : S w) (h : wpWay P ops Q late S p (a.put o.dst undef) w) : wpWay P ops Q late S (.run i p) a w :=
  ⟨S, fun _ h => h, wpOp_step ho fun K' hK => by rw [if_neg (by rw [hw]; decide)]; exact hK _ _ ⟨fun _ => hS, h⟩⟩
theorem way_last (hl : late.contains i = true) (ho : ops[i]? = some o) (hw : Region.wanted o (yielded ops a.tmps) = true)
    (h : ∀ K' : Act → World → Prop, Shut (∀ a w, wpWay P ops Q late S p a w → K' a w) → Oper.wp P o a w K' Q) : wpWay P ops Q late S (.run i p) a w :=
  ⟨S, fun _ h => h, wpOp_step ho fun K' hK => by rw [if_pos hw]; exact h K' fun a w hW => hK a w ⟨fun hf => absurd (hl.symm.trans hf) (by decide), hW⟩⟩
theorem way_fork (h1 : wpWay P ops Q late S (.run i p) a w) (h2 : wpWay P ops Q late S (.run j q) a w) : wpWay P ops Q late S (.fork i p j q) a w := ⟨h1, h2⟩
theorem way_done (h : Q .normal a w) : wpWay P ops (NoPanic Q) late S .fin a w := h
end
end Go.Proofs.Ytphpbeapibohiaa

namespace Go.Proofs.Ytphpbeapibohiaa
open Go Go.RowKit
variable {G : Nat → Prop}

section
variable {w w' : World} {B c : Nat} {A : Option Addr} {l : List Nd} {d : Nd}
theorem kids_apart {v v' : Value} {xs : List Int} {us : List Value} {base n size : Nat} {t : TypeId} (h : Kids G w v xs) (h' : w.ownsRow base t size v' n us) (ht : t ≠ 3) {g : Nat} (hg : v.ownBlock = some g) : v'.ownBlock ≠ some g := fun e => by
  rcases h.1.2 with ⟨rfl, _⟩ | ⟨g1, cap, cur, rfl, _, hh, _⟩
  · cases hg
  rcases h'.2 with ⟨rfl, _⟩ | ⟨g2, cap2, cur2, rfl, _, hh2, _⟩
  · cases e
  obtain rfl : g1 = g := by simpa [Value.ownBlock] using hg
  obtain rfl : g2 = g1 := by simpa [Value.ownBlock] using e
  exact Has.apart hh2 hh (fun e => ht (by injection e)) rfl
/-- A node without children is put behind. -/
theorem wp_push {P : Program} {o : Oper} {a : Act} {K : Act → World → Prop} {Q : Exit → Act → World → Prop} (s x : Operand) (t : TypeId)
    (ho : o.op = .call { callee := .builtin .append, args := #[s, x], argTypes := #[t, t] }) (i : TypeInfo) (z : Value) (ht : P.underlying t = some (.slice 52)) (hi : P.info? 52 = some i) (hz : i.zero = some z)
    (hsize : i.size = 9) (hby : i.bytes = 104) (hzs : z.cells.size = 9) (hs : a.eval s = .slice A l.length c) (hN : Nodes G w B A c l) {b q : Nat} (hx : a.eval x = .slice (some ⟨b, 0, none⟩) 1 q) {fr : Nat × Nat}
    (hb : Has w b (.cells (d.cells (.slice none 0 0)).toArray 52 fr)) (hd : d.kids = []) (hl : l.length ≤ 1000) (hB : B ≤ w.heap.size) (hG : Fut G B)
    (h : ∀ A' c' w', Nodes G w' B A' c' (l ++ [d]) → Keeps (fun i => B ≤ i) w w' → K (a.put o.dst (.slice A' (l.length + 1) c')) w') : o.wp P a w K Q := by
  obtain ⟨rows, h1, h2, h3, -⟩ := hN
  refine wp_append_own w s x t ho B 52 i z 9 104 ht hi hz hsize hby hzs (by decide) _ l.length (flat rows) hs h2 ⟨b, 0, none⟩ 1 q (d.cells (.slice none 0 0)) hx rfl ?_ ?_ (by unfold maxLen; omega) (by omega) hB ?_
  · exact World.news_of_block hb
  · intro u hu
    exact flat_one (rows := [(d, .slice none 0 0)]) (fun p hp => by obtain rfl := List.mem_singleton.1 hp; rfl) u (by simpa [flat] using hu)
  · intro v' w' ho' hg _
    obtain ⟨A', c', rfl, _⟩ := own_form ho'
    refine h A' c' w' ⟨rows ++ [(d, .slice none 0 0)], by simp [h1], ?_, fun p hp => ?_, fun b off s e => by subst e; exact hG b (ho'.lt b rfl).1⟩ ((Keeps.of_grown hg).wide fun i _ e => (h2.lt i e).1)
    · rw [List.length_append, flat_append]
      have : flat [(d, Value.slice none 0 0)] = d.cells (.slice none 0 0) := by simp [flat]
      rw [this]
      exact ho'
    · rcases List.mem_append.1 hp with hp | hp
      · exact ⟨own_kept (h3 p hp).1 (Keeps.of_grown hg) fun g hg' e => kids_apart (h3 p hp) h2 (by decide) hg' e, (h3 p hp).2⟩
      · obtain rfl := List.mem_singleton.1 hp
        show Kids G w' _ d.kids
        rw [hd]
        exact ⟨World.ownsRow_nil _ _ _ _, fun _ h => absurd h (by simp [Value.ownBlock])⟩
end

section
variable {n : Nat} {k pa ho sh m : Int} {sl : Bool} {na wa : ByteArray} {ks : List Int}
theorem mkErr_kind (h : k < 1 ∨ 4 < k) : mkErr n ⟨k, pa, ho, sh, m, sl, na, wa, ks⟩ = 2 := by unfold mkErr; rw [if_pos h]
theorem mkErr_mode (h0 : 1 ≤ k) (h1 : k ≤ 4) (h : (k = 3 ∧ m ≠ 1 ∧ m ≠ 2) ∨ (k ≠ 3 ∧ m ≠ 0)) : mkErr n ⟨k, pa, ho, sh, m, sl, na, wa, ks⟩ = 1 := by unfold mkErr; rw [if_neg (by show ¬ (k < 1 ∨ 4 < k); omega), if_pos h]
theorem mkErr_name (h0 : 1 ≤ k) (h1 : k ≤ 4) (h2 : ¬ ((k = 3 ∧ m ≠ 1 ∧ m ≠ 2) ∨ (k ≠ 3 ∧ m ≠ 0))) (h : (k ≠ 2 ∧ (sl = true ∨ wa.toList.isEmpty = false)) ∨ (sl = false ∧ na.toList.isEmpty = false) ∨ okName na = false ∨ okName wa = false) :
    mkErr n ⟨k, pa, ho, sh, m, sl, na, wa, ks⟩ = 1 := by unfold mkErr; rw [if_neg (by show ¬ (k < 1 ∨ 4 < k); omega), if_neg h2, if_pos h]
theorem mkErr_rest (h0 : 1 ≤ k) (h1 : k ≤ 4) (h2 : ¬ ((k = 3 ∧ m ≠ 1 ∧ m ≠ 2) ∨ (k ≠ 3 ∧ m ≠ 0))) (h : ¬ ((k ≠ 2 ∧ (sl = true ∨ wa.toList.isEmpty = false)) ∨ (sl = false ∧ na.toList.isEmpty = false) ∨ okName na = false ∨ okName wa = false)) :
    mkErr n ⟨k, pa, ho, sh, m, sl, na, wa, ks⟩ = if 128 ≤ n then 9 else 0 := by unfold mkErr; rw [if_neg (by show ¬ (k < 1 ∨ 4 < k); omega), if_neg h2, if_neg h]
theorem okName_empty {s : ByteArray} (h : s.toList.isEmpty = true) : okName s = true := by unfold okName; rw [h]; rfl
end

/-- What is read of the node that came in. -/
def Box (b : Nat) (k m : Int) (sl : Bool) (na wa : ByteArray) (w : World) : Prop := w.cell? ⟨b, 0, none⟩ = some (.int .i64 k) ∧ w.cell? ⟨b, 5, none⟩ = some (.bool sl) ∧ w.cell? ⟨b, 6, none⟩ = some (.string na) ∧ w.cell? ⟨b, 7, none⟩ = some (.string wa) ∧ w.cell? ⟨b, 4, none⟩ = some (.int .i64 m)
theorem Box.of {b : Nat} {k pa ho sh m : Int} {sl : Bool} {na wa : ByteArray} {kv : Value} {t : TypeId} {fr : Nat × Nat} {w : World} (h : Has w b (.cells #[.int .i64 k, .int .i64 pa, .int .i64 ho, .int .i64 sh, .int .i64 m, .bool sl, .string na, .string wa, kv] t fr)) : Box b k m sl na wa w :=
  ⟨Has.cell h 0, Has.cell h 5, Has.cell h 6, Has.cell h 7, Has.cell h 4⟩
/-- The nodes then, a number, an error's number. -/
def Gave3 (G : Nat → Prop) (w : World) (l' : List Nd) (no err : Int) (e : Ending) (w' : World) : Prop := ∃ A' c', e = .returned (.tuple #[.slice A' l'.length c', .int .i64 no, .int .i64 err]) ∧ Nodes G w' 0 A' c' l' ∧ Below w.heap.size w w'
theorem Gave3.err {w w' : World} {l : List Nd} {A : Option Addr} {c : Nat} {d : Nd} {e : Int} (he : mkErr l.length d = e) (h0 : e ≠ 0) (h : Nodes G w 0 A c l) (hb : Below w.heap.size w w') : Gave3 G w (mkL l d) (mkNo l d) (mkErr l.length d) (.returned (.tuple #[.slice A l.length c, .int .i64 0, .int .i64 e])) w' := by
  unfold mkL mkNo
  rw [he, if_neg h0, if_neg h0]
  exact ⟨_, _, rfl, h.below hb, hb⟩

end Go.Proofs.Ytphpbeapibohiaa

namespace Go.Proofs.Ytphpbeapibohiaa
open Go Go.RowKit
variable {G : Nat → Prop}

theorem put_same {l : List Nd} {p : Int} {kids : List Int} {e : Int} (he : putErr l p kids = e) (h0 : e ≠ 0) : putL l p kids = l := by unfold putL; rw [he, if_neg h0]
theorem put_no {l : List Nd} {p : Int} {kids : List Int} (h : thereB l p = false) : putErr l p kids = 1 := by unfold putErr; rw [if_pos h]
theorem put_bad {l : List Nd} {p : Int} {kids : List Int} (h : thereB l p = true) {i : Nat} (hi : i < kids.length) (hb : kidIn l kids i = false) : putErr l p kids = 1 := by
  unfold putErr
  rw [if_neg (by rw [h]; decide), if_pos]
  intro ha
  rw [ha i hi] at hb
  cases hb
theorem put_up {l : List Nd} {p : Int} {kids : List Int} (h : thereB l p = true) (hk : ∀ i, i < kids.length → kidIn l kids i = true) {k : Int} (hi : k ∈ kids) (hb : kidOk l (over l p) p k = false) : putErr l p kids = 3 := by
  unfold putErr
  rw [if_neg (by rw [h]; decide), if_neg (fun h => h hk), if_pos]
  intro ha
  rw [ha k hi] at hb
  cases hb
theorem put_ok {l : List Nd} {p : Int} {kids : List Int} (h : thereB l p = true) (hk : ∀ i, i < kids.length → kidIn l kids i = true) (hb : ∀ k, k ∈ kids → kidOk l (over l p) p k = true) : putErr l p kids = 0 := by
  unfold putErr
  rw [if_neg (by rw [h]; decide), if_neg (fun h => h hk), if_neg (fun h => h hb)]

/-- The first j of them, no longer the parent's. -/
def clrTo (l : List Nd) (p : Int) (j : Nat) : List Nd := clr (l.take j) p ++ l.drop j
theorem clrTo_zero (l : List Nd) (p : Int) : clrTo l p 0 = l := by simp [clrTo, clr]
theorem clrTo_all (l : List Nd) (p : Int) : clrTo l p l.length = clr l p := by simp [clrTo]
theorem clrTo_length (l : List Nd) (p : Int) (j : Nat) : (clrTo l p j).length = l.length := by simp [clrTo, clr]; omega
theorem clrTo_at {l : List Nd} {p : Int} {j : Nat} (hj : j < l.length) : (clrTo l p j)[j]'(by rw [clrTo_length]; exact hj) = l[j] := by
  unfold clrTo
  rw [List.getElem_append_right (by simp [clr]; omega)]
  simp [clr, Nat.min_eq_left (Nat.le_of_lt hj)]
theorem clrTo_step {l : List Nd} {p : Int} {j : Nat} (hj : j < l.length) : clrTo l p (j + 1) = (clrTo l p j).set j (if l[j].parent = p then { l[j] with parent := 0 } else l[j]) := by
  unfold clrTo clr
  rw [List.take_add_one, List.getElem?_eq_getElem hj, List.map_append, List.set_append_right _ _ (by simp; omega), List.drop_eq_getElem_cons hj]
  simp only [List.length_map, List.length_take, Nat.min_eq_left (Nat.le_of_lt hj), Nat.sub_self, List.set_cons_zero, Option.toList_some, List.map_cons, List.map_nil, List.append_assoc, List.singleton_append]
theorem has_is {xs : List Int} {x : Int} {b : Bool} (h : hasB xs x = b) (A : Option Addr) {n : Nat} (c : Nat) (w : World) {B : Nat} (hn : n = xs.length) (hl : n ≤ 1000000) (hN : Nums w B A .i64 xs) : Calls Try.prog 18 #[.slice A n c, .int .i64 x] w fun e w' => e = .returned (.bool b) ∧ w' = w :=
  (has_any xs A n c x w hn hl hN).mono fun _ _ hh => ⟨by rw [hh.1, h], hh.2.symm⟩
theorem toPar_snoc (l : List Nd) (p : Int) (ks : List Int) (k : Int) : toPar l p (ks ++ [k]) = modN (toPar l p ks) k fun d => { d with parent := p } := by simp [toPar]
theorem Nodes.kidsSet {w : World} {B g c m : Nat} {l : List Nd} {v : Value} {ks : List Int} (h : Nodes G w B (some ⟨g, 0, none⟩) c l) (hm : m < l.length) (hk : Kids G w v ks) :
    (∃ x, w.cell? ⟨g, m * 9 + 8, none⟩ = some x) ∧ w.frozen? ⟨g, m * 9 + 8, none⟩ = false ∧ Nodes G (w.setCell ⟨g, m * 9 + 8, none⟩ v) B (some ⟨g, 0, none⟩) c (modN l ((m : Int) + 1) fun d => { d with kids := ks }) := by
  obtain ⟨g', k', e, _, _, hf, hc⟩ := h.at_ hm
  obtain rfl : g = g' := by simpa using e
  refine ⟨⟨k', hc 8 (by omega)⟩, hf _, ?_⟩
  rw [modN_at hm]
  exact h.store hm (f := 8) (by omega) (fun k' => ⟨v, rfl, fun _ => hk⟩)
theorem nums_take {w : World} {B : Nat} {A : Option Addr} {k : IntKind} {xs : List Int} (h : Nums w B A k xs) (j : Nat) : Nums w B A k (xs.take j) := fun i hi => by
  rw [List.length_take] at hi
  rw [List.getElem_take]
  exact h i (by omega)

end Go.Proofs.Ytphpbeapibohiaa

namespace Go.Proofs.Ytphpbeapibohiaa
open Go Go.RowKit
variable {G : Nat → Prop}

/-- A call as a value: its node's children stand at kv, its list at lv. -/
def actVal (x : Ac) (kv lv : Value) : Value := .agg #[.int .i64 x.kind, .int .i64 x.a, .int .i64 x.b, .string x.s, .int .i64 x.n.kind, .int .i64 x.n.parent, .int .i64 x.n.host, .int .i64 x.n.shadow, .int .i64 x.n.mode, .bool x.n.slot, .string x.n.name, .string x.n.want, kv, lv]
/-- What an argument's texts and list hold. -/
structure ActIn (w : World) (x : Ac) (A : Option Addr) (c : Nat) : Prop where
  s : x.s.size ≤ 9223372036854775807
  name : x.n.name.size ≤ 9223372036854775807
  want : x.n.want.size ≤ 9223372036854775807
  cap : x.l.length ≤ c
  nil : A = none → c = 0
  nums : Nums w w.heap.size A .i64 x.l

theorem ActIn.below {w w' : World} {x : Ac} {A : Option Addr} {c : Nat} (h : ActIn w x A c) (hb : Below w.heap.size w w') : ActIn w' x A c := ⟨h.s, h.name, h.want, h.cap, h.nil, (h.nums.below hb).mono hb.size⟩

theorem Gave.three {w w' wb : World} {l : List Nd} {x : Ac} {l' : List Nd} {err : Int} {e : Ending} (h : Gave G wb l' err e w') (hb : Below w.heap.size w wb) (h1 : actL l x = l') (h2 : actErr l x = err) (h3 : actNo l x = 0) :
    ∃ A' c', e = .returned (.tuple #[.slice A' l'.length c', .int .i64 err]) ∧ Gave3 G w (actL l x) (actNo l x) (actErr l x) (.returned (.tuple #[.slice A' l'.length c', .int .i64 0, .int .i64 err])) w' := by
  obtain ⟨A', c', he, hN, hb'⟩ := h
  refine ⟨A', c', he, A', c', by rw [h1, h2, h3], by rw [h1]; exact hN, hb.trans (hb'.mono hb.size)⟩

end Go.Proofs.Ytphpbeapibohiaa

namespace Go.Proofs.Ytphpbeapibohiaa
open Go Go.ChangeShapes Go.WideShapes Go.ChangeAt Go.RowKit

section
variable {H : Type} {enc : TypeId × Value → H} {W : World} {sp : Nat → Bool} {held : Bool} {fuel : Nat} {cs : List Value} {y : DataW H × List MemPlace}

theorem node_in (h : DataW.trod enc Try.prog W 0 sp held fuel 52 cs = some y) :
    ∃ (d : Nd) (A : Option Addr) (c : Nat), cs = d.cells (.slice A d.kids.length c) ∧ d.name.size ≤ 9223372036854775807 ∧ d.want.size ≤ 9223372036854775807 ∧ ListIn W A c d.kids := by
  obtain ⟨xs, n, _, _, hlen, hxl, hf⟩ := DataW.trod_struct Try.underlying52 h
  have h9 : cs.length = 9 := hlen.trans (by kernel_rfl)
  have hxl' : xs.length = 9 := hxl
  have one : Try.prog.cellsOf 3 = 1 := by kernel_rfl
  have oneB : Try.prog.cellsOf 4 = 1 := by kernel_rfl
  have oneS : Try.prog.cellsOf 9 = 1 := by kernel_rfl
  have oneL : Try.prog.cellsOf 24 = 1 := by kernel_rfl
  have get : ∀ i, i < 9 → ∃ z, xs[i]? = some z := fun i hi => ⟨xs[i]'(by omega), List.getElem?_eq_getElem _⟩
  obtain ⟨z0, g0⟩ := get 0 (by omega)
  obtain ⟨z1, g1⟩ := get 1 (by omega)
  obtain ⟨z2, g2⟩ := get 2 (by omega)
  obtain ⟨z3, g3⟩ := get 3 (by omega)
  obtain ⟨z4, g4⟩ := get 4 (by omega)
  obtain ⟨z5, g5⟩ := get 5 (by omega)
  obtain ⟨z6, g6⟩ := get 6 (by omega)
  obtain ⟨z7, g7⟩ := get 7 (by omega)
  obtain ⟨z8, g8⟩ := get 8 (by omega)
  obtain ⟨a0, e0, _, _⟩ := DataW.trod_int Try.underlying3 ((hf 0 _ rfl).trans g0)
  obtain ⟨a1, e1, _, _⟩ := DataW.trod_int Try.underlying3 ((hf 1 _ rfl).trans g1)
  obtain ⟨a2, e2, _, _⟩ := DataW.trod_int Try.underlying3 ((hf 2 _ rfl).trans g2)
  obtain ⟨a3, e3, _, _⟩ := DataW.trod_int Try.underlying3 ((hf 3 _ rfl).trans g3)
  obtain ⟨a4, e4, _, _⟩ := DataW.trod_int Try.underlying3 ((hf 4 _ rfl).trans g4)
  obtain ⟨a5, e5, _⟩ := DataW.trod_bool Try.underlying4 ((hf 5 _ rfl).trans g5)
  obtain ⟨a6, e6, _, s6⟩ := DataW.trod_string Try.underlying9 ((hf 6 _ rfl).trans g6)
  obtain ⟨a7, e7, _, s7⟩ := DataW.trod_string Try.underlying9 ((hf 7 _ rfl).trans g7)
  obtain ⟨A, c, ks, e8, hL⟩ := list_in ((hf 8 _ rfl).trans g8)
  refine ⟨⟨a0, a1, a2, a3, a4, a5, a6, a7, ks⟩, A, c, ?_, s6, s7, hL⟩
  refine List.ext_getElem? fun i => ?_
  match i with
  | 0 => exact part_one e0 one
  | 1 => exact part_one e1 one
  | 2 => exact part_one e2 one
  | 3 => exact part_one e3 one
  | 4 => exact part_one e4 one
  | 5 => exact part_one e5 oneB
  | 6 => exact part_one e6 oneS
  | 7 => exact part_one e7 oneS
  | 8 => exact part_one e8 oneL
  | i + 9 => rw [List.getElem?_eq_none (by omega), List.getElem?_eq_none (by rw [Nd.cells_length]; omega)]

/-- A call's fourteen cells. -/
def actCells (x : Ac) (kv lv : Value) : List Value := [.int .i64 x.kind, .int .i64 x.a, .int .i64 x.b, .string x.s, .int .i64 x.n.kind, .int .i64 x.n.parent, .int .i64 x.n.host, .int .i64 x.n.shadow, .int .i64 x.n.mode, .bool x.n.slot, .string x.n.name, .string x.n.want, kv, lv]

theorem act_in (h : DataW.trod enc Try.prog W 0 sp held fuel 54 cs = some y) :
    ∃ (x : Ac) (A1 : Option Addr) (c1 : Nat) (A2 : Option Addr) (c2 : Nat), cs = actCells x (.slice A1 x.n.kids.length c1) (.slice A2 x.l.length c2) ∧ ListIn W A1 c1 x.n.kids ∧ ActIn W x A2 c2 := by
  obtain ⟨xs, n, _, _, hlen, hxl, hf⟩ := DataW.trod_struct Try.underlying54 h
  have h14 : cs.length = 14 := hlen.trans (by kernel_rfl)
  have hxl' : xs.length = 6 := hxl
  have one : Try.prog.cellsOf 3 = 1 := by kernel_rfl
  have oneS : Try.prog.cellsOf 9 = 1 := by kernel_rfl
  have oneL : Try.prog.cellsOf 24 = 1 := by kernel_rfl
  have nine : Try.prog.cellsOf 52 = 9 := by kernel_rfl
  have get : ∀ i, i < 6 → ∃ z, xs[i]? = some z := fun i hi => ⟨xs[i]'(by omega), List.getElem?_eq_getElem _⟩
  obtain ⟨z0, g0⟩ := get 0 (by omega)
  obtain ⟨z1, g1⟩ := get 1 (by omega)
  obtain ⟨z2, g2⟩ := get 2 (by omega)
  obtain ⟨z3, g3⟩ := get 3 (by omega)
  obtain ⟨z4, g4⟩ := get 4 (by omega)
  obtain ⟨z5, g5⟩ := get 5 (by omega)
  obtain ⟨a0, e0, _, _⟩ := DataW.trod_int Try.underlying3 ((hf 0 _ rfl).trans g0)
  obtain ⟨a1, e1, _, _⟩ := DataW.trod_int Try.underlying3 ((hf 1 _ rfl).trans g1)
  obtain ⟨a2, e2, _, _⟩ := DataW.trod_int Try.underlying3 ((hf 2 _ rfl).trans g2)
  obtain ⟨a3, e3, _, s3⟩ := DataW.trod_string Try.underlying9 ((hf 3 _ rfl).trans g3)
  obtain ⟨d, A1, c1, e4, s4, s5, hL1⟩ := node_in ((hf 4 _ rfl).trans g4)
  obtain ⟨A2, c2, ls, e5, hL2⟩ := list_in ((hf 5 _ rfl).trans g5)
  refine ⟨⟨a0, a1, a2, a3, d, ls⟩, A1, c1, A2, c2, ?_, hL1, ⟨s3, s4, s5, hL2.cap, hL2.nil, hL2.nums⟩⟩
  have hd : ∀ f, f < 9 → cs[4 + f]? = (d.cells (.slice A1 d.kids.length c1))[f]? := fun f hf => by
    have : ((cs.drop 4).take (Try.prog.cellsOf 52))[f]? = (d.cells (.slice A1 d.kids.length c1))[f]? := congrArg (fun l : List Value => l[f]?) e4
    rw [nine, List.getElem?_take, if_pos hf, List.getElem?_drop] at this
    exact this
  refine List.ext_getElem? fun i => ?_
  match i with
  | 0 => exact part_one e0 one
  | 1 => exact part_one e1 one
  | 2 => exact part_one e2 one
  | 3 => exact part_one e3 oneS
  | 4 => exact hd 0 (by omega)
  | 5 => exact hd 1 (by omega)
  | 6 => exact hd 2 (by omega)
  | 7 => exact hd 3 (by omega)
  | 8 => exact hd 4 (by omega)
  | 9 => exact hd 5 (by omega)
  | 10 => exact hd 6 (by omega)
  | 11 => exact hd 7 (by omega)
  | 12 => exact hd 8 (by omega)
  | 13 => exact part_one e5 oneL
  | i + 14 => rw [List.getElem?_eq_none (by omega), List.getElem?_eq_none (by show 14 ≤ i + 14; omega)]
end

/-- A call that came in, at its place. -/
def ActAt (w : World) (A : Option Addr) (i : Nat) (x : Ac) : Prop :=
  ∃ (b off : Nat) (A1 : Option Addr) (c1 : Nat) (A2 : Option Addr) (c2 : Nat), A = some ⟨b, off, none⟩ ∧ b < w.heap.size ∧ (∀ f, f < 14 → w.cell? ⟨b, off + (i * 14 + f), none⟩ = (actCells x (.slice A1 x.n.kids.length c1) (.slice A2 x.l.length c2))[f]?) ∧ ListIn w A1 c1 x.n.kids ∧ ActIn w x A2 c2
def Acts (w : World) (A : Option Addr) (xs : List Ac) : Prop := ∀ i (h : i < xs.length), ActAt w A i xs[i]

theorem Acts.below {w w' : World} {A : Option Addr} {xs : List Ac} (h : Acts w A xs) (hb : Below w.heap.size w w') : Acts w' A xs := fun i hi => by
  obtain ⟨b, off, A1, c1, A2, c2, e, hB, hc, hL, hA⟩ := h i hi
  exact ⟨b, off, A1, c1, A2, c2, e, Nat.lt_of_lt_of_le hB hb.size, fun f hf => (hb.cell (p := ⟨b, off + (i * 14 + f), none⟩) hB).trans (hc f hf), hL.below hb, hA.below hb⟩

/-- Out of the row's reading. -/
theorem acts_in {H : Type} {enc : TypeId × Value → H} {W : World} {sp : Nat → Bool} {held : Bool} {fuel : Nat} {A : Option Addr} {n cap : Nat} {y : DataW H × List MemPlace}
    (h : DataW.trod enc Try.prog W 0 sp held fuel 31 [.slice A n cap] = some y) : ∃ xs : List Ac, xs.length = n ∧ Acts W A xs ∧ n ≤ cap ∧ n ≤ maxLen := by
  have c14 : Try.prog.cellsOf 54 = 14 := by kernel_rfl
  rcases DataW.trod_slice Try.underlying31 h with ⟨hv, _⟩ | ⟨a, n', cap', elems, rest, m, _, hv, _, _, hl, hm, hlen, hel, _, _⟩
  · obtain ⟨rfl, rfl, rfl⟩ : A = none ∧ n = 0 ∧ cap = 0 := by simpa using hv
    exact ⟨[], rfl, fun i hi => absurd hi (Nat.not_lt_zero i), Nat.le_refl 0, Nat.zero_le _⟩
  · obtain ⟨rfl, rfl, rfl⟩ : A = some a ∧ n = n' ∧ cap = cap' := by simpa using hv
    have each : ∀ i, i < n → ∃ x, ActAt W (some a) i x := fun i hi => by
      have hb := hel i hi
      rw [List.getElem?_eq_getElem (by omega), c14, Option.bind_eq_some_iff] at hb
      obtain ⟨cs, hcs, ht⟩ := hb
      obtain ⟨x, A1, c1, A2, c2, rfl, hL, hA⟩ := act_in ht
      obtain ⟨_, _, hc⟩ := World.cells?_some hcs
      have h0 := hc 0 (by omega)
      have hz : ∃ v, W.cell? ((a.add (i * 14)).add 0) = some v := ⟨_, h0⟩
      obtain ⟨b, off, spot⟩ := a
      have hs : spot = none := by
        have hb0 := hel 0 (by omega)
        rw [List.getElem?_eq_getElem (by omega), c14, Option.bind_eq_some_iff] at hb0
        obtain ⟨cs0, hcs0, _⟩ := hb0
        obtain ⟨_, hl0, hc0⟩ := World.cells?_some hcs0
        have h1 := hc0 0 (by omega)
        rw [List.getElem?_eq_getElem (by omega)] at h1
        simpa [Addr.add] using World.cell?_spot h1
      subst hs
      have hc' : ∀ f, f < 14 → W.cell? ⟨b, off + (i * 14 + f), none⟩ = (actCells x (.slice A1 x.n.kids.length c1) (.slice A2 x.l.length c2))[f]? := fun f hf => by
        have := hc f hf
        rw [Addr.add_lit, Addr.add_lit] at this
        rw [← this, Nat.add_assoc]
      exact ⟨x, b, off, A1, c1, A2, c2, rfl, cell_in (hc' 0 (by omega)), hc', hL, hA⟩
    refine ⟨(List.range n).attach.map fun i => (each i.1 (List.mem_range.1 i.2)).choose, by simp, fun i hi => ?_, hl, Nat.le_trans hl hm⟩
    have hi' : i < n := by simpa using hi
    have := (each i hi').choose_spec
    simpa using this
end Go.Proofs.Ytphpbeapibohiaa

namespace Go.Proofs.Ytphpbeapibohiaa
open Go Go.RowKit

/-- A list of numbers of the call's own, its block from base on; what lies behind its end may be written over only where nobody else can see it. -/
def Pile (base : Nat) (w : World) (v : Value) (xs : List Int) : Prop :=
  (v = .slice none 0 0 ∧ xs = []) ∨
  ∃ g cap cur, v = .slice (some ⟨g, 0, none⟩) xs.length cap ∧ base ≤ g ∧ Has w g (.cells cur 3 (0, 0)) ∧ xs.length ≤ cap ∧ cap ≤ maxLen ∧ (cur.size = cap ∨ cap = xs.length) ∧ cur.toList.take xs.length = xs.map (Value.int .i64)

section
variable {base base' : Nat} {w w' : World} {v : Value} {xs : List Int} {F : Nat → Prop}
theorem Pile.nil (base : Nat) (w : World) : Pile base w (.slice none 0 0) [] := .inl ⟨rfl, rfl⟩
theorem Pile.lt (h : Pile base w v xs) : ∀ g, v.ownBlock = some g → base ≤ g ∧ g < w.heap.size := by
  intro k hk
  rcases h with ⟨rfl, _⟩ | ⟨g, cap, cur, rfl, hb, hg, _⟩
  · cases hk
  · obtain rfl : g = k := by simpa [Value.ownBlock] using hk
    exact ⟨hb, hg.inside⟩
theorem Pile.kept (h : Pile base w v xs) (k : Keeps F w w') (hF : ∀ g, v.ownBlock = some g → ¬ F g) : Pile base w' v xs := by
  rcases h with h | ⟨g, cap, cur, rfl, hb, hg, rest⟩
  · exact .inl h
  · exact .inr ⟨g, cap, cur, rfl, hb, hg.kept k (hF g rfl), rest⟩
theorem Pile.below (h : Pile base w v xs) (k : Below w.heap.size w w') : Pile base w' v xs :=
  h.kept (Keeps.of_below (F := fun i => w.heap.size ≤ i) k fun _ _ h => h) fun g hg => Nat.not_le.2 (h.lt g hg).2
theorem Pile.from_ (h : Pile base w v xs) (hb : base' ≤ base) : Pile base' w v xs := by
  rcases h with h | ⟨g, cap, cur, rfl, h1, rest⟩
  · exact .inl h
  · exact .inr ⟨g, cap, cur, rfl, Nat.le_trans hb h1, rest⟩
theorem Pile.since (h : Pile base w v xs) (hb : ∀ g, v.ownBlock = some g → base' ≤ g) : Pile base' w v xs := by
  rcases h with h | ⟨g, cap, cur, rfl, h1, rest⟩
  · exact .inl h
  · exact .inr ⟨g, cap, cur, rfl, hb g rfl, rest⟩
theorem Pile.alloc (h : Pile base w v xs) (o : Obj) : Pile base (w.alloc o) v xs := h.below ((Below.refl _ w).alloc (Nat.le_refl _) o)
theorem Pile.drew (h : Pile base w v xs) : Pile base w.drew v xs := h
theorem Pile.drewN (h : Pile base w v xs) (n : Nat) : Pile base (w.drewN n) v xs := h
/-- Its shape, and that it may be read. -/
theorem Pile.form (h : Pile base w v xs) : ∃ A c, v = .slice A xs.length c ∧ ListIn w A c xs := by
  rcases h with ⟨rfl, rfl⟩ | ⟨g, cap, cur, rfl, hb, hg, hl, hm, hc, ht⟩
  · exact ⟨none, 0, rfl, Nat.le_refl _, fun _ => rfl, fun i hi => absurd hi (Nat.not_lt_zero i)⟩
  · refine ⟨_, cap, rfl, hl, (fun e => by cases e), fun i hi => ⟨g, 0, rfl, hg.inside, ?_⟩⟩
    have e := congrArg (fun z => z[i]?) ht
    simp only [List.getElem?_take, if_pos hi, List.getElem?_map, List.getElem?_eq_getElem hi] at e
    rw [Nat.zero_add, hg.cell i, ← Array.getElem?_toList, e]
    rfl
theorem Pile.of_kids {G : Nat → Prop} (h : Kids G w v xs) (hb : ∀ g, G g → g < w.heap.size → base ≤ g) : Pile base w v xs := by
  rcases h.1.2 with ⟨hv, h0⟩ | ⟨g, cap, cur, hv, _, hg, h1, h2, h3, h4⟩
  · exact .inl ⟨hv, List.length_eq_zero_iff.1 h0⟩
  · exact .inr ⟨g, cap, cur, hv, hb g (h.2 g (by rw [hv]; rfl)) (Has.inside hg), hg, h1, h2, .inl (by omega), by rw [Nat.mul_one] at h4; exact h4⟩
/-- A literal. -/
theorem Pile.lit (w : World) (xs : List Int) (n : Nat) (hn : n = xs.length) (hm : n ≤ maxLen) (hb : base ≤ w.heap.size) : Pile base (w.alloc (.cells (xs.map (Value.int .i64)).toArray 3)) (.slice (some ⟨w.heap.size, 0, none⟩) n n) xs := by
  subst hn
  refine .inr ⟨w.heap.size, xs.length, _, rfl, hb, Has.fresh _ _, Nat.le_refl _, hm, .inr rfl, ?_⟩
  simp only
  rw [List.take_of_length_le (by simp)]
/-- The last one is cut off. -/
theorem Pile.clip {A : Option Addr} {n c : Nat} {y : Int} (h : Pile base w (.slice A (n + 1) c) (xs ++ [y])) (hn : n = xs.length) : ∃ g, A = some ⟨g, 0, none⟩ ∧ Pile base w (.slice A n n) xs := by
  subst hn
  rcases h with ⟨hv, _⟩ | ⟨g, cap, cur, hv, hb, hg, hl, hm, hc, ht⟩
  · cases hv
  · obtain ⟨rfl, -, rfl⟩ : A = some ⟨g, 0, none⟩ ∧ xs.length + 1 = (xs ++ [y]).length ∧ c = cap := by injection hv with e1 e2 e3; exact ⟨e1, e2, e3⟩
    refine ⟨g, rfl, .inr ⟨g, xs.length, cur, rfl, hb, hg, Nat.le_refl _, ?_, .inr rfl, ?_⟩⟩
    · rw [List.length_append] at hl
      omega
    · have e := congrArg (List.take xs.length) ht
      rw [List.take_take, List.length_append, List.map_append, List.take_append_of_le_length (by simp), Nat.min_eq_left (by omega)] at e
      have e2 : List.take xs.length (xs.map (Value.int .i64)) = xs.map (Value.int .i64) := List.take_of_length_le (by simp)
      rw [e2] at e
      exact e
end

section
variable {base : Nat} {w : World} {v : Value} {xs : List Int}
/-- One number is put behind: in the old row or a new one. -/
theorem run_push (t ty : TypeId) (i : TypeInfo) (z : Value) {P : Program} (ht : P.underlying t = some (.slice 3)) (hi : P.info? 3 = some i) (hz : i.zero = some z) (hsize : i.size = 1) (hby : i.bytes = 8) (hzs : z.cells.size = 1)
    (hP : Pile base w v xs) {b c : Nat} {y : Int} {fr : Nat × Nat} (hb : Has w b (.cells #[.int .i64 y] 3 fr)) (hl : xs.length ≤ 1000000) (hbase : base ≤ w.heap.size) :
    ∃ g cap w', (Builtin.append_ #[t, t] ty #[v, .slice (some ⟨b, 0, none⟩) 1 c]).run P w = .ok (.slice (some ⟨g, 0, none⟩) (xs.length + 1) cap) w' ∧
      Pile base w' (.slice (some ⟨g, 0, none⟩) (xs.length + 1) cap) (xs ++ [y]) ∧ Keeps (fun i => v.ownBlock = some i) w w' ∧ (v.ownBlock = some g ∨ w.heap.size ≤ g) ∧ g < w'.heap.size := by
  have hnews : ∀ j u, [Value.int .i64 y][j]? = some u → w.cell? ((⟨b, 0, none⟩ : Addr).add j) = some u := World.news_of_block hb
  have h1 : ∀ u ∈ [Value.int .i64 y], u.oneCell' = true := fun u hu => by obtain rfl := List.mem_singleton.1 hu; rfl
  have owned : ∀ {vo : Value}, w.ownsRow base 3 1 vo xs.length (xs.map (Value.int .i64)) → ∃ g cap w', (Builtin.append_ #[t, t] ty #[vo, .slice (some ⟨b, 0, none⟩) 1 c]).run P w = .ok (.slice (some ⟨g, 0, none⟩) (xs.length + 1) cap) w' ∧
      Pile base w' (.slice (some ⟨g, 0, none⟩) (xs.length + 1) cap) (xs ++ [y]) ∧ Keeps (fun i => vo.ownBlock = some i) w w' ∧ (vo.ownBlock = some g ∨ w.heap.size ≤ g) ∧ g < w'.heap.size := by
    intro vo hown
    obtain ⟨g, cap, w', hr, h2, h3, h4, h5⟩ := run_append_lies (P := P) w t ty base 3 i z 1 8 ht hi hz hsize hby hzs (by decide) vo xs.length (xs.map (Value.int .i64)) hown ⟨b, 0, none⟩ 1 c [.int .i64 y] rfl hnews h1 (by decide) (by unfold maxLen; omega) (by omega) hbase _ rfl
    refine ⟨g, cap, w', hr, ?_, Keeps.of_grown h3, h4.imp id fun e => by omega, h5⟩
    rcases h2.2 with ⟨hv, _⟩ | ⟨g', cap', cur, hv, hb', hg, q1, q2, q3, q4⟩
    · cases hv
    · obtain ⟨rfl, rfl⟩ : g = g' ∧ cap = cap' := by injection hv with e1 _ e3; exact ⟨by simpa using e1, e3⟩
      refine .inr ⟨g, cap, cur, by simp, hb', hg, by simpa using q1, q2, .inl (by omega), ?_⟩
      rw [Nat.mul_one] at q4
      simpa using q4
  rcases hP with ⟨rfl, rfl⟩ | ⟨g, cap, cur, rfl, hb', hg, hlc, hm, hc, htk⟩
  · exact owned (World.ownsRow_nil w base 3 1)
  · by_cases hfull : cap = xs.length
    · subst hfull
      have hle : xs.length ≤ cur.size := by
        have := congrArg List.length htk
        rw [List.length_take, List.length_map] at this
        have h2 : cur.toList.length = cur.size := Array.length_toList
        omega
      have holds : ∀ j u, (xs.map (Value.int .i64))[j]? = some u → w.cell? ((⟨g, 0, none⟩ : Addr).add j) = some u := by
        intro j u hu
        have hj : j < xs.length := by
          have := (List.getElem?_eq_some_iff.1 hu).1
          simpa using this
        rw [Addr.add_lit, Nat.zero_add, hg.cell j]
        rw [← htk, List.getElem?_take, if_pos hj, Array.getElem?_toList] at hu
        exact hu
      have hr := run_append_grow (P := P) w t ty 3 i z ht hi hz ⟨g, 0, none⟩ xs.length xs.length (xs.map (Value.int .i64)) (by rw [hsize]; simp) holds ⟨b, 0, none⟩ 1 c [.int .i64 y] (by rw [hsize]; rfl) hnews (by omega) (by omega) (growslice_fits (by omega) (by rw [hby]; omega))
      have hge := grownCap_ge w (xs.length + 1) xs.length 3
      refine ⟨w.heap.size, grownCap w (xs.length + 1) xs.length 3, _, hr, .inr ⟨w.heap.size, grownCap w (xs.length + 1) xs.length 3, _, by simp, hbase, Has.fresh w.drew _, by simpa using hge, grownCap_le_maxLen w _ _ _ (by unfold maxLen; omega), .inl ?_, ?_⟩, ⟨⟨rfl, rfl, rfl⟩, by simp, fun k hk _ => Below.heap_alloc w.drew _ k hk⟩, .inr (Nat.le_refl _), by simp⟩
      · simp only [Array.size_append, List.size_toArray, size_zeroCells, hzs, List.length_map, List.length_cons, List.length_nil]
        omega
      · simp only [Array.toList_append, List.map_append, List.map_cons, List.map_nil, List.length_append, List.length_cons, List.length_nil]
        rw [List.take_append_of_le_length (by simp), List.take_of_length_le (by simp)]
    · have hcs : cur.size = cap := hc.resolve_right hfull
      exact owned ⟨by simp, .inr ⟨g, cap, cur, rfl, hb', hg, hlc, hm, by omega, by rw [Nat.mul_one]; exact htk⟩⟩
/-- At a plain region. -/
theorem wpList_push {ops : Array Oper} {rest : List Oper} {o : Oper} {a : Act} {Q : Exit → Act → World → Prop} (hgd : o.guard = none) (s x : Operand)
    (ho : o.op = .call { callee := .builtin .append, args := #[s, x], argTypes := #[24, 24] }) (hs : a.eval s = v) (hP : Pile base w v xs) {b c : Nat} {y : Int} {fr : Nat × Nat} (hx : a.eval x = .slice (some ⟨b, 0, none⟩) 1 c)
    (hb : Has w b (.cells #[.int .i64 y] 3 fr)) (hl : xs.length ≤ 1000000) (hbase : base ≤ w.heap.size)
    (h : ∀ g cap w', Pile base w' (.slice (some ⟨g, 0, none⟩) (xs.length + 1) cap) (xs ++ [y]) → Keeps (fun i => v.ownBlock = some i) w w' → (v.ownBlock = some g ∨ w.heap.size ≤ g) → g < w'.heap.size → wpList Try.prog ops Q rest (a.put o.dst (.slice (some ⟨g, 0, none⟩) (xs.length + 1) cap)) w') : wpList Try.prog ops Q (o :: rest) a w := by
  obtain ⟨i0, hi, hz0, hz1, hz2⟩ := info_parts Try.infoInt
  obtain ⟨g, cap, w', hr, h2, h3, h4, h5⟩ := run_push (c := c) 24 o.type i0 _ Try.underlying24 hi hz0 hz1 hz2 rfl hP hb hl hbase
  refine wpList_plain hgd fun _ hK => ?_
  unfold Oper.wp execOp
  simp only [ho, resolve, invoke, builtin, Sem.run_bind, Sem.run_pure, Result.andThen_ok, List.map_toArray, List.map_cons, List.map_nil, hs, hx, hr]
  exact hK _ _ (h g cap w' h2 h3 h4 h5)
end
end Go.Proofs.Ytphpbeapibohiaa

namespace Go.Proofs.Ytphpbeapibohiaa
open Go Go.RowKit

/-- The place of a number; -1: it isn't there. -/
def idxL (xs : List Int) (x : Int) : Int := if x ∈ xs then (xs.idxOf x : Int) else -1
theorem idxL_at {xs : List Int} {x : Int} {k : Nat} (hk : k < xs.length) (hx : xs[k] = x) (hno : x ∉ xs.take k) : idxL xs x = (k : Int) := by
  have hm : x ∈ xs := hx ▸ List.getElem_mem hk
  unfold idxL
  rw [if_pos hm]
  have e : xs = xs.take k ++ x :: xs.drop (k + 1) := by
    rw [← hx, List.getElem_cons_drop, List.take_append_drop]
  have : xs.idxOf x = k := by
    conv => lhs; rw [e]
    rw [List.idxOf_append, if_neg hno, List.idxOf_cons_self]
    simp
    omega
  rw [this]
theorem idxL_no {xs : List Int} {x : Int} (h : x ∉ xs) : idxL xs x = -1 := if_neg h
theorem not_take {xs : List Int} {x : Int} {k : Nat} (h : x ∉ xs.take k) (hk : k < xs.length) (hx : xs[k] ≠ x) : x ∉ xs.take (k + 1) := by
  rw [List.take_add_one, List.getElem?_eq_getElem hk]
  intro hm
  rcases List.mem_append.1 hm with h' | h'
  · exact h h'
  · have e : x = xs[k] := by simpa using h'
    exact hx e.symm
theorem idxL_nonneg {xs : List Int} {x : Int} : decide (0 ≤ idxL xs x) = hasB xs x := by
  unfold idxL hasB
  by_cases h : x ∈ xs
  · rw [if_pos h, decide_eq_true h]
    exact decide_eq_true (by omega)
  · rw [if_neg h, decide_eq_false h]
    rfl

set_option maxHeartbeats 1000000 in
theorem index_any (xs : List Int) (A : Option Addr) (n c : Nat) (x : Int) (w : World) {B : Nat} (hn : n = xs.length) (hl : n ≤ 1000000) (h : Nums w B A .i64 xs) :
    Calls Try.prog 70 #[.slice A n c, .int .i64 x] w fun e w' => e = .returned (.int .i64 (idxL xs x)) ∧ w = w' := by
  have Hn := Lib.hid hn
  have H := Lib.hid h
  clear hn h
  go_enter Try.func70, Try.ntmps70
  go_wp2
  go_loop [8] (fun i => ∃ k : Nat, i = .int .i64 k ∧ k ≤ n ∧ x ∉ xs.take k) (fun i => n - (intOf i).toNat)
  case atStart => exact ⟨0, rfl, Nat.zero_le _, by simp⟩
  case round =>
    obtain ⟨k, rfl, hk, hc⟩ := hrel
    have Hc := Lib.hid hc
    clear hc
    by_cases hlt : (k : Int) < n
    · have hkl : k < xs.length := by rw [← Hn.out]; omega
      obtain ⟨b, off, rfl, hb, hcell⟩ := H.out k hkl
      obtain ⟨y, hy⟩ : ∃ y, y = xs[k] := ⟨_, rfl⟩
      rw [← hy] at hcell
      have Hy := Lib.hid hy
      clear hy hb
      by_cases hxy : y = x
      · have e1 : idxL xs x = (k : Int) := idxL_at hkl (by rw [← Hy.out]; exact hxy) Hc.out
        have E1 := Lib.hid e1
        clear e1
        subst hxy
        go_wp2
        go_ret
        rw [E1.out]
        exact ⟨rfl, rfl⟩
      · have hxy' : (x == y) = false := by simpa using fun e => hxy e.symm
        have e2 := not_take Hc.out hkl (by rw [← Hy.out]; exact hxy)
        have E2 := Lib.hid e2
        clear e2
        go_wp2
        go_round
        case rel => exact ⟨k + 1, by go_num, by omega, E2.out⟩
        case measure => simp [intOf]; omega
    · have e1 : idxL xs x = -1 := by
        have := Hc.out
        rw [List.take_of_length_le (by rw [← Hn.out]; omega)] at this
        exact idxL_no this
      have E1 := Lib.hid e1
      clear e1
      go_wp2
      go_ret
      rw [E1.out]
      exact ⟨rfl, rfl⟩
theorem contains_any (xs : List Int) (A : Option Addr) (n c : Nat) (x : Int) (w : World) {B : Nat} (hn : n = xs.length) (hl : n ≤ 1000000) (h : Nums w B A .i64 xs) :
    Calls Try.prog 66 #[.slice A n c, .int .i64 x] w fun e w' => e = .returned (.bool (hasB xs x)) ∧ w = w' := by
  have Hn := Lib.hid hn
  have H := Lib.hid h
  have E := Lib.hid (@idxL_nonneg xs x)
  clear hn h
  go_enter Try.func66, Try.ntmps66
  go_wp2_with fail
  refine (index_any xs A n c x w Hn.out hl H.out).mono ?_
  rintro e w1 ⟨rfl, rfl⟩
  go_wp2
  go_ret
  rw [← E.out]
  exact ⟨rfl, rfl⟩
end Go.Proofs.Ytphpbeapibohiaa

namespace Go.Proofs.Ytphpbeapibohiaa
open Go Go.RowKit

/-- Few calls with short lists. -/
def Small (xs : List Ac) : Prop := xs.length ≤ 300 ∧ ∀ x ∈ xs, x.l.length ≤ 200

/-- A truth; if it is no, they are few. -/
def SaysFew (xs : List Ac) (e : Ending) : Prop := ∃ g, e = .returned (.bool g) ∧ (g = false → Small xs)
set_option maxHeartbeats 2000000 in
theorem great_any (A : Option Addr) (n c : Nat) (xs : List Ac) (w : World) (hn : xs.length = n) (hm : n ≤ maxLen) (h : Acts w A xs) :
    Calls Try.prog 14 #[.slice A n c] w fun e w' => SaysFew xs e ∧ w = w' := by
  have H := Lib.hid h
  have Hn := Lib.hid hn
  clear h hn
  unfold maxLen at hm
  go_enter Try.func14, Try.ntmps14
  go_wp2
  go_loop [3] (fun i => ∃ k : Nat, i = .int .i64 k ∧ k ≤ n ∧ ∀ j (hj : j < xs.length), j < k → xs[j].l.length ≤ 200) (fun i => n - (intOf i).toNat)
  case atStart => exact ⟨0, rfl, Nat.zero_le _, fun j _ hj => absurd hj (Nat.not_lt_zero j)⟩
  case round =>
    obtain ⟨k, rfl, hk, hall⟩ := hrel
    have Hall := Lib.hid hall
    clear hall
    by_cases hlt : (k : Int) < n
    · have hkx : k < xs.length := by rw [Hn.out]; omega
      obtain ⟨b, off, A1, c1, A2, c2, rfl, -, hc, -, -⟩ := H.out k hkx
      have c13 : w.cell? ⟨b, off + k * 14 + 13, none⟩ = some (.slice A2 xs[k].l.length c2) := by
        rw [Nat.add_assoc]
        exact hc 13 (by omega)
      obtain ⟨m, hmm⟩ : ∃ m, m = xs[k].l.length := ⟨_, rfl⟩
      rw [← hmm] at c13
      have Hm := Lib.hid hmm
      clear hmm hc
      by_cases h2 : m ≤ 200
      · have h2' : ¬ (200 : Int) < m := by omega
        go_wp2
        go_round
        case rel =>
          refine ⟨k + 1, by go_num, by omega, fun j hj hjk => ?_⟩
          by_cases e : j = k
          · subst e
            rw [← Hm.out]
            exact h2
          · exact Hall.out j hj (by omega)
        case measure => simp [intOf]; omega
      · have h2' : (200 : Int) < m := by omega
        go_wp2
        go_ret
        exact ⟨⟨true, rfl, fun e => absurd e (by decide)⟩, rfl⟩
    · obtain ⟨g, hg⟩ : ∃ g, g = decide ((300 : Int) < n) := ⟨_, rfl⟩
      have Hg := Lib.hid hg
      clear hg
      go_wp2
      go_ret
      refine ⟨⟨g, by rw [Hg.out]; rfl, fun e => ⟨?_, fun x hx => ?_⟩⟩, rfl⟩
      · have := Hg.out
        rw [e] at this
        have := of_decide_eq_false this.symm
        have := Hn.out
        omega
      · obtain ⟨j, hj, rfl⟩ := List.mem_iff_getElem.1 hx
        exact Hall.out j hj (by have := Hn.out; omega)
end Go.Proofs.Ytphpbeapibohiaa

namespace Go.Proofs.Ytphpbeapibohiaa
open Go Go.RowKit

/-- A forest as calls make it. -/
structure Good (l : List Nd) : Prop where
  tree : Tree l
  len : l.length ≤ 128
  few : Few 200 l
theorem good_nil : Good [] := ⟨tree_nil, Nat.zero_le _, fun _ h => absurd h (by simp)⟩
theorem good_act {l : List Nd} {x : Ac} (h : Good l) (hx : x.l.length ≤ 200) : Good (actL l x) := ⟨tree_act h.tree, actL_length l x h.len, actL_kids h.few hx⟩

/-- Where a forest lies. -/
abbrev at_ (b : Nat) : Value := .pointer (some ⟨b, 0, none⟩)

/-- The promises: 'Rep S w b l': in w the forest at b holds l, in blocks that S names. -/
structure ForestOk (Rep : (Nat → Prop) → World → Nat → List Nd → Prop) : Prop where
  keep : ∀ {S F : Nat → Prop} {w w' : World} {b : Nat} {l : List Nd}, Rep S w b l → Keeps F w w' → (∀ i, S i → i < w.heap.size → ¬ F i) → Rep S w' b l
  wide : ∀ {S S' : Nat → Prop} {w : World} {b : Nat} {l : List Nd}, Rep S w b l → (∀ i, S i → i < w.heap.size → S' i) → Rep S' w b l
  new : ∀ (S : Nat → Prop) (w : World), Fut S w.heap.size → Calls Try.prog 27 #[] w fun e w' => ∃ b, e = .returned (at_ b) ∧ Rep S w' b [] ∧ Below w.heap.size w w'
  make : ∀ (S : Nat → Prop) (w : World) (b : Nat) (l : List Nd) (k pa ho sh m : Int) (sl : Bool) (na wa : ByteArray) (ks : List Int) (A1 : Option Addr) (c1 : Nat), Rep S w b l → Good l → Fut S w.heap.size → na.size ≤ 9223372036854775807 → wa.size ≤ 9223372036854775807 → ListIn w A1 c1 ks →
    Calls Try.prog 28 #[at_ b, .agg #[.int .i64 k, .int .i64 pa, .int .i64 ho, .int .i64 sh, .int .i64 m, .bool sl, .string na, .string wa, .slice A1 ks.length c1]] w fun e w' =>
      e = .returned (.tuple #[.int .i64 (mkNo l ⟨k, pa, ho, sh, m, sl, na, wa, ks⟩), .int .i64 (mkErr l.length ⟨k, pa, ho, sh, m, sl, na, wa, ks⟩)]) ∧ Rep S w' b (mkL l ⟨k, pa, ho, sh, m, sl, na, wa, ks⟩) ∧ Keeps S w w'
  put : ∀ (S : Nat → Prop) (w : World) (b : Nat) (l : List Nd) (p : Int) (ks : List Int) (A2 : Option Addr) (c2 : Nat), Rep S w b l → Good l → Fut S w.heap.size → ks.length ≤ 200 → ListIn w A2 c2 ks → (0 < ks.length → ∀ b' off s, A2 = some ⟨b', off, s⟩ → b' < w.heap.size → ¬ S b') →
    Calls Try.prog 29 #[at_ b, .int .i64 p, .slice A2 ks.length c2] w fun e w' => e = .returned (.int .i64 (putErr l p ks)) ∧ Rep S w' b (putL l p ks) ∧ Keeps S w w'
  tie : ∀ (S : Nat → Prop) (w : World) (b : Nat) (l : List Nd) (h r : Int), Rep S w b l → Good l → Fut S w.heap.size →
    Calls Try.prog 30 #[at_ b, .int .i64 h, .int .i64 r] w fun e w' => e = .returned (.int .i64 (tieErr l h r)) ∧ Rep S w' b (tieL l h r) ∧ Keeps S w w'
  name : ∀ (S : Nat → Prop) (w : World) (b : Nat) (l : List Nd) (id : Int) (s : ByteArray), Rep S w b l → Good l → Fut S w.heap.size → s.size ≤ 9223372036854775807 →
    Calls Try.prog 31 #[at_ b, .int .i64 id, .string s] w fun e w' => e = .returned (.int .i64 (nameErr l id s)) ∧ Rep S w' b (nameL l id s) ∧ Keeps S w w'
  want : ∀ (S : Nat → Prop) (w : World) (b : Nat) (l : List Nd) (id : Int) (s : ByteArray), Rep S w b l → Good l → Fut S w.heap.size → s.size ≤ 9223372036854775807 →
    Calls Try.prog 32 #[at_ b, .int .i64 id, .string s] w fun e w' => e = .returned (.int .i64 (wantErr l id s)) ∧ Rep S w' b (wantL l id s) ∧ Keeps S w w'

section
variable {Rep : (Nat → Prop) → World → Nat → List Nd → Prop}
theorem ForestOk.below (O : ForestOk Rep) {S : Nat → Prop} {w w' : World} {b : Nat} {l : List Nd} (h : Rep S w b l) (hb : Below w.heap.size w w') : Rep S w' b l :=
  O.keep h (Keeps.of_below (F := fun i => w.heap.size ≤ i) hb fun _ _ h => h) fun _ _ hi => Nat.not_le.2 hi

/-- An append of a whole list, as one operation. -/
theorem wp_append_gives {P : Program} {w : World} {o : Oper} {a : Act} {K : Act → World → Prop} {Q : Exit → Act → World → Prop} (s x : Operand) (t : TypeId)
    (ho : o.op = .call { callee := .builtin .append, args := #[s, x], argTypes := #[t, t] })
    (base : Nat) (e : TypeId) (i : TypeInfo) (z : Value) (size bytes : Nat) (ht : P.underlying t = some (.slice e)) (hi : P.info? e = some i) (hz : i.zero = some z)
    (hsize : i.size = size) (hby : i.bytes = bytes) (hzs : z.cells.size = size) (hsz : 0 < size)
    (v : Value) (n : Nat) (xs : List Value) (hs : a.eval s = v) (hown : w.ownsRow base e size v n xs)
    (X : Value) (m : Nat) (us : List Value) (hx : a.eval x = X) (hG : Gives w size X m us) (h1 : ∀ u ∈ us, u.oneCell' = true)
    (h63 : n + m ≤ maxLen) (hbytes : (n + m) * bytes ≤ 140737488355328) (hbase : base ≤ w.heap.size)
    (h : ∀ v' w', w'.ownsRow base e size v' (n + m) (xs ++ us) → w.grownBy w' v.ownBlock → K (a.put o.dst v') w') : o.wp P a w K Q := by
  rcases hG with ⟨rfl, rfl, rfl⟩ | ⟨ad, c, rfl, hl, hc⟩
  · have hrun := run_append_owned_none (P := P) (w := w) base t o.type e i size ht hi v n xs hown
    have hk := h v w (by rw [List.append_nil]; exact hown) ⟨rfl, rfl, rfl, Nat.le_refl _, fun _ _ _ => rfl⟩
    unfold Oper.wp
    simp [execOp, ho, resolve, invoke, builtin, hs, hx, hrun, Result.andThen]
    exact hk
  · exact wp_append_own w s x t ho base e i z size bytes ht hi hz hsize hby hzs hsz v n xs hs hown ad m c us hx hl hc h1 h63 hbytes hbase fun v' w' h2 h3 _ => h v' w' h2 h3

/-- A number and an error's number; the forest is l' then. -/
def Did (Rep : (Nat → Prop) → World → Nat → List Nd → Prop) (S : Nat → Prop) (w : World) (b : Nat) (l' : List Nd) (no err : Int) (e : Ending) (w' : World) : Prop :=
  e = .returned (.tuple #[.int .i64 no, .int .i64 err]) ∧ Rep S w' b l' ∧ Keeps S w w'

end
end Go.Proofs.Ytphpbeapibohiaa

namespace Go.Proofs.Ytphpbeapibohiaa
open Go Go.RowKit

theorem good_take {xs : List Ac} (h : Small xs) : ∀ j, Good (forest (xs.take j))
  | 0 => good_nil
  | j + 1 => by
    rcases Nat.lt_or_ge j xs.length with hj | hj
    · rw [List.take_add_one, List.getElem?_eq_getElem hj]
      show Good (forest (xs.take j ++ [xs[j]]))
      rw [forest_snoc]
      exact good_act (good_take h j) (h.2 _ (List.getElem_mem hj))
    · rw [List.take_of_length_le (by omega), ← List.take_of_length_le hj]
      exact good_take h j
theorem good_forest {xs : List Ac} (h : Small xs) : Good (forest xs) := by
  have := good_take h xs.length
  rwa [List.take_length] at this

end Go.Proofs.Ytphpbeapibohiaa

namespace Go.Proofs.Ytphpbeapibohiaa
open Go Go.RowKit

/-- The same numbers? -/
def sameInts (xs ys : List Int) : Bool := decide (xs = ys)
set_option maxHeartbeats 1000000 in
theorem ints_any (xs ys : List Int) (A1 A2 : Option Addr) (n1 n2 c1 c2 : Nat) (w : World) (h1 : n1 = xs.length) (h2 : n2 = ys.length) (hl : n1 ≤ 1000000) (hx : Nums w w.heap.size A1 .i64 xs) (hy : Nums w w.heap.size A2 .i64 ys) :
    Calls Try.prog 11 #[.slice A1 n1 c1, .slice A2 n2 c2] w fun e w' => e = .returned (.bool (sameInts xs ys)) ∧ Below w.heap.size w w' := by
  have H1 := Lib.hid h1
  have H2 := Lib.hid h2
  have Hx := Lib.hid hx
  have Hy := Lib.hid hy
  clear h1 h2 hx hy
  by_cases hn : n1 = n2
  · subst hn
    go_enter Try.func11, Try.ntmps11
    go_wp2_with fail
    go_loopw [5] (fun i wr => ∃ k : Nat, i = .int .i64 k ∧ k ≤ n1 ∧ xs.take k = ys.take k ∧ Below w.heap.size w wr) (fun i _ => n1 - (intOf i).toNat)
    case atStart => exact ⟨0, rfl, Nat.zero_le _, by simp, Below.refl _ _⟩
    case round =>
      obtain ⟨k, rfl, hk, ht, hbr⟩ := hrel
      have Ht := Lib.hid ht
      clear ht
      by_cases hlt : (k : Int) < n1
      · have hkx : k < xs.length := by rw [← H1.out]; omega
        have hky : k < ys.length := by rw [← H2.out]; omega
        obtain ⟨b, off, rfl, hb, hc⟩ := Hx.out.below hbr k hkx
        obtain ⟨b', off', rfl, hb', hc'⟩ := Hy.out.below hbr k hky
        obtain ⟨x, hxe⟩ : ∃ x, x = xs[k] := ⟨_, rfl⟩
        obtain ⟨y, hye⟩ : ∃ y, y = ys[k] := ⟨_, rfl⟩
        rw [← hxe] at hc
        rw [← hye] at hc'
        have Hxe := Lib.hid hxe
        have Hye := Lib.hid hye
        clear hxe hye hb hb'
        by_cases hxy : x = y
        · have hn2 : xs.take (k + 1) = ys.take (k + 1) := by
            rw [List.take_add_one, List.take_add_one, Ht.out, List.getElem?_eq_getElem hkx, List.getElem?_eq_getElem hky, ← Hxe.out, ← Hye.out, hxy]
          have Hn2 := Lib.hid hn2
          clear hn2
          subst hxy
          go_wp2_with fail
          go_quiet (fail)
          go_wp2
          go_roundw
          case rel => exact ⟨k + 1, by go_num, by omega, Hn2.out, below_draws hbr _⟩
          case measure => simp [intOf]; omega
        · have hxy' : (x != y) = true := by simpa using hxy
          have hxy2 : (x == y) = false := by simpa using hxy
          have e1 : sameInts xs ys = false := by
            rw [sameInts, decide_eq_false_iff_not]
            intro e
            apply hxy
            rw [Hxe.out, Hye.out]
            simp only [e]
          have E1 := Lib.hid e1
          clear e1
          go_wp2_with fail
          go_quiet (fail)
          go_wp2
          go_ret
          rw [E1.out]
          exact ⟨rfl, below_draws hbr _⟩
      · have e1 : sameInts xs ys = true := by
          rw [sameInts, decide_eq_true_iff]
          have := Ht.out
          rw [List.take_of_length_le (by rw [← H1.out]; omega), List.take_of_length_le (by rw [← H2.out]; omega)] at this
          exact this
        have E1 := Lib.hid e1
        clear e1
        go_wp2
        go_ret
        rw [E1.out]
        exact ⟨rfl, hbr⟩
  · have hn' : ((n1 : Int) != (n2 : Int)) = true := by rw [bne_iff_ne]; omega
    have hn2 : ((n1 : Int) == (n2 : Int)) = false := by rw [beq_eq_false_iff_ne]; omega
    have e1 : sameInts xs ys = false := by
      rw [sameInts, decide_eq_false_iff_not]
      intro e
      apply hn
      rw [H1.out, H2.out, e]
    have E1 := Lib.hid e1
    clear e1
    go_enter Try.func11, Try.ntmps11
    go_wp2
    go_ret
    rw [E1.out]
    exact ⟨rfl, Below.refl _ _⟩

end Go.Proofs.Ytphpbeapibohiaa

namespace Go.Proofs.Ytphpbeapibohiaa
open Go Go.RowKit

/-- The same node? -/
def oneB (d e : Nd) : Bool := (d.kind == e.kind) && (d.parent == e.parent) && (d.host == e.host) && (d.shadow == e.shadow) && (d.mode == e.mode) && (d.slot == e.slot) && (d.name.toList == e.name.toList) && (d.want.toList == e.want.toList) && sameInts d.kids e.kids

end Go.Proofs.Ytphpbeapibohiaa

namespace Go.Proofs.Ytphpbeapibohiaa
open Go Go.RowKit
variable {G : Nat → Prop}

/-- The same nodes? -/
def sameL (a b : List Nd) : Bool := decide (a.length = b.length ∧ ∀ i, i < a.length → oneB (a.getD i Nd.zero) (b.getD i Nd.zero) = true)
theorem getD_at {l : List Nd} {i : Nat} (h : i < l.length) : l.getD i Nd.zero = l[i] := by
  rw [List.getD_eq_getElem?_getD, List.getElem?_eq_getElem h]
  rfl

end Go.Proofs.Ytphpbeapibohiaa

namespace Go.Proofs.Ytphpbeapibohiaa
open Go Go.RowKit

/-- Node and Len. -/
structure ForestMore (Rep : (Nat → Prop) → World → Nat → List Nd → Prop) : Prop where
  node : ∀ (S : Nat → Prop) (w : World) (b : Nat) (l : List Nd) (id : Int), Rep S w b l → Good l →
    Calls Try.prog 33 #[at_ b, .int .i64 id] w fun e w' => ∃ (d : Nd) (A : Option Addr) (c : Nat), e = .returned (.tuple #[.agg #[.int .i64 d.kind, .int .i64 d.parent, .int .i64 d.host, .int .i64 d.shadow, .int .i64 d.mode, .bool d.slot, .string d.name, .string d.want, .slice A d.kids.length c], .bool (thereB l id)]) ∧
      d = (if thereB l id = true then nd l id else Nd.zero) ∧ Kids (fun i => w.heap.size ≤ i) w' (.slice A d.kids.length c) d.kids ∧ Below w.heap.size w w'
  len : ∀ (S : Nat → Prop) (w : World) (b : Nat) (l : List Nd), Rep S w b l → Good l →
    Calls Try.prog 60 #[at_ b] w fun e w' => e = .returned (.int .i64 l.length) ∧ Below w.heap.size w w'

theorem oneB_refl (d : Nd) : oneB d d = true := by simp [oneB, sameInts]
theorem sameL_refl (l : List Nd) : sameL l l = true := by
  rw [sameL, decide_eq_true_iff]
  exact ⟨rfl, fun i _ => oneB_refl _⟩

section
variable {G : Nat → Prop} {w : World}
/-- A number is written over in a list of the call's own. -/
theorem Kids.write {A : Option Addr} {n c j : Nat} {ks : List Int} (h : Kids G w (.slice A n c) ks) (hj : j < ks.length) (y : Int) : ∃ g, A = some ⟨g, 0, none⟩ ∧ G g ∧ n = ks.length ∧ (∃ x, w.cell? ⟨g, j, none⟩ = some (.int .i64 x)) ∧ w.frozen? ⟨g, j, none⟩ = false ∧ Has w g (.cells (w.heap[g]?.elim #[] fun | .cells cs _ _ => cs | _ => #[]) 3 (0, 0)) ∧ Kids G (w.setCell ⟨g, j, none⟩ (.int .i64 y)) (.slice A n c) (ks.set j y) := by
  obtain ⟨h1, h2⟩ := h
  rcases h1.2 with ⟨_, h0⟩ | ⟨g, cap, cur, e, _, hh, _⟩
  · omega
  · injection e with e1 e2 e3
    subst e1
    subst e2
    subst e3
    refine ⟨g, rfl, h2 g rfl, rfl, ⟨ks[j], ?_⟩, h1.frozenAt j, ?_, ?_, h2⟩
    · rw [h1.cellAt j (by omega), List.getElem?_map, List.getElem?_eq_getElem hj]
      rfl
    · rw [hh]
      exact hh
    · have := (h1.stored j (.int .i64 y)).1
      rw [List.length_set, List.map_set]
      exact this
/-- .. and what it is in other lists. -/
theorem Kids.written {g j : Nat} {v : Value} {ks : List Int} (h : Kids G w v ks) (y : Int) : ∃ ks', ks'.length = ks.length ∧ Kids G (w.setCell ⟨g, j, none⟩ (.int .i64 y)) v ks' := by
  obtain ⟨h1, h2⟩ := h
  rcases h1.2 with ⟨rfl, h0⟩ | ⟨g', cap, cur, rfl, _, hh, _⟩
  · exact ⟨ks, rfl, ⟨h1.1, .inl ⟨rfl, h0⟩⟩, h2⟩
  · by_cases e : g' = g
    · subst e
      refine ⟨ks.set j y, List.length_set, ?_, h2⟩
      have := (h1.stored j (.int .i64 y)).1
      rw [List.length_set, List.map_set]
      exact this
    · refine ⟨ks, rfl, own_kept h1 (Keeps.storeAt (F := fun i => i = g) (Keeps.refl _ _) rfl j _) fun i hi e' => ?_, h2⟩
      have : g' = i := by simpa [Value.ownBlock] using hi
      exact e (this.trans e')
theorem Nodes.written {B g j c : Nat} {A : Option Addr} {l : List Nd} (h : Nodes G w B A c l) (y : Int) {cs : Array Value} (hg : Has w g (.cells cs 3 (0, 0))) : ∃ l', l'.length = l.length ∧ (∀ i, (l'.getD i Nd.zero).kids.length = (l.getD i Nd.zero).kids.length) ∧ Nodes G (w.setCell ⟨g, j, none⟩ (.int .i64 y)) B A c l' := by
  obtain ⟨rows, rfl, h2, h3, h4⟩ := h
  have each : ∀ rs : List (Nd × Value), (∀ p ∈ rs, Kids G w p.2 p.1.kids) → ∃ rs' : List (Nd × Value), rs'.length = rs.length ∧ flat rs' = flat rs ∧ (∀ p ∈ rs', Kids G (w.setCell ⟨g, j, none⟩ (.int .i64 y)) p.2 p.1.kids) ∧ ∀ i, ((rs'.map Prod.fst).getD i Nd.zero).kids.length = ((rs.map Prod.fst).getD i Nd.zero).kids.length := by
    intro rs
    induction rs with
    | nil => exact fun _ => ⟨[], rfl, rfl, fun _ h => absurd h (by simp), fun _ => rfl⟩
    | cons p r ih =>
      intro hk
      obtain ⟨r', e1, e2, e3, e4⟩ := ih fun q hq => hk q (by simp [hq])
      obtain ⟨ks', hl, hk'⟩ := (hk p (by simp)).written (g := g) (j := j) y
      refine ⟨({ p.1 with kids := ks' }, p.2) :: r', by simp [e1], by rw [flat_cons, flat_cons, e2]; rfl, fun q hq => ?_, fun i => ?_⟩
      · rcases List.mem_cons.1 hq with rfl | hq
        · exact hk'
        · exact e3 q hq
      · cases i with
        | zero => exact hl
        | succ i => simpa using e4 i
  obtain ⟨rows', e1, e2, e3, e4⟩ := each rows h3
  have hlen : (rows'.map Prod.fst).length = (rows.map Prod.fst).length := by simp [e1]
  refine ⟨rows'.map Prod.fst, hlen, e4, rows', rfl, ?_, e3, h4⟩
  rw [hlen, e2]
  refine own_kept h2 (Keeps.storeAt (F := fun i => i = g) (Keeps.refl _ _) rfl j _) fun i hi e => ?_
  subst e
  rcases h2.2 with ⟨hv, _⟩ | ⟨g', cap, cur, hv, _, hh, _⟩
  · rw [hv] at hi; cases hi
  · rw [hv] at hi
    obtain rfl : g' = i := by simpa [Value.ownBlock] using hi
    exact Has.apart hh hg (by simp) rfl
end
end Go.Proofs.Ytphpbeapibohiaa

namespace Go.Proofs.Ytphpbeapibohiaa
open Go Go.RowKit

section
variable {Rep : (Nat → Prop) → World → Nat → List Nd → Prop} {S : Nat → Prop} {w : World} {b : Nat} {l : List Nd}
/-- Node of one that is there, and of one that isn't. -/
theorem nodeYes (M : ForestMore Rep) {id : Int} (h : Rep S w b l) (hg : Good l) (ht : thereB l id = true) :
    Calls Try.prog 33 #[at_ b, .int .i64 id] w fun e w' => ∃ A1 c1, e = .returned (.tuple #[.agg #[.int .i64 (nd l id).kind, .int .i64 (nd l id).parent, .int .i64 (nd l id).host, .int .i64 (nd l id).shadow, .int .i64 (nd l id).mode, .bool (nd l id).slot, .string (nd l id).name, .string (nd l id).want, .slice A1 (nd l id).kids.length c1], .bool true]) ∧ Kids (fun i => w.heap.size ≤ i) w' (.slice A1 (nd l id).kids.length c1) (nd l id).kids ∧ Below w.heap.size w w' := by
  refine (M.node S w b l id h hg).mono ?_
  rintro e w' ⟨d, A, c, rfl, hd, hk, hb⟩
  rw [if_pos ht] at hd
  subst hd
  rw [ht]
  exact ⟨A, c, rfl, hk, hb⟩
theorem nodeNo (M : ForestMore Rep) {id : Int} (h : Rep S w b l) (hg : Good l) (ht : thereB l id = false) :
    Calls Try.prog 33 #[at_ b, .int .i64 id] w fun e w' => ∃ A1 c1, e = .returned (.tuple #[.agg #[.int .i64 0, .int .i64 0, .int .i64 0, .int .i64 0, .int .i64 0, .bool false, .string ⟨#[]⟩, .string ⟨#[]⟩, .slice A1 0 c1], .bool false]) ∧ Kids (fun i => w.heap.size ≤ i) w' (.slice A1 0 c1) [] ∧ Below w.heap.size w w' := by
  refine (M.node S w b l id h hg).mono ?_
  rintro e w' ⟨d, A, c, rfl, hd, hk, hb⟩
  rw [if_neg (by rw [ht]; decide)] at hd
  subst hd
  rw [ht]
  exact ⟨A, c, rfl, hk, hb⟩
theorem app_len {xs ys : List Int} {R : List Int} (h : xs ++ ys = R) : xs.length ≤ R.length := by rw [← h]; simp

set_option maxHeartbeats 4000000 in
set_option maxRecDepth 100000 in
theorem kinUp (O : ForestOk Rep) (M : ForestMore Rep) (id : Int) (h : Rep S w b l) (hg : Good l) :
    Calls Try.prog 55 #[at_ b, .int .i64 id] w fun e w' => ∃ v, e = .returned v ∧ Pile w.heap.size w' v (parL l id) ∧ Below w.heap.size w w' := by
  have H := Lib.hid h
  have Hg := Lib.hid hg
  have hnot : ∀ (x : Bool) (w : World), (Op.unary .not (.bool x)).run Try.prog w = .ok (.bool (!x)) w := fun _ _ => rfl
  have hRl : (parL l id).length ≤ 128 := Nat.le_trans (parL_len hg.tree id) hg.len
  obtain ⟨R, hR⟩ : ∃ R, R = parL l id := ⟨_, rfl⟩
  rw [← hR] at hRl
  rw [← hR]
  have hR0 : ([] : List Int) ++ parL l id = R := by rw [hR]; rfl
  have HR0 := Lib.hid hR0
  clear h hg hR hR0
  go_enter Try.func55, Try.ntmps55
  go_wp2_with fail
  go_loopw [1, 5] (fun a o wr => ∃ (i : Int) (xs : List Int), a = .int .i64 i ∧ xs ++ parL l i = R ∧ Pile w.heap.size wr o xs ∧ Below w.heap.size w wr) (fun a _ _ => (parL l (intOf a)).length)
  case atStart => exact ⟨id, [], rfl, HR0.out, Pile.nil _ _, Below.refl _ _⟩
  case round =>
    obtain ⟨i, xs, rfl, hxs, hP, hb⟩ := hrel
    have hRw : Rep S wr b l := O.keep H.out (Keeps.of_below (F := fun i => w.heap.size ≤ i) hb fun _ _ h => h) fun _ _ hi => Nat.not_le.2 hi
    have Hxs := Lib.hid hxs
    have hxl : xs.length ≤ 1000000 := by have := app_len hxs; omega
    clear HR0 hxs
    obtain ⟨Ao, co, rfl, -⟩ := hP.form
    cases ht : thereB l i with
    | false =>
      have Ht := Lib.hid ht
      have HP := Lib.hid hP
      clear ht hP
      go_wp2_with fail
      refine (nodeNo M hRw Hg.out Ht.out).mono ?_
      rintro e w1 ⟨A1, c1, rfl, -, hb1⟩
      have HF : Hid (Pile w.heap.size (w1.alloc (.cells #[.int .i64 0, .int .i64 0, .int .i64 0, .int .i64 0, .int .i64 0, .bool false, .string ⟨#[]⟩, .string ⟨#[]⟩, .slice A1 0 c1] 52)) (.slice Ao xs.length co) xs ∧ Below w.heap.size w (w1.alloc (.cells #[.int .i64 0, .int .i64 0, .int .i64 0, .int .i64 0, .int .i64 0, .bool false, .string ⟨#[]⟩, .string ⟨#[]⟩, .slice A1 0 c1] 52))) := Lib.hid ⟨(HP.out.below hb1).alloc _, (hb.trans (hb1.mono hb.size)).alloc (Nat.le_trans hb.size hb1.size) _⟩
      clear hb1 HP
      go_wp2
      go_ret
      refine ⟨_, rfl, ?_, HF.out.2⟩
      have := Hxs.out
      rw [parL_no Ht.out, List.append_nil] at this
      rw [← this]
      exact HF.out.1
    | true =>
      have Ht := Lib.hid ht
      have HP := Lib.hid hP
      have hfin : (xs ++ [i]) ++ parL l (nd l i).parent = R := by
        rw [List.append_assoc, List.singleton_append, ← parL_step Hg.out.tree ht]
        exact Hxs.out
      have Hfin := Lib.hid hfin
      clear ht hP hfin Hxs
      go_wp2_with fail
      refine (nodeYes M hRw Hg.out Ht.out).mono ?_
      rintro e w1 ⟨A1, c1, rfl, -, hb1⟩
      obtain ⟨d, hd⟩ : ∃ d, d = nd l i := ⟨_, rfl⟩
      rw [← hd] at Hfin
      rw [← hd]
      have hB1 : Below w.heap.size w w1 := hb.trans (hb1.mono hb.size)
      have hP1 : Pile w.heap.size w1 (.slice Ao xs.length co) xs := HP.out.below hb1
      have hown : ∀ g, (Value.slice Ao xs.length co).ownBlock = some g → w.heap.size ≤ g ∧ g < w1.heap.size := hP1.lt
      have HC : Hid (∀ w2, Keeps (fun i => (Value.slice Ao xs.length co).ownBlock = some i) ((w1.alloc (.cells #[.int .i64 d.kind, .int .i64 d.parent, .int .i64 d.host, .int .i64 d.shadow, .int .i64 d.mode, .bool d.slot, .string d.name, .string d.want, .slice A1 d.kids.length c1] 52)).alloc (.cells #[.int .i64 i] 3)) w2 → w2.cell? ⟨w1.heap.size, 1, none⟩ = some (.int .i64 d.parent)) := Lib.hid fun w2 hk2 => by
        have hh : Has ((w1.alloc (.cells #[.int .i64 d.kind, .int .i64 d.parent, .int .i64 d.host, .int .i64 d.shadow, .int .i64 d.mode, .bool d.slot, .string d.name, .string d.want, .slice A1 d.kids.length c1] 52)).alloc (.cells #[.int .i64 i] 3)) w1.heap.size (.cells #[.int .i64 d.kind, .int .i64 d.parent, .int .i64 d.host, .int .i64 d.shadow, .int .i64 d.mode, .bool d.slot, .string d.name, .string d.want, .slice A1 d.kids.length c1] 52 (0, 0)) := (Has.fresh _ _).more _
        exact (hh.kept hk2 fun e => by have := (hown _ e).2; omega).cell 1
      have HP2 : Hid (Pile w.heap.size ((w1.alloc (.cells #[.int .i64 d.kind, .int .i64 d.parent, .int .i64 d.host, .int .i64 d.shadow, .int .i64 d.mode, .bool d.slot, .string d.name, .string d.want, .slice A1 d.kids.length c1] 52)).alloc (.cells #[.int .i64 i] 3)) (.slice Ao xs.length co) xs) := Lib.hid ((hP1.alloc _).alloc _)
      have HB2 : Hid (Has ((w1.alloc (.cells #[.int .i64 d.kind, .int .i64 d.parent, .int .i64 d.host, .int .i64 d.shadow, .int .i64 d.mode, .bool d.slot, .string d.name, .string d.want, .slice A1 d.kids.length c1] 52)).alloc (.cells #[.int .i64 i] 3)) (w1.heap.size + 1) (.cells #[.int .i64 i] 3 (0, 0))) := Lib.hid (by
        have := Has.fresh (w1.alloc (.cells #[.int .i64 d.kind, .int .i64 d.parent, .int .i64 d.host, .int .i64 d.shadow, .int .i64 d.mode, .bool d.slot, .string d.name, .string d.want, .slice A1 d.kids.length c1] 52)) (.cells #[.int .i64 i] 3)
        simpa using this)
      have HS2 : Hid (w.heap.size ≤ ((w1.alloc (.cells #[.int .i64 d.kind, .int .i64 d.parent, .int .i64 d.host, .int .i64 d.shadow, .int .i64 d.mode, .bool d.slot, .string d.name, .string d.want, .slice A1 d.kids.length c1] 52)).alloc (.cells #[.int .i64 i] 3)).heap.size) := Lib.hid (by have := hB1.size; simp; omega)
      have HE : Hid (∀ w2, Keeps (fun i => (Value.slice Ao xs.length co).ownBlock = some i) ((w1.alloc (.cells #[.int .i64 d.kind, .int .i64 d.parent, .int .i64 d.host, .int .i64 d.shadow, .int .i64 d.mode, .bool d.slot, .string d.name, .string d.want, .slice A1 d.kids.length c1] 52)).alloc (.cells #[.int .i64 i] 3)) w2 → Below w.heap.size w w2) := Lib.hid fun w2 hk2 =>
        below_then ((hB1.alloc hB1.size _).alloc (by have := hB1.size; simp; omega) _) hk2 (by have := hB1.size; simp; omega) fun i hi e => by have := (hown _ e).1; omega
      have Hd := Lib.hid hd
      clear hd hb1 hB1 hP1 hown HP hb hRw
      go_wp2_with (at_builtin; refine wpList_push rfl (.tmp 17) (.tmp 19) rfl rfl HP2.out rfl HB2.out hxl HS2.out ?_; intro g cap w2 hp2 hk2 _ _; have c1 := HC.out w2 hk2)
      go_roundw
      case rel => exact ⟨_, xs ++ [i], rfl, Hfin.out, by simpa using hp2, HE.out w2 hk2⟩
      case measure =>
        simp only [intOf]
        rw [Hd.out, parL_step Hg.out.tree Ht.out]
        simp
end
end Go.Proofs.Ytphpbeapibohiaa

namespace Go.Proofs.Ytphpbeapibohiaa
open Go Go.RowKit

theorem lastL_at {xs : List Int} {m : Nat} (h : xs.length = m + 1) : lastL xs = xs[m]'(by omega) := by
  unfold lastL
  have e : xs.length - 1 = m := by omega
  rw [List.getLastD_eq_getLast?, List.getLast?_eq_getElem?, e, List.getElem?_eq_getElem (by omega)]
  rfl
/-- The children among which a node stands. -/
def rowL (l : List Nd) (id : Int) : List Int := if thereB l id = true then if thereB l (nd l id).parent = true then (nd l (nd l id).parent).kids else [] else []
/-- The one behind. -/
def nextL (xs : List Int) (x : Int) : Int := if idxL xs x < 0 then 0 else xs.getD ((idxL xs x).toNat + 1) 0
theorem few_nd {l : List Nd} {K : Nat} (h : Few K l) (i : Int) : (nd l i).kids.length ≤ K := by
  unfold nd
  rw [List.getD_eq_getElem?_getD]
  cases e : l[(i - 1).toNat]? with
  | none => exact Nat.zero_le _
  | some d => exact h d (List.mem_of_getElem? e)
theorem rowL_len {l : List Nd} (h : Few 200 l) (i : Int) : (rowL l i).length ≤ 200 := by
  unfold rowL
  split
  · split
    · exact few_nd h _
    · exact Nat.zero_le _
  · exact Nat.zero_le _
theorem idxL_range (xs : List Int) (x : Int) : idxL xs x = -1 ∨ ∃ k : Nat, idxL xs x = (k : Int) ∧ k < xs.length := by
  unfold idxL
  by_cases h : x ∈ xs
  · rw [if_pos h]
    exact .inr ⟨_, rfl, List.idxOf_lt_length_of_mem h⟩
  · rw [if_neg h]
    exact .inl rfl

section
variable {Rep : (Nat → Prop) → World → Nat → List Nd → Prop} {S : Nat → Prop} {w : World} {b : Nat} {l : List Nd}
set_option maxHeartbeats 1000000 in
theorem kinRoot (O : ForestOk Rep) (M : ForestMore Rep) (id : Int) (h : Rep S w b l) (hg : Good l) :
    Calls Try.prog 38 #[at_ b, .int .i64 id] w fun e w' => e = .returned (.int .i64 (rootL l id)) ∧ Below w.heap.size w w' := by
  have C := Lib.hid (kinUp O M id h hg)
  have hRl : (parL l id).length ≤ 128 := Nat.le_trans (parL_len hg.tree id) hg.len
  have hroot : rootL l id = lastL (parL l id) := rfl
  rw [hroot]
  obtain ⟨R, hR⟩ : ∃ R, R = parL l id := ⟨_, rfl⟩
  rw [← hR] at hRl C
  rw [← hR]
  clear h hg hR hroot
  go_enter Try.func38, Try.ntmps38
  go_wp2_with fail
  refine C.out.mono ?_
  rintro e w1 ⟨v, rfl, hP, hb⟩
  obtain ⟨A, c, rfl, hL⟩ := hP.form
  clear C hP
  cases hm : R.length with
  | zero =>
    have e0 : lastL R = 0 := by rw [List.length_eq_zero_iff.1 hm]; rfl
    have E0 := Lib.hid e0
    have Hm := Lib.hid hm
    clear e0 hm
    go_wp2
    go_ret
    rw [E0.out]
    exact ⟨rfl, hb⟩
  | succ m =>
    have e0 := lastL_at hm
    obtain ⟨b', off, rfl, -, hc⟩ := hL.nums m (by omega)
    obtain ⟨y, hy⟩ : ∃ y, y = R[m]'(by omega) := ⟨_, rfl⟩
    rw [← hy] at hc e0
    have E0 := Lib.hid e0
    clear e0
    have hm' : m ≤ 128 := by omega
    have z1 : (((m : Int) + 1) == 0) = false := by rw [beq_eq_false_iff_ne]; omega
    clear hm hy hL hRl
    go_wp2
    go_ret
    rw [E0.out]
    exact ⟨rfl, hb⟩
theorem kinAbove (O : ForestOk Rep) (M : ForestMore Rep) (x id : Int) (h : Rep S w b l) (hg : Good l) :
    Calls Try.prog 59 #[at_ b, .int .i64 x, .int .i64 id] w fun e w' => e = .returned (.bool (hasB (parL l id) x)) ∧ Below w.heap.size w w' := by
  have C := Lib.hid (kinUp O M id h hg)
  have hRl : (parL l id).length ≤ 1000000 := Nat.le_trans (Nat.le_trans (parL_len hg.tree id) hg.len) (by decide)
  obtain ⟨R, hR⟩ : ∃ R, R = parL l id := ⟨_, rfl⟩
  rw [← hR] at hRl C
  rw [← hR]
  clear h hg hR
  go_enter Try.func59, Try.ntmps59
  go_wp2_with fail
  refine C.out.mono ?_
  rintro e w1 ⟨v, rfl, hP, hb⟩
  obtain ⟨A, c, rfl, hL⟩ := hP.form
  clear C hP
  go_wp2_with fail
  refine (contains_any R A R.length c x w1 rfl hRl hL.nums).mono ?_
  rintro e w2 ⟨rfl, rfl⟩
  go_wp2
  go_ret
  exact ⟨rfl, hb⟩
end
end Go.Proofs.Ytphpbeapibohiaa

namespace Go.Proofs.Ytphpbeapibohiaa
open Go Go.RowKit

/-- How many of a list are of a kind. -/
def cntL (l : List Nd) (kind : Int) (ks : List Int) : Nat := (ks.filter fun k => decide ((nd l k).kind = kind)).length
def kidsL (l : List Nd) (id : Int) : List Int := if thereB l id = true then (nd l id).kids else []
theorem cntL_step {l : List Nd} {kind : Int} {ks : List Int} {j : Nat} (hj : j < ks.length) : cntL l kind (ks.take (j + 1)) = cntL l kind (ks.take j) + if (nd l ks[j]).kind = kind then 1 else 0 := by
  unfold cntL
  rw [List.take_add_one, List.getElem?_eq_getElem hj, Option.toList_some, List.filter_append, List.length_append]
  congr 1
  by_cases h : (nd l ks[j]).kind = kind
  · rw [if_pos h, List.filter_cons_of_pos (by simpa using h)]
    rfl
  · rw [if_neg h, List.filter_cons_of_neg (by simpa using h)]
    rfl
theorem cntL_le (l : List Nd) (kind : Int) (ks : List Int) : cntL l kind ks ≤ ks.length := List.length_filter_le _ _

section
variable {Rep : (Nat → Prop) → World → Nat → List Nd → Prop} {S : Nat → Prop} {w : World} {b : Nat} {l : List Nd}
theorem ForestOk.since (O : ForestOk Rep) {w' : World} (h : Rep S w b l) (hb : Below w.heap.size w w') : Rep S w' b l := O.keep h (Keeps.of_below (F := fun i => w.heap.size ≤ i) hb fun _ _ h => h) fun _ _ hi => Nat.not_le.2 hi
end
end Go.Proofs.Ytphpbeapibohiaa

namespace Go.Proofs.Ytphpbeapibohiaa
open Go Go.RowKit

/-- The forest at block b holds l, in blocks that S names. -/
def Frst (S : Nat → Prop) (w : World) (b : Nat) (l : List Nd) : Prop := S b ∧ ∃ A c, Has w b (.cells #[.slice A l.length c] 74 (0, 0)) ∧ Nodes S w 0 A c l
section
variable {S S' F : Nat → Prop} {w w' : World} {b : Nat} {l : List Nd}
theorem Frst.keep (h : Frst S w b l) (k : Keeps F w w') (hF : ∀ i, S i → i < w.heap.size → ¬ F i) : Frst S w' b l := by
  obtain ⟨hS, A, c, h1, h2⟩ := h
  exact ⟨hS, A, c, h1.kept k (hF b hS h1.inside), h2.keptG k hF⟩
theorem Frst.wide (h : Frst S w b l) (hS : ∀ i, S i → i < w.heap.size → S' i) : Frst S' w b l := by
  obtain ⟨h0, A, c, h1, h2⟩ := h
  exact ⟨hS b h0 h1.inside, A, c, h1, h2.wide hS⟩
theorem Frst.below (h : Frst S w b l) (k : Below w.heap.size w w') : Frst S w' b l :=
  h.keep (Keeps.of_below (F := fun i => w.heap.size ≤ i) k fun _ _ h => h) fun _ _ hi => Nat.not_le.2 hi
/-- A node's nine cells. -/
theorem Nodes.nine {G : Nat → Prop} {B c m : Nat} {A : Option Addr} (h : Nodes G w B A c l) (hm : m < l.length) : ∃ g k, A = some ⟨g, 0, none⟩ ∧ B ≤ g ∧ g < w.heap.size ∧ Kids G w k (nd l ((m : Int) + 1)).kids ∧ (∀ j, w.frozen? ⟨g, j, none⟩ = false) ∧
    w.cell? ⟨g, m * 9, none⟩ = some (.int .i64 (nd l ((m : Int) + 1)).kind) ∧ w.cell? ⟨g, m * 9 + 1, none⟩ = some (.int .i64 (nd l ((m : Int) + 1)).parent) ∧ w.cell? ⟨g, m * 9 + 2, none⟩ = some (.int .i64 (nd l ((m : Int) + 1)).host) ∧
    w.cell? ⟨g, m * 9 + 3, none⟩ = some (.int .i64 (nd l ((m : Int) + 1)).shadow) ∧ w.cell? ⟨g, m * 9 + 4, none⟩ = some (.int .i64 (nd l ((m : Int) + 1)).mode) ∧ w.cell? ⟨g, m * 9 + 5, none⟩ = some (.bool (nd l ((m : Int) + 1)).slot) ∧
    w.cell? ⟨g, m * 9 + 6, none⟩ = some (.string (nd l ((m : Int) + 1)).name) ∧ w.cell? ⟨g, m * 9 + 7, none⟩ = some (.string (nd l ((m : Int) + 1)).want) ∧ w.cell? ⟨g, m * 9 + 8, none⟩ = some k := by
  obtain ⟨g, k, rfl, hg, hk, hz, hc⟩ := h.at_ hm
  rw [nd_at hm]
  exact ⟨g, k, rfl, hg, h.inside _ _ _ rfl, hk, hz, hc 0 (by omega), hc 1 (by omega), hc 2 (by omega), hc 3 (by omega), hc 4 (by omega), hc 5 (by omega), hc 6 (by omega), hc 7 (by omega), hc 8 (by omega)⟩
end

section
variable {S : Nat → Prop} {w : World} {b : Nat} {l : List Nd}
theorem arNew (S : Nat → Prop) (w : World) (hS : Fut S w.heap.size) : Calls Try.prog 27 #[] w fun e w' => ∃ b, e = .returned (.pointer (some ⟨b, 0, none⟩)) ∧ Frst S w' b [] ∧ Below w.heap.size w w' := by
  have hh : Has (w.alloc (.cells #[.slice none 0 0] 74)) w.heap.size (.cells #[.slice none 0 0] 74 (0, 0)) := Has.fresh _ _
  have hb : Below w.heap.size w (w.alloc (.cells #[.slice none 0 0] 74)) := (Below.refl _ w).alloc (Nat.le_refl _) _
  have HH := Lib.hid hh
  clear hh
  go_enter Try.func27, Try.ntmps27
  go_wp2
  go_ret
  exact ⟨_, rfl, ⟨hS _ (Nat.le_refl _), none, 0, HH.out, Nodes.nil _ _⟩, hb⟩

theorem arLen (h : Frst S w b l) : Calls Try.prog 60 #[.pointer (some ⟨b, 0, none⟩)] w fun e w' => e = .returned (.int .i64 l.length) ∧ w = w' := by
  obtain ⟨-, A, c, h1, -⟩ := h
  have c0 := h1.cell 0
  clear h1
  go_enter Try.func60, Try.ntmps60
  go_wp2
  go_ret
  exact ⟨rfl, rfl⟩

theorem arHas (h : Frst S w b l) (id : Int) : Calls Try.prog 46 #[.pointer (some ⟨b, 0, none⟩), .int .i64 id] w fun e w' => e = .returned (.bool (thereB l id)) ∧ w = w' := by
  have H := Lib.hid h
  clear h
  by_cases h1 : 1 ≤ id
  · have e1 : decide (1 ≤ id) = true := decide_eq_true h1
    have e : thereB l id = decide (id ≤ (l.length : Int)) := by unfold thereB; rw [e1]; rfl
    rw [e]
    clear e
    go_enter Try.func46, Try.ntmps46
    go_wp2_with fail
    refine (arLen H.out).mono ?_
    rintro e w1 ⟨rfl, rfl⟩
    go_wp2
    go_ret
    exact ⟨rfl, rfl⟩
  · have e1 : decide (1 ≤ id) = false := decide_eq_false h1
    have e : thereB l id = false := by unfold thereB; rw [e1]; rfl
    rw [e]
    clear e
    go_enter Try.func46, Try.ntmps46
    go_wp2
    go_ret
    exact ⟨rfl, rfl⟩
theorem arHas_is (h : Frst S w b l) {id : Int} {x : Bool} (hx : thereB l id = x) : Calls Try.prog 46 #[.pointer (some ⟨b, 0, none⟩), .int .i64 id] w fun e w' => e = .returned (.bool x) ∧ w = w' := by
  rw [← hx]
  exact arHas h id

theorem arFits (s : ByteArray) (w : World) (hs : s.size ≤ 9223372036854775807) {x : Bool} (hx : okName s = x) :
    Calls Try.prog 51 #[.string s] w fun e w' => e = .returned (.bool x) ∧ Below w.heap.size w w' := by
  subst hx
  cases h0 : s.toList.isEmpty with
  | true =>
    have e1 : okName s = true := by unfold okName; rw [h0]; rfl
    rw [e1]
    go_enter Try.func51, Try.ntmps51
    go_wp2
    go_ret
    exact ⟨rfl, Below.refl _ _⟩
  | false =>
    have e1 : okName s = rightL s.data.toList := by unfold okName; rw [h0]; rfl
    rw [e1]
    clear e1
    go_enter Try.func51, Try.ntmps51
    go_wp2_with fail
    refine (right_any s w hs).mono ?_
    rintro e w1 ⟨rfl, hb⟩
    go_wp2
    go_ret
    exact ⟨rfl, hb⟩

/-- One step up. -/
theorem arNext (h : Frst S w b l) (hl : l.length ≤ 128) {id : Int} (ht : thereB l id = true) : Calls Try.prog 61 #[.pointer (some ⟨b, 0, none⟩), .int .i64 id] w fun e w' => e = .returned (.int .i64 (upOf l id)) ∧ Below w.heap.size w w' := by
  obtain ⟨-, A, c, h1, hN⟩ := h
  have q0 := h1.cell 0
  obtain ⟨m, rfl, hm⟩ := there_at ht
  obtain ⟨g, k, rfl, -, -, hk, -, c0, c1, c2, c3, c4, c5, c6, c7, c8⟩ := hN.nine hm
  obtain ⟨A1, n1, rfl, -, -⟩ := hk.form
  have hb : Below w.heap.size w (w.alloc (.cells #[.int .i64 (nd l ((m : Int) + 1)).kind, .int .i64 (nd l ((m : Int) + 1)).parent, .int .i64 (nd l ((m : Int) + 1)).host, .int .i64 (nd l ((m : Int) + 1)).shadow, .int .i64 (nd l ((m : Int) + 1)).mode, .bool (nd l ((m : Int) + 1)).slot, .string (nd l ((m : Int) + 1)).name, .string (nd l ((m : Int) + 1)).want, .slice A1 (nd l ((m : Int) + 1)).kids.length n1] 52)) := (Below.refl _ w).alloc (Nat.le_refl _) _
  have e : upOf l ((m : Int) + 1) = if (nd l ((m : Int) + 1)).parent = 0 then (nd l ((m : Int) + 1)).host else (nd l ((m : Int) + 1)).parent := rfl
  rw [e]
  obtain ⟨d, hd⟩ : ∃ d, d = nd l ((m : Int) + 1) := ⟨_, rfl⟩
  rw [← hd] at c0 c1 c2 c3 c4 c5 c6 c7 c8 hb
  rw [← hd]
  obtain ⟨kd, pa, ho, sh, mo, sl, na, wa, ks⟩ := d
  simp only at c0 c1 c2 c3 c4 c5 c6 c7 c8 hb
  simp only
  clear h1 hN ht hk e hd
  by_cases hp : pa = 0
  · subst hp
    rw [if_pos rfl]
    go_enter Try.func61, Try.ntmps61
    go_wp2
    go_ret
    exact ⟨rfl, hb⟩
  · rw [if_neg hp]
    have z1 : (pa != 0) = true := by simpa using hp
    have z2 : (pa == 0) = false := by simpa using hp
    go_enter Try.func61, Try.ntmps61
    go_wp2
    go_ret
    exact ⟨rfl, hb⟩
end

section
variable {l : List Nd}
theorem over_step (T : Tree l) {x : Int} (h : thereB l x = true) : over l x = x :: over l (upOf l x) := by
  have e : over l x = x :: overN l l.length (upOf l x) := over_go h
  have hs : (over l x).length ≤ l.length := up_short T.ends (l.length + 1) x
  rw [e] at hs
  simp only [List.length_cons] at hs
  rw [e]
  show _ = x :: overN l (l.length + 1) _
  rw [up_more l.length (upOf l x) (by omega)]
theorem over_zero : over l 0 = [] := over_end (there_zero l)
theorem up_or (T : Tree l) {x : Int} (h : thereB l x = true) : upOf l x = 0 ∨ thereB l (upOf l x) = true := by
  unfold upOf
  split
  · by_cases hh : (nd l x).host = 0
    · exact .inl hh
    · exact .inr (T.host x h hh).2
  · rename_i hp
    exact .inr (T.par x h hp).1
theorem has_over_step (T : Tree l) {x a : Int} (h : thereB l x = true) : hasB (over l x) a = (decide (a = x) || hasB (over l (upOf l x)) a) := by
  rw [over_step T h]
  unfold hasB
  by_cases e : a = x <;> simp [e]
end

section
variable {S : Nat → Prop} {w : World} {b : Nat} {l : List Nd}
set_option maxHeartbeats 2000000 in
set_option maxRecDepth 100000 in
theorem arAbove (h : Frst S w b l) (hl : l.length ≤ 128) (T : Tree l) (a : Int) {id : Int} (ht : thereB l id = true) {x : Bool} (hx : hasB (over l (upOf l id)) a = x) :
    Calls Try.prog 50 #[.pointer (some ⟨b, 0, none⟩), .int .i64 a, .int .i64 id] w fun e w' => e = .returned (.bool x) ∧ Below w.heap.size w w' := by
  have H := Lib.hid h
  have HT := Lib.hid T
  have Ht := Lib.hid ht
  have Hx := Lib.hid hx
  clear h T ht hx
  go_enter Try.func50, Try.ntmps50
  go_wp2_with fail
  refine (arNext H.out hl Ht.out).mono ?_
  rintro e w1 ⟨rfl, hb1⟩
  have hup := up_or HT.out Ht.out
  obtain ⟨y, hy⟩ : ∃ y, y = upOf l id := ⟨_, rfl⟩
  rw [← hy] at hup Hx
  rw [← hy]
  have Hup := Lib.hid hup
  clear hup hy Ht
  go_wp2_with fail
  go_loopw [7] (fun at_ wr => ∃ z : Int, at_ = .int .i64 z ∧ (z = 0 ∨ thereB l z = true) ∧ hasB (over l z) a = x ∧ Below w.heap.size w wr) (fun at_ _ => (over l (intOf at_)).length)
  case atStart => exact ⟨y, rfl, Hup.out, Hx.out, hb1⟩
  case round =>
    obtain ⟨z, rfl, hz, hxz, hb⟩ := hrel
    clear Hup Hx
    by_cases h0 : z = 0
    · subst h0
      rw [over_zero] at hxz
      have hx0 : x = false := by rw [← hxz]; rfl
      subst hx0
      clear hxz hz
      go_wp2
      go_ret
      exact ⟨rfl, hb⟩
    · have hth : thereB l z = true := hz.resolve_left h0
      have z1 : (z != 0) = true := by simpa using h0
      have z2 : (z == 0) = false := by simpa using h0
      rw [has_over_step HT.out hth] at hxz
      by_cases ha : z = a
      · have hx0 : x = true := by rw [← hxz, ha]; simp
        subst hx0
        subst ha
        clear hxz hz
        go_wp2
        go_ret
        exact ⟨rfl, hb⟩
      · have z3 : (z == a) = false := by simpa using ha
        have hxz' : hasB (over l (upOf l z)) a = x := by
          rw [← hxz, decide_eq_false (fun e => ha e.symm)]
          rfl
        have Hxz := Lib.hid hxz'
        have Hth := Lib.hid hth
        have hR := H.out.below hb
        clear hxz hxz' hz hth
        go_wp2_with fail
        refine (arNext hR hl Hth.out).mono ?_
        rintro e w2 ⟨rfl, hb2⟩
        go_wp2
        go_roundw
        case rel => exact ⟨upOf l z, rfl, up_or HT.out Hth.out, Hxz.out, hb.trans (hb2.mono hb.size)⟩
        case measure =>
          simp only [intOf]
          rw [over_step HT.out Hth.out]
          simp
end
end Go.Proofs.Ytphpbeapibohiaa

namespace Go.Proofs.Ytphpbeapibohiaa
open Go

section
variable {l : List Nd} {b x : Int}
theorem rootL_par (T : Tree l) (h : thereB l b = true) (hp : (nd l b).parent ≠ 0) : rootL l b = rootL l (nd l b).parent := by
  have hpt := (T.par _ h hp).1
  unfold rootL
  rw [parL_step T h]
  exact lastL_suffix (List.suffix_cons _ _) (parL_ne T hpt)
theorem rootL_own (T : Tree l) (h : thereB l b = true) (hp : (nd l b).parent = 0) : rootL l b = b := by
  unfold rootL
  rw [parL_step T h, hp, parL_no (there_zero l)]
  rfl
/-- The way up is the way to the root, and then that of its host. -/
theorem over_split (T : Tree l) : ∀ (n : Nat) (b : Int), (parL l b).length ≤ n → thereB l b = true → over l b = parL l b ++ over l (nd l (rootL l b)).host
  | 0, b, hn, h => by
    rw [parL_step T h] at hn
    simp at hn
  | n + 1, b, hn, h => by
    by_cases hp : (nd l b).parent = 0
    · rw [rootL_own T h hp, over_step T h, parL_step T h, hp, parL_no (there_zero l)]
      have e : upOf l b = (nd l b).host := if_pos hp
      rw [e]
      rfl
    · have hpt := (T.par _ h hp).1
      rw [parL_step T h] at hn
      have ih := over_split T n (nd l b).parent (by simpa using hn) hpt
      have e : upOf l b = (nd l b).parent := if_neg hp
      rw [over_step T h, e, ih, ← rootL_par T h hp, parL_step T h, List.cons_append]
theorem over_whole (T : Tree l) (h : thereB l b = true) : over l b = parL l b ++ over l (nd l (rootL l b)).host := over_split T _ b (Nat.le_refl _) h
theorem over_none (h : thereB l b = false) : over l b = [] := over_end h
theorem over_short (T : Tree l) (b : Int) : (over l b).length ≤ l.length := up_short T.ends (l.length + 1) b
theorem over_less (T : Tree l) (h : thereB l b = true) : (over l (nd l (rootL l b)).host).length + 1 ≤ (over l b).length := by
  rw [over_whole T h, List.length_append, parL_step T h, List.length_cons]
  omega
theorem over_self (T : Tree l) (h : thereB l b = true) : b ∈ over l b := by
  rw [over_step T h]
  exact List.mem_cons_self
theorem hasB_yes {xs : List Int} (h : x ∈ xs) : hasB xs x = true := decide_eq_true h
theorem hasB_no {xs : List Int} (h : x ∉ xs) : hasB xs x = false := decide_eq_false h
theorem hasB_mem {xs : List Int} (h : hasB xs x = true) : x ∈ xs := of_decide_eq_true h
theorem hasB_not {xs : List Int} (h : hasB xs x = false) : x ∉ xs := of_decide_eq_false h
theorem over_hit (T : Tree l) (h : hasB (parL l b) x = true) : hasB (over l b) x = true := by
  have hm := hasB_mem h
  have ht : thereB l b = true := by
    cases hq : thereB l b with
    | true => rfl
    | false => rw [parL_no hq] at hm; cases hm
  rw [over_whole T ht]
  exact hasB_yes (List.mem_append_left _ hm)
theorem over_miss (T : Tree l) (ht : thereB l b = true) (h : hasB (parL l b) x = false) : hasB (over l b) x = hasB (over l (nd l (rootL l b)).host) x := by
  have hm := hasB_not h
  rw [over_whole T ht]
  unfold hasB
  simp [hm]

/-- How many Elements come with a node. -/
def moreL (l : List Nd) (n : Int) : Nat := if (nd l n).kind = 4 then cntL l 2 (kidsL l n) else 1
/-- One Element too many. -/
def crowdB (l : List Nd) (n p : Int) : Bool := decide (1 < moreL l n ∨ (moreL l n = 1 ∧ 0 < cntL l 2 (kidsL l p)))
/-- Check: the error's number. -/
def chkErr (l : List Nd) (n p c : Int) : Int :=
  if thereB l n = false ∨ thereB l p = false ∨ (c ≠ 0 ∧ thereB l c = false) then 1
  else if hasB (over l p) n = true then 3
  else if c ≠ 0 ∧ (nd l c).parent ≠ p then 4
  else if (nd l n).kind = 1 ∨ (nd l n).kind = 3 then 3
  else if (nd l p).kind = 1 ∧ crowdB l n p = true then 3
  else 0
theorem cntL_few {l : List Nd} (h : Few 200 l) (kind id : Int) : cntL l kind (kidsL l id) ≤ 200 := by
  refine Nat.le_trans (cntL_le _ _ _) ?_
  unfold kidsL
  split
  · exact few_nd h id
  · exact Nat.zero_le _
end
end Go.Proofs.Ytphpbeapibohiaa
