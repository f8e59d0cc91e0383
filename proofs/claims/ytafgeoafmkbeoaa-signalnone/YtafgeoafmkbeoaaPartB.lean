/-
  A region that leaves its order open, walked once, in an order that is typed out: what yields its value in every world that meets S comes up when it is named; a pinned operation comes up when nothing else can. S may be made narrower on the way. No program is named here.
  A region that leaves its order open and writes what it has read: 'x = append(x, ..)'. As Ord, but of the operations named 'late' (each waits for all that was taken first) nothing is asked behind them: what was read may be written by them. No program is named here.
  A region that leaves its order open, walked by a way that is typed out: what is taken first, what comes up alone, and where two may come up, both ways. As Late, but with forks. No program is named here.
  What Give of package signal does: a function that calls itself gives one signal, and what follows it.
  What Make of package signal does.
  What the function does that Give of package signal hands to a latch: the signal's tags are told, and what follows it is given.
  A list of numbers, cut: s[:k], s[k:].
  What Give of package signal does: by induction over how many signals may be given still.
  What towncrierref01.Ints does.
  What towncrierlaw11.awake and SignalNone do: they answer true. A board that a law makes and turns.
  Arguments that came in, opened: lists of texts and of numbers. Facts of the program that every row's proof wants.
  Proved: the law answers true for every input, and each argument reads afterwards as it read before. No condition.
-/
import Derived.Test.YtafgeoafmkbeoaaPartA
import Derived.Deep.RegionHeld3
import Derived.Laws.EntriesVeiled
import Derived.Deep.DeepCutAuto
import Derived.Test.YtafgeoafmkbeoaaProg
import Derived.Test.YtafgeoafmkbeoaaChecked
import Derived.ProofKit
import Derived.OpenShut
import Derived.Test.YtafgeoafmkbeoaaRows
import Derived.ChangeOld

namespace Go.Proofs.Ytafgeoafmkbeoaa
open Go

section
variable {P : Program} {ops : Array Oper} {Q : Exit → Act → World → Prop} {pin : List Nat}

/-- May the operations come up in this order, each pinned one alone? -/
def ordOk (md : Region.Mode) (ops : Array Oper) (pin : List Nat) : List Nat → Array Bool → Bool
  | [], listed => Region.ready md ops listed == []
  | i :: r, listed => (if pin.contains i then Region.ready md ops listed == [i] else (Region.free md ops listed i && (Region.ready md ops listed).contains i)) && (ops[i]?).isSome && ordOk md ops pin r (listed.setIfInBounds i true)

/-- The operations in that order. -/
def picked (l : List Oper) : List Nat → List (Nat × Oper)
  | [] => []
  | i :: r => match l[i]? with
    | some o => (i, o) :: picked l r
    | none => picked l r

def wpOrd (P : Program) (ops : Array Oper) (Q : Exit → Act → World → Prop) (pin : List Nat) : (World → Prop) → List (Nat × Oper) → Act → World → Prop
  | _, [], a, w => Q .normal a w
  | S, (i, o) :: r, a, w => ∃ S' : World → Prop, (∀ w, S' w → S w) ∧
      if pin.contains i = true then wpOp P ops Q i (fun a' w' => S' w' ∧ wpOrd P ops Q pin S' r a' w') a w
      else ∃ v, YieldsIf P ops S' o v a ∧ S' w ∧ wpOrd P ops Q pin S' r (a.put o.dst v) w

theorem wpAnyH_wide {md : Region.Mode} {S S' : World → Prop} (hS : ∀ w, S' w → S w) : ∀ (fuel : Nat) (listed : Array Bool) (a : Act) (w : World), wpAnyH P md ops Q S' fuel listed a w → wpAnyH P md ops Q S fuel listed a w
  | 0, _, _, _, h => h
  | fuel + 1, _, _, _, h => ⟨h.1, fun i hi => wpOp_mono (fun a' w' h' => ⟨hS _ h'.1, wpAnyH_wide hS fuel _ a' w' h'.2⟩) (h.2 i hi)⟩

theorem wpAnyH_of_ord {md : Region.Mode} (hs : Region.noSelect ops = true) (hQ : ∀ c a d v w, Q (.panic c) (Act.put a d v) w → Q (.panic c) a w) :
    ∀ (l : List Nat) (S : World → Prop) (fuel : Nat) (listed : Array Bool) (a : Act) (w : World), l.length ≤ fuel → ordOk md ops pin l listed = true → wpOrd P ops Q pin S (picked ops.toList l) a w → wpAnyH P md ops Q S fuel listed a w
  | [], S, fuel, listed, a, w, _, hk, h => wpAnyH_done (by simpa [ordOk] using hk) h fuel
  | i :: r, _, 0, _, _, _, hl, _, _ => by simp at hl
  | i :: r, S, fuel + 1, listed, a, w, hl, hk, h => by
    simp only [ordOk, Bool.and_eq_true] at hk
    obtain ⟨⟨hk1, hk3⟩, hk2⟩ := hk
    obtain ⟨o, ho⟩ := Option.isSome_iff_exists.1 hk3
    have ho' : ops.toList[i]? = some o := by simpa using ho
    simp only [picked, ho', wpOrd] at h
    obtain ⟨S', hSS, h⟩ := h
    refine wpAnyH_wide hSS _ _ _ _ ?_
    have hl' : r.length ≤ fuel := by simpa using hl
    by_cases hp : pin.contains i = true
    · rw [if_pos hp] at h hk1
      have hr : Region.ready md ops listed = [i] := by simpa using hk1
      refine wpAnyH_all hr (by simp) fun j hj => ?_
      have : j = i := by simpa using hj
      subst this
      exact wpOp_mono (fun a' w' h' => ⟨h'.1, wpAnyH_of_ord hs hQ r _ fuel _ a' w' hl' hk2 h'.2⟩) h
    · rw [if_neg hp] at h hk1
      obtain ⟨v, hy, hS, h⟩ := h
      simp only [Bool.and_eq_true] at hk1
      exact wpAnyH_take ho hs hk1.1 hk1.2 (fun c a w => hQ c a _ v w) hy hS (wpAnyH_of_ord hs hQ r _ fuel _ _ _ hl' hk2 h)

/-- The beginning. -/
theorem wp_region_ord {S : World → Prop} {ol : List Oper} {id : Nat} {a : Act} {w : World} {l : List Nat} (hm : P.follows .mixedOrders = true) (hs : Region.noSelect ol.toArray = true) (hl : (l.length == ol.length) = true)
    (hk : ordOk .any ol.toArray pin l (Array.replicate ol.length false) = true) (hS : S w.drew)
    (h : S w.drew → wpOrd P ol.toArray (NoPanic Q) pin S (picked ol l) a w.drew) : (Code.region id ol.toArray true).wp P Q a w :=
  wp_region_noPanic (wp_region_held hm (wpAnyH_of_ord hs (fun _ _ _ _ _ h => h) l S ol.toArray.size _ a _ (by
    have : l.length = ol.length := by simpa using hl
    simp; omega) (by simpa using hk) (h hS)))

variable {i : Nat} {r : List (Nat × Oper)} {o : Oper} {a : Act} {w : World} {v : Value} {S : World → Prop}
/-- From here on S' holds. -/
theorem ord_tight (S' : World → Prop) (hS : ∀ w, S' w → S w) (hw : S' w) (h : S' w → wpOrd P ops Q pin S' r a w) : wpOrd P ops Q pin S r a w := by
  match r, h hw with
  | [], h => exact h
  | (_, _) :: _, ⟨S'', h1, h2⟩ => exact ⟨S'', fun w hw => hS w (h1 w hw), h2⟩
theorem ord_skip (hp : pin.contains i = false) (hw : Region.wanted o (yielded ops a.tmps) = false) (hS : S w) (h : wpOrd P ops Q pin S r (a.put o.dst undef) w) : wpOrd P ops Q pin S ((i, o) :: r) a w := by
  unfold wpOrd
  refine ⟨S, fun _ h => h, ?_⟩
  rw [if_neg (by rw [hp]; decide)]
  exact ⟨undef, .inr ⟨hw, rfl⟩, hS, h⟩
theorem ord_take (hp : pin.contains i = false) (hw : Region.wanted o (yielded ops a.tmps) = true) (hy : ∀ w, S w → (execOp a.eval o).run P w = .ok (.value v) w) (hS : S w)
    (h : wpOrd P ops Q pin S r (a.put o.dst v) w) : wpOrd P ops Q pin S ((i, o) :: r) a w := by
  unfold wpOrd
  refine ⟨S, fun _ h => h, ?_⟩
  rw [if_neg (by rw [hp]; decide)]
  exact ⟨v, .inl ⟨hw, hy⟩, hS, h⟩
theorem ord_run (hp : pin.contains i = true) (ho : ops[i]? = some o) (hw : Region.wanted o (yielded ops a.tmps) = true)
    (h : ∀ K' : Act → World → Prop, Shut (∀ a w, S w → (S w → wpOrd P ops Q pin S r a w) → K' a w) → Oper.wp P o a w K' Q) : wpOrd P ops Q pin S ((i, o) :: r) a w := by
  unfold wpOrd
  refine ⟨S, fun _ h => h, ?_⟩
  rw [if_pos hp]
  exact wpOp_step ho fun K' hK => by rw [if_pos hw]; exact h K' fun a w hS hW => hK a w ⟨hS, hW hS⟩
theorem ord_pass (hp : pin.contains i = true) (ho : ops[i]? = some o) (hw : Region.wanted o (yielded ops a.tmps) = false) (hS : S w) (h : wpOrd P ops Q pin S r (a.put o.dst undef) w) : wpOrd P ops Q pin S ((i, o) :: r) a w := by
  unfold wpOrd
  refine ⟨S, fun _ h => h, ?_⟩
  rw [if_pos hp]
  exact wpOp_step ho fun K' hK => by rw [if_neg (by rw [hw]; decide)]; exact hK _ _ ⟨hS, h⟩
theorem ord_done (h : Q .normal a w) : wpOrd P ops (NoPanic Q) pin S [] a w := h
end
end Go.Proofs.Ytafgeoafmkbeoaa

namespace Go.Proofs.Ytafgeoafmkbeoaa
open Go

section
variable {P : Program} {ops : Array Oper} {Q : Exit → Act → World → Prop} {md : Region.Mode} {late pin : List Nat}

/-- Does each late operation wait for i? -/
def waits (md : Region.Mode) (ops : Array Oper) (late : List Nat) (i : Nat) : Bool :=
  late.all fun z => match ops[z]? with
    | some o => o.after.any fun e => Region.binds md e && e.on == i
    | none => true

/-- Whatever order is picked; S holds behind every operation that is not late. -/
def wpAnyZ (P : Program) (md : Region.Mode) (ops : Array Oper) (Q : Exit → Act → World → Prop) (late : List Nat) (S : World → Prop) : Nat → Array Bool → Act → World → Prop
  | 0, listed, a, w => Region.ready md ops listed = [] ∧ Q .normal a w
  | n + 1, listed, a, w => (Region.ready md ops listed = [] → Q .normal a w) ∧
      ∀ i ∈ Region.ready md ops listed, wpOp P ops Q i (fun a' w' => (late.contains i = false → S w') ∧ wpAnyZ P md ops Q late S n (listed.setIfInBounds i true) a' w') a w

theorem wpAny_of_Z {S : World → Prop} : ∀ (n : Nat) (listed : Array Bool) (a : Act) (w : World), wpAnyZ P md ops Q late S n listed a w → wpAny P md ops Q n listed a w
  | 0, _, _, _, h => h
  | n + 1, _, _, _, h => ⟨h.1, fun i hi => wpOp_mono (fun a' w' h' => wpAny_of_Z n _ a' w' h'.2) (h.2 i hi)⟩

theorem wpAnyZ_wide {S S' : World → Prop} (hS : ∀ w, S' w → S w) : ∀ (n : Nat) (listed : Array Bool) (a : Act) (w : World), wpAnyZ P md ops Q late S' n listed a w → wpAnyZ P md ops Q late S n listed a w
  | 0, _, _, _, h => h
  | n + 1, _, _, _, h => ⟨h.1, fun i hi => wpOp_mono (fun a' w' h' => ⟨fun hl => hS _ (h'.1 hl), wpAnyZ_wide hS n _ a' w' h'.2⟩) (h.2 i hi)⟩

theorem wpAnyZ_done {S : World → Prop} {listed : Array Bool} {a : Act} {w : World} (hr : Region.ready md ops listed = []) (h : Q .normal a w) : ∀ n, wpAnyZ P md ops Q late S n listed a w
  | 0 => ⟨hr, h⟩
  | _ + 1 => ⟨fun _ => h, fun _ hi => absurd (hr ▸ hi) (List.not_mem_nil)⟩

/-- What is not listed is waited for. -/
theorem not_waiting {listed : Array Bool} {i : Nat} {oj : Oper} (hi : listed.getD i true = false) (hall : ∀ e ∈ oj.after, Region.binds md e = true → listed.getD e.on false = true) : ∀ e ∈ oj.after, Region.binds md e = true → e.on ≠ i := by
  rintro e he hb rfl
  have h := hall e he hb
  simp only [Array.getD] at hi h
  split at hi
  · rename_i hlt
    rw [dif_pos hlt] at h
    exact absurd (h.symm.trans hi) (by decide)
  · cases hi

theorem not_late {i j : Nat} {oj : Oper} (hw : waits md ops late i = true) (hj : ops[j]? = some oj) (hno : ∀ e ∈ oj.after, Region.binds md e = true → e.on ≠ i) : late.contains j = false := by
  cases hl : late.contains j with
  | false => rfl
  | true =>
    have h := List.all_eq_true.1 hw j (List.contains_iff_mem.1 hl)
    rw [hj] at h
    obtain ⟨e, he, hb⟩ := Array.any_eq_true'.1 h
    simp only [Bool.and_eq_true, beq_iff_eq] at hb
    exact absurd hb.2 (hno e he hb.1)

/-- Operation i may be taken first: it yields v in every world that meets S, and whoever could come ahead of it leaves S standing. -/
theorem wpAnyZ_take {S : World → Prop} {i : Nat} {oi : Oper} {v : Value} (hi : ops[i]? = some oi) (hs : Region.noSelect ops = true) (hw : waits md ops late i = true)
    (hQ : ∀ c a w, Q (.panic c) (Act.put a oi.dst v) w → Q (.panic c) a w) :
    ∀ (n : Nat) (listed : Array Bool) (a : Act) (w : World), Region.free md ops listed i = true → i ∈ Region.ready md ops listed → YieldsIf P ops S oi v a → S w →
      wpAnyZ P md ops Q late S n (listed.setIfInBounds i true) (a.put oi.dst v) w → wpAnyZ P md ops Q late S (n + 1) listed a w := by
  intro n
  induction n with
  | zero =>
    intro listed a w _ hr hy hS H
    refine ⟨fun h => absurd (h ▸ hr) List.not_mem_nil, fun j hj => ?_⟩
    by_cases hji : j = i
    · subst hji
      exact hy.wpOp hi hS ⟨fun _ => hS, H⟩
    · exact absurd (H.1 ▸ ready_mono hj hji) List.not_mem_nil
  | succ n ih =>
    intro listed a w hf hr hy hS H
    refine ⟨fun h => absurd (h ▸ hr) List.not_mem_nil, fun j hj => ?_⟩
    by_cases hji : j = i
    · subst hji
      exact hy.wpOp hi hS ⟨fun _ => hS, H⟩
    · obtain ⟨hun, oj, hoj, hall⟩ := mem_ready.1 hj
      have hno := not_waiting (mem_ready.1 hr).1 hall
      have hnl := not_late hw hoj hno
      have step := wpOp_putIf hoj (Region.free_spec hi hf j oj hoj hji hun hno) (fun cs b => Region.noSelect_spec hs i oi cs b hi) (fun cs b => Region.noSelect_spec hs j oj cs b hoj) hQ hy (H.2 j (ready_mono hj hji))
      have hf' : Region.free md ops (listed.setIfInBounds j true) i = true := by
        simp only [Region.free, hi, List.all_eq_true, List.mem_range] at hf ⊢
        intro k hk
        have := hf k hk
        by_cases hjk : j = k
        · subst hjk
          have hlt : j < listed.size := by
            rcases Nat.lt_or_ge j listed.size with h | h
            · exact h
            · simp [Array.getD, Nat.not_lt.2 h] at hun
          simp [Array.getD, hlt]
        · rw [getD_set_ne true hjk]
          exact this
      refine wpOp_mono (fun a' w' h' => ⟨fun _ => h'.2.1 hnl, ih _ a' w' hf' (ready_mono hr (Ne.symm hji)) h'.1 (h'.2.1 hnl) ?_⟩) step
      rw [Array.setIfInBounds_comm _ _ hji]
      exact h'.2.2

/-- May the operations come up in this order, each pinned one alone, each late one behind what was taken first? -/
def lateOk (md : Region.Mode) (ops : Array Oper) (late pin : List Nat) : List Nat → Array Bool → Bool
  | [], listed => Region.ready md ops listed == []
  | i :: r, listed => (if pin.contains i then Region.ready md ops listed == [i] else (Region.free md ops listed i && (Region.ready md ops listed).contains i && waits md ops late i)) && (ops[i]?).isSome && lateOk md ops late pin r (listed.setIfInBounds i true)

def wpLate (P : Program) (ops : Array Oper) (Q : Exit → Act → World → Prop) (late pin : List Nat) : (World → Prop) → List (Nat × Oper) → Act → World → Prop
  | _, [], a, w => Q .normal a w
  | S, (i, o) :: r, a, w => ∃ S' : World → Prop, (∀ w, S' w → S w) ∧
      if pin.contains i = true then wpOp P ops Q i (fun a' w' => (late.contains i = false → S' w') ∧ wpLate P ops Q late pin S' r a' w') a w
      else ∃ v, YieldsIf P ops S' o v a ∧ S' w ∧ wpLate P ops Q late pin S' r (a.put o.dst v) w

theorem wpAnyZ_of_late (hs : Region.noSelect ops = true) (hQ : ∀ c a d v w, Q (.panic c) (Act.put a d v) w → Q (.panic c) a w) :
    ∀ (l : List Nat) (S : World → Prop) (n : Nat) (listed : Array Bool) (a : Act) (w : World), l.length ≤ n → lateOk md ops late pin l listed = true → wpLate P ops Q late pin S (picked ops.toList l) a w → wpAnyZ P md ops Q late S n listed a w
  | [], S, n, listed, a, w, _, hk, h => wpAnyZ_done (by simpa [lateOk] using hk) h n
  | i :: r, _, 0, _, _, _, hl, _, _ => by simp at hl
  | i :: r, S, n + 1, listed, a, w, hl, hk, h => by
    simp only [lateOk, Bool.and_eq_true] at hk
    obtain ⟨⟨hk1, hk3⟩, hk2⟩ := hk
    obtain ⟨o, ho⟩ := Option.isSome_iff_exists.1 hk3
    have ho' : ops.toList[i]? = some o := by simpa using ho
    simp only [picked, ho', wpLate] at h
    obtain ⟨S', hSS, h⟩ := h
    refine wpAnyZ_wide hSS _ _ _ _ ?_
    have hl' : r.length ≤ n := by simpa using hl
    by_cases hp : pin.contains i = true
    · rw [if_pos hp] at h hk1
      have hr : Region.ready md ops listed = [i] := by simpa using hk1
      refine ⟨fun h0 => absurd (h0.symm.trans hr) (by simp), fun j hj => ?_⟩
      rw [hr] at hj
      obtain rfl := List.mem_singleton.1 hj
      exact wpOp_mono (fun a' w' h' => ⟨h'.1, wpAnyZ_of_late hs hQ r _ n _ a' w' hl' hk2 h'.2⟩) h
    · rw [if_neg hp] at h hk1
      obtain ⟨v, hy, hS, h⟩ := h
      simp only [Bool.and_eq_true] at hk1
      exact wpAnyZ_take ho hs hk1.2 (fun c a w => hQ c a _ v w) n listed a w hk1.1.1 (by simpa using hk1.1.2) hy hS (wpAnyZ_of_late hs hQ r _ n _ _ _ hl' hk2 h)

/-- The beginning. -/
theorem wp_region_late {S : World → Prop} {ol : List Oper} {id : Nat} {a : Act} {w : World} {l : List Nat} (hm : P.follows .mixedOrders = true) (hs : Region.noSelect ol.toArray = true) (hl : (l.length == ol.length) = true)
    (hk : lateOk .any ol.toArray late pin l (Array.replicate ol.length false) = true) (hS : S w.drew)
    (h : S w.drew → wpLate P ol.toArray (NoPanic Q) late pin S (picked ol l) a w.drew) : (Code.region id ol.toArray true).wp P Q a w :=
  wp_region_noPanic (wp_region_any hm (wpAny_of_Z _ _ _ _ (wpAnyZ_of_late hs (fun _ _ _ _ _ h => h) l S ol.toArray.size _ a _ (by
    have : l.length = ol.length := by simpa using hl
    simp; omega) (by simpa using hk) (h hS))))

variable {i : Nat} {r : List (Nat × Oper)} {o : Oper} {a : Act} {w : World} {v : Value} {S : World → Prop}
theorem late_tight (S' : World → Prop) (hS : ∀ w, S' w → S w) (hw : S' w) (h : S' w → wpLate P ops Q late pin S' r a w) : wpLate P ops Q late pin S r a w := by
  match r, h hw with
  | [], h => exact h
  | (_, _) :: _, ⟨S'', h1, h2⟩ => exact ⟨S'', fun w hw => hS w (h1 w hw), h2⟩
theorem late_skip (hp : pin.contains i = false) (hw : Region.wanted o (yielded ops a.tmps) = false) (hS : S w) (h : wpLate P ops Q late pin S r (a.put o.dst undef) w) : wpLate P ops Q late pin S ((i, o) :: r) a w := by
  unfold wpLate
  refine ⟨S, fun _ h => h, ?_⟩
  rw [if_neg (by rw [hp]; decide)]
  exact ⟨undef, .inr ⟨hw, rfl⟩, hS, h⟩
theorem late_take (hp : pin.contains i = false) (hw : Region.wanted o (yielded ops a.tmps) = true) (hy : ∀ w, S w → (execOp a.eval o).run P w = .ok (.value v) w) (hS : S w)
    (h : wpLate P ops Q late pin S r (a.put o.dst v) w) : wpLate P ops Q late pin S ((i, o) :: r) a w := by
  unfold wpLate
  refine ⟨S, fun _ h => h, ?_⟩
  rw [if_neg (by rw [hp]; decide)]
  exact ⟨v, .inl ⟨hw, hy⟩, hS, h⟩
/-- A pinned operation that is not late. -/
theorem late_run (hp : pin.contains i = true) (ho : ops[i]? = some o) (hw : Region.wanted o (yielded ops a.tmps) = true)
    (h : ∀ K' : Act → World → Prop, Shut (∀ a w, S w → (S w → wpLate P ops Q late pin S r a w) → K' a w) → Oper.wp P o a w K' Q) : wpLate P ops Q late pin S ((i, o) :: r) a w := by
  unfold wpLate
  refine ⟨S, fun _ h => h, ?_⟩
  rw [if_pos hp]
  exact wpOp_step ho fun K' hK => by rw [if_pos hw]; exact h K' fun a w hS hW => hK a w ⟨fun _ => hS, hW hS⟩
theorem late_pass (hp : pin.contains i = true) (ho : ops[i]? = some o) (hw : Region.wanted o (yielded ops a.tmps) = false) (hS : S w) (h : wpLate P ops Q late pin S r (a.put o.dst undef) w) : wpLate P ops Q late pin S ((i, o) :: r) a w := by
  unfold wpLate
  refine ⟨S, fun _ h => h, ?_⟩
  rw [if_pos hp]
  exact wpOp_step ho fun K' hK => by rw [if_neg (by rw [hw]; decide)]; exact hK _ _ ⟨fun _ => hS, h⟩
/-- A late one. -/
theorem late_last (hp : pin.contains i = true) (hl : late.contains i = true) (ho : ops[i]? = some o) (hw : Region.wanted o (yielded ops a.tmps) = true)
    (h : ∀ K' : Act → World → Prop, Shut (∀ a w, wpLate P ops Q late pin S r a w → K' a w) → Oper.wp P o a w K' Q) : wpLate P ops Q late pin S ((i, o) :: r) a w := by
  unfold wpLate
  refine ⟨S, fun _ h => h, ?_⟩
  rw [if_pos hp]
  exact wpOp_step ho fun K' hK => by rw [if_pos hw]; exact h K' fun a w hW => hK a w ⟨fun hf => absurd (hl.symm.trans hf) (by decide), hW⟩
theorem late_done (h : Q .normal a w) : wpLate P ops (NoPanic Q) late pin S [] a w := h
end
end Go.Proofs.Ytafgeoafmkbeoaa

namespace Go.Proofs.Ytafgeoafmkbeoaa
open Go

/-- A way through a region: take i first; i comes up alone; i or j comes up. -/
inductive Way where
  | fin : Way
  | take : Nat → Way → Way
  | run : Nat → Way → Way
  | fork : Nat → Way → Nat → Way → Way
def Way.takes : List Nat → Way → Way
  | [], p => p
  | i :: r, p => .take i (Way.takes r p)
def Way.length : Way → Nat
  | .fin => 0
  | .take _ p => p.length + 1
  | .run _ p => p.length + 1
  | .fork _ p _ q => max p.length q.length + 1

section
variable {P : Program} {ops : Array Oper} {Q : Exit → Act → World → Prop} {md : Region.Mode} {late : List Nat}

def wayOk (md : Region.Mode) (ops : Array Oper) (late : List Nat) : Way → Array Bool → Bool
  | .fin, listed => Region.ready md ops listed == []
  | .take i p, listed => Region.free md ops listed i && (Region.ready md ops listed).contains i && waits md ops late i && wayOk md ops late p (listed.setIfInBounds i true)
  | .run i p, listed => Region.ready md ops listed == [i] && wayOk md ops late p (listed.setIfInBounds i true)
  | .fork i p j q, listed => Region.ready md ops listed == [i, j] && wayOk md ops late p (listed.setIfInBounds i true) && wayOk md ops late q (listed.setIfInBounds j true)

def wpWay (P : Program) (ops : Array Oper) (Q : Exit → Act → World → Prop) (late : List Nat) : (World → Prop) → Way → Act → World → Prop
  | _, .fin, a, w => Q .normal a w
  | S, .take i p, a, w => ∃ S' : World → Prop, (∀ w, S' w → S w) ∧ ∃ o, ops[i]? = some o ∧ ∃ v, YieldsIf P ops S' o v a ∧ S' w ∧ wpWay P ops Q late S' p (a.put o.dst v) w
  | S, .run i p, a, w => ∃ S' : World → Prop, (∀ w, S' w → S w) ∧ wpOp P ops Q i (fun a' w' => (late.contains i = false → S' w') ∧ wpWay P ops Q late S' p a' w') a w
  | S, .fork i p j q, a, w => (∃ S' : World → Prop, (∀ w, S' w → S w) ∧ wpOp P ops Q i (fun a' w' => (late.contains i = false → S' w') ∧ wpWay P ops Q late S' p a' w') a w) ∧
      ∃ S' : World → Prop, (∀ w, S' w → S w) ∧ wpOp P ops Q j (fun a' w' => (late.contains j = false → S' w') ∧ wpWay P ops Q late S' q a' w') a w

theorem wpAnyZ_of_way (hs : Region.noSelect ops = true) (hQ : ∀ c a d v w, Q (.panic c) (Act.put a d v) w → Q (.panic c) a w) :
    ∀ (y : Way) (S : World → Prop) (n : Nat) (listed : Array Bool) (a : Act) (w : World), y.length ≤ n → wayOk md ops late y listed = true → wpWay P ops Q late S y a w → wpAnyZ P md ops Q late S n listed a w
  | .fin, S, n, listed, a, w, _, hk, h => wpAnyZ_done (by simpa [wayOk] using hk) h n
  | .take _ _, _, 0, _, _, _, hl, _, _ => by simp [Way.length] at hl
  | .run _ _, _, 0, _, _, _, hl, _, _ => by simp [Way.length] at hl
  | .fork _ _ _ _, _, 0, _, _, _, hl, _, _ => by simp [Way.length] at hl
  | .take i p, S, n + 1, listed, a, w, hl, hk, h => by
    simp only [wayOk, Bool.and_eq_true] at hk
    obtain ⟨⟨⟨k1, k2⟩, k3⟩, k4⟩ := hk
    obtain ⟨S', hSS, o, ho, v, hy, hS, h⟩ := h
    refine wpAnyZ_wide hSS _ _ _ _ ?_
    exact wpAnyZ_take ho hs k3 (fun c a w => hQ c a _ v w) n listed a w k1 (by simpa using k2) hy hS (wpAnyZ_of_way hs hQ p _ n _ _ _ (by simpa [Way.length] using hl) k4 h)
  | .run i p, S, n + 1, listed, a, w, hl, hk, h => by
    simp only [wayOk, Bool.and_eq_true] at hk
    obtain ⟨k1, k2⟩ := hk
    obtain ⟨S', hSS, h⟩ := h
    refine wpAnyZ_wide hSS _ _ _ _ ?_
    have hr : Region.ready md ops listed = [i] := by simpa using k1
    refine ⟨fun h0 => absurd (h0.symm.trans hr) (by simp), fun j hj => ?_⟩
    rw [hr] at hj
    obtain rfl := List.mem_singleton.1 hj
    exact wpOp_mono (fun a' w' h' => ⟨h'.1, wpAnyZ_of_way hs hQ p _ n _ a' w' (by simpa [Way.length] using hl) k2 h'.2⟩) h
  | .fork i p j q, S, n + 1, listed, a, w, hl, hk, h => by
    simp only [wayOk, Bool.and_eq_true] at hk
    obtain ⟨⟨k1, k2⟩, k3⟩ := hk
    obtain ⟨⟨S1, hS1, h1⟩, S2, hS2, h2⟩ := h
    have hl1 : p.length ≤ n := by simp [Way.length] at hl; omega
    have hl2 : q.length ≤ n := by simp [Way.length] at hl; omega
    have hr : Region.ready md ops listed = [i, j] := by simpa using k1
    refine ⟨fun h0 => absurd (h0.symm.trans hr) (by simp), fun x hx => ?_⟩
    rw [hr] at hx
    rcases List.mem_cons.1 hx with rfl | hx
    · exact wpOp_mono (fun a' w' h' => ⟨fun hf => hS1 _ (h'.1 hf), wpAnyZ_wide hS1 _ _ _ _ (wpAnyZ_of_way hs hQ p _ n _ a' w' hl1 k2 h'.2)⟩) h1
    · obtain rfl := List.mem_singleton.1 hx
      exact wpOp_mono (fun a' w' h' => ⟨fun hf => hS2 _ (h'.1 hf), wpAnyZ_wide hS2 _ _ _ _ (wpAnyZ_of_way hs hQ q _ n _ a' w' hl2 k3 h'.2)⟩) h2

/-- The beginning. -/
theorem wp_region_way {S : World → Prop} {ol : List Oper} {id : Nat} {a : Act} {w : World} {y : Way} (hm : P.follows .mixedOrders = true) (hs : Region.noSelect ol.toArray = true) (hl : y.length = ol.length)
    (hk : wayOk .any ol.toArray late y (Array.replicate ol.length false) = true) (hS : S w.drew)
    (h : S w.drew → wpWay P ol.toArray (NoPanic Q) late S y a w.drew) : (Code.region id ol.toArray true).wp P Q a w :=
  wp_region_noPanic (wp_region_any hm (wpAny_of_Z _ _ _ _ (wpAnyZ_of_way hs (fun _ _ _ _ _ h => h) y S ol.toArray.size _ a _ (by simp; omega) (by simpa using hk) (h hS))))

variable {i j : Nat} {p q : Way} {o : Oper} {a : Act} {w : World} {v : Value} {S : World → Prop}
theorem way_tight (S' : World → Prop) (hS : ∀ w, S' w → S w) (hw : S' w) (h : S' w → wpWay P ops Q late S' p a w) : wpWay P ops Q late S p a w := by
  have h := h hw
  match p, h with
  | .fin, h => exact h
  | .take _ _, ⟨S'', h1, h2⟩ => exact ⟨S'', fun w hw => hS w (h1 w hw), h2⟩
  | .run _ _, ⟨S'', h1, h2⟩ => exact ⟨S'', fun w hw => hS w (h1 w hw), h2⟩
  | .fork _ _ _ _, ⟨⟨S1, h1, h2⟩, S2, h3, h4⟩ => exact ⟨⟨S1, fun w hw => hS w (h1 w hw), h2⟩, S2, fun w hw => hS w (h3 w hw), h4⟩
theorem way_skip (ho : ops[i]? = some o) (hw : Region.wanted o (yielded ops a.tmps) = false) (hS : S w) (h : wpWay P ops Q late S p (a.put o.dst undef) w) : wpWay P ops Q late S (.take i p) a w :=
  ⟨S, fun _ h => h, o, ho, undef, .inr ⟨hw, rfl⟩, hS, h⟩
theorem way_take (ho : ops[i]? = some o) (hw : Region.wanted o (yielded ops a.tmps) = true) (hy : ∀ w, S w → (execOp a.eval o).run P w = .ok (.value v) w) (hS : S w)
    (h : wpWay P ops Q late S p (a.put o.dst v) w) : wpWay P ops Q late S (.take i p) a w :=
  ⟨S, fun _ h => h, o, ho, v, .inl ⟨hw, hy⟩, hS, h⟩
theorem way_run (ho : ops[i]? = some o) (hw : Region.wanted o (yielded ops a.tmps) = true)
    (h : ∀ K' : Act → World → Prop, Shut (∀ a w, S w → (S w → wpWay P ops Q late S p a w) → K' a w) → Oper.wp P o a w K' Q) : wpWay P ops Q late S (.run i p) a w :=
  ⟨S, fun _ h => h, wpOp_step ho fun K' hK => by rw [if_pos hw]; exact h K' fun a w hS hW => hK a w ⟨fun _ => hS, hW hS⟩⟩
theorem way_pass (ho : ops[i]? = some o) (hw : Region.wanted o (yielded ops a.tmps) = false) (hS : S w) (h : wpWay P ops Q late S p (a.put o.dst undef) w) : wpWay P ops Q late S (.run i p) a w :=
  ⟨S, fun _ h => h, wpOp_step ho fun K' hK => by rw [if_neg (by rw [hw]; decide)]; exact hK _ _ ⟨fun _ => hS, h⟩⟩
theorem way_last (hl : late.contains i = true) (ho : ops[i]? = some o) (hw : Region.wanted o (yielded ops a.tmps) = true)
    (h : ∀ K' : Act → World → Prop, Shut (∀ a w, wpWay P ops Q late S p a w → K' a w) → Oper.wp P o a w K' Q) : wpWay P ops Q late S (.run i p) a w :=
  ⟨S, fun _ h => h, wpOp_step ho fun K' hK => by rw [if_pos hw]; exact h K' fun a w hW => hK a w ⟨fun hf => absurd (hl.symm.trans hf) (by decide), hW⟩⟩
theorem way_fork (h1 : wpWay P ops Q late S (.run i p) a w) (h2 : wpWay P ops Q late S (.run j q) a w) : wpWay P ops Q late S (.fork i p j q) a w := ⟨h1, h2⟩
theorem way_done (h : Q .normal a w) : wpWay P ops (NoPanic Q) late S .fin a w := h
end
end Go.Proofs.Ytafgeoafmkbeoaa

namespace Go.Proofs.Ytafgeoafmkbeoaa
open Go Go.RowKit

section
variable {base : Nat} {w : World} {v X : Value} {xs ys : List Int} {m : Nat}
/-- A list of numbers is put behind another one, of the call's own. -/
theorem run_join (t ty : TypeId) (i : TypeInfo) (z : Value) {P : Program} (ht : P.underlying t = some (.slice 3)) (hi : P.info? 3 = some i) (hz : i.zero = some z) (hsize : i.size = 1) (hby : i.bytes = 8) (hzs : z.cells.size = 1)
    (hown : w.ownsRow base 3 1 v xs.length (xs.map (Value.int .i64))) (hG : Gives w 1 X m (ys.map (Value.int .i64))) (hm : m = ys.length) (hl : xs.length + ys.length ≤ 1000000) (hbase : base ≤ w.heap.size) :
    ∃ v' w', (Builtin.append_ #[t, t] ty #[v, X]).run P w = .ok v' w' ∧ w'.ownsRow base 3 1 v' (xs ++ ys).length ((xs ++ ys).map (Value.int .i64)) ∧ Keeps (fun i => v.ownBlock = some i) w w' ∧ (∀ g, v'.ownBlock = some g → v.ownBlock = some g ∨ w.heap.size ≤ g) := by
  subst hm
  rcases hG with ⟨rfl, h0, h1⟩ | ⟨ad, c, rfl, h1, h2⟩
  · have hy : ys = [] := List.length_eq_zero_iff.1 h0
    subst hy
    refine ⟨v, w, run_append_owned_none w base t ty 3 i 1 ht hi v xs.length (xs.map (Value.int .i64)) hown, ?_, Keeps.refl _ _, fun g hg => .inl hg⟩
    rw [List.append_nil]
    exact hown
  · obtain ⟨v', w', hr, h3, h4, _, h5⟩ := run_append_own_at (P := P) w base t ty 3 i z 1 8 ht hi hz hsize hby hzs (by decide) v xs.length (xs.map (Value.int .i64)) hown ad ys.length c (ys.map (Value.int .i64)) h1 h2 (kids_one ys) (by unfold maxLen; omega) (by omega) hbase
    refine ⟨v', w', hr, ?_, Keeps.of_grown h4, fun g hg => ?_⟩
    · rw [List.length_append, List.map_append]
      exact h3
    · rcases h5 with h5 | h5
      · exact .inl (h5 ▸ hg)
      · right
        rw [h5] at hg
        have : w.heap.size = g := by simpa using hg
        omega
theorem wp_join {o : Oper} {a : Act} {K : Act → World → Prop} {Q : Exit → Act → World → Prop} (s x : Operand)
    (ho : o.op = .call { callee := .builtin .append, args := #[s, x], argTypes := #[30, 30] }) (hs : a.eval s = v) (hx : a.eval x = X)
    (hown : w.ownsRow base 3 1 v xs.length (xs.map (Value.int .i64))) (hG : Gives w 1 X m (ys.map (Value.int .i64))) (hm : m = ys.length) (hl : xs.length + ys.length ≤ 1000000) (hbase : base ≤ w.heap.size)
    (h : ∀ v' w', w'.ownsRow base 3 1 v' (xs ++ ys).length ((xs ++ ys).map (Value.int .i64)) → Keeps (fun i => v.ownBlock = some i) w w' → (∀ g, v'.ownBlock = some g → v.ownBlock = some g ∨ w.heap.size ≤ g) → K (a.put o.dst v') w') : o.wp Try.prog a w K Q := by
  obtain ⟨i0, hi, hz0, hz1, hz2⟩ := info_parts Try.infoInt
  obtain ⟨v', w', hr, h2, h3, h4⟩ := run_join 30 o.type i0 _ Try.underlying30 hi hz0 hz1 hz2 rfl hown hG hm hl hbase
  unfold Oper.wp execOp
  simp only [ho, resolve, invoke, builtin, Sem.run_bind, Sem.run_pure, Result.andThen_ok, List.map_toArray, List.map_cons, List.map_nil, hs, hx, hr]
  exact h _ _ h2 h3 h4
theorem Pile.gives (h : Pile base w v xs) : Gives w 1 v xs.length (xs.map (Value.int .i64)) := by
  obtain ⟨A, c, rfl, hL⟩ := h.form
  exact nums_gives hL.nums rfl hL.nil
end

/-- While a signal is given: the board, and the three boxes that the function has captured: the board's address, what was told, the function itself. -/
structure Giv (lab : Nat → Nat) (w : World) (b : Nat) (A : Option Addr) (c : Nat) (ps : List Nat) (B : List Sg) (T : Nat) (v : Value) (out : List Int) : Prop where
  brd : BrdAt lab w b A c ps B
  hb : Has w T (.cells #[ptrTo b] 24 (0, 0))
  ht : Has w (T + 1) (.cells #[v] 30 (0, 0))
  hf : Has w (T + 2) (.cells #[.func (.func 23) #[] #[ptrTo T, ptrTo (T + 1), ptrTo (T + 2)]] 43 (0, 0))
  own : w.ownsRow 0 3 1 v out.length (out.map (Value.int .i64))
  l0 : lab T = 0
  l1 : lab (T + 1) = 0
  l2 : lab (T + 2) = 0
  lv : ∀ g, v.ownBlock = some g → lab g = 0
/-- What may change. -/
def GF (lab : Nat → Nat) (T : Nat) (v : Value) (i : Nat) : Prop := 2 ≤ lab i ∨ i = T + 1 ∨ v.ownBlock = some i
/-- What was told lies where it lay, or anew. -/
def Moved (w : World) (v v' : Value) : Prop := ∀ g, v'.ownBlock = some g → v.ownBlock = some g ∨ w.heap.size ≤ g

section
variable {lab : Nat → Nat} {w w' w'' : World} {b c T m q ib sb : Nat} {A : Option Addr} {ps : List Nat} {B : List Sg} {v v' v'' : Value} {out : List Int} {F : Nat → Prop}
theorem Moved.refl (w : World) (v : Value) : Moved w v v := fun _ h => .inl h
theorem Moved.trans (h : Moved w v v') (h' : Moved w' v' v'') (hs : w.heap.size ≤ w'.heap.size) : Moved w v v'' := fun g hg => by
  rcases h' g hg with h1 | h1
  · exact h g h1
  · exact .inr (Nat.le_trans hs h1)
theorem gf_trans (k : Keeps (GF lab T v) w w') (h : Moved w v v') (k' : Keeps (GF lab T v') w' w'') : Keeps (GF lab T v) w w'' := k.trans k' fun i hi hF => by
  rcases hF with h1 | h1 | h1
  · exact .inl h1
  · exact .inr (.inl h1)
  · rcases h i h1 with h2 | h2
    · exact .inr (.inr h2)
    · omega
theorem Giv.kept (h : Giv lab w b A c ps B T v out) (k : Keeps F w w') (hF : ∀ i, (lab i ≠ 0 ∨ i = T ∨ i = T + 1 ∨ i = T + 2 ∨ v.ownBlock = some i) → ¬ F i) : Giv lab w' b A c ps B T v out :=
  ⟨h.brd.kept k fun i hi => hF i (.inl hi), h.hb.kept k (hF _ (.inr (.inl rfl))), h.ht.kept k (hF _ (.inr (.inr (.inl rfl)))), h.hf.kept k (hF _ (.inr (.inr (.inr (.inl rfl))))), own_kept h.own k fun g hg => hF g (.inr (.inr (.inr (.inr hg)))), h.l0, h.l1, h.l2, h.lv⟩
theorem Giv.inside (h : Giv lab w b A c ps B T v out) : ∀ i, (lab i ≠ 0 ∨ i = T ∨ i = T + 1 ∨ i = T + 2 ∨ v.ownBlock = some i) → i < w.heap.size := by
  rintro i (h1 | rfl | rfl | rfl | h1)
  · exact h.brd.low i h1
  · exact h.hb.inside
  · exact h.ht.inside
  · exact h.hf.inside
  · exact own_in h.own i h1
theorem Giv.below (h : Giv lab w b A c ps B T v out) (k : Below w.heap.size w w') : Giv lab w' b A c ps B T v out :=
  h.kept (Keeps.of_below (F := fun i => w.heap.size ≤ i) k fun _ _ h => h) fun i hi => Nat.not_le.2 (h.inside i hi)
theorem Giv.drewN (h : Giv lab w b A c ps B T v out) (n : Nat) : Giv lab (w.drewN n) b A c ps B T v out := ⟨h.brd.drewN n, h.hb, h.ht, h.hf, h.own, h.l0, h.l1, h.l2, h.lv⟩
theorem gf_in (h : Giv lab w b A c ps B T v out) : ∀ i, GF lab T v i → i < w.heap.size := fun i hi => h.inside i (by
  rcases hi with h1 | h1 | h1
  · exact .inl (by omega)
  · exact .inr (.inr (.inl h1))
  · exact .inr (.inr (.inr (.inr h1))))
/-- What is told lies neither in a signal nor in a box. -/
theorem Giv.apart (h : Giv lab w b A c ps B T v out) {g i : Nat} (hg : v.ownBlock = some g) {cs : Array Value} {t : TypeId} {fr : Nat × Nat} (hi : Has w i (.cells cs t fr)) (ht : t ≠ 3) : g ≠ i := by
  rcases h.own.2 with ⟨rfl, _⟩ | ⟨g', cap, cur, rfl, _, hh, _⟩
  · cases hg
  · obtain rfl : g' = g := by simpa [Value.ownBlock] using hg
    exact Has.apart hh hi fun e => ht (by injection e with _ e; exact e.symm)
end
end Go.Proofs.Ytafgeoafmkbeoaa

namespace Go.Proofs.Ytafgeoafmkbeoaa
open Go Go.RowKit

theorem Try.infoSig : (Try.prog.info? 50).map (fun i => (i.zero, i.size, i.bytes)) = some (some (.pointer none), 1, 8) := by kernel_rfl
/-- A new signal's seventy cells. -/
def no70 : Array Value := #[.int .u32 0, .int .i32 0, .int .u32 0, .int .u32 0, .slice none 0 0] ++ Array.replicate 65 (.bool false)
theorem zero70 (w : World) : (zeroValue 67).run Try.prog w = .ok (.agg no70) w := by kernel_rfl
/-- A signal that is made, and not on the board yet. -/
def Made (w : World) (p : Nat) (given : Bool) (xs : List Int) : Prop := ∃ fl, Lat (.slice none 0 0 :: fl) 67 w p given ∧ Flags fl xs

section
variable {R : List Value} {t : TypeId} {w w' : World} {p k : Nat} {s : Bool} {v : Value} {fl : List Value} {xs : List Int} {F : Nat → Prop}
set_option maxRecDepth 100000 in
theorem made_new (w : World) : Made (w.alloc (.cells no70 67)) w.heap.size false [] := by
  refine ⟨List.replicate 65 (.bool false), ?_, by simp, fun k hk => ?_⟩
  · have := Has.fresh w (.cells no70 67)
    have e : no70 = (Value.int .u32 (bit false) :: Value.int .i32 0 :: Value.int .u32 0 :: Value.int .u32 (bit false) :: .slice none 0 0 :: List.replicate 65 (.bool false)).toArray := by
      kernel_rfl
    rw [e] at this
    exact this
  · rw [List.getElem?_replicate, if_pos hk]
    rfl
theorem Lat.flag (h : Lat (v :: fl) t w p s) (k : Nat) (u : Value) : Lat (v :: fl.set k u) t (w.setCell ⟨p, 5 + k, none⟩ u) p s := by
  have := Has.stored h (5 + k) u
  rw [Nat.add_comm 5 k] at this ⊢
  simpa only [Lat, Raw, List.setIfInBounds_toArray, List.set_cons_succ, List.set_cons_zero] using this
theorem Lat.flagAt (h : Lat (v :: fl) t w p s) (hf : Flags fl xs) (hk : k < 65) : w.cell? ⟨p, 5 + k, none⟩ = some (.bool (hasB xs (k : Int))) := by
  rw [Raw.cell h, Nat.add_comm 5 k, ← hf.2 k hk]
  rfl
theorem Made.mark (h : Made w p s xs) (hk : k < 65) : Made (w.setCell ⟨p, 5 + k, none⟩ (.bool true)) p s (xs ++ [(k : Int)]) := by
  obtain ⟨fl, h1, h2⟩ := h
  exact ⟨_, h1.flag k _, h2.set hk⟩
theorem Made.cell (h : Made w p s xs) (hk : k < 65) : w.cell? ⟨p, 5 + k, none⟩ = some (.bool (hasB xs (k : Int))) := by
  obtain ⟨fl, h1, h2⟩ := h
  exact h1.flagAt h2 hk
theorem Made.free (h : Made w p s xs) (i : Nat) : w.frozen? ⟨p, i, none⟩ = false := by
  obtain ⟨fl, h1, h2⟩ := h
  exact h1.free i
theorem Made.kept (h : Made w p s xs) (k : Keeps F w w') (hF : ¬ F p) : Made w' p s xs := by
  obtain ⟨fl, h1, h2⟩ := h
  exact ⟨fl, h1.kept k hF, h2⟩
theorem Made.below (h : Made w p s xs) (k : Below w.heap.size w w') : Made w' p s xs := by
  obtain ⟨fl, h1, h2⟩ := h
  exact ⟨fl, Has.below h1 k h1.in, h2⟩
theorem Made.in (h : Made w p s xs) : p < w.heap.size := by
  obtain ⟨fl, h1, h2⟩ := h
  exact h1.in
end

section
variable {lab : Nat → Nat} {w w' : World} {b : Nat} {B : List Sg}
theorem Brd.since (h : Brd lab w b B) (hb : Below w.heap.size w w') : Brd' lab w b B w' := ⟨lab, h.below hb, fun _ _ => rfl, Keeps.of_below hb fun i hi hle => by omega⟩
/-- A signal is put behind. -/
theorem BrdAt.more {W w3 : World} {A : Option Addr} {c : Nat} {ps : List Nat} {p g cap : Nat} {s : Bool} {fs : List Int} (h : BrdAt lab w b A c ps B) (hb : Below w.heap.size w W) (hM : Made W p s fs) (hp : w.heap.size ≤ p) (hl : B.length < 64)
    (ho : w3.ownsRow 0 50 1 (.slice (some ⟨g, 0, none⟩) (B.length + 1) cap) (B.length + 1) (ps.map ptrTo ++ [ptrTo p])) (hg : W.grownBy w3 (Value.slice A B.length c).ownBlock) (hat : (Value.slice A B.length c).ownBlock = some g ∨ g = W.heap.size) (hlt : g < w3.heap.size) :
    (∃ y, w3.cell? ⟨b, 0, none⟩ = some y) ∧ w3.frozen? ⟨b, 0, none⟩ = false ∧ (w3.setCell ⟨b, 0, none⟩ (.slice (some ⟨g, 0, none⟩) (B.length + 1) cap)).cell? ⟨b, 0, none⟩ = some (.slice (some ⟨g, 0, none⟩) (B.length + 1) cap) ∧
      Hid (Brd' lab w b (B ++ [⟨s, fs, []⟩]) (w3.setCell ⟨b, 0, none⟩ (.slice (some ⟨g, 0, none⟩) (B.length + 1) cap))) := by
  have hk := Keeps.of_grown hg
  have hbW := h.below hb
  have hpW := hM.in
  have hbl : b < w.heap.size := h.head.inside
  have hrow : ∀ i, (Value.slice A B.length c).ownBlock = some i → i < w.heap.size := fun i hi => own_in h.row i hi
  have hbr : ∀ i, (Value.slice A B.length c).ownBlock = some i → i ≠ b := fun i hi e => by
    rcases h.row.2 with ⟨hv, _⟩ | ⟨g', _, _, hv, _, hh, _⟩
    · rw [hv] at hi
      cases hi
    · rw [hv] at hi
      obtain rfl : g' = i := by simpa [Value.ownBlock] using hi
      exact Has.apart hh h.head (by simp) e
  have hH3 : Has w3 b (.cells #[.slice A B.length c] 48 (0, 0)) := hbW.head.kept hk fun e => hbr b e rfl
  have hM3 : Made w3 p s fs := hM.kept hk fun e => by have := hrow p e; omega
  have hgb : g ≠ b := fun e => by
    rcases hat with hat | hat
    · exact hbr g hat e
    · have := hb.size
      omega
  have hgp : g ≠ p := fun e => by
    rcases hat with hat | hat
    · have := hrow g hat
      omega
    · omega
  have hkw : Keeps (fun i => lab i = 1) w w3 := (Keeps.of_below (F := fun i => lab i = 1) hb fun i hi hle => by omega).trans hk fun i _ hi => h.rowMine i hi
  have hkf : Keeps (fun i => lab i = 1) w (w3.setCell ⟨b, 0, none⟩ (.slice (some ⟨g, 0, none⟩) (B.length + 1) cap)) := hkw.store (.inl h.mine) _
  have hst : Has (w3.setCell ⟨b, 0, none⟩ (.slice (some ⟨g, 0, none⟩) (B.length + 1) cap)) b (.cells #[.slice (some ⟨g, 0, none⟩) (B.length + 1) cap] 48 (0, 0)) := by
    have := hH3.stored 0 (.slice (some ⟨g, 0, none⟩) (B.length + 1) cap)
    simpa using this
  have hsz : (w3.setCell ⟨b, 0, none⟩ (.slice (some ⟨g, 0, none⟩) (B.length + 1) cap)).heap.size = w3.heap.size := by simp [World.setCell]
  obtain ⟨lab', hlab⟩ : ∃ lab' : Nat → Nat, ∀ i, lab' i = if i = p then B.length + 2 else if i = g then 1 else lab i := ⟨_, fun _ => rfl⟩
  have hold : ∀ i, i < w.heap.size → lab' i = lab i := fun i hi => by
    rw [hlab, if_neg (by omega)]
    by_cases e : i = g
    · rw [if_pos e]
      rcases hat with hat | hat
      · rw [e]
        exact (h.rowMine g hat).symm
      · have := hb.size
        omega
    · rw [if_neg e]
  refine ⟨⟨_, hH3.cell 0⟩, hH3.free 0, hst.cell 0, Lib.hid ⟨lab', ⟨some ⟨g, 0, none⟩, cap, ps ++ [p], fun i hi => ?_, by rw [List.length_append]; simp; omega, by rw [hold b hbl]; exact h.mine, ?_, ?_, fun g' hg' => ?_, by simp [h.same], fun i hi => ?_⟩, hold, hkf.wide fun i _ (hi : lab i = 1) => by rw [hi]; omega⟩⟩
  · rw [hsz]
    rw [hlab] at hi
    by_cases e : i = p
    · rw [e]
      exact hM3.in
    · rw [if_neg e] at hi
      by_cases e2 : i = g
      · omega
      · rw [if_neg e2] at hi
        exact Nat.lt_of_lt_of_le (h.low i hi) hkw.grows
  · rw [List.length_append]
    exact hst
  · rw [List.length_append, List.map_append]
    exact own_kept ho (Keeps.store (F := fun i => i = b) (p := ⟨b, 0, none⟩) (Keeps.refl _ _) (.inl rfl) _) fun g' hg' e => by
      obtain rfl : g = g' := by simpa [Value.ownBlock] using hg'
      exact hgb e
  · obtain rfl : g = g' := by simpa [Value.ownBlock] using hg'
    rw [hlab, if_neg hgp, if_pos rfl]
  · rw [List.length_append] at hi
    simp only [List.length_cons, List.length_nil] at hi
    by_cases e : i < B.length
    · have e1 : (ps ++ [p]).getD i 0 = ps.getD i 0 := by rw [List.getD_eq_getElem?_getD, List.getElem?_append_left (by rw [h.same]; exact e), List.getD_eq_getElem?_getD]
      have e2 : (B ++ [(⟨s, fs, []⟩ : Sg)]).getD i Sg.zero = B.getD i Sg.zero := by rw [List.getD_eq_getElem?_getD, List.getElem?_append_left e, List.getD_eq_getElem?_getD]
      rw [e1, e2]
      refine ((h.sigs i e).kept hkf fun j hj _ => by rw [hj]; omega).wide fun j hj _ => ?_
      have : j < w.heap.size := h.low j (by rw [hj]; omega)
      rw [hold j this]
      exact hj
    · obtain rfl : i = B.length := by omega
      have e1 : (ps ++ [p]).getD B.length 0 = p := by rw [← h.same, List.getD_eq_getElem?_getD, List.getElem?_append_right (Nat.le_refl _), Nat.sub_self]; rfl
      have e2 : (B ++ [(⟨s, fs, []⟩ : Sg)]).getD B.length Sg.zero = ⟨s, fs, []⟩ := by rw [List.getD_eq_getElem?_getD, List.getElem?_append_right (Nat.le_refl _), Nat.sub_self]; rfl
      rw [e1, e2]
      obtain ⟨fl, hm1, hm2⟩ := hM3
      refine ⟨.slice none 0 0, fl, hm1.kept (Keeps.store (F := fun i => i = b) (p := ⟨b, 0, none⟩) (Keeps.refl _ _) (.inl rfl) _) (by omega), hm2, Pile.nil _ _, ?_, fun g' hg' => by cases hg'⟩
      show lab' p = B.length + 2
      rw [hlab, if_pos rfl]

theorem all_take {fs : List Int} {j : Nat} (h : (fs.take j).all (sThere B) = true) (hj : j < fs.length) : (fs.take (j + 1)).all (sThere B) = sThere B fs[j] := by
  rw [List.take_add_one, List.getElem?_eq_getElem hj, List.all_append, h]
  simp
theorem any_take {fs : List Int} {j : Nat} (hj : j < fs.length) : (fs.take (j + 1)).any (sGiven B) = ((fs.take j).any (sGiven B) || sGiven B fs[j]) := by
  rw [List.take_add_one, List.getElem?_eq_getElem hj, List.any_append]
  simp
theorem all_not {fs : List Int} {j : Nat} (hj : j < fs.length) (h : sThere B fs[j] = false) : fs.all (sThere B) = false := by
  rw [Bool.eq_false_iff]
  intro h2
  have := List.all_eq_true.1 h2 fs[j] (List.getElem_mem hj)
  rw [h] at this
  cases this

set_option maxHeartbeats 8000000 in
set_option maxRecDepth 100000 in
theorem sMake (fs : List Int) (A2 : Option Addr) (c2 : Nat) (h : Brd lab w b B) (hL : ListIn w A2 c2 fs) (hfs : fs.length ≤ 1000) : Calls Try.prog 9 #[ptrTo b, .slice A2 fs.length c2] w fun e w' => e = .returned (.tuple #[.int .i64 (smNo B fs), .int .i64 (smErr B fs)]) ∧ Brd' lab w b (smL B fs) w' := by
  obtain ⟨i0, hi, hz0, hz1, hz2⟩ := info_parts Try.infoSig
  have Hi := Lib.hid hi
  have Hz0 := Lib.hid hz0
  have Hz1 := Lib.hid hz1
  have Hz2 := Lib.hid hz2
  obtain ⟨A, c, ps, h⟩ := h
  have hfew := h.few
  obtain ⟨RN, hRN⟩ : ∃ RN, RN = smNo B fs := ⟨_, rfl⟩
  obtain ⟨RE, hRE⟩ : ∃ RE, RE = smErr B fs := ⟨_, rfl⟩
  obtain ⟨RL, hRL⟩ : ∃ RL, RL = smL B fs := ⟨_, rfl⟩
  have r1 : fs.all (sThere B) = false → RN = 0 ∧ RE = 1 ∧ RL = B := fun e => by
    have e' : ¬ fs.all (sThere B) = true := by rw [e]; decide
    rw [hRN, hRE, hRL, smNo, smErr, smL, if_neg e', if_neg e', if_neg e']
    exact ⟨rfl, rfl, rfl⟩
  have r2 : fs.all (sThere B) = true → ¬ B.length < 64 → RN = 0 ∧ RE = 9 ∧ RL = B := fun e e2 => by
    rw [hRN, hRE, hRL, smNo, smErr, smL, if_pos e, if_pos e, if_pos e, if_neg e2, if_neg e2, if_neg e2]
    exact ⟨rfl, rfl, rfl⟩
  have r3 : fs.all (sThere B) = true → B.length < 64 → RN = (B.length : Int) + 1 ∧ RE = 0 ∧ RL = B ++ [⟨fs.any (sGiven B), fs, []⟩] := fun e e2 => by
    rw [hRN, hRE, hRL, smNo, smErr, smL, if_pos e, if_pos e, if_pos e, if_pos e2, if_pos e2, if_pos e2]
    exact ⟨rfl, rfl, rfl⟩
  rw [← hRN, ← hRE, ← hRL]
  obtain ⟨n, hn⟩ : ∃ n, n = fs.length := ⟨_, rfl⟩
  rw [← hn] at hfs
  rw [← hn]
  have Hn := Lib.hid hn
  have H := Lib.hid h
  have HL := Lib.hid hL
  have R1 := Lib.hid r1
  have R2 := Lib.hid r2
  have R3 := Lib.hid r3
  clear hi hz0 hz1 hz2 h hL hRN hRE hRL r1 r2 r3 hn
  go_enter Try.func9, Try.ntmps9
  go_wp2_with fail
  simp only [zero70, Result.andThen]
  rw [Oper.upon_value]
  go_wp2_with fail
  have hM0 := made_new w
  have hb0 : Below w.heap.size w (w.alloc (.cells no70 67)) := (Below.refl _ w).alloc (Nat.le_refl _) _
  obtain ⟨w1, hw1⟩ : ∃ w1, w1 = w.alloc (.cells no70 67) := ⟨_, rfl⟩
  rw [← hw1] at hM0 hb0
  rw [← hw1]
  obtain ⟨p, hp⟩ : ∃ p, p = w.heap.size := ⟨_, rfl⟩
  rw [← hp] at hM0
  rw [← hp]
  have HM0 := Lib.hid hM0
  have Hb0 := Lib.hid hb0
  have Hp := Lib.hid hp
  clear hM0 hb0 hw1 hp
  go_loopw [7, 17] (fun gv i wr => ∃ j : Nat, gv = .bool ((fs.take j).any (sGiven B)) ∧ i = .int .i64 j ∧ j ≤ n ∧ (fs.take j).all (sThere B) = true ∧ Made wr p false (fs.take j) ∧ Below w.heap.size w wr) (fun _ i _ => n - (intOf i).toNat)
  case atStart => exact ⟨0, rfl, rfl, Nat.zero_le _, rfl, HM0.out, Hb0.out⟩
  case round =>
    obtain ⟨j, rfl, rfl, hj, hall, hM, hb⟩ := hrel
    have Hall := Lib.hid hall
    have HM := Lib.hid hM
    have Hb := Lib.hid hb
    have HA := Lib.hid (H.out.below hb)
    clear hall hM HM0 Hb0
    by_cases hjn : (j : Int) < n
    · have hjk : j < fs.length := by rw [← Hn.out]; omega
      obtain ⟨b', off, rfl, hB, hc⟩ := (HL.out.below hb).nums j hjk
      have ht1 := all_take Hall.out hjk
      have ht2 := any_take (B := B) hjk
      have ht3 := all_not (B := B) hjk
      have htk : fs.take (j + 1) = fs.take j ++ [fs[j]] := by rw [List.take_add_one, List.getElem?_eq_getElem hjk]; rfl
      obtain ⟨y, hy⟩ : ∃ y, y = fs[j] := ⟨_, rfl⟩
      rw [← hy] at hc ht1 ht2 ht3 htk
      have T1 := Lib.hid ht1
      have T2 := Lib.hid ht2
      have T3 := Lib.hid ht3
      have Tk := Lib.hid htk
      clear ht1 ht2 ht3 htk hy hB hjk hb
      obtain ⟨gv, hgv⟩ : ∃ gv, gv = (fs.take j).any (sGiven B) := ⟨_, rfl⟩
      rw [← hgv] at T2
      rw [← hgv]
      clear hgv
      cases hth : sThere B y with
      | false =>
        have HF := Lib.hid (sFind_not ⟨A, c, ps, HA.out⟩ hth)
        obtain ⟨rfl, rfl, rfl⟩ := R1.out (T3.out hth)
        have HE : Hid (Brd' lab w b RL wr) := Lib.hid (Brd.since ⟨A, c, ps, H.out⟩ Hb.out)
        clear hth
        go_wp2_with fail
        refine HF.out.mono ?_
        rintro e w2 ⟨rfl, rfl⟩
        go_wp2
        go_ret2
        exact ⟨rfl, HE.out⟩
      | true =>
        obtain ⟨m, rfl, hm⟩ := sThere_at hth
        have HF := Lib.hid (sFind HA.out hm)
        have hm9 : m + 1 < 65 := by omega
        have ecast : ((m + 1 : Nat) : Int) = (m : Int) + 1 := by omega
        have q1 := HM.out.cell hm9
        have q2 := HM.out.free (5 + (m + 1))
        have hmk := HM.out.mark hm9
        rw [ecast, ← Tk.out] at hmk
        have hb2 : Below w.heap.size w (wr.setCell ⟨p, 5 + (m + 1), none⟩ (.bool true)) := Hb.out.setCell (p := ⟨p, 5 + (m + 1), none⟩) (Nat.le_of_eq Hp.out.symm) _
        obtain ⟨v, fl, g1, -⟩ := (H.out.below hb2).sigs m hm
        have e1 : sGiven B ((m : Int) + 1) = (B.getD m Sg.zero).given := by unfold sGiven; rw [hth, sg_m]; rfl
        obtain ⟨gy, hgy⟩ : ∃ gy, gy = (B.getD m Sg.zero).given := ⟨_, rfl⟩
        obtain ⟨q, hq⟩ : ∃ q, q = ps.getD m 0 := ⟨_, rfl⟩
        rw [← hgy] at g1 e1
        rw [← hq] at g1 HF
        have HD := Lib.hid (done_any _ _ _ g1)
        have t1 := T1.out
        have t2 := T2.out
        rw [hth] at t1
        rw [e1] at t2
        have T1' := Lib.hid t1
        have T2' := Lib.hid t2
        have Hmk := Lib.hid hmk
        have Hb2 := Lib.hid hb2
        clear hth hmk hb2 g1 e1 hgy hq t1 t2 T1 T2
        cases gv with
        | true =>
          go_wp2_with fail
          refine HF.out.mono ?_
          rintro e w2 ⟨rfl, rfl⟩
          go_wp2
          go_roundw
          case rel => exact ⟨j + 1, by rw [T2'.out]; rfl, by go_num, by omega, T1'.out, Hmk.out, Hb2.out⟩
          case measure => simp [intOf]; omega
        | false =>
          go_wp2_with fail
          refine HF.out.mono ?_
          rintro e w2 ⟨rfl, rfl⟩
          go_wp2_with fail
          refine HD.out.mono ?_
          rintro e w2 ⟨rfl, rfl⟩
          go_wp2
          go_roundw
          case rel => exact ⟨j + 1, by rw [T2'.out]; rfl, by go_num, by omega, T1'.out, Hmk.out, Hb2.out⟩
          case measure => simp [intOf]; omega
    · have htk : fs.take j = fs := List.take_of_length_le (by rw [← Hn.out]; omega)
      have hall := Hall.out
      have hM := HM.out
      rw [htk] at hall hM
      rw [htk]
      have c0 : wr.cell? ⟨b, 0, none⟩ = some (.slice A B.length c) := HA.out.head.cell 0
      obtain ⟨gv, hgv⟩ : ∃ gv, gv = fs.any (sGiven B) := ⟨_, rfl⟩
      rw [← hgv] at R3
      rw [← hgv]
      by_cases hfull : B.length < 64
      · obtain ⟨rfl, rfl, rfl⟩ := R3.out hall hfull
        have zf : decide ((B.length : Int) ≥ 64) = false := decide_eq_false (by omega)
        have HM' := Lib.hid hM
        have HF' := Lib.hid hfull
        clear hall hM htk hgv Hall HM HL hfull
        go_upto_if 45 with (fail)
        go_cut [] (fun wc => Made wc p gv fs ∧ Below w.heap.size w wc)
        case first =>
          cases gv with
          | true =>
            obtain ⟨fl, g1, g2⟩ := HM'.out
            have HD := Lib.hid (do_none p wr g1)
            have G2 := Lib.hid g2
            clear g1 g2
            go_wp2_with fail
            refine HD.out.mono ?_
            rintro e w2 ⟨rfl, hl2, hk2⟩
            go_wp2
            go_meet
            exact ⟨⟨fl, hl2, G2.out⟩, below_then Hb.out hk2 Hb.out.size (just_far (Nat.le_of_eq Hp.out.symm))⟩
          | false =>
            go_wp2
            go_meet
            exact ⟨HM'.out, Hb.out⟩
        case rest =>
          obtain ⟨hMc, hbc⟩ := hcut
          have c1 : wc.cell? ⟨b, 0, none⟩ = some (.slice A B.length c) := (H.out.below hbc).head.cell 0
          obtain ⟨W, hW⟩ : ∃ W, W = wc.alloc (.cells #[ptrTo p] 50) := ⟨_, rfl⟩
          have hlit : Has W wc.heap.size (.cells #[ptrTo p] 50 (0, 0)) := by rw [hW]; exact Has.fresh _ _
          have hbcW : Below wc.heap.size wc W := by rw [hW]; exact (Below.refl _ wc).alloc (Nat.le_refl _) _
          have hbW : Below w.heap.size w W := hbc.trans (hbcW.mono hbc.size)
          have HC := Lib.hid fun g cap w3 ho hg hat hlt => H.out.more (w3 := w3) (g := g) (cap := cap) hbW (hMc.below hbcW) (Nat.le_of_eq Hp.out.symm) HF'.out ho hg hat hlt
          have Hown := Lib.hid (H.out.below hbW).row
          have Hnews := Lib.hid (show ∀ j u, [ptrTo p][j]? = some u → W.cell? ((⟨wc.heap.size, 0, none⟩ : Addr).add j) = some u from World.news_of_block hlit)
          have HWs := Lib.hid (Nat.zero_le W.heap.size)
          have HW := Lib.hid hW
          rw [HW.out] at HC Hown Hnews HWs
          clear hMc hbc hlit hbcW hbW hW HW HM' c0 hb Hb HA R1 R2 R3
          go_wp2_with (at_builtin; refine wpList_append_lies _ rfl (.tmp 54) (.tmp 56) 46 rfl 0 50 i0 _ 1 8 Try.underlying46 Hi.out Hz0.out Hz1.out Hz2.out rfl (by decide) (.slice A B.length c) B.length (ps.map ptrTo) rfl Hown.out _ 1 1 [ptrTo p] rfl rfl Hnews.out (by intro u hu; obtain rfl := List.mem_singleton.1 hu; rfl) (by decide) (by unfold maxLen; omega) (by omega) HWs.out _ rfl ?_; intro g cap w3 ho3 hg3 hat hlt; obtain ⟨⟨y3, s1⟩, s2, s3, HGK⟩ := HC.out g cap w3 ho3 hg3 hat hlt)
          go_ret2
          exact ⟨rfl, HGK.out⟩
      · have hfg := hfull
        obtain ⟨rfl, rfl, hRL⟩ := R2.out hall hfull
        have zf : decide ((B.length : Int) ≥ 64) = true := decide_eq_true (by omega)
        have HE : Hid (Brd' lab w b RL wr) := Lib.hid (by rw [hRL]; exact Brd.since ⟨A, c, ps, H.out⟩ Hb.out)
        clear hall hM htk hgv Hall HM HL hRL hfull hfg
        go_wp2
        go_ret2
        exact ⟨rfl, HE.out⟩
theorem sMake_nil (v : Value) (w : World) : Calls Try.prog 9 #[.pointer none, v] w fun e w' => e = .returned (.tuple #[.int .i64 0, .int .i64 1]) ∧ w = w' := by
  go_enter Try.func9, Try.ntmps9
  go_wp2
  go_ret2
  exact ⟨rfl, rfl⟩
end
end Go.Proofs.Ytafgeoafmkbeoaa

namespace Go.Proofs.Ytafgeoafmkbeoaa
open Go Go.RowKit

section
variable {lab : Nat → Nat} {w : World} {b c T : Nat} {A : Option Addr} {ps : List Nat}
/-- What a call of the function does that calls itself, where less than so many signals may be given still. -/
def GiveOk (lab : Nat → Nat) (b c T : Nat) (A : Option Addr) (ps : List Nat) (M : Nat) : Prop := ∀ (w : World) (B : List Sg) (v : Value) (out : List Int) (id : Int), sLeft B < M → out.length + sCount B ≤ 1000000 → Giv lab w b A c ps B T v out →
  Calls Try.prog 23 #[.int .i64 id, ptrTo T, ptrTo (T + 1), ptrTo (T + 2)] w fun e w' => e = .returned (.bool (sFree B id)) ∧ ∃ v', Giv lab w' b A c ps (gvL B [id]).1 T v' (out ++ (gvL B [id]).2) ∧ Keeps (GF lab T v) w w' ∧ Moved w v v'

/-- The signal is given, and has its tags still. -/
def half (B : List Sg) (m : Nat) : List Sg := B.modify m fun x => ⟨true, x.follows, x.tags⟩
theorem half_mark {B : List Sg} {m : Nat} : (half B m).modify m (fun x => ⟨true, x.follows, []⟩) = sMark B ((m : Int) + 1) := by
  rw [half, modify_twice, sMark_m]
  rfl

set_option maxHeartbeats 16000000 in
set_option maxRecDepth 100000 in
theorem inn_any {B : List Sg} {m q ib sb : Nat} {v : Value} {out : List Int} (IH : GiveOk lab b c T A ps (sLeft B)) (hm : m < B.length) (hfree : sFree B ((m : Int) + 1) = true) (hcnt : out.length + sCount B ≤ 1000000)
    (h : Giv lab w b A c ps (half B m) T v out) (hq : ps.getD m 0 = q) (hs : Has w sb (.cells #[ptrTo q] 50 (0, 0))) (hi : Has w ib (.cells #[.int .i64 ((m : Int) + 1)] 3 (0, 0))) (hib : lab ib = 0) (hvi : v.ownBlock ≠ some ib) (hls : lab sb = 0) :
    Calls Try.prog 24 #[ptrTo (T + 1), ptrTo sb, ptrTo T, ptrTo ib, ptrTo (T + 2)] w fun e w' => e = .returned (.tuple #[]) ∧ ∃ v', Giv lab w' b A c ps (gvL B [(m : Int) + 1]).1 T v' (out ++ (gvL B [(m : Int) + 1]).2) ∧ Keeps (GF lab T v) w w' ∧ Moved w v v' := by
  have hfew := h.brd.few
  have hhl : (half B m).length = B.length := by unfold half; rw [List.length_modify]
  rw [hhl] at hfew
  have hgx : (half B m).getD m Sg.zero = ⟨true, (B.getD m Sg.zero).follows, (B.getD m Sg.zero).tags⟩ := by
    unfold half
    rw [getD_modify hm, if_pos rfl]
  have hsig := h.brd.sigs m (by rw [hhl]; exact hm)
  rw [hgx, hq] at hsig
  obtain ⟨tv, fl, g1, g2, g3, g4, g5⟩ := hsig
  have hxs : (B.getD m Sg.zero).tags = (sg B ((m : Int) + 1)).tags := by rw [sg_m]
  have hle := sCount_mark (sFree_iff.1 hfree).1
  have hlf := sLeft_mark hfree
  rw [gv_yes hfree]
  obtain ⟨tg, htg⟩ : ∃ tg, tg = (sg B ((m : Int) + 1)).tags := ⟨_, rfl⟩
  rw [← htg] at hle hxs
  rw [← htg]
  simp only [hxs] at g3
  -- behind the first append, the store, and the signal's tags cleared
  have HC : Hid (∀ v1 w1, w1.ownsRow 0 3 1 v1 (out ++ tg).length ((out ++ tg).map (Value.int .i64)) → Keeps (fun i => v.ownBlock = some i) w.drew w1 → (∀ g, v1.ownBlock = some g → v.ownBlock = some g ∨ w.drew.heap.size ≤ g) →
      (∃ y, w1.cell? ⟨T + 1, 0, none⟩ = some y) ∧ w1.frozen? ⟨T + 1, 0, none⟩ = false ∧ w1.cell? ⟨sb, 0, none⟩ = some (ptrTo q) ∧ w1.cell? ⟨q, 4, none⟩ = some tv ∧ w1.cell? ⟨T + 1, 0, none⟩ = some v ∧
      (w1.setCell ⟨T + 1, 0, none⟩ v1).cell? ⟨sb, 0, none⟩ = some (ptrTo q) ∧ (∃ y, (w1.setCell ⟨T + 1, 0, none⟩ v1).cell? ⟨q, 4, none⟩ = some y) ∧ (w1.setCell ⟨T + 1, 0, none⟩ v1).frozen? ⟨q, 4, none⟩ = false ∧
      Hid (Giv lab ((w1.setCell ⟨T + 1, 0, none⟩ v1).setCell ⟨q, 4, none⟩ (.slice none 0 0)) b A c ps (sMark B ((m : Int) + 1)) T v1 (out ++ tg) ∧ Keeps (GF lab T v) w ((w1.setCell ⟨T + 1, 0, none⟩ v1).setCell ⟨q, 4, none⟩ (.slice none 0 0)) ∧ Moved w v v1 ∧
        Has ((w1.setCell ⟨T + 1, 0, none⟩ v1).setCell ⟨q, 4, none⟩ (.slice none 0 0)) ib (.cells #[.int .i64 ((m : Int) + 1)] 3 (0, 0)) ∧ v1.ownBlock ≠ some ib)) := Lib.hid fun v1 w1 ho hk hat => by
    have hk' : Keeps (fun i => v.ownBlock = some i) w w1 := ((Keeps.refl _ w).drewN 1).also hk
    have hat' : Moved w v v1 := hat
    have n1 : ∀ i, lab i ≠ 0 → v.ownBlock ≠ some i := fun i hi e => hi (h.lv i e)
    have n2 : v.ownBlock ≠ some (T + 1) := fun e => h.apart e h.ht (by decide) rfl
    have n3 : v.ownBlock ≠ some sb := fun e => h.apart e hs (by decide) rfl
    have n4 : v.ownBlock ≠ some T := fun e => h.apart e h.hb (by decide) rfl
    have n5 : v.ownBlock ≠ some (T + 2) := fun e => h.apart e h.hf (by decide) rfl
    have hqT : q ≠ T + 1 := fun e => by rw [e, h.l1] at g4; omega
    have hqs : q ≠ sb := fun e => by rw [e, hls] at g4; omega
    have hqi : q ≠ ib := fun e => by rw [e, hib] at g4; omega
    have hsT : sb ≠ T + 1 := Has.apart hs h.ht (by simp)
    have hiT : ib ≠ T + 1 := Has.apart hi h.ht (by simp)
    have m1 : Has w1 (T + 1) (.cells #[v] 30 (0, 0)) := h.ht.kept hk' n2
    have m2 : Has w1 sb (.cells #[ptrTo q] 50 (0, 0)) := hs.kept hk' n3
    have m3 : Lat (tv :: fl) 67 w1 q true := g1.kept hk' (n1 q (by rw [g4]; omega))
    have m4 : Lat (tv :: fl) 67 (w1.setCell ⟨T + 1, 0, none⟩ v1) q true := Has.aside m3 hqT _
    have m5 : Lat (.slice none 0 0 :: fl) 67 ((w1.setCell ⟨T + 1, 0, none⟩ v1).setCell ⟨q, 4, none⟩ (.slice none 0 0)) q true := m4.tags _
    have hkT : Keeps (fun i => v.ownBlock = some i ∨ i = T + 1 ∨ lab i = m + 2) w ((w1.setCell ⟨T + 1, 0, none⟩ v1).setCell ⟨q, 4, none⟩ (.slice none 0 0)) := ((hk'.wide fun _ _ hi => .inl hi).store (.inl (.inr (.inl rfl))) _).store (.inl (.inr (.inr g4))) _
    refine ⟨⟨_, m1.cell 0⟩, m1.free 0, m2.cell 0, m3.there, m1.cell 0, (m2.aside (p := ⟨T + 1, 0, none⟩) hsT _).cell 0, ⟨_, m4.there⟩, m4.free 4, Lib.hid ⟨⟨?_, ?_, ?_, ?_, ?_, h.l0, h.l1, h.l2, fun g hg => ?_⟩, hkT.wide fun i _ hi => ?_, hat', ?_, fun e => ?_⟩⟩
    · rw [← half_mark]
      have hsz : ((w1.setCell ⟨T + 1, 0, none⟩ v1).setCell ⟨q, 4, none⟩ (.slice none 0 0)).heap.size = w1.heap.size := by simp [World.setCell]
      have hkl : Keeps (fun i => lab i = m + 2 ∨ lab i = 0) w ((w1.setCell ⟨T + 1, 0, none⟩ v1).setCell ⟨q, 4, none⟩ (.slice none 0 0)) := hkT.wide fun i _ hi => by
        rcases hi with h1 | h1 | h1
        · exact .inr (h.lv i h1)
        · exact .inr (by rw [h1]; exact h.l1)
        · exact .inl h1
      refine h.brd.turn0 hkl (fun i hi => by rw [hsz]; exact Nat.lt_of_lt_of_le (h.brd.low i hi) hk'.grows) ?_
      rw [hgx, hq]
      exact ⟨.slice none 0 0, fl, m5, g2, Pile.nil _ _, g4, fun g hg => by cases hg⟩
    · exact h.hb.kept hkT fun hF => by
        rcases hF with h1 | h1 | h1
        · exact n4 h1
        · omega
        · rw [h.l0] at h1; omega
    · have hne : T + 1 ≠ q := fun e => hqT e.symm
      have := (m1.stored 0 v1).aside (p := ⟨q, 4, none⟩) hne (.slice none 0 0)
      simpa using this
    · exact h.hf.kept hkT fun hF => by
        rcases hF with h1 | h1 | h1
        · exact n5 h1
        · omega
        · rw [h.l2] at h1; omega
    · have x1 : ∀ g, v1.ownBlock = some g → g ≠ T + 1 := fun g hg e => by
        rcases hat' g hg with h1 | h1
        · exact n2 (e ▸ h1)
        · have := h.ht.inside
          omega
      have x2 : ∀ g, v1.ownBlock = some g → g ≠ q := fun g hg e => by
        rcases hat' g hg with h1 | h1
        · exact n1 q (by rw [g4]; omega) (e ▸ h1)
        · have := g1.in
          omega
      exact own_kept (own_kept ho (Keeps.store (F := fun i => i = T + 1) (p := ⟨T + 1, 0, none⟩) (Keeps.refl _ _) (.inl rfl) _) x1) (Keeps.store (F := fun i => i = q) (p := ⟨q, 4, none⟩) (Keeps.refl _ _) (.inl rfl) _) x2
    · rcases hat' g hg with h1 | h1
      · exact h.lv g h1
      · by_cases e : lab g = 0
        · exact e
        · have := h.brd.low g e
          omega
    · rcases hi with h1 | h1 | h1
      · exact .inr (.inr h1)
      · exact .inr (.inl h1)
      · exact .inl (by omega)
    · exact hi.kept hkT fun hF => by
        rcases hF with h1 | h1 | h1
        · exact hvi h1
        · exact hiT h1
        · rw [hib] at h1; omega
    · rcases hat' ib e with h1 | h1
      · exact hvi h1
      · have := hi.inside
        omega
  have q1 : w.cell? ⟨T + 1, 0, none⟩ = some v := h.ht.cell 0
  have q2 : w.cell? ⟨sb, 0, none⟩ = some (ptrTo q) := hs.cell 0
  have q3 : w.cell? ⟨q, 4, none⟩ = some tv := g1.there
  have HO := Lib.hid h.own
  have HG := Lib.hid g3.gives
  have Hcnt : Hid (out.length + tg.length + sCount (sMark B ((m : Int) + 1)) ≤ 1000000) := Lib.hid (by omega)
  have hcl : out.length + tg.length ≤ 1000000 := by have := Hcnt.out; omega
  have Hfr := Lib.hid hfree
  have HIH := Lib.hid IH
  have Hlf : Hid (sLeft (sMark B ((m : Int) + 1)) < sLeft B) := Lib.hid (by omega)
  have Hib : Hid (lab ib = 0 ∧ ib ≠ T + 1) := Lib.hid ⟨hib, Has.apart hi h.ht (by simp)⟩
  clear h hs hi hib hvi hls hhl hgx g1 g2 g3 g4 g5 hxs hle hlf htg hcnt hfree IH hq
  obtain ⟨C, hC⟩ : ∃ C, C = sMark B ((m : Int) + 1) := ⟨_, rfl⟩
  have hfol : ∀ j : Nat, j < B.length → ∀ ws, (sg (gvL C ws).1 ((j : Int) + 1)).follows = (sg B ((j : Int) + 1)).follows := fun j hj ws => by
    rw [hC, gv_follows (by rw [sThere_len sMark_length]; exact sThere_m hj), sg_fol (sFree_iff.1 Hfr.out).1 (sThere_m hj)]
  have hCl : C.length = B.length := by rw [hC, sMark_length]
  have hfin : sFolN B ((m : Int) + 1) B.length = sFol B ((m : Int) + 1) := rfl
  rw [← hC] at HC Hcnt Hlf
  rw [← hC, ← hfin]
  have Hfol := Lib.hid hfol
  have HCl := Lib.hid hCl
  obtain ⟨n, hn⟩ : ∃ n, n = B.length := ⟨_, rfl⟩
  rw [← hn] at hfew HCl hm
  rw [← hn]
  have Hn := Lib.hid hn
  clear hC hfol hCl hfin hn
  go_enter Try.func24, Try.ntmps24
  go_wp2_with fail
  refine wp_region_way (late := [6]) (S := fun w' => w'.cell? ⟨T + 1, 0, none⟩ = some v ∧ w'.cell? ⟨sb, 0, none⟩ = some (ptrTo q) ∧ w'.cell? ⟨q, 4, none⟩ = some tv) (y := Way.takes [0, 1, 2, 3, 4] (.run 5 (.run 6 .fin))) (by kernel_rfl) (by kernel_rfl) rfl (by kernel_rfl) ⟨q1, q2, q3⟩ (fun hHeld => ?_)
  simp only [Way.takes]
  (repeat (first | (refine way_skip (by simp only [List.getElem?_toArray, List.getElem?_cons_succ, List.getElem?_cons_zero]; rfl) (by rfl) hHeld ?_; (try simp only [Act.put, List.setIfInBounds_toArray, List.set_cons_zero, List.set_cons_succ])) | (refine way_pass (by simp only [List.getElem?_toArray, List.getElem?_cons_succ, List.getElem?_cons_zero]; rfl) (by rfl) hHeld ?_; (try simp only [Act.put, List.setIfInBounds_toArray, List.set_cons_zero, List.set_cons_succ])) | (refine way_take (v := ?_) (by simp only [List.getElem?_toArray, List.getElem?_cons_succ, List.getElem?_cons_zero]; rfl) (by rfl) ?_ hHeld ?_; rotate_left; (focus (intro w hSw; (try dsimp only at hSw); go_simp; (try with_reducible rfl); done)); (try simp only [Act.put, List.setIfInBounds_toArray, List.set_cons_zero, List.set_cons_succ]))))
  refine way_run (by simp only [List.getElem?_toArray, List.getElem?_cons_succ, List.getElem?_cons_zero]; rfl) (by rfl) (fun K hK => ?_)
  refine wp_join (base := 0) (xs := out) (ys := tg) (.tmp 7) (.tmp 11) rfl rfl rfl HO.out HG.out rfl hcl (Nat.zero_le _) (fun v1 w1 ho1 hk1 hat1 => ?_)
  obtain ⟨⟨y1, s1⟩, s2, s3, s4, s5, s6, ⟨y2, s7⟩, s8, HGK⟩ := HC.out v1 w1 ho1 hk1 hat1
  obtain ⟨Av, cv, ev, -⟩ := own_form ho1
  subst ev
  obtain ⟨nv, hnv⟩ : ∃ nv, nv = (out ++ tg).length := ⟨_, rfl⟩
  rw [← hnv] at s6 s7 s8 HGK
  rw [← hnv]
  clear hnv ho1 hk1 hat1 HC HO HG
  refine hK.out _ _ ⟨s5, s3, s4⟩ (fun hHeld => ?_)
  clear hK K hHeld
  (try simp only [Act.put, List.setIfInBounds_toArray, List.set_cons_zero, List.set_cons_succ])
  refine way_last (by rfl) (by simp only [List.getElem?_toArray, List.getElem?_cons_succ, List.getElem?_cons_zero]; rfl) (by rfl) (fun K hK => ?_)
  go_simp
  refine hK.out _ _ ?_
  clear hK K
  refine way_done ?_
  have s9 := HGK.out.1.hb.cell 0
  have s10 := HGK.out.1.brd.head.cell 0
  rw [show (#[ptrTo b] : Array Value)[0]? = some (ptrTo b) from rfl] at s9
  rw [HCl.out, show (#[Value.slice A n c] : Array Value)[0]? = some (.slice A n c) from rfl] at s10
  obtain ⟨W, hW⟩ : ∃ W, W = (w1.setCell ⟨T + 1, 0, none⟩ (.slice Av nv cv)).setCell ⟨q, 4, none⟩ (.slice none 0 0) := ⟨_, rfl⟩
  clear s1 s2 s3 s4 s5 q1 q2 q3 y1 hHeld
  go_wp2_with fail
  rw [← hW] at HGK
  rw [← hW]
  clear s6 s7 s8 s9 s10 hW y2
  go_loopw [21] (fun i wr => ∃ (j : Nat) (v' : Value), i = .int .i64 j ∧ j ≤ n ∧ Giv lab wr b A c ps (gvL C (sFolN B ((m : Int) + 1) j)).1 T v' (out ++ tg ++ (gvL C (sFolN B ((m : Int) + 1) j)).2) ∧ Keeps (GF lab T v) w wr ∧ Moved w v v' ∧ Has wr ib (.cells #[.int .i64 ((m : Int) + 1)] 3 (0, 0)) ∧ v'.ownBlock ≠ some ib ∧ lab ib = 0 ∧ ib ≠ T + 1) (fun i _ => n - (intOf i).toNat)
  case atStart =>
    refine ⟨0, _, rfl, Nat.zero_le _, ?_, HGK.out.2.1, HGK.out.2.2.1, HGK.out.2.2.2.1, HGK.out.2.2.2.2, Hib.out.1, Hib.out.2⟩
    rw [sFolN, gv_nil, List.append_nil]
    exact HGK.out.1
  case round =>
    obtain ⟨j, v', rfl, hj, hG, hK, hM, hI, hvi, hli, hiT⟩ := hrel
    have Hvi := Lib.hid hvi
    have Hli := Lib.hid hli
    have HiT := Lib.hid hiT
    have HK := Lib.hid hK
    have HM := Lib.hid hM
    have HI := Lib.hid hI
    have HGG := Lib.hid hG
    clear hvi hli hiT hK hM HGK
    by_cases hjn : (j : Int) < n
    · have hjl : j < B.length := by rw [← Hn.out]; omega
      have hst := gv_step (B := B) (k := (m : Int) + 1) C j
      have hfj := Hfol.out j hjl (sFolN B ((m : Int) + 1) j)
      have hlq := sLeft_gv C (sFolN B ((m : Int) + 1) j)
      have hcq := sCount_gv C (sFolN B ((m : Int) + 1) j)
      have hlen := gv_length C (sFolN B ((m : Int) + 1) j)
      obtain ⟨⟨D, dO⟩, hD⟩ : ∃ P, P = gvL C (sFolN B ((m : Int) + 1) j) := ⟨_, rfl⟩
      rw [← hD] at hst hcq hG HGG hfj hlq hlen
      dsimp only at hst hcq hG HGG hfj hlq hlen
      have hjD : j < D.length := by rw [hlen, HCl.out, Hn.out]; exact hjl
      obtain ⟨g, hA, hg, hc⟩ := hG.brd.ptr hjD
      obtain ⟨tv2, fl2, x1, x2, -⟩ := hG.brd.sigs j hjD
      have hm64 : m + 1 < 65 := by omega
      have x3 := x1.flagAt x2 hm64
      rw [← sg_m, hfj, show ((m + 1 : Nat) : Int) = (m : Int) + 1 by omega] at x3
      obtain ⟨pj, hpj⟩ : ∃ pj, pj = ps.getD j 0 := ⟨_, rfl⟩
      obtain ⟨fb, hfb⟩ : ∃ fb, fb = hasB (sg B ((j : Int) + 1)).follows ((m : Int) + 1) := ⟨_, rfl⟩
      rw [← hpj, ← hfb] at x3
      rw [← hpj] at hc
      rw [← hfb] at hst
      subst hA
      have i0 := hI.cell 0
      have f0 := hG.hf.cell 0
      rw [show (#[Value.int .i64 ((m : Int) + 1)] : Array Value)[0]? = some (.int .i64 ((m : Int) + 1)) from rfl] at i0
      have Hst := Lib.hid hst
      have C5 : Hid (∀ N, Calls Try.prog 23 #[.int .i64 ((j : Int) + 1), ptrTo T, ptrTo (T + 1), ptrTo (T + 2)] (wr.drewN N) fun e w' => e = .returned (.bool (sFree D ((j : Int) + 1))) ∧ ∃ v'', Giv lab w' b (some ⟨g, 0, none⟩) c ps (gvL D [(j : Int) + 1]).1 T v'' ((out ++ tg ++ dO) ++ (gvL D [(j : Int) + 1]).2) ∧ Keeps (GF lab T v') wr w' ∧ Moved wr v' v'') := Lib.hid fun N => by
        refine (HIH.out (wr.drewN N) D v' (out ++ tg ++ dO) ((j : Int) + 1) (Nat.lt_of_le_of_lt hlq Hlf.out) ?_ (HGG.out.drewN N)).mono ?_
        · have := Hcnt.out
          simp only [List.length_append] at this ⊢
          omega
        · rintro e w' ⟨h1, v'', h2, h3, h4⟩
          exact ⟨h1, v'', h2, ((Keeps.refl _ wr).drewN N).also h3, h4⟩
      clear hst hfj hlq hcq hlen hD x1 x2 hI hG hpj hfb hjD hjl
      cases fb with
      | true =>
        go_wp2_with fail
        go_quiet (fail)
        go_wp2_with fail
        refine (C5.out _).mono ?_
        rintro e w5 ⟨rfl, v5, hG5, hK5, hM5⟩
        go_wp2
        go_roundw
        case rel =>
          refine ⟨j + 1, v5, by go_num, by omega, ?_, gf_trans HK.out HM.out hK5, HM.out.trans hM5 HK.out.grows, ?_, fun e => ?_, Hli.out, HiT.out⟩
          · rw [Hst.out]
            simp only [if_true]
            rw [← List.append_assoc]
            exact hG5
          · exact HI.out.kept hK5 fun hF => by
              rcases hF with h1 | h1 | h1
              · rw [Hli.out] at h1; omega
              · exact HiT.out h1
              · exact Hvi.out h1
          · rcases hM5 ib e with h1 | h1
            · exact Hvi.out h1
            · have := HI.out.inside
              omega
        case measure => simp [intOf]; omega
      | false =>
        go_wp2_with fail
        go_quiet (fail)
        go_wp2
        go_roundw
        case rel =>
          refine ⟨j + 1, v', by go_num, by omega, ?_, HK.out.drewN _, HM.out, HI.out, Hvi.out, Hli.out, HiT.out⟩
          rw [Hst.out, if_neg (by decide)]
          exact HGG.out.drewN _
        case measure => simp [intOf]; omega
    · have htk : j = n := by omega
      subst htk
      go_wp2
      go_end0
      refine ⟨rfl, v', ?_, HK.out, HM.out⟩
      have := HGG.out
      rw [List.append_assoc] at this
      exact this
end
end Go.Proofs.Ytafgeoafmkbeoaa

namespace Go.Proofs.Ytafgeoafmkbeoaa
open Go Go.RowKit

theorem Pile.of_own {base : Nat} {w : World} {v : Value} {xs : List Int} (h : w.ownsRow base 3 1 v xs.length (xs.map (Value.int .i64))) : Pile base w v xs :=
  Pile.of_kids (G := fun g => base ≤ g) ⟨own_base h (Nat.zero_le _), fun g hg => (h.lt g hg).1⟩ fun _ hg _ => hg
theorem own_below {w w' : World} {base n size : Nat} {e : TypeId} {v : Value} {us : List Value} (h : w.ownsRow base e size v n us) (k : Below w.heap.size w w') : w'.ownsRow base e size v n us :=
  own_kept h (Keeps.of_below (F := fun i => w.heap.size ≤ i) k fun _ _ h => h) fun g hg => Nat.not_le.2 (own_in h g hg)
section
variable {w : World}
/-- What a cut gives. -/
theorem elem_ints : Try.prog.elem 30 = 3 := by kernel_rfl
theorem cut_low (A : Option Addr) (N k a : Nat) (ha : a ≤ k) (w : World) : (Instr.slice 30 (.slice A N k) none (some (.int .i64 (a : Int))) none).run Try.prog w = .ok (.slice A a k) w := by
  have hu : Try.prog.underlying 30 = some (.slice (Try.prog.elem 30)) := by rw [elem_ints]; exact Try.underlying30
  have hs : (sizeOf (Try.prog.elem 30)).run Try.prog w = .ok 1 w := by kernel_rfl
  rw [run_slice_h _ _ _ _ _ hu _ _ (by omega) (by omega), hs]
  simp only [Result.andThen, sliced, Int.toNat_natCast, Nat.sub_zero, Nat.zero_mul]
  by_cases h : k = 0
  · rw [if_pos h]
  · rw [if_neg h]
    cases A with
    | none => rfl
    | some x => simp [Addr.add]
theorem cut_high (A : Option Addr) (N k a : Nat) (ha : a ≤ N) (w : World) : (Instr.slice 30 (.slice A N k) (some (.int .i64 (a : Int))) none none).run Try.prog w = .ok (.slice (if k = a then A else A.map (·.add a)) (N - a) (k - a)) w := by
  have hu : Try.prog.underlying 30 = some (.slice (Try.prog.elem 30)) := by rw [elem_ints]; exact Try.underlying30
  have hs : (sizeOf (Try.prog.elem 30)).run Try.prog w = .ok 1 w := by kernel_rfl
  rw [run_slice_l _ _ _ _ _ hu _ _ (by omega) (by omega), hs]
  simp only [Result.andThen, sliced, Int.toNat_natCast, Nat.mul_one]
theorem ListIn.low {A : Option Addr} {k : Nat} {xa xb : List Int} (h : ListIn w A k (xa ++ xb)) : ListIn w A k xa := by
  refine ⟨Nat.le_trans (by simp) h.cap, h.nil, fun i hi => ?_⟩
  have := h.nums i (by rw [List.length_append]; omega)
  rwa [List.getElem_append_left hi] at this
theorem ListIn.high {A : Option Addr} {k : Nat} {xa xb : List Int} (h : ListIn w A k (xa ++ xb)) : ListIn w (if k = xa.length then A else A.map (·.add xa.length)) (k - xa.length) xb := by
  have hc := h.cap
  rw [List.length_append] at hc
  refine ⟨by omega, fun e => ?_, fun i hi => ?_⟩
  · by_cases hk : k = xa.length
    · omega
    · rw [if_neg hk] at e
      have : A = none := by cases A with
        | none => rfl
        | some x => cases e
      have := h.nil this
      omega
  · obtain ⟨g, off, rfl, hg, hcell⟩ := h.nums (xa.length + i) (by rw [List.length_append]; omega)
    rw [List.getElem_append_right (by omega)] at hcell
    simp only [Nat.add_sub_cancel_left] at hcell
    refine ⟨g, off + xa.length, ?_, hg, by rw [Nat.add_assoc]; exact hcell⟩
    rw [if_neg (by omega)]
    simp [Addr.add]
end
end Go.Proofs.Ytafgeoafmkbeoaa

namespace Go.Proofs.Ytafgeoafmkbeoaa
open Go Go.RowKit

section
variable {lab : Nat → Nat} {w : World} {b c T : Nat} {A : Option Addr} {ps : List Nat} {B : List Sg}
theorem GiveOk.mono {M M' : Nat} (h : GiveOk lab b c T A ps M) (hM : M' ≤ M) : GiveOk lab b c T A ps M' := fun w B v out id h1 => h w B v out id (Nat.lt_of_lt_of_le h1 hM)

set_option maxHeartbeats 16000000 in
set_option maxRecDepth 100000 in
theorem giveOk : ∀ M, GiveOk lab b c T A ps M := by
  intro M
  induction M with
  | zero =>
    intro w B v out id h0
    omega
  | succ M ih =>
    intro w B v out id hsm hcnt h
    have hmf : ∀ (fn : Fn) (first cap : Array Value) (w : World), (Instr.makeFunc fn first cap).run Try.prog w = .ok (.func fn first cap) w := fun _ _ _ _ => rfl
    obtain ⟨W1, hW1⟩ : ∃ W1, W1 = w.alloc (.cells #[.int .i64 id] 3) := ⟨_, rfl⟩
    have hb1 : Below w.heap.size w W1 := by rw [hW1]; exact (Below.refl _ w).alloc (Nat.le_refl _) _
    have hi1 : Has W1 w.heap.size (.cells #[.int .i64 id] 3 (0, 0)) := by rw [hW1]; exact Has.fresh _ _
    have hs1 : W1.heap.size = w.heap.size + 1 := by rw [hW1]; simp
    have h1 := h.below hb1
    have c1 : W1.cell? ⟨T, 0, none⟩ = some (ptrTo b) := h1.hb.cell 0
    have hnone : sFree B id = false → Giv lab w b A c ps (gvL B [id]).1 T v (out ++ (gvL B [id]).2) := fun e => by
      rw [gv_no e, List.append_nil]
      exact h
    cases ht : sThere B id with
    | false =>
      have e1 : sFree B id = false := by unfold sFree; rw [ht]; rfl
      have HN := Lib.hid (hnone e1)
      have HF := Lib.hid (sFind_not ⟨A, c, ps, h1.brd⟩ ht)
      rw [e1]
      have HW1 := Lib.hid hW1
      rw [HW1.out] at HF c1
      clear hb1 hi1 hs1 h1 hnone h ih hsm hcnt ht e1 hW1 HW1
      go_enter Try.func23, Try.ntmps23
      go_wp2_with fail
      refine HF.out.mono ?_
      rintro e w2 ⟨rfl, rfl⟩
      have hbb : Below w.heap.size w ((w.alloc (.cells #[.int .i64 id] 3)).alloc (.cells #[.pointer none] 50)) := ((Below.refl _ w).alloc (Nat.le_refl _) _).alloc (by simp) _
      have HB := Lib.hid hbb
      clear hbb
      go_wp2
      go_ret
      exact ⟨rfl, v, HN.out.below HB.out, Keeps.of_below HB.out fun i hi hle => by omega, Moved.refl _ _⟩
    | true =>
      obtain ⟨m, rfl, hm⟩ := sThere_at ht
      have HF := Lib.hid (sFind h1.brd hm)
      obtain ⟨q, hq⟩ : ∃ q, q = ps.getD m 0 := ⟨_, rfl⟩
      rw [← hq] at HF
      obtain ⟨W2, hW2⟩ : ∃ W2, W2 = W1.alloc (.cells #[ptrTo q] 50) := ⟨_, rfl⟩
      have hb12 : Below W1.heap.size W1 W2 := by rw [hW2]; exact (Below.refl _ W1).alloc (Nat.le_refl _) _
      have hb2 : Below w.heap.size w W2 := hb1.trans (hb12.mono hb1.size)
      have hsb2 : Has W2 (w.heap.size + 1) (.cells #[ptrTo q] 50 (0, 0)) := by
        rw [hW2, ← hs1]
        exact Has.fresh _ _
      have hi2 : Has W2 w.heap.size (.cells #[.int .i64 ((m : Int) + 1)] 3 (0, 0)) := hi1.below hb12 hi1.inside
      have h2 := h.below hb2
      have hsig := h2.brd.sigs m hm
      rw [← hq] at hsig
      obtain ⟨tv, fl, g1, g2, g3, g4, g5⟩ := hsig
      have e1 : sFree B ((m : Int) + 1) = !(B.getD m Sg.zero).given := by unfold sFree; rw [ht, sg_m]; rfl
      cases hg : (B.getD m Sg.zero).given with
      | true =>
        rw [hg] at e1 g1
        have HN := Lib.hid ((hnone e1).below hb2)
        have HK2 : Hid (Keeps (GF lab T v) w W2) := Lib.hid (Keeps.of_below hb2 fun i hi hle => by omega)
        have HI := Lib.hid (h.inside)
        have HD := Lib.hid (do_shut q (.func (.func 24) #[] #[ptrTo (T + 1), ptrTo (w.heap.size + 1), ptrTo T, ptrTo w.heap.size, ptrTo (T + 2)]) W2 g1)
        rw [e1]
        have HW1 := Lib.hid hW1
        have HW2 := Lib.hid hW2
        rw [HW2.out, HW1.out] at HD
        rw [HW1.out] at HF c1
        clear hb1 hi1 hs1 h1 hnone h ih hsm hcnt ht e1 hW1 hW2 hb12 hb2 hsb2 hi2 h2 g1 g2 g3 g4 g5 hg hq
        go_enter Try.func23, Try.ntmps23
        go_wp2_with fail
        refine HF.out.mono ?_
        rintro e w2 ⟨rfl, rfl⟩
        go_wp2_with fail
        refine HD.out.mono ?_
        rintro e w3 ⟨rfl, hk3⟩
        rw [← HW1.out, ← HW2.out] at hk3
        go_wp2
        go_ret
        have hk3' : Keeps (fun _ => False) W2 w3 := hk3.wide fun i _ hi => by cases hi
        exact ⟨rfl, v, HN.out.kept hk3' fun _ _ hf => hf, HK2.out.trans hk3 (fun i _ hi => by cases hi), Moved.refl _ _⟩
      | false =>
        rw [hg] at e1 g1
        have hib : lab w.heap.size = 0 := by
          by_cases e : lab w.heap.size = 0
          · exact e
          · have := h.brd.low _ e
            omega
        have hsb : lab (w.heap.size + 1) = 0 := by
          by_cases e : lab (w.heap.size + 1) = 0
          · exact e
          · have := h.brd.low _ e
            omega
        have hvi : v.ownBlock ≠ some w.heap.size := fun e => by
          have := own_in h.own _ e
          omega
        have e1' : sFree B ((m : Int) + 1) = true := e1
        have HE : Hid (∀ w, (callFunc 24 #[ptrTo (T + 1), ptrTo (w.heap.size + 1), ptrTo T, ptrTo w.heap.size, ptrTo (T + 2)]).run Try.prog w = .ok (.enter 24 #[ptrTo (T + 1), ptrTo (w.heap.size + 1), ptrTo T, ptrTo w.heap.size, ptrTo (T + 2)]) w) := Lib.hid fun w => MuLone.run_callFunc_enter Try.func24 (by kernel_rfl) rfl _ w
        have HE' : Hid (∀ w', (callFunc 24 #[ptrTo (T + 1), ptrTo (w.heap.size + 1), ptrTo T, ptrTo w.heap.size, ptrTo (T + 2)]).run Try.prog w' = .ok (.enter 24 #[ptrTo (T + 1), ptrTo (w.heap.size + 1), ptrTo T, ptrTo w.heap.size, ptrTo (T + 2)]) w') := Lib.hid fun w' => MuLone.run_callFunc_enter Try.func24 (by kernel_rfl) rfl _ w'
        have hgl : ∀ i, GF lab T v i → i < W2.heap.size := gf_in h2
        have HD := Lib.hid (do_some q 24 #[ptrTo (T + 1), ptrTo (w.heap.size + 1), ptrTo T, ptrTo w.heap.size, ptrTo (T + 2)] (GF lab T v)
          (fun w3 => ∃ v', Giv lab w3 b A c ps (gvL B [(m : Int) + 1]).1 T v' (out ++ (gvL B [(m : Int) + 1]).2) ∧ Keeps (GF lab T v) W2 w3 ∧ Moved W2 v v') W2 g1 hgl HE'.out fun w1 hl1 hk1 => by
            have n1 : ∀ i, (lab i ≠ m + 2 ∧ i < W2.heap.size) → ¬ Just [q] i := fun i hi hj => by
              obtain rfl := List.mem_singleton.1 hj
              exact hi.1 g4
            have hkq : Keeps (fun i => lab i = m + 2) W2 w1 := hk1.wide fun i _ hj => by
              obtain rfl := List.mem_singleton.1 hj
              exact g4
            have hlowB : ∀ i, lab i ≠ 0 → i < w1.heap.size := fun i hi => Nat.lt_of_lt_of_le (h2.brd.low i hi) hk1.grows
            have hG1 : Giv lab w1 b A c ps (half B m) T v out := by
              refine ⟨h2.brd.turn0 (f := fun x => ⟨true, x.follows, x.tags⟩) (hkq.wide fun _ _ hi => .inl hi) hlowB ?_, h2.hb.kept hkq ?_, h2.ht.kept hkq ?_, h2.hf.kept hkq ?_, own_kept h2.own hkq fun g hgv => ?_, h2.l0, h2.l1, h2.l2, h2.lv⟩
              · rw [← hq]
                refine ⟨tv, fl, hl1, g2, g3.kept hk1 fun g hgv e => ?_, g4, g5⟩
                obtain rfl := List.mem_singleton.1 e
                rcases g3 with ⟨hv0, _⟩ | ⟨g', _, _, hv0, _, hh, _⟩
                · rw [hv0] at hgv
                  cases hgv
                · rw [hv0] at hgv
                  obtain rfl : g' = g := by simpa [Value.ownBlock] using hgv
                  exact Has.apart hh g1 (by simp) rfl
              · rw [h2.l0]; omega
              · rw [h2.l1]; omega
              · rw [h2.l2]; omega
              · rw [h2.lv g hgv]; omega
            refine (inn_any (ih.mono (by omega)) hm e1' hcnt hG1 hq.symm (hsb2.kept hkq (by rw [hsb]; omega)) (hi2.kept hkq (by rw [hib]; omega)) hib hvi hsb).mono ?_
            rintro e w3 ⟨rfl, v', j1, j2, j3⟩
            refine ⟨rfl, j2, v', j1, (hkq.wide fun i _ hi => .inl (by omega)).also j2, fun g hgv => ?_⟩
            rcases j3 g hgv with h' | h'
            · exact .inl h'
            · exact .inr (Nat.le_trans hk1.grows h'))
        have HK2 : Hid (Keeps (GF lab T v) w W2) := Lib.hid (Keeps.of_below hb2 fun i hi hle => by omega)
        have HS2 : Hid (w.heap.size ≤ W2.heap.size) := Lib.hid hb2.size
        rw [e1]
        have HW1 := Lib.hid hW1
        have HW2 := Lib.hid hW2
        obtain ⟨R, hR⟩ : ∃ R, R = gvL B [(m : Int) + 1] := ⟨_, rfl⟩
        rw [← hR] at HD
        rw [← hR]
        obtain ⟨Q2, hQ2⟩ : ∃ Q2, Q2 = W2 := ⟨_, rfl⟩
        rw [← hQ2] at HK2 HS2
        have hD2 := HD.out
        rw [← hQ2] at hD2
        have HD2 : Hid (Calls Try.prog 21 #[.pointer (some ⟨q, 0, none⟩), .func (.func 24) #[] #[ptrTo (T + 1), ptrTo (w.heap.size + 1), ptrTo T, ptrTo w.heap.size, ptrTo (T + 2)]] W2 fun e w' => e = .returned (.bool true) ∧ ∃ v', Giv lab w' b A c ps R.1 T v' (out ++ R.2) ∧ Keeps (GF lab T v) Q2 w' ∧ Moved Q2 v v') := Lib.hid (by rw [← hQ2]; exact hD2)
        rw [HW2.out, HW1.out] at HD2
        rw [HW1.out] at HF c1
        clear HD hD2 hb1 hi1 hs1 h1 hnone h ih hsm hcnt ht e1 e1' hW1 hW2 hb12 hb2 hsb2 hi2 h2 g1 g2 g3 g4 g5 hg hq hib hsb hvi hgl HE HE' hR hQ2 HW1 HW2
        go_enter Try.func23, Try.ntmps23
        go_wp2_with fail
        refine HF.out.mono ?_
        rintro e w2 ⟨rfl, rfl⟩
        go_wp2_with fail
        refine HD2.out.mono ?_
        rintro e w3 ⟨rfl, v', j1, j2, j3⟩
        go_wp2
        go_ret
        refine ⟨rfl, v', j1, HK2.out.also j2, fun g hgv => ?_⟩
        rcases j3 g hgv with h' | h'
        · exact .inl h'
        · exact .inr (Nat.le_trans HS2.out h')

set_option maxHeartbeats 8000000 in
/-- Give: what is told, and the board then. -/
theorem sGive (id : Int) (h : Brd lab w b B) (hcnt : sCount B ≤ 1000000) : Calls Try.prog 13 #[ptrTo b, .int .i64 id] w fun e w' => ∃ A' c', e = .returned (.tuple #[.slice A' (sgOut B id).length c', .bool (sFree B id)]) ∧ ListIn w' A' c' (sgOut B id) ∧ (∀ g off s, A' = some ⟨g, off, s⟩ → w.heap.size ≤ g) ∧ Brd lab w' b (sgL B id) ∧ Keeps (fun i => lab i ≠ 0) w w' := by
  have hmf : ∀ (fn : Fn) (first cap : Array Value) (w : World), (Instr.makeFunc fn first cap).run Try.prog w = .ok (.func fn first cap) w := fun _ _ _ _ => rfl
  obtain ⟨A, c, ps, h⟩ := h
  obtain ⟨W, hW⟩ : ∃ W, W = ((w.alloc (.cells #[ptrTo b] 24)).alloc (.cells #[.slice none 0 0] 30)).alloc (.cells #[.func (.func 23) #[] #[ptrTo w.heap.size, ptrTo (w.heap.size + 1), ptrTo (w.heap.size + 1 + 1)]] 43) := ⟨_, rfl⟩
  have hb : Below w.heap.size w W := by
    rw [hW]
    exact (((Below.refl _ w).alloc (Nat.le_refl _) _).alloc (by simp) _).alloc (by simp; omega) _
  have hl : ∀ i, w.heap.size ≤ i → lab i = 0 := fun i hi => by
    by_cases e : lab i = 0
    · exact e
    · have := h.low i e
      omega
  have hG : Giv lab W b A c ps B w.heap.size (.slice none 0 0) [] := by
    refine ⟨h.below hb, ?_, ?_, ?_, World.ownsRow_nil _ _ _ _, hl _ (Nat.le_refl _), hl _ (by omega), hl _ (by omega), fun g hg => by cases hg⟩
    · rw [hW]
      exact ((Has.fresh _ _).more _).more _
    · rw [hW]
      have := Has.fresh (w.alloc (.cells #[ptrTo b] 24)) (.cells #[.slice none 0 0] 30)
      rw [show (w.alloc (.cells #[ptrTo b] 24)).heap.size = w.heap.size + 1 by simp] at this
      exact this.more _
    · rw [hW]
      have := Has.fresh ((w.alloc (.cells #[ptrTo b] 24)).alloc (.cells #[.slice none 0 0] 30)) (.cells #[.func (.func 23) #[] #[ptrTo w.heap.size, ptrTo (w.heap.size + 1), ptrTo (w.heap.size + 1 + 1)]] 43)
      rw [show ((w.alloc (.cells #[ptrTo b] 24)).alloc (.cells #[.slice none 0 0] 30)).heap.size = w.heap.size + 2 by simp] at this
      exact this
  have HC := Lib.hid (giveOk (sLeft B + 1) W B (.slice none 0 0) [] id (Nat.lt_succ_self _) (by simpa using hcnt) hG)
  have Hb := Lib.hid hb
  have Hl := Lib.hid hl
  obtain ⟨RO, hRO⟩ : ∃ RO, RO = sgOut B id := ⟨_, rfl⟩
  obtain ⟨RB, hRB⟩ : ∃ RB, RB = sgL B id := ⟨_, rfl⟩
  rw [show (gvL B [id]).1 = RB from hRB.symm, show (gvL B [id]).2 = RO from hRO.symm, List.nil_append] at HC
  rw [← hRO, ← hRB]
  have HW := Lib.hid hW
  clear hRO hRB hG hl hb h hcnt hW
  go_enter Try.func13, Try.ntmps13
  go_wp2_with fail
  rw [← HW.out]
  refine HC.out.mono ?_
  rintro e w1 ⟨rfl, v, hG, hK, hM⟩
  obtain ⟨Av, cv, rfl, -⟩ := own_form hG.own
  have c0 : w1.cell? ⟨w.heap.size + 1, 0, none⟩ = some (.slice Av RO.length cv) := hG.ht.cell 0
  obtain ⟨A', c', ev, hLi⟩ := (Pile.of_own hG.own).form
  obtain ⟨rfl, rfl⟩ : Av = A' ∧ cv = c' := by injection ev with e1 _ e3; exact ⟨e1, e3⟩
  have HF : Hid (ListIn w1 Av cv RO ∧ (∀ g off s, Av = some ⟨g, off, s⟩ → w.heap.size ≤ g) ∧ Brd lab w1 b RB ∧ Keeps (fun i => lab i ≠ 0) w w1) := Lib.hid ⟨hLi, fun g off s e => by
      subst e
      rcases hM g rfl with h1 | h1
      · cases h1
      · exact Nat.le_trans Hb.out.size h1, ⟨A, c, ps, hG.brd⟩, (Keeps.of_below (F := fun i => lab i ≠ 0) Hb.out fun i hi hle => by omega).trans hK fun i hi hF => by
      rcases hF with h1 | h1 | h1
      · show lab i ≠ 0
        omega
      · omega
      · cases h1⟩
  clear hG hK hM HC HW hLi ev
  go_wp2
  go_ret2
  exact ⟨_, _, rfl, HF.out⟩
theorem give1_nil (id : Int) (h : Has w T (.cells #[.pointer none] 24 (0, 0))) : Calls Try.prog 23 #[.int .i64 id, ptrTo T, ptrTo (T + 1), ptrTo (T + 2)] w fun e w' => e = .returned (.bool false) ∧ Below w.heap.size w w' := by
  have c1 : (w.alloc (.cells #[.int .i64 id] 3)).cell? ⟨T, 0, none⟩ = some (.pointer none) := (h.more (.cells #[.int .i64 id] 3)).cell 0
  have HF := Lib.hid (sFind_nil id (w.alloc (.cells #[.int .i64 id] 3)))
  have hbb : Below w.heap.size w ((w.alloc (.cells #[.int .i64 id] 3)).alloc (.cells #[.pointer none] 50)) := ((Below.refl _ w).alloc (Nat.le_refl _) _).alloc (by simp) _
  have HB := Lib.hid hbb
  clear hbb h
  go_enter Try.func23, Try.ntmps23
  go_wp2_with fail
  refine HF.out.mono ?_
  rintro e w2 ⟨rfl, rfl⟩
  go_wp2
  go_ret
  exact ⟨rfl, HB.out⟩
theorem sGive_nil (id : Int) (w : World) : Calls Try.prog 13 #[.pointer none, .int .i64 id] w fun e w' => e = .returned (.tuple #[.slice none 0 0, .bool false]) ∧ Below w.heap.size w w' := by
  have hmf : ∀ (fn : Fn) (first cap : Array Value) (w : World), (Instr.makeFunc fn first cap).run Try.prog w = .ok (.func fn first cap) w := fun _ _ _ _ => rfl
  obtain ⟨W, hW⟩ : ∃ W, W = ((w.alloc (.cells #[.pointer none] 24)).alloc (.cells #[.slice none 0 0] 30)).alloc (.cells #[.func (.func 23) #[] #[ptrTo w.heap.size, ptrTo (w.heap.size + 1), ptrTo (w.heap.size + 1 + 1)]] 43) := ⟨_, rfl⟩
  have hb : Below w.heap.size w W := by
    rw [hW]
    exact (((Below.refl _ w).alloc (Nat.le_refl _) _).alloc (by simp) _).alloc (by simp; omega) _
  have h1 : Has W w.heap.size (.cells #[.pointer none] 24 (0, 0)) := by
    rw [hW]
    exact ((Has.fresh _ _).more _).more _
  have h2 : Has W (w.heap.size + 1) (.cells #[.slice none 0 0] 30 (0, 0)) := by
    rw [hW]
    have := Has.fresh (w.alloc (.cells #[.pointer none] 24)) (.cells #[.slice none 0 0] 30)
    rw [show (w.alloc (.cells #[.pointer none] 24)).heap.size = w.heap.size + 1 by simp] at this
    exact this.more _
  have HC := Lib.hid (give1_nil id h1)
  have Hb := Lib.hid hb
  have H2 := Lib.hid h2
  have HW := Lib.hid hW
  clear hb h1 h2 hW
  go_enter Try.func13, Try.ntmps13
  go_wp2_with fail
  rw [← HW.out]
  refine HC.out.mono ?_
  rintro e w1 ⟨rfl, hb1⟩
  have c0 : w1.cell? ⟨w.heap.size + 1, 0, none⟩ = some (.slice none 0 0) := (H2.out.below hb1 H2.out.inside).cell 0
  have HB := Lib.hid (Hb.out.trans (hb1.mono Hb.out.size))
  clear hb1 HC HW H2 Hb
  go_wp2
  go_ret2
  exact ⟨rfl, HB.out⟩
end
end Go.Proofs.Ytafgeoafmkbeoaa

namespace Go.Proofs.Ytafgeoafmkbeoaa
open Go Go.RowKit

/-- The same numbers? -/
def sameInts (xs ys : List Int) : Bool := decide (xs = ys)
set_option maxHeartbeats 1000000 in
theorem ints_any (xs ys : List Int) (A1 A2 : Option Addr) (n1 n2 c1 c2 : Nat) (w : World) (h1 : n1 = xs.length) (h2 : n2 = ys.length) (hl : n1 ≤ 1000000) (hx : Nums w w.heap.size A1 .i64 xs) (hy : Nums w w.heap.size A2 .i64 ys) :
    Calls Try.prog 15 #[.slice A1 n1 c1, .slice A2 n2 c2] w fun e w' => e = .returned (.bool (sameInts xs ys)) ∧ Below w.heap.size w w' := by
  have H1 := Lib.hid h1
  have H2 := Lib.hid h2
  have Hx := Lib.hid hx
  have Hy := Lib.hid hy
  clear h1 h2 hx hy
  by_cases hn : n1 = n2
  · subst hn
    go_enter Try.func15, Try.ntmps15
    go_wp2_with fail
    go_loopw [5] (fun i wr => ∃ k : Nat, i = .int .i64 k ∧ k ≤ n1 ∧ xs.take k = ys.take k ∧ Below w.heap.size w wr) (fun i _ => n1 - (intOf i).toNat)
    case atStart => exact ⟨0, rfl, Nat.zero_le _, by simp, Below.refl _ _⟩
    case round =>
      obtain ⟨k, rfl, hk, ht, hbr⟩ := hrel
      have Ht := Lib.hid ht
      clear ht
      by_cases hlt : (k : Int) < n1
      · have hkx : k < xs.length := by rw [← H1.out]; omega
        have hky : k < ys.length := by rw [← H2.out]; omega
        obtain ⟨b, off, rfl, hb, hc⟩ := Hx.out.below hbr k hkx
        obtain ⟨b', off', rfl, hb', hc'⟩ := Hy.out.below hbr k hky
        obtain ⟨x, hxe⟩ : ∃ x, x = xs[k] := ⟨_, rfl⟩
        obtain ⟨y, hye⟩ : ∃ y, y = ys[k] := ⟨_, rfl⟩
        rw [← hxe] at hc
        rw [← hye] at hc'
        have Hxe := Lib.hid hxe
        have Hye := Lib.hid hye
        clear hxe hye hb hb'
        by_cases hxy : x = y
        · have hn2 : xs.take (k + 1) = ys.take (k + 1) := by
            rw [List.take_add_one, List.take_add_one, Ht.out, List.getElem?_eq_getElem hkx, List.getElem?_eq_getElem hky, ← Hxe.out, ← Hye.out, hxy]
          have Hn2 := Lib.hid hn2
          clear hn2
          subst hxy
          go_wp2_with fail
          go_quiet (fail)
          go_wp2
          go_roundw
          case rel => exact ⟨k + 1, by go_num, by omega, Hn2.out, below_draws hbr _⟩
          case measure => simp [intOf]; omega
        · have hxy' : (x != y) = true := by simpa using hxy
          have hxy2 : (x == y) = false := by simpa using hxy
          have e1 : sameInts xs ys = false := by
            rw [sameInts, decide_eq_false_iff_not]
            intro e
            apply hxy
            rw [Hxe.out, Hye.out]
            simp only [e]
          have E1 := Lib.hid e1
          clear e1
          go_wp2_with fail
          go_quiet (fail)
          go_wp2
          go_ret
          rw [E1.out]
          exact ⟨rfl, below_draws hbr _⟩
      · have e1 : sameInts xs ys = true := by
          rw [sameInts, decide_eq_true_iff]
          have := Ht.out
          rw [List.take_of_length_le (by rw [← H1.out]; omega), List.take_of_length_le (by rw [← H2.out]; omega)] at this
          exact this
        have E1 := Lib.hid e1
        clear e1
        go_wp2
        go_ret
        rw [E1.out]
        exact ⟨rfl, hbr⟩
  · have hn' : ((n1 : Int) != (n2 : Int)) = true := by rw [bne_iff_ne]; omega
    have hn2 : ((n1 : Int) == (n2 : Int)) = false := by rw [beq_eq_false_iff_ne]; omega
    have e1 : sameInts xs ys = false := by
      rw [sameInts, decide_eq_false_iff_not]
      intro e
      apply hn
      rw [H1.out, H2.out, e]
    have E1 := Lib.hid e1
    clear e1
    go_enter Try.func15, Try.ntmps15
    go_wp2
    go_ret
    rw [E1.out]
    exact ⟨rfl, Below.refl _ _⟩

end Go.Proofs.Ytafgeoafmkbeoaa

namespace Go.Proofs.Ytafgeoafmkbeoaa
open Go Go.RowKit

/-- A board that was made behind w0. -/
structure Hold (w0 : World) (lab : Nat → Nat) (w : World) (b : Nat) (B : List Sg) : Prop where
  brd : Brd lab w b B
  new : ∀ i, lab i ≠ 0 → w0.heap.size ≤ i
  below : Below w0.heap.size w0 w
section
variable {w0 w w' : World} {lab lab' : Nat → Nat} {b : Nat} {B B' : List Sg} {F : Nat → Prop}
theorem Hold.next (h : Hold w0 lab w b B) (hb : Below w.heap.size w w') : Hold w0 lab w' b B := ⟨h.brd.below hb, h.new, h.below.trans (hb.mono h.below.size)⟩
theorem Hold.drewN (h : Hold w0 lab w b B) (n : Nat) : Hold w0 lab (w.drewN n) b B := ⟨h.brd.drewN n, h.new, below_draws h.below n⟩
theorem Hold.keep (h : Hold w0 lab w b B) (k : Keeps F w w') (hF : ∀ i, lab i ≠ 0 → ¬ F i) (hn : ∀ i, F i → w0.heap.size ≤ i) : Hold w0 lab w' b B :=
  ⟨h.brd.kept k hF, h.new, below_then h.below k h.below.size fun i hi hf => by have := hn i hf; omega⟩
theorem Hold.keeps (h : Hold w0 lab w b B) (hB : Brd lab w' b B') (k : Keeps (fun i => lab i ≠ 0) w w') : Hold w0 lab w' b B' :=
  ⟨hB, h.new, below_then h.below k h.below.size fun i hi hf => by have := h.new i hf; omega⟩
theorem Hold.turn (h : Hold w0 lab w b B) (hB : Brd' lab w b B' w') : ∃ lab', Hold w0 lab' w' b B' ∧ (∀ i, i < w.heap.size → lab' i = lab i) ∧ Keeps (fun i => lab i ≠ 0) w w' := by
  obtain ⟨lab', h1, h2, h3⟩ := hB
  refine ⟨lab', ⟨h1, fun i hi => ?_, below_then h.below h3 h.below.size fun i hi hf => by have := h.new i hf; omega⟩, h2, h3⟩
  rcases Nat.lt_or_ge i w.heap.size with h' | h'
  · rw [h2 i h'] at hi
    exact h.new i hi
  · exact Nat.le_trans h.below.size h'
theorem hold_new (h0 : Below w0.heap.size w0 w) {p : Nat} (hp : w.heap.size ≤ p) (hB : Brd (fun i => if i = p then 1 else 0) w' p []) (hb : Below w.heap.size w w') : Hold w0 (fun i => if i = p then 1 else 0) w' p [] :=
  ⟨hB, fun i hi => by
    by_cases e : i = p
    · rw [e]
      exact Nat.le_trans h0.size hp
    · rw [if_neg e] at hi
      exact absurd rfl hi, h0.trans (hb.mono h0.size)⟩
end
theorem listNone' (W : World) : ListIn W none 0 [] := listNone W

set_option maxHeartbeats 4000000 in
theorem awake11 (w : World) : Calls Try.prog 7 #[] w fun e w' => e = .returned (.bool true) ∧ Below w.heap.size w w' := by
  have hnot : ∀ (x : Bool) (w : World), (Op.unary .not (.bool x)).run Try.prog w = .ok (.bool (!x)) w := fun _ _ => rfl
  go_enter Try.func7, Try.ntmps7
  go_wp2_with fail
  refine (sNew w).mono ?_
  rintro e w1 ⟨rfl, hB1, hb1⟩
  have H1 := Lib.hid (hold_new (w0 := w) (Below.refl _ w) (Nat.le_refl _) hB1 hb1)
  clear hB1 hb1
  obtain ⟨b, hb⟩ : ∃ b, b = w.heap.size := ⟨_, rfl⟩
  rw [← hb] at H1
  rw [← hb]
  clear hb
  go_wp2_with fail
  refine (sMake [] none 0 H1.out.brd (listNone w1) (by decide)).mono ?_
  rintro e w2 ⟨rfl, hB2⟩
  rw [show smNo [] [] = 1 from rfl, show smErr [] [] = 0 from rfl]
  rw [show smL [] [] = [⟨false, [], []⟩] from rfl] at hB2
  obtain ⟨lab2, h2, -, -⟩ := H1.out.turn hB2
  have H2 := Lib.hid h2
  clear hB2 h2 H1
  go_wp2_with fail
  refine (sAdd 1 7 H2.out.brd (by decide)).mono ?_
  rintro e w3 ⟨rfl, hB3⟩
  rw [show sFree [⟨false, [], []⟩] 1 = true from rfl]
  rw [show saL [⟨false, [], []⟩] 1 7 = [⟨false, [], [7]⟩] from rfl] at hB3
  obtain ⟨lab3, h3, -, -⟩ := H2.out.turn hB3
  have H3 := Lib.hid h3
  clear hB3 h3 H2
  have hf : sFree [⟨false, [], [7]⟩] 1 = true := rfl
  have ho : sgOut [⟨false, [], [7]⟩] 1 = [7] := by
    unfold sgOut
    rw [gv_yes hf, show sFol [⟨false, [], [7]⟩] 1 = [] from rfl, gv_nil]
    rfl
  have Ho := Lib.hid ho
  clear ho hf
  go_wp2_with fail
  refine (sGive 1 H3.out.brd (by decide)).mono ?_
  rintro e w4 ⟨A4, c4, rfl, hL4, -, hB4, hk4⟩
  have H4 := Lib.hid (H3.out.keeps hB4 hk4)
  rw [Ho.out] at hL4
  rw [Ho.out, show sFree [⟨false, [], [7]⟩] 1 = true from rfl]
  have hw : Has (w4.alloc (.cells #[.int .i64 7] 3)) w4.heap.size (.cells (([7] : List Int).map (Value.int .i64)).toArray 3 (0, 0)) := Has.fresh w4 (.cells #[.int .i64 7] 3)
  have hb5 : Below w4.heap.size w4 (w4.alloc (.cells #[.int .i64 7] 3)) := (Below.refl _ _).alloc (Nat.le_refl _) _
  have HI := Lib.hid (ints_any [7] [7] A4 (some ⟨w4.heap.size, 0, none⟩) 1 1 c4 1 (w4.alloc (.cells #[.int .i64 7] 3)) rfl rfl (by decide) (hL4.below hb5).nums (listLit hw).nums)
  have H5 := Lib.hid (H4.out.next hb5)
  clear hL4 hB4 hk4 hw hb5 H4 H3 Ho
  go_wp2_with fail
  refine HI.out.mono ?_
  rintro e w6 ⟨rfl, hb6⟩
  rw [show sameInts [7] [7] = true from rfl]
  have H6 := Lib.hid (H5.out.next hb6)
  clear hb6
  go_wp2
  go_ret
  exact ⟨rfl, H6.out.below⟩

set_option maxHeartbeats 8000000 in
theorem signalNone_any (id tag : Int) (w : World) : Calls Try.prog 5 #[.int .i64 id, .int .i64 tag] w fun e w' => e = .returned (.bool true) ∧ Below w.heap.size w w' := by
  have hnot : ∀ (x : Bool) (w : World), (Op.unary .not (.bool x)).run Try.prog w = .ok (.bool (!x)) w := fun _ _ => rfl
  go_enter Try.func5, Try.ntmps5
  go_wp2_with fail
  refine (awake11 w).mono ?_
  rintro e w1 ⟨rfl, hb1⟩
  have Hb1 := Lib.hid hb1
  clear hb1
  go_wp2_with fail
  refine (sMake_nil _ w1).mono ?_
  rintro e w2 ⟨rfl, rfl⟩
  go_wp2_with fail
  refine (sGive_nil id w1).mono ?_
  rintro e w2 ⟨rfl, hb2⟩
  have Hb2 := Lib.hid (Hb1.out.trans (hb2.mono Hb1.out.size))
  clear hb2 Hb1
  go_wp2_with fail
  refine (sAdd_nil id tag w2).mono ?_
  rintro e w3 ⟨rfl, rfl⟩
  go_wp2_with fail
  refine (sGiven_nil id w2).mono ?_
  rintro e w3 ⟨rfl, rfl⟩
  go_wp2_with fail
  refine (sLen_nil w2).mono ?_
  rintro e w3 ⟨rfl, rfl⟩
  go_wp2_with fail
  have hz : Brd (fun i => if i = w2.heap.size then 1 else 0) (w2.alloc (.cells #[.slice none 0 0] 48)) w2.heap.size [] := board_zero w2
  have H3 := Lib.hid (hold_new (w0 := w) Hb2.out (Nat.le_refl _) hz ((Below.refl _ _).alloc (Nat.le_refl _) _))
  obtain ⟨b, hb⟩ : ∃ b, b = w2.heap.size := ⟨_, rfl⟩
  obtain ⟨w3, hw3⟩ : ∃ w3, w3 = w2.alloc (.cells #[.slice none 0 0] 48) := ⟨_, rfl⟩
  rw [← hb, ← hw3] at H3
  rw [← hb, ← hw3]
  clear hz hb hw3 Hb2
  refine (sMake [] none 0 H3.out.brd (listNone w3) (by decide)).mono ?_
  rintro e w4 ⟨rfl, hB4⟩
  rw [show smNo [] [] = 1 from rfl, show smErr [] [] = 0 from rfl]
  rw [show smL [] [] = [⟨false, [], []⟩] from rfl] at hB4
  obtain ⟨lab4, h4, -, -⟩ := H3.out.turn hB4
  have H4 := Lib.hid h4
  clear hB4 h4 H3
  go_wp2_with fail
  refine (sLen H4.out.brd).mono ?_
  rintro e w5 ⟨rfl, rfl⟩
  go_wp2_with fail
  refine (sIsGiven 1 H4.out.brd).mono ?_
  rintro e w5 ⟨rfl, rfl⟩
  rw [show sGiven [⟨false, [], []⟩] 1 = false from rfl]
  go_wp2
  go_ret
  exact ⟨rfl, H4.out.below⟩
end Go.Proofs.Ytafgeoafmkbeoaa

namespace Go.Proofs.Ytafgeoafmkbeoaa
open Go.ChangeShapes Go.WideShapes Go.ChangeAt Go.RowKit

theorem own : ownKnob Try.prog.godebug = none := by kernel_rfl
theorem laidOut : laidOutB Try.prog = true := by kernel_rfl
theorem ib {a : Int} (h : (Lit.int .i64 a).wf = true) : -9223372036854775808 ≤ a ∧ a ≤ 9223372036854775807 := by
  have h1 : IntKind.i64.min = -9223372036854775808 := rfl
  have h2 : IntKind.i64.max = 9223372036854775807 := rfl
  simp only [Lit.wf, Bool.and_eq_true, decide_eq_true_eq, h1, h2] at h
  exact h
theorem ib8 {a : Int} (h : (Lit.int .u8 a).wf = true) : 0 ≤ a ∧ a ≤ 255 := by
  have h1 : IntKind.u8.min = 0 := rfl
  have h2 : IntKind.u8.max = 255 := rfl
  simp only [Lit.wf, Bool.and_eq_true, decide_eq_true_eq, h1, h2] at h
  exact h
theorem ib16 {a : Int} (h : (Lit.int .u16 a).wf = true) : 0 ≤ a ∧ a ≤ 65535 := by
  have h1 : IntKind.u16.min = 0 := rfl
  have h2 : IntKind.u16.max = 65535 := rfl
  simp only [Lit.wf, Bool.and_eq_true, decide_eq_true_eq, h1, h2] at h
  exact h
end Go.Proofs.Ytafgeoafmkbeoaa

namespace Go.Proofs.Ytafgeoafmkbeoaa
open Go.ChangeShapes Go.WideShapes Go.ChangeAt Go.RowKit
open Go.ChangeMaps (open_string shut_string)

set_option maxRecDepth 100000 in
theorem signalNone_lifted (os : Os) (started : os.Started) (H : Type) (enc : TypeId × Value → H) :
    ReturnsInHanded {} Try.checked os 5 .any (Rows.signalNoneSpec.pre6 enc Try.prog Try.f5 Rows.signalNoneRow.domain false) (Rows.signalNoneSpec.post enc Try.prog Try.f5 false true false false) := by
  refine returnsInHanded_of_change (C := Try.checked) own started (by kernel_rfl) Try.func5
    (ChangeSpec.witness6 (enc := enc) (C := Try.checked) false ⟨#[], #[.int .i64 0, .int .i64 0], []⟩ 8 (by kernel_rfl) (by kernel_rfl) (by kernel_rfl) (by kernel_rfl)) ?_
  intro W base args ds gs before hval0 hW hcnd _
  have hval : ∀ (j : Nat) t v, Try.f5.params[j]? = some t → args[j]? = some v → Value.okWide Try.prog W .any base t v := hval0
  clear hval0 hcnd
  have hW' := hW
  obtain ⟨p, q, hA0, hV, rfl, hfz, hnd⟩ := hW
  have hA : DataW.TrodAll enc Try.prog W 0 (fun _ => true) true Try.f5.params.toList args.toList ds p := hA0
  rw [Try.params5] at hA hval
  obtain ⟨v0, vs0, d0, ds0, p0, q0, hargs, rfl, rfl, h0, r0⟩ := trodAll_cons hA
  obtain ⟨v1, vs1, d1, ds1, p1, q1, rfl, rfl, rfl, h1, r1⟩ := trodAll_cons r0
  obtain ⟨rfl, rfl, rfl⟩ := trodAll_nil r1
  obtain rfl : args = #[v0, v1] := by cases args; simp_all
  obtain ⟨rfl, rfl⟩ := trodVars_none hV
  obtain ⟨a0, rfl, rfl, rfl, w0⟩ := open_int Try.underlying3 (hval 0 3 v0 rfl rfl) h0
  obtain ⟨a1, rfl, rfl, rfl, w1⟩ := open_int Try.underlying3 (hval 1 3 v1 rfl rfl) h1
  clear hA0
  refine (signalNone_any a0 a1 W).mono fun e W' ⟨he, bel⟩ => ?_
  subst he
  exact ⟨_, rfl, _, _, _, [], _, [], hW', trodAll_mk1 (shut_bool Try.underlying4 _), (trodAll_cons_mk (shut_int Try.underlying3 w0) (trodAll_cons_mk (shut_int Try.underlying3 w1) trodAll_mk0)), rfl, bel.frame _, fun h => by cases h⟩

theorem signalNone_holds : Rows.SignalNoneSaid :=
  OpenClaim.holds_of_wide 5 Try.f5 rfl rfl rfl rfl rfl rfl rfl ⟨rfl, rfl, rfl, rfl, rfl⟩ rfl rfl rfl rfl rfl (by kernel_rfl) Try.func5 (by kernel_rfl)
    (of_decide_eq_true (by kernel_rfl)) (by unfold Func.isWrapper; rw [if_neg (by decide +kernel)]; exact ⟨rfl, rfl⟩)
    (fun os started H enc _ => signalNone_lifted os started H enc)
end Go.Proofs.Ytafgeoafmkbeoaa
