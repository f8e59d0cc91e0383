/-
  A region that leaves its order open and writes what it has read: 'x = append(x, ..)'. As Ord, but of the operations named 'late' (each waits for all that was taken first) nothing is asked behind them: what was read may be written by them. No program is named here.
  A region that leaves its order open, walked by a way that is typed out: what is taken first, what comes up alone, and where two may come up, both ways. As Late, but with forks. No program is named here.
  The forest of package arena in memory; what its small functions do: New, Len, has, fitsName, nextAbove, isAbove.
  What Name, Want and Tie of package arena do.
  What Tie of package arena does.
  What towncrierref04.Make does.
  What Make of package arena does.
  What Make of package arena does.
  What towncrierref04.Do does.
  Calls on a forest that came in: a list of them, each with its text, its node and its list of numbers, read cell by cell.
  What copyOf and Node of package arena do.
  What Node of package arena does.
  What All of package arena does.
-/
import Derived.Test.YtphpbeapibohiaaPartA
import Derived.Laws.CopyOwn
import Derived.Laws.ResultCell

namespace Go.Proofs.Ytphpbeapibohiaa
open Go

section
variable {P : Program} {ops : Array Oper} {Q : Exit → Act → World → Prop} {md : Region.Mode} {late pin : List Nat}

/-- Does each late operation wait for i? -/
def waits (md : Region.Mode) (ops : Array Oper) (late : List Nat) (i : Nat) : Bool :=
  late.all fun z => match ops[z]? with
    | some o => o.after.any fun e => Region.binds md e && e.on == i
    | none => true

/-- Whatever order is picked; S holds behind every operation that is not late. -/
def wpAnyZ (P : Program) (md : Region.Mode) (ops : Array Oper) (Q : Exit → Act → World → Prop) (late : List Nat) (S : World → Prop) : Nat → Array Bool → Act → World → Prop
  | 0, listed, a, w => Region.ready md ops listed = [] ∧ Q .normal a w
  | n + 1, listed, a, w => (Region.ready md ops listed = [] → Q .normal a w) ∧
      ∀ i ∈ Region.ready md ops listed, wpOp P ops Q i (fun a' w' => (late.contains i = false → S w') ∧ wpAnyZ P md ops Q late S n (listed.setIfInBounds i true) a' w') a w

theorem wpAny_of_Z {S : World → Prop} : ∀ (n : Nat) (listed : Array Bool) (a : Act) (w : World), wpAnyZ P md ops Q late S n listed a w → wpAny P md ops Q n listed a w
  | 0, _, _, _, h => h
  | n + 1, _, _, _, h => ⟨h.1, fun i hi => wpOp_mono (fun a' w' h' => wpAny_of_Z n _ a' w' h'.2) (h.2 i hi)⟩

theorem wpAnyZ_wide {S S' : World → Prop} (hS : ∀ w, S' w → S w) : ∀ (n : Nat) (listed : Array Bool) (a : Act) (w : World), wpAnyZ P md ops Q late S' n listed a w → wpAnyZ P md ops Q late S n listed a w
  | 0, _, _, _, h => h
  | n + 1, _, _, _, h => ⟨h.1, fun i hi => wpOp_mono (fun a' w' h' => ⟨fun hl => hS _ (h'.1 hl), wpAnyZ_wide hS n _ a' w' h'.2⟩) (h.2 i hi)⟩

theorem wpAnyZ_done {S : World → Prop} {listed : Array Bool} {a : Act} {w : World} (hr : Region.ready md ops listed = []) (h : Q .normal a w) : ∀ n, wpAnyZ P md ops Q late S n listed a w
  | 0 => ⟨hr, h⟩
  | _ + 1 => ⟨fun _ => h, fun _ hi => absurd (hr ▸ hi) (List.not_mem_nil)⟩

/-- What is not listed is waited for. -/
theorem not_waiting {listed : Array Bool} {i : Nat} {oj : Oper} (hi : listed.getD i true = false) (hall : ∀ e ∈ oj.after, Region.binds md e = true → listed.getD e.on false = true) : ∀ e ∈ oj.after, Region.binds md e = true → e.on ≠ i := by
  rintro e he hb rfl
  have h := hall e he hb
  simp only [Array.getD] at hi h
  split at hi
  · rename_i hlt
    rw [dif_pos hlt] at h
    exact absurd (h.symm.trans hi) (by decide)
  · cases hi

theorem not_late {i j : Nat} {oj : Oper} (hw : waits md ops late i = true) (hj : ops[j]? = some oj) (hno : ∀ e ∈ oj.after, Region.binds md e = true → e.on ≠ i) : late.contains j = false := by
  cases hl : late.contains j with
  | false => rfl
  | true =>
    have h := List.all_eq_true.1 hw j (List.contains_iff_mem.1 hl)
    rw [hj] at h
    obtain ⟨e, he, hb⟩ := Array.any_eq_true'.1 h
    simp only [Bool.and_eq_true, beq_iff_eq] at hb
    exact absurd hb.2 (hno e he hb.1)

/-- Operation i may be taken first: it yields v in every world that meets S, and whoever could come ahead of it leaves S standing. -/
theorem wpAnyZ_take {S : World → Prop} {i : Nat} {oi : Oper} {v : Value} (hi : ops[i]? = some oi) (hs : Region.noSelect ops = true) (hw : waits md ops late i = true)
    (hQ : ∀ c a w, Q (.panic c) (Act.put a oi.dst v) w → Q (.panic c) a w) :
    ∀ (n : Nat) (listed : Array Bool) (a : Act) (w : World), Region.free md ops listed i = true → i ∈ Region.ready md ops listed → YieldsIf P ops S oi v a → S w →
      wpAnyZ P md ops Q late S n (listed.setIfInBounds i true) (a.put oi.dst v) w → wpAnyZ P md ops Q late S (n + 1) listed a w := by
  intro n
  induction n with
  | zero =>
    intro listed a w _ hr hy hS H
    refine ⟨fun h => absurd (h ▸ hr) List.not_mem_nil, fun j hj => ?_⟩
    by_cases hji : j = i
    · subst hji
      exact hy.wpOp hi hS ⟨fun _ => hS, H⟩
    · exact absurd (H.1 ▸ ready_mono hj hji) List.not_mem_nil
  | succ n ih =>
    intro listed a w hf hr hy hS H
    refine ⟨fun h => absurd (h ▸ hr) List.not_mem_nil, fun j hj => ?_⟩
    by_cases hji : j = i
    · subst hji
      exact hy.wpOp hi hS ⟨fun _ => hS, H⟩
    · obtain ⟨hun, oj, hoj, hall⟩ := mem_ready.1 hj
      have hno := not_waiting (mem_ready.1 hr).1 hall
      have hnl := not_late hw hoj hno
      have step := wpOp_putIf hoj (Region.free_spec hi hf j oj hoj hji hun hno) (fun cs b => Region.noSelect_spec hs i oi cs b hi) (fun cs b => Region.noSelect_spec hs j oj cs b hoj) hQ hy (H.2 j (ready_mono hj hji))
      have hf' : Region.free md ops (listed.setIfInBounds j true) i = true := by
        simp only [Region.free, hi, List.all_eq_true, List.mem_range] at hf ⊢
        intro k hk
        have := hf k hk
        by_cases hjk : j = k
        · subst hjk
          have hlt : j < listed.size := by
            rcases Nat.lt_or_ge j listed.size with h | h
            · exact h
            · simp [Array.getD, Nat.not_lt.2 h] at hun
          simp [Array.getD, hlt]
        · rw [getD_set_ne true hjk]
          exact this
      refine wpOp_mono (fun a' w' h' => ⟨fun _ => h'.2.1 hnl, ih _ a' w' hf' (ready_mono hr (Ne.symm hji)) h'.1 (h'.2.1 hnl) ?_⟩) step
      rw [Array.setIfInBounds_comm _ _ hji]
      exact h'.2.2

/-- May the operations come up in this order, each pinned one alone, each late one behind what was taken first? -/
def lateOk (md : Region.Mode) (ops : Array Oper) (late pin : List Nat) : List Nat → Array Bool → Bool
  | [], listed => Region.ready md ops listed == []
  | i :: r, listed => (if pin.contains i then Region.ready md ops listed == [i] else (Region.free md ops listed i && (Region.ready md ops listed).contains i && waits md ops late i)) && (ops[i]?).isSome && lateOk md ops late pin r (listed.setIfInBounds i true)

def wpLate (P : Program) (ops : Array Oper) (Q : Exit → Act → World → Prop) (late pin : List Nat) : (World → Prop) → List (Nat × Oper) → Act → World → Prop
  | _, [], a, w => Q .normal a w
  | S, (i, o) :: r, a, w => ∃ S' : World → Prop, (∀ w, S' w → S w) ∧
      if pin.contains i = true then wpOp P ops Q i (fun a' w' => (late.contains i = false → S' w') ∧ wpLate P ops Q late pin S' r a' w') a w
      else ∃ v, YieldsIf P ops S' o v a ∧ S' w ∧ wpLate P ops Q late pin S' r (a.put o.dst v) w

theorem wpAnyZ_of_late (hs : Region.noSelect ops = true) (hQ : ∀ c a d v w, Q (.panic c) (Act.put a d v) w → Q (.panic c) a w) :
    ∀ (l : List Nat) (S : World → Prop) (n : Nat) (listed : Array Bool) (a : Act) (w : World), l.length ≤ n → lateOk md ops late pin l listed = true → wpLate P ops Q late pin S (picked ops.toList l) a w → wpAnyZ P md ops Q late S n listed a w
  | [], S, n, listed, a, w, _, hk, h => wpAnyZ_done (by simpa [lateOk] using hk) h n
  | i :: r, _, 0, _, _, _, hl, _, _ => by simp at hl
  | i :: r, S, n + 1, listed, a, w, hl, hk, h => by
    simp only [lateOk, Bool.and_eq_true] at hk
    obtain ⟨⟨hk1, hk3⟩, hk2⟩ := hk
    obtain ⟨o, ho⟩ := Option.isSome_iff_exists.1 hk3
    have ho' : ops.toList[i]? = some o := by simpa using ho
    simp only [picked, ho', wpLate] at h
    obtain ⟨S', hSS, h⟩ := h
    refine wpAnyZ_wide hSS _ _ _ _ ?_
    have hl' : r.length ≤ n := by simpa using hl
    by_cases hp : pin.contains i = true
    · rw [if_pos hp] at h hk1
      have hr : Region.ready md ops listed = [i] := by simpa using hk1
      refine ⟨fun h0 => absurd (h0.symm.trans hr) (by simp), fun j hj => ?_⟩
      rw [hr] at hj
      obtain rfl := List.mem_singleton.1 hj
      exact wpOp_mono (fun a' w' h' => ⟨h'.1, wpAnyZ_of_late hs hQ r _ n _ a' w' hl' hk2 h'.2⟩) h
    · rw [if_neg hp] at h hk1
      obtain ⟨v, hy, hS, h⟩ := h
      simp only [Bool.and_eq_true] at hk1
      exact wpAnyZ_take ho hs hk1.2 (fun c a w => hQ c a _ v w) n listed a w hk1.1.1 (by simpa using hk1.1.2) hy hS (wpAnyZ_of_late hs hQ r _ n _ _ _ hl' hk2 h)

/-- The beginning. -/
theorem wp_region_late {S : World → Prop} {ol : List Oper} {id : Nat} {a : Act} {w : World} {l : List Nat} (hm : P.follows .mixedOrders = true) (hs : Region.noSelect ol.toArray = true) (hl : (l.length == ol.length) = true)
    (hk : lateOk .any ol.toArray late pin l (Array.replicate ol.length false) = true) (hS : S w.drew)
    (h : S w.drew → wpLate P ol.toArray (NoPanic Q) late pin S (picked ol l) a w.drew) : (Code.region id ol.toArray true).wp P Q a w :=
  wp_region_noPanic (wp_region_any hm (wpAny_of_Z _ _ _ _ (wpAnyZ_of_late hs (fun _ _ _ _ _ h => h) l S ol.toArray.size _ a _ (by
    have : l.length = ol.length := by simpa using hl
    simp; omega) (by simpa using hk) (h hS))))

variable {i : Nat} {r : List (Nat × Oper)} {o : Oper} {a : Act} {w : World} {v : Value} {S : World → Prop}
theorem late_tight (S' : World → Prop) (hS : ∀ w, S' w → S w) (hw : S' w) (h : S' w → wpLate P ops Q late pin S' r a w) : wpLate P ops Q late pin S r a w := by
  match r, h hw with
  | [], h => exact h
  | (_, _) :: _, ⟨S'', h1, h2⟩ => exact ⟨S'', fun w hw => hS w (h1 w hw), h2⟩
theorem late_skip (hp : pin.contains i = false) (hw : Region.wanted o (yielded ops a.tmps) = false) (hS : S w) (h : wpLate P ops Q late pin S r (a.put o.dst undef) w) : wpLate P ops Q late pin S ((i, o) :: r) a w := by
  unfold wpLate
  refine ⟨S, fun _ h => h, ?_⟩
  rw [if_neg (by rw [hp]; decide)]
  exact ⟨undef, .inr ⟨hw, rfl⟩, hS, h⟩
theorem late_take (hp : pin.contains i = false) (hw : Region.wanted o (yielded ops a.tmps) = true) (hy : ∀ w, S w → (execOp a.eval o).run P w = .ok (.value v) w) (hS : S w)
    (h : wpLate P ops Q late pin S r (a.put o.dst v) w) : wpLate P ops Q late pin S ((i, o) :: r) a w := by
  unfold wpLate
  refine ⟨S, fun _ h => h, ?_⟩
  rw [if_neg (by rw [hp]; decide)]
  exact ⟨v, .inl ⟨hw, hy⟩, hS, h⟩
/-- A pinned operation that is not late. -/
theorem late_run (hp : pin.contains i = true) (ho : ops[i]? = some o) (hw : Region.wanted o (yielded ops a.tmps) = true)
    (h : ∀ K' : Act → World → Prop, Shut (∀ a w, S w → (S w → wpLate P ops Q late pin S r a w) → K' a w) → Oper.wp P o a w K' Q) : wpLate P ops Q late pin S ((i, o) :: r) a w := by
  unfold wpLate
  refine ⟨S, fun _ h => h, ?_⟩
  rw [if_pos hp]
  exact wpOp_step ho fun K' hK => by rw [if_pos hw]; exact h K' fun a w hS hW => hK a w ⟨fun _ => hS, hW hS⟩
theorem late_pass (hp : pin.contains i = true) (ho : ops[i]? = some o) (hw : Region.wanted o (yielded ops a.tmps) = false) (hS : S w) (h : wpLate P ops Q late pin S r (a.put o.dst undef) w) : wpLate P ops Q late pin S ((i, o) :: r) a w := by
  unfold wpLate
  refine ⟨S, fun _ h => h, ?_⟩
  rw [if_pos hp]
  exact wpOp_step ho fun K' hK => by rw [if_neg (by rw [hw]; decide)]; exact hK _ _ ⟨fun _ => hS, h⟩
/-- A late one. -/
theorem late_last (hp : pin.contains i = true) (hl : late.contains i = true) (ho : ops[i]? = some o) (hw : Region.wanted o (yielded ops a.tmps) = true)
    (h : ∀ K' : Act → World → Prop, Shut (∀ a w, wpLate P ops Q late pin S r a w → K' a w) → Oper.wp P o a w K' Q) : wpLate P ops Q late pin S ((i, o) :: r) a w := by
  unfold wpLate
  refine ⟨S, fun _ h => h, ?_⟩
  rw [if_pos hp]
  exact wpOp_step ho fun K' hK => by rw [if_pos hw]; exact h K' fun a w hW => hK a w ⟨fun hf => absurd (hl.symm.trans hf) (by decide), hW⟩
theorem late_done (h : Q .normal a w) : wpLate P ops (NoPanic Q) late pin S [] a w := h
end
end Go.Proofs.Ytphpbeapibohiaa

namespace Go.Proofs.Ytphpbeapibohiaa
open Go

/-- A way through a region: take i first; i comes up alone; i or j comes up. -/
inductive Way where
  | fin : Way
  | take : Nat → Way → Way
  | run : Nat → Way → Way
  | fork : Nat → Way → Nat → Way → Way
def Way.takes : List Nat → Way → Way
  | [], p => p
  | i :: r, p => .take i (Way.takes r p)
def Way.length : Way → Nat
  | .fin => 0
  | .take _ p => p.length + 1
  | .run _ p => p.length + 1
  | .fork _ p _ q => max p.length q.length + 1

section
variable {P : Program} {ops : Array Oper} {Q : Exit → Act → World → Prop} {md : Region.Mode} {late : List Nat}

def wayOk (md : Region.Mode) (ops : Array Oper) (late : List Nat) : Way → Array Bool → Bool
  | .fin, listed => Region.ready md ops listed == []
  | .take i p, listed => Region.free md ops listed i && (Region.ready md ops listed).contains i && waits md ops late i && wayOk md ops late p (listed.setIfInBounds i true)
  | .run i p, listed => Region.ready md ops listed == [i] && wayOk md ops late p (listed.setIfInBounds i true)
  | .fork i p j q, listed => Region.ready md ops listed == [i, j] && wayOk md ops late p (listed.setIfInBounds i true) && wayOk md ops late q (listed.setIfInBounds j true)

def wpWay (P : Program) (ops : Array Oper) (Q : Exit → Act → World → Prop) (late : List Nat) : (World → Prop) → Way → Act → World → Prop
  | _, .fin, a, w => Q .normal a w
  | S, .take i p, a, w => ∃ S' : World → Prop, (∀ w, S' w → S w) ∧ ∃ o, ops[i]? = some o ∧ ∃ v, YieldsIf P ops S' o v a ∧ S' w ∧ wpWay P ops Q late S' p (a.put o.dst v) w
  | S, .run i p, a, w => ∃ S' : World → Prop, (∀ w, S' w → S w) ∧ wpOp P ops Q i (fun a' w' => (late.contains i = false → S' w') ∧ wpWay P ops Q late S' p a' w') a w
  | S, .fork i p j q, a, w => (∃ S' : World → Prop, (∀ w, S' w → S w) ∧ wpOp P ops Q i (fun a' w' => (late.contains i = false → S' w') ∧ wpWay P ops Q late S' p a' w') a w) ∧
      ∃ S' : World → Prop, (∀ w, S' w → S w) ∧ wpOp P ops Q j (fun a' w' => (late.contains j = false → S' w') ∧ wpWay P ops Q late S' q a' w') a w

theorem wpAnyZ_of_way (hs : Region.noSelect ops = true) (hQ : ∀ c a d v w, Q (.panic c) (Act.put a d v) w → Q (.panic c) a w) :
    ∀ (y : Way) (S : World → Prop) (n : Nat) (listed : Array Bool) (a : Act) (w : World), y.length ≤ n → wayOk md ops late y listed = true → wpWay P ops Q late S y a w → wpAnyZ P md ops Q late S n listed a w
  | .fin, S, n, listed, a, w, _, hk, h => wpAnyZ_done (by simpa [wayOk] using hk) h n
  | .take _ _, _, 0, _, _, _, hl, _, _ => by simp [Way.length] at hl
  | .run _ _, _, 0, _, _, _, hl, _, _ => by simp [Way.length] at hl
  | .fork _ _ _ _, _, 0, _, _, _, hl, _, _ => by simp [Way.length] at hl
  | .take i p, S, n + 1, listed, a, w, hl, hk, h => by
    simp only [wayOk, Bool.and_eq_true] at hk
    obtain ⟨⟨⟨k1, k2⟩, k3⟩, k4⟩ := hk
    obtain ⟨S', hSS, o, ho, v, hy, hS, h⟩ := h
    refine wpAnyZ_wide hSS _ _ _ _ ?_
    exact wpAnyZ_take ho hs k3 (fun c a w => hQ c a _ v w) n listed a w k1 (by simpa using k2) hy hS (wpAnyZ_of_way hs hQ p _ n _ _ _ (by simpa [Way.length] using hl) k4 h)
  | .run i p, S, n + 1, listed, a, w, hl, hk, h => by
    simp only [wayOk, Bool.and_eq_true] at hk
    obtain ⟨k1, k2⟩ := hk
    obtain ⟨S', hSS, h⟩ := h
    refine wpAnyZ_wide hSS _ _ _ _ ?_
    have hr : Region.ready md ops listed = [i] := by simpa using k1
    refine ⟨fun h0 => absurd (h0.symm.trans hr) (by simp), fun j hj => ?_⟩
    rw [hr] at hj
    obtain rfl := List.mem_singleton.1 hj
    exact wpOp_mono (fun a' w' h' => ⟨h'.1, wpAnyZ_of_way hs hQ p _ n _ a' w' (by simpa [Way.length] using hl) k2 h'.2⟩) h
  | .fork i p j q, S, n + 1, listed, a, w, hl, hk, h => by
    simp only [wayOk, Bool.and_eq_true] at hk
    obtain ⟨⟨k1, k2⟩, k3⟩ := hk
    obtain ⟨⟨S1, hS1, h1⟩, S2, hS2, h2⟩ := h
    have hl1 : p.length ≤ n := by simp [Way.length] at hl; omega
    have hl2 : q.length ≤ n := by simp [Way.length] at hl; omega
    have hr : Region.ready md ops listed = [i, j] := by simpa using k1
    refine ⟨fun h0 => absurd (h0.symm.trans hr) (by simp), fun x hx => ?_⟩
    rw [hr] at hx
    rcases List.mem_cons.1 hx with rfl | hx
    · exact wpOp_mono (fun a' w' h' => ⟨fun hf => hS1 _ (h'.1 hf), wpAnyZ_wide hS1 _ _ _ _ (wpAnyZ_of_way hs hQ p _ n _ a' w' hl1 k2 h'.2)⟩) h1
    · obtain rfl := List.mem_singleton.1 hx
      exact wpOp_mono (fun a' w' h' => ⟨fun hf => hS2 _ (h'.1 hf), wpAnyZ_wide hS2 _ _ _ _ (wpAnyZ_of_way hs hQ q _ n _ a' w' hl2 k3 h'.2)⟩) h2

/-- The beginning. -/
theorem wp_region_way {S : World → Prop} {ol : List Oper} {id : Nat} {a : Act} {w : World} {y : Way} (hm : P.follows .mixedOrders = true) (hs : Region.noSelect ol.toArray = true) (hl : y.length = ol.length)
    (hk : wayOk .any ol.toArray late y (Array.replicate ol.length false) = true) (hS : S w.drew)
    (h : S w.drew → wpWay P ol.toArray (NoPanic Q) late S y a w.drew) : (Code.region id ol.toArray true).wp P Q a w :=
  wp_region_noPanic (wp_region_any hm (wpAny_of_Z _ _ _ _ (wpAnyZ_of_way hs (fun _ _ _ _ _ h => h) y S ol.toArray.size _ a _ (by simp; omega) (by simpa using hk) (h hS))))

variable {i j : Nat} {p q : Way} {o : Oper} {a : Act} {w : World} {v : Value} {S : World → Prop}
theorem way_tight (S' : World → Prop) (hS : ∀ w, S' w → S w) (hw : S' w) (h : S' w → wpWay P ops Q late S' p a w) : wpWay P ops Q late S p a w := by
  have h := h hw
  match p, h with
  | .fin, h => exact h
  | .take _ _, ⟨S'', h1, h2⟩ => exact ⟨S'', fun w hw => hS w (h1 w hw), h2⟩
  | .run _ _, ⟨S'', h1, h2⟩ => exact ⟨S'', fun w hw => hS w (h1 w hw), h2⟩
  | .fork _ _ _ _, ⟨⟨S1, h1, h2⟩, S2, h3, h4⟩ => exact ⟨⟨S1, fun w hw => hS w (h1 w hw), h2⟩, S2, fun w hw => hS w (h3 w hw), h4⟩
theorem way_skip (ho : ops[i]? = some o) (hw : Region.wanted o (yielded ops a.tmps) = false) (hS : S w) (h : wpWay P ops Q late S p (a.put o.dst undef) w) : wpWay P ops Q late S (.take i p) a w :=
  ⟨S, fun _ h => h, o, ho, undef, .inr ⟨hw, rfl⟩, hS, h⟩
theorem way_take (ho : ops[i]? = some o) (hw : Region.wanted o (yielded ops a.tmps) = true) (hy : ∀ w, S w → (execOp a.eval o).run P w = .ok (.value v) w) (hS : S w)
    (h : wpWay P ops Q late S p (a.put o.dst v) w) : wpWay P ops Q late S (.take i p) a w :=
  ⟨S, fun _ h => h, o, ho, v, .inl ⟨hw, hy⟩, hS, h⟩
theorem way_run (ho : ops[i]? = some o) (hw : Region.wanted o (yielded ops a.tmps) = true)
    (h : ∀ K' : Act → World → Prop, Shut (∀ a w, S w → (S w → wpWay P ops Q late S p a w) → K' a w) → Oper.wp P o a w K' Q) : wpWay P ops Q late S (.run i p) a w :=
  ⟨S, fun _ h => h, wpOp_step ho fun K' hK => by rw [if_pos hw]; exact h K' fun a w hS hW => hK a w ⟨fun _ => hS, hW hS⟩⟩
theorem way_pass (ho : ops[i]? = some o) (hw : Region.wanted o (yielded ops a.tmps) = false) (hS : S w) (h : wpWay P ops Q late S p (a.put o.dst undef) w) : wpWay P ops Q late S (.run i p) a w :=
  ⟨S, fun _ h => h, wpOp_step ho fun K' hK => by rw [if_neg (by rw [hw]; decide)]; exact hK _ _ ⟨fun _ => hS, h⟩⟩
theorem way_last (hl : late.contains i = true) (ho : ops[i]? = some o) (hw : Region.wanted o (yielded ops a.tmps) = true)
    (h : ∀ K' : Act → World → Prop, Shut (∀ a w, wpWay P ops Q late S p a w → K' a w) → Oper.wp P o a w K' Q) : wpWay P ops Q late S (.run i p) a w :=
  ⟨S, fun _ h => h, wpOp_step ho fun K' hK => by rw [if_pos hw]; exact h K' fun a w hW => hK a w ⟨fun hf => absurd (hl.symm.trans hf) (by decide), hW⟩⟩
theorem way_fork (h1 : wpWay P ops Q late S (.run i p) a w) (h2 : wpWay P ops Q late S (.run j q) a w) : wpWay P ops Q late S (.fork i p j q) a w := ⟨h1, h2⟩
theorem way_done (h : Q .normal a w) : wpWay P ops (NoPanic Q) late S .fin a w := h
end
end Go.Proofs.Ytphpbeapibohiaa

namespace Go.Proofs.Ytphpbeapibohiaa
open Go Go.RowKit

/-- The forest at block b holds l, in blocks that S names. -/
def Frst (S : Nat → Prop) (w : World) (b : Nat) (l : List Nd) : Prop := S b ∧ ∃ A c, Has w b (.cells #[.slice A l.length c] 74 (0, 0)) ∧ Nodes S w 0 A c l
section
variable {S S' F : Nat → Prop} {w w' : World} {b : Nat} {l : List Nd}
theorem Frst.keep (h : Frst S w b l) (k : Keeps F w w') (hF : ∀ i, S i → i < w.heap.size → ¬ F i) : Frst S w' b l := by
  obtain ⟨hS, A, c, h1, h2⟩ := h
  exact ⟨hS, A, c, h1.kept k (hF b hS h1.inside), h2.keptG k hF⟩
theorem Frst.wide (h : Frst S w b l) (hS : ∀ i, S i → i < w.heap.size → S' i) : Frst S' w b l := by
  obtain ⟨h0, A, c, h1, h2⟩ := h
  exact ⟨hS b h0 h1.inside, A, c, h1, h2.wide hS⟩
theorem Frst.below (h : Frst S w b l) (k : Below w.heap.size w w') : Frst S w' b l :=
  h.keep (Keeps.of_below (F := fun i => w.heap.size ≤ i) k fun _ _ h => h) fun _ _ hi => Nat.not_le.2 hi
/-- A node's nine cells. -/
theorem Nodes.nine {G : Nat → Prop} {B c m : Nat} {A : Option Addr} (h : Nodes G w B A c l) (hm : m < l.length) : ∃ g k, A = some ⟨g, 0, none⟩ ∧ B ≤ g ∧ g < w.heap.size ∧ Kids G w k (nd l ((m : Int) + 1)).kids ∧ (∀ j, w.frozen? ⟨g, j, none⟩ = false) ∧
    w.cell? ⟨g, m * 9, none⟩ = some (.int .i64 (nd l ((m : Int) + 1)).kind) ∧ w.cell? ⟨g, m * 9 + 1, none⟩ = some (.int .i64 (nd l ((m : Int) + 1)).parent) ∧ w.cell? ⟨g, m * 9 + 2, none⟩ = some (.int .i64 (nd l ((m : Int) + 1)).host) ∧
    w.cell? ⟨g, m * 9 + 3, none⟩ = some (.int .i64 (nd l ((m : Int) + 1)).shadow) ∧ w.cell? ⟨g, m * 9 + 4, none⟩ = some (.int .i64 (nd l ((m : Int) + 1)).mode) ∧ w.cell? ⟨g, m * 9 + 5, none⟩ = some (.bool (nd l ((m : Int) + 1)).slot) ∧
    w.cell? ⟨g, m * 9 + 6, none⟩ = some (.string (nd l ((m : Int) + 1)).name) ∧ w.cell? ⟨g, m * 9 + 7, none⟩ = some (.string (nd l ((m : Int) + 1)).want) ∧ w.cell? ⟨g, m * 9 + 8, none⟩ = some k := by
  obtain ⟨g, k, rfl, hg, hk, hz, hc⟩ := h.at_ hm
  rw [nd_at hm]
  exact ⟨g, k, rfl, hg, h.inside _ _ _ rfl, hk, hz, hc 0 (by omega), hc 1 (by omega), hc 2 (by omega), hc 3 (by omega), hc 4 (by omega), hc 5 (by omega), hc 6 (by omega), hc 7 (by omega), hc 8 (by omega)⟩
end

section
variable {S : Nat → Prop} {w : World} {b : Nat} {l : List Nd}
theorem arNew (S : Nat → Prop) (w : World) (hS : Fut S w.heap.size) : Calls Try.prog 27 #[] w fun e w' => ∃ b, e = .returned (.pointer (some ⟨b, 0, none⟩)) ∧ Frst S w' b [] ∧ Below w.heap.size w w' := by
  have hh : Has (w.alloc (.cells #[.slice none 0 0] 74)) w.heap.size (.cells #[.slice none 0 0] 74 (0, 0)) := Has.fresh _ _
  have hb : Below w.heap.size w (w.alloc (.cells #[.slice none 0 0] 74)) := (Below.refl _ w).alloc (Nat.le_refl _) _
  have HH := Lib.hid hh
  clear hh
  go_enter Try.func27, Try.ntmps27
  go_wp2
  go_ret
  exact ⟨_, rfl, ⟨hS _ (Nat.le_refl _), none, 0, HH.out, Nodes.nil _ _⟩, hb⟩

theorem arLen (h : Frst S w b l) : Calls Try.prog 60 #[.pointer (some ⟨b, 0, none⟩)] w fun e w' => e = .returned (.int .i64 l.length) ∧ w = w' := by
  obtain ⟨-, A, c, h1, -⟩ := h
  have c0 := h1.cell 0
  clear h1
  go_enter Try.func60, Try.ntmps60
  go_wp2
  go_ret
  exact ⟨rfl, rfl⟩

theorem arHas (h : Frst S w b l) (id : Int) : Calls Try.prog 46 #[.pointer (some ⟨b, 0, none⟩), .int .i64 id] w fun e w' => e = .returned (.bool (thereB l id)) ∧ w = w' := by
  have H := Lib.hid h
  clear h
  by_cases h1 : 1 ≤ id
  · have e1 : decide (1 ≤ id) = true := decide_eq_true h1
    have e : thereB l id = decide (id ≤ (l.length : Int)) := by unfold thereB; rw [e1]; rfl
    rw [e]
    clear e
    go_enter Try.func46, Try.ntmps46
    go_wp2_with fail
    refine (arLen H.out).mono ?_
    rintro e w1 ⟨rfl, rfl⟩
    go_wp2
    go_ret
    exact ⟨rfl, rfl⟩
  · have e1 : decide (1 ≤ id) = false := decide_eq_false h1
    have e : thereB l id = false := by unfold thereB; rw [e1]; rfl
    rw [e]
    clear e
    go_enter Try.func46, Try.ntmps46
    go_wp2
    go_ret
    exact ⟨rfl, rfl⟩
theorem arHas_is (h : Frst S w b l) {id : Int} {x : Bool} (hx : thereB l id = x) : Calls Try.prog 46 #[.pointer (some ⟨b, 0, none⟩), .int .i64 id] w fun e w' => e = .returned (.bool x) ∧ w = w' := by
  rw [← hx]
  exact arHas h id

theorem arFits (s : ByteArray) (w : World) (hs : s.size ≤ 9223372036854775807) {x : Bool} (hx : okName s = x) :
    Calls Try.prog 51 #[.string s] w fun e w' => e = .returned (.bool x) ∧ Below w.heap.size w w' := by
  subst hx
  cases h0 : s.toList.isEmpty with
  | true =>
    have e1 : okName s = true := by unfold okName; rw [h0]; rfl
    rw [e1]
    go_enter Try.func51, Try.ntmps51
    go_wp2
    go_ret
    exact ⟨rfl, Below.refl _ _⟩
  | false =>
    have e1 : okName s = rightL s.data.toList := by unfold okName; rw [h0]; rfl
    rw [e1]
    clear e1
    go_enter Try.func51, Try.ntmps51
    go_wp2_with fail
    refine (right_any s w hs).mono ?_
    rintro e w1 ⟨rfl, hb⟩
    go_wp2
    go_ret
    exact ⟨rfl, hb⟩

/-- One step up. -/
theorem arNext (h : Frst S w b l) (hl : l.length ≤ 128) {id : Int} (ht : thereB l id = true) : Calls Try.prog 61 #[.pointer (some ⟨b, 0, none⟩), .int .i64 id] w fun e w' => e = .returned (.int .i64 (upOf l id)) ∧ Below w.heap.size w w' := by
  obtain ⟨-, A, c, h1, hN⟩ := h
  have q0 := h1.cell 0
  obtain ⟨m, rfl, hm⟩ := there_at ht
  obtain ⟨g, k, rfl, -, -, hk, -, c0, c1, c2, c3, c4, c5, c6, c7, c8⟩ := hN.nine hm
  obtain ⟨A1, n1, rfl, -, -⟩ := hk.form
  have hb : Below w.heap.size w (w.alloc (.cells #[.int .i64 (nd l ((m : Int) + 1)).kind, .int .i64 (nd l ((m : Int) + 1)).parent, .int .i64 (nd l ((m : Int) + 1)).host, .int .i64 (nd l ((m : Int) + 1)).shadow, .int .i64 (nd l ((m : Int) + 1)).mode, .bool (nd l ((m : Int) + 1)).slot, .string (nd l ((m : Int) + 1)).name, .string (nd l ((m : Int) + 1)).want, .slice A1 (nd l ((m : Int) + 1)).kids.length n1] 52)) := (Below.refl _ w).alloc (Nat.le_refl _) _
  have e : upOf l ((m : Int) + 1) = if (nd l ((m : Int) + 1)).parent = 0 then (nd l ((m : Int) + 1)).host else (nd l ((m : Int) + 1)).parent := rfl
  rw [e]
  obtain ⟨d, hd⟩ : ∃ d, d = nd l ((m : Int) + 1) := ⟨_, rfl⟩
  rw [← hd] at c0 c1 c2 c3 c4 c5 c6 c7 c8 hb
  rw [← hd]
  obtain ⟨kd, pa, ho, sh, mo, sl, na, wa, ks⟩ := d
  simp only at c0 c1 c2 c3 c4 c5 c6 c7 c8 hb
  simp only
  clear h1 hN ht hk e hd
  by_cases hp : pa = 0
  · subst hp
    rw [if_pos rfl]
    go_enter Try.func61, Try.ntmps61
    go_wp2
    go_ret
    exact ⟨rfl, hb⟩
  · rw [if_neg hp]
    have z1 : (pa != 0) = true := by simpa using hp
    have z2 : (pa == 0) = false := by simpa using hp
    go_enter Try.func61, Try.ntmps61
    go_wp2
    go_ret
    exact ⟨rfl, hb⟩
end

section
variable {l : List Nd}
theorem over_step (T : Tree l) {x : Int} (h : thereB l x = true) : over l x = x :: over l (upOf l x) := by
  have e : over l x = x :: overN l l.length (upOf l x) := over_go h
  have hs : (over l x).length ≤ l.length := up_short T.ends (l.length + 1) x
  rw [e] at hs
  simp only [List.length_cons] at hs
  rw [e]
  show _ = x :: overN l (l.length + 1) _
  rw [up_more l.length (upOf l x) (by omega)]
theorem over_zero : over l 0 = [] := over_end (there_zero l)
theorem up_or (T : Tree l) {x : Int} (h : thereB l x = true) : upOf l x = 0 ∨ thereB l (upOf l x) = true := by
  unfold upOf
  split
  · by_cases hh : (nd l x).host = 0
    · exact .inl hh
    · exact .inr (T.host x h hh).2
  · rename_i hp
    exact .inr (T.par x h hp).1
theorem has_over_step (T : Tree l) {x a : Int} (h : thereB l x = true) : hasB (over l x) a = (decide (a = x) || hasB (over l (upOf l x)) a) := by
  rw [over_step T h]
  unfold hasB
  by_cases e : a = x <;> simp [e]
end

section
variable {S : Nat → Prop} {w : World} {b : Nat} {l : List Nd}
set_option maxHeartbeats 2000000 in
set_option maxRecDepth 100000 in
theorem arAbove (h : Frst S w b l) (hl : l.length ≤ 128) (T : Tree l) (a : Int) {id : Int} (ht : thereB l id = true) {x : Bool} (hx : hasB (over l (upOf l id)) a = x) :
    Calls Try.prog 50 #[.pointer (some ⟨b, 0, none⟩), .int .i64 a, .int .i64 id] w fun e w' => e = .returned (.bool x) ∧ Below w.heap.size w w' := by
  have H := Lib.hid h
  have HT := Lib.hid T
  have Ht := Lib.hid ht
  have Hx := Lib.hid hx
  clear h T ht hx
  go_enter Try.func50, Try.ntmps50
  go_wp2_with fail
  refine (arNext H.out hl Ht.out).mono ?_
  rintro e w1 ⟨rfl, hb1⟩
  have hup := up_or HT.out Ht.out
  obtain ⟨y, hy⟩ : ∃ y, y = upOf l id := ⟨_, rfl⟩
  rw [← hy] at hup Hx
  rw [← hy]
  have Hup := Lib.hid hup
  clear hup hy Ht
  go_wp2_with fail
  go_loopw [7] (fun at_ wr => ∃ z : Int, at_ = .int .i64 z ∧ (z = 0 ∨ thereB l z = true) ∧ hasB (over l z) a = x ∧ Below w.heap.size w wr) (fun at_ _ => (over l (intOf at_)).length)
  case atStart => exact ⟨y, rfl, Hup.out, Hx.out, hb1⟩
  case round =>
    obtain ⟨z, rfl, hz, hxz, hb⟩ := hrel
    clear Hup Hx
    by_cases h0 : z = 0
    · subst h0
      rw [over_zero] at hxz
      have hx0 : x = false := by rw [← hxz]; rfl
      subst hx0
      clear hxz hz
      go_wp2
      go_ret
      exact ⟨rfl, hb⟩
    · have hth : thereB l z = true := hz.resolve_left h0
      have z1 : (z != 0) = true := by simpa using h0
      have z2 : (z == 0) = false := by simpa using h0
      rw [has_over_step HT.out hth] at hxz
      by_cases ha : z = a
      · have hx0 : x = true := by rw [← hxz, ha]; simp
        subst hx0
        subst ha
        clear hxz hz
        go_wp2
        go_ret
        exact ⟨rfl, hb⟩
      · have z3 : (z == a) = false := by simpa using ha
        have hxz' : hasB (over l (upOf l z)) a = x := by
          rw [← hxz, decide_eq_false (fun e => ha e.symm)]
          rfl
        have Hxz := Lib.hid hxz'
        have Hth := Lib.hid hth
        have hR := H.out.below hb
        clear hxz hxz' hz hth
        go_wp2_with fail
        refine (arNext hR hl Hth.out).mono ?_
        rintro e w2 ⟨rfl, hb2⟩
        go_wp2
        go_roundw
        case rel => exact ⟨upOf l z, rfl, up_or HT.out Hth.out, Hxz.out, hb.trans (hb2.mono hb.size)⟩
        case measure =>
          simp only [intOf]
          rw [over_step HT.out Hth.out]
          simp
end
end Go.Proofs.Ytphpbeapibohiaa

namespace Go.Proofs.Ytphpbeapibohiaa
open Go Go.RowKit

/-- The forest at block b, its nodes at block g. -/
structure FrstAt (S : Nat → Prop) (w : World) (b g c : Nat) (l : List Nd) : Prop where
  mine : S b
  head : Has w b (.cells #[.slice (some ⟨g, 0, none⟩) l.length c] 74 (0, 0))
  nodes : Nodes S w 0 (some ⟨g, 0, none⟩) c l
section
variable {S F : Nat → Prop} {w w' : World} {b g c m f : Nat} {l : List Nd} {u : Value} {N : Nd → Nd}
theorem Frst.at_ (h : Frst S w b l) (hm : m < l.length) : ∃ g c, FrstAt S w b g c l := by
  obtain ⟨hS, A, c, h1, h2⟩ := h
  obtain ⟨g, rfl, -⟩ := h2.some_ hm
  exact ⟨g, c, hS, h1, h2⟩
theorem FrstAt.frst (h : FrstAt S w b g c l) : Frst S w b l := ⟨h.mine, _, _, h.head, h.nodes⟩
theorem FrstAt.row (h : FrstAt S w b g c l) : S g ∧ g < w.heap.size ∧ ∃ cur, Has w g (.cells cur 52 (0, 0)) := by
  obtain ⟨rows, rfl, h2, h3, h4⟩ := h.nodes
  refine ⟨h4 _ _ _ rfl, h.nodes.inside _ _ _ rfl, ?_⟩
  rcases h2.2 with ⟨hv, _⟩ | ⟨g', cap, cur, hv, _, hh, _⟩
  · cases hv
  · obtain rfl : g = g' := by injection hv with e1; simpa using e1
    exact ⟨cur, hh⟩
theorem FrstAt.ne (h : FrstAt S w b g c l) : b ≠ g := by
  obtain ⟨-, -, cur, hg⟩ := h.row
  exact Has.apart h.head hg (by simp)
theorem FrstAt.below (h : FrstAt S w b g c l) (k : Below w.heap.size w w') : FrstAt S w' b g c l := ⟨h.mine, h.head.below k h.head.inside, h.nodes.below k⟩
theorem FrstAt.keep (h : FrstAt S w b g c l) (k : Keeps F w w') (hF : ∀ i, S i → i < w.heap.size → ¬ F i) : FrstAt S w' b g c l := ⟨h.mine, h.head.kept k (hF b h.mine h.head.inside), h.nodes.keptG k hF⟩
theorem FrstAt.there_ (h : FrstAt S w b g c l) : w.cell? ⟨b, 0, none⟩ = some (.slice (some ⟨g, 0, none⟩) l.length c) := h.head.cell 0
theorem FrstAt.drewN (h : FrstAt S w b g c l) (n : Nat) : FrstAt S (w.drewN n) b g c l := ⟨h.mine, h.head, h.nodes⟩
/-- One field of one node is written. -/
theorem FrstAt.turn (h : FrstAt S w b g c l) (hm : m < l.length) (hf : f < 9) (hN : ∀ d k, (N d).cells k = (d.cells k).set f u) (hk : ∀ d, (N d).kids = d.kids) :
    FrstAt S (w.setCell ⟨g, m * 9 + f, none⟩ u) b g c (modN l ((m : Int) + 1) N) := by
  obtain ⟨-, -, h3⟩ := h.nodes.turn hm hf hN hk
  refine ⟨h.mine, ?_, h3⟩
  rw [modN_length]
  exact h.head.aside h.ne u
theorem Keeps.ofBelow (k : Below w.heap.size w w') : Keeps S w w' := Keeps.of_below k fun _ hi h => absurd hi (Nat.not_lt.2 h)
end

/-- An error's number, and the forest then. -/
def Told (S : Nat → Prop) (w : World) (b : Nat) (l' : List Nd) (err : Int) (e : Ending) (w' : World) : Prop := e = .returned (.int .i64 err) ∧ Frst S w' b l' ∧ Keeps S w w'

section
variable {S : Nat → Prop} {w : World} {b : Nat} {l : List Nd}
set_option maxHeartbeats 2000000 in
theorem arName (id : Int) (s : ByteArray) (h : Frst S w b l) (hl : l.length ≤ 128) (hs : s.size ≤ 9223372036854775807) :
    Calls Try.prog 31 #[.pointer (some ⟨b, 0, none⟩), .int .i64 id, .string s] w (Told S w b (nameL l id s) (nameErr l id s)) := by
  have H := Lib.hid h
  clear h
  have hnot : ∀ (x : Bool) (w : World), (Op.unary .not (.bool x)).run Try.prog w = .ok (.bool (!x)) w := fun _ _ => rfl
  cases hth : thereB l id with
  | false =>
    have e1 : nameErr l id s = 1 := by unfold nameErr; rw [if_pos (.inl hth)]
    have e2 : nameL l id s = l := by unfold nameL; rw [e1]; rfl
    rw [e1, e2]
    have Hth := Lib.hid hth
    clear hth e1 e2
    go_enter Try.func31, Try.ntmps31
    go_wp2_with fail
    refine (arHas_is H.out Hth.out).mono ?_
    rintro e w1 ⟨rfl, rfl⟩
    go_wp2
    go_ret
    exact ⟨rfl, H.out, Keeps.refl _ _⟩
  | true =>
    have Hth := Lib.hid hth
    cases hok : okName s with
    | false =>
      have e1 : nameErr l id s = 1 := by unfold nameErr; rw [if_pos (.inr hok)]
      have e2 : nameL l id s = l := by unfold nameL; rw [e1]; rfl
      rw [e1, e2]
      have Hok := Lib.hid hok
      clear hth hok e1 e2
      go_enter Try.func31, Try.ntmps31
      go_wp2_with fail
      refine (arHas_is H.out Hth.out).mono ?_
      rintro e w1 ⟨rfl, rfl⟩
      go_wp2_with fail
      refine (arFits s w hs Hok.out).mono ?_
      rintro e w1 ⟨rfl, hb⟩
      go_wp2
      go_ret
      exact ⟨rfl, H.out.below hb, Keeps.ofBelow hb⟩
    | true =>
      obtain ⟨m, rfl, hm⟩ := there_at hth
      obtain ⟨g, c, hR⟩ := H.out.at_ hm
      have HR := Lib.hid hR
      have Hok := Lib.hid hok
      have he : nameErr l ((m : Int) + 1) s = if (nd l ((m : Int) + 1)).slot = false then 2 else 0 := by unfold nameErr; rw [if_neg (by rw [hth, hok]; simp)]
      have hL : nameL l ((m : Int) + 1) s = if nameErr l ((m : Int) + 1) s = 0 then modN l ((m : Int) + 1) (fun d => { d with name := s }) else l := rfl
      clear hth hok hR
      cases hsl : (nd l ((m : Int) + 1)).slot with
      | false =>
        rw [hsl, if_pos rfl] at he
        rw [he, if_neg (by decide)] at hL
        rw [he, hL]
        have Hsl := Lib.hid hsl
        clear he hL hsl
        go_enter Try.func31, Try.ntmps31
        go_wp2_with fail
        refine (arHas_is H.out Hth.out).mono ?_
        rintro e w1 ⟨rfl, rfl⟩
        go_wp2_with fail
        refine (arFits s w hs Hok.out).mono ?_
        rintro e w1 ⟨rfl, hb⟩
        have hR1 := HR.out.below hb
        have q0 := hR1.there_
        obtain ⟨_, k, e', -, -, -, -, -, -, -, -, -, c5, -, -, -⟩ := hR1.nodes.nine hm
        cases e'
        rw [Hsl.out] at c5
        clear hR1
        go_wp2
        go_ret
        exact ⟨rfl, H.out.below hb, Keeps.ofBelow hb⟩
      | true =>
        rw [hsl, if_neg (by decide)] at he
        rw [he, if_pos rfl] at hL
        rw [he, hL]
        have Hsl := Lib.hid hsl
        clear he hL hsl
        go_enter Try.func31, Try.ntmps31
        go_wp2_with fail
        refine (arHas_is H.out Hth.out).mono ?_
        rintro e w1 ⟨rfl, rfl⟩
        go_wp2_with fail
        refine (arFits s w hs Hok.out).mono ?_
        rintro e w1 ⟨rfl, hb⟩
        have hR1 := HR.out.below hb
        have q0 := hR1.there_
        obtain ⟨_, k, e', -, -, -, hz, -, -, -, -, -, c5, c6, -, -⟩ := hR1.nodes.nine hm
        cases e'
        rw [Hsl.out] at c5
        have hz6 := hz (m * 9 + 6)
        have hR2 := hR1.turn (N := fun d => { d with name := s }) (u := .string s) (f := 6) hm (by omega) (fun _ _ => rfl) (fun _ => rfl)
        have HR2 := Lib.hid hR2.frst
        have HK := Lib.hid ((Keeps.ofBelow (S := S) hb).store (p := ⟨g, m * 9 + 6, none⟩) (.inl HR.out.row.1) (.string s))
        clear hR1 hR2 hz
        go_wp2
        go_ret
        exact ⟨rfl, HR2.out, HK.out⟩
set_option maxHeartbeats 2000000 in
theorem arWant (id : Int) (s : ByteArray) (h : Frst S w b l) (hl : l.length ≤ 128) (hs : s.size ≤ 9223372036854775807) :
    Calls Try.prog 32 #[.pointer (some ⟨b, 0, none⟩), .int .i64 id, .string s] w (Told S w b (wantL l id s) (wantErr l id s)) := by
  have H := Lib.hid h
  clear h
  have hnot : ∀ (x : Bool) (w : World), (Op.unary .not (.bool x)).run Try.prog w = .ok (.bool (!x)) w := fun _ _ => rfl
  cases hth : thereB l id with
  | false =>
    have e1 : wantErr l id s = 1 := by unfold wantErr; rw [if_pos (.inl hth)]
    have e2 : wantL l id s = l := by unfold wantL; rw [e1]; rfl
    rw [e1, e2]
    have Hth := Lib.hid hth
    clear hth e1 e2
    go_enter Try.func32, Try.ntmps32
    go_wp2_with fail
    refine (arHas_is H.out Hth.out).mono ?_
    rintro e w1 ⟨rfl, rfl⟩
    go_wp2
    go_ret
    exact ⟨rfl, H.out, Keeps.refl _ _⟩
  | true =>
    have Hth := Lib.hid hth
    cases hok : okName s with
    | false =>
      have e1 : wantErr l id s = 1 := by unfold wantErr; rw [if_pos (.inr hok)]
      have e2 : wantL l id s = l := by unfold wantL; rw [e1]; rfl
      rw [e1, e2]
      have Hok := Lib.hid hok
      clear hth hok e1 e2
      go_enter Try.func32, Try.ntmps32
      go_wp2_with fail
      refine (arHas_is H.out Hth.out).mono ?_
      rintro e w1 ⟨rfl, rfl⟩
      go_wp2_with fail
      refine (arFits s w hs Hok.out).mono ?_
      rintro e w1 ⟨rfl, hb⟩
      go_wp2
      go_ret
      exact ⟨rfl, H.out.below hb, Keeps.ofBelow hb⟩
    | true =>
      obtain ⟨m, rfl, hm⟩ := there_at hth
      obtain ⟨g, c, hR⟩ := H.out.at_ hm
      have HR := Lib.hid hR
      have Hok := Lib.hid hok
      have he : wantErr l ((m : Int) + 1) s = if (nd l ((m : Int) + 1)).kind ≠ 2 then 2 else 0 := by unfold wantErr; rw [if_neg (by rw [hth, hok]; simp)]
      have hL : wantL l ((m : Int) + 1) s = if wantErr l ((m : Int) + 1) s = 0 then modN l ((m : Int) + 1) (fun d => { d with want := s }) else l := rfl
      clear hth hok hR
      obtain ⟨kd, hkd⟩ : ∃ kd, (nd l ((m : Int) + 1)).kind = kd := ⟨_, rfl⟩
      rw [hkd] at he
      have Hkd := Lib.hid hkd
      clear hkd
      by_cases hk2 : kd = 2
      · rw [if_neg (fun h => h hk2)] at he
        rw [he, if_pos rfl] at hL
        rw [he, hL]
        subst hk2
        clear he hL
        go_enter Try.func32, Try.ntmps32
        go_wp2_with fail
        refine (arHas_is H.out Hth.out).mono ?_
        rintro e w1 ⟨rfl, rfl⟩
        go_wp2_with fail
        refine (arFits s w hs Hok.out).mono ?_
        rintro e w1 ⟨rfl, hb⟩
        have hR1 := HR.out.below hb
        have q0 := hR1.there_
        obtain ⟨_, k, e', -, -, -, hz, c0, -, -, -, -, -, -, c7, -⟩ := hR1.nodes.nine hm
        cases e'
        rw [Hkd.out] at c0
        have hz7 := hz (m * 9 + 7)
        have hR2 := hR1.turn (N := fun d => { d with want := s }) (u := .string s) (f := 7) hm (by omega) (fun _ _ => rfl) (fun _ => rfl)
        have HR2 := Lib.hid hR2.frst
        have HK := Lib.hid ((Keeps.ofBelow (S := S) hb).store (p := ⟨g, m * 9 + 7, none⟩) (.inl HR.out.row.1) (.string s))
        clear hR1 hR2 hz
        go_wp2
        go_ret
        exact ⟨rfl, HR2.out, HK.out⟩
      · rw [if_pos hk2] at he
        rw [he, if_neg (by decide)] at hL
        rw [he, hL]
        have z1 : (kd != 2) = true := by simpa using hk2
        have z2 : (kd == 2) = false := by simpa using hk2
        clear he hL
        go_enter Try.func32, Try.ntmps32
        go_wp2_with fail
        refine (arHas_is H.out Hth.out).mono ?_
        rintro e w1 ⟨rfl, rfl⟩
        go_wp2_with fail
        refine (arFits s w hs Hok.out).mono ?_
        rintro e w1 ⟨rfl, hb⟩
        have hR1 := HR.out.below hb
        have q0 := hR1.there_
        obtain ⟨_, k, e', -, -, -, -, c0, -, -, -, -, -, -, -, -⟩ := hR1.nodes.nine hm
        cases e'
        rw [Hkd.out] at c0
        clear hR1
        go_wp2
        go_ret
        exact ⟨rfl, H.out.below hb, Keeps.ofBelow hb⟩
end
end Go.Proofs.Ytphpbeapibohiaa

namespace Go.Proofs.Ytphpbeapibohiaa
open Go Go.RowKit

section
variable {l : List Nd} {h r : Int}
theorem tie_kind (h1 : thereB l h = true) (h2 : thereB l r = true) (hk : (nd l h).kind ≠ 2 ∨ (nd l r).kind ≠ 3) : tieErr l h r = 2 := by unfold tieErr; rw [if_neg (by rw [h1, h2]; simp), if_pos hk]
theorem tie_has (h1 : thereB l h = true) (h2 : thereB l r = true) (hk : (nd l h).kind = 2) (hk' : (nd l r).kind = 3) (hs : (nd l h).shadow ≠ 0 ∨ (nd l r).host ≠ 0) : tieErr l h r = 6 := by
  unfold tieErr; rw [if_neg (by rw [h1, h2]; simp), if_neg (by rw [hk, hk']; simp), if_pos hs]
theorem tie_rest (T : Tree l) (h1 : thereB l h = true) (h2 : thereB l r = true) (hk : (nd l h).kind = 2) (hk' : (nd l r).kind = 3) (hs : (nd l h).shadow = 0) (hs' : (nd l r).host = 0) : tieErr l h r = if hasB (over l (upOf l h)) r = true then 3 else 0 := by
  have hne : ¬ r = h := fun e => by rw [e, hk] at hk'; exact absurd hk' (by decide)
  unfold tieErr
  rw [if_neg (by rw [h1, h2]; simp), if_neg (by rw [hk, hk']; simp), if_neg (by rw [hs, hs']; simp), has_over_step T h1, decide_eq_false hne, Bool.false_or]
theorem tie_no (e : Int) (he : tieErr l h r = e) (h0 : e ≠ 0) : tieL l h r = l := by unfold tieL; rw [he, if_neg h0]
end

section
variable {S : Nat → Prop} {w : World} {b : Nat} {l : List Nd}
set_option maxHeartbeats 4000000 in
theorem arTie (h r : Int) (hF : Frst S w b l) (hl : l.length ≤ 128) (T : Tree l) :
    Calls Try.prog 30 #[.pointer (some ⟨b, 0, none⟩), .int .i64 h, .int .i64 r] w (Told S w b (tieL l h r) (tieErr l h r)) := by
  have H := Lib.hid hF
  have HT := Lib.hid T
  clear hF T
  have hnot : ∀ (x : Bool) (w : World), (Op.unary .not (.bool x)).run Try.prog w = .ok (.bool (!x)) w := fun _ _ => rfl
  cases hth : thereB l h with
  | false =>
    have e1 : tieErr l h r = 1 := by unfold tieErr; rw [if_pos (.inl hth)]
    rw [tie_no _ e1 (by decide), e1]
    have Hth := Lib.hid hth
    clear hth e1
    go_enter Try.func30, Try.ntmps30
    go_wp2_with fail
    refine (arHas_is H.out Hth.out).mono ?_
    rintro e w1 ⟨rfl, rfl⟩
    go_wp2
    go_ret
    exact ⟨rfl, H.out, Keeps.refl _ _⟩
  | true =>
    cases htr : thereB l r with
    | false =>
      have e1 : tieErr l h r = 1 := by unfold tieErr; rw [if_pos (.inr htr)]
      rw [tie_no _ e1 (by decide), e1]
      have Hth := Lib.hid hth
      have Htr := Lib.hid htr
      clear hth htr e1
      go_enter Try.func30, Try.ntmps30
      go_wp2_with fail
      refine (arHas_is H.out Hth.out).mono ?_
      rintro e w1 ⟨rfl, rfl⟩
      go_wp2_with fail
      refine (arHas_is H.out Htr.out).mono ?_
      rintro e w1 ⟨rfl, rfl⟩
      go_wp2
      go_ret
      exact ⟨rfl, H.out, Keeps.refl _ _⟩
    | true =>
      obtain ⟨m, rfl, hm⟩ := there_at hth
      obtain ⟨n, rfl, hn⟩ := there_at htr
      obtain ⟨g, c, hR⟩ := H.out.at_ hm
      have q0 := hR.there_
      obtain ⟨_, k, e', -, -, -, -, c0, -, -, c3, -, -, -, -, -⟩ := hR.nodes.nine hm
      cases e'
      obtain ⟨_, k', e', -, -, -, -, d0, -, d2, -, -, -, -, -, -⟩ := hR.nodes.nine hn
      cases e'
      have Ekind := Lib.hid (tie_kind hth htr)
      have Ehas := Lib.hid (tie_has hth htr)
      have Erest := Lib.hid (tie_rest HT.out hth htr)
      have Hth := Lib.hid hth
      have Htr := Lib.hid htr
      have HR := Lib.hid hR
      obtain ⟨kh, hkh⟩ : ∃ x, (nd l ((m : Int) + 1)).kind = x := ⟨_, rfl⟩
      obtain ⟨kr, hkr⟩ : ∃ x, (nd l ((n : Int) + 1)).kind = x := ⟨_, rfl⟩
      obtain ⟨sh, hsh⟩ : ∃ x, (nd l ((m : Int) + 1)).shadow = x := ⟨_, rfl⟩
      obtain ⟨ho, hho⟩ : ∃ x, (nd l ((n : Int) + 1)).host = x := ⟨_, rfl⟩
      rw [hkh] at c0
      rw [hkr] at d0
      rw [hsh] at c3
      rw [hho] at d2
      rw [hkh, hkr] at Ekind
      rw [hkh, hkr, hsh, hho] at Ehas Erest
      clear hkh hkr hsh hho hth htr hR
      go_enter Try.func30, Try.ntmps30
      go_wp2_with fail
      refine (arHas_is H.out Hth.out).mono ?_
      rintro e w1 ⟨rfl, rfl⟩
      go_wp2_with fail
      refine (arHas_is H.out Htr.out).mono ?_
      rintro e w1 ⟨rfl, rfl⟩
      go_wp2_with fail
      go_quiet (fail)
      have HF : Frst S (w.drewN nq) b l := H.out
      have HK0 : Keeps S w (w.drewN nq) := (Keeps.refl _ _).drewN nq
      by_cases k2 : kh = 2
      · by_cases k3 : kr = 3
        · by_cases s0 : sh = 0
          · by_cases h0 : ho = 0
            · have e1 := Erest.out k2 k3 s0 h0
              subst k2 k3 s0 h0
              cases hab : hasB (over l (upOf l ((m : Int) + 1))) ((n : Int) + 1) with
              | true =>
                rw [hab, if_pos rfl] at e1
                have E1 := Lib.hid e1
                have Hab := Lib.hid hab
                clear e1 hab Ekind Ehas Erest
                go_wp2_with fail
                refine (arAbove HF hl HT.out _ Hth.out Hab.out).mono ?_
                rintro e w1 ⟨rfl, hb⟩
                go_wp2
                go_ret
                rw [Told, tie_no _ E1.out (by decide), E1.out]
                exact ⟨rfl, HF.below hb, HK0.also (Keeps.ofBelow hb)⟩
              | false =>
                rw [hab, if_neg (by decide)] at e1
                have e2 : tieL l ((m : Int) + 1) ((n : Int) + 1) = modN (modN l ((m : Int) + 1) fun d => { d with shadow := (n : Int) + 1 }) ((n : Int) + 1) fun d => { d with host := (m : Int) + 1 } := by unfold tieL; rw [if_pos e1]
                have E1 := Lib.hid e1
                have E2 := Lib.hid e2
                have Hab := Lib.hid hab
                clear e1 e2 hab Ekind Ehas Erest
                go_wp2_with fail
                refine (arAbove HF hl HT.out _ Hth.out Hab.out).mono ?_
                rintro e w1 ⟨rfl, hb⟩
                have hR1 : FrstAt S w1 b g c l := FrstAt.below (w := w.drewN nq) (HR.out.drewN nq) hb
                obtain ⟨⟨x, hx⟩, hz, -⟩ := hR1.nodes.turn (F := fun d => { d with shadow := (n : Int) + 1 }) (u := .int .i64 ((n : Int) + 1)) (f := 3) hm (by omega) (fun _ _ => rfl) (fun _ => rfl)
                have hR2 := hR1.turn (N := fun d => { d with shadow := (n : Int) + 1 }) (u := .int .i64 ((n : Int) + 1)) (f := 3) hm (by omega) (fun _ _ => rfl) (fun _ => rfl)
                have hn' : n < (modN l ((m : Int) + 1) fun d => { d with shadow := (n : Int) + 1 }).length := by rw [modN_length]; exact hn
                obtain ⟨⟨y, hy⟩, hz', -⟩ := hR2.nodes.turn (F := fun d => { d with host := (m : Int) + 1 }) (u := .int .i64 ((m : Int) + 1)) (f := 2) hn' (by omega) (fun _ _ => rfl) (fun _ => rfl)
                have hR3 := hR2.turn (N := fun d => { d with host := (m : Int) + 1 }) (u := .int .i64 ((m : Int) + 1)) (f := 2) hn' (by omega) (fun _ _ => rfl) (fun _ => rfl)
                have HR3 := Lib.hid hR3.frst
                have HK := Lib.hid (((HK0.also (Keeps.ofBelow hb)).store (p := ⟨g, m * 9 + 3, none⟩) (.inl HR.out.row.1) (.int .i64 ((n : Int) + 1))).store (p := ⟨g, n * 9 + 2, none⟩) (.inl HR.out.row.1) (.int .i64 ((m : Int) + 1)))
                clear hR1 hR2 hR3 hn'
                go_wp2
                go_ret
                rw [Told, E1.out, E2.out]
                exact ⟨rfl, HR3.out, HK.out⟩
            · have z1 : (ho != 0) = true := by simpa using h0
              have z2 : (ho == 0) = false := by simpa using h0
              have E1 := Lib.hid (Ehas.out k2 k3 (.inr h0))
              subst k2 k3 s0
              go_wp2
              go_ret
              rw [Told, tie_no _ E1.out (by decide), E1.out]
              exact ⟨rfl, HF, HK0⟩
          · have z1 : (sh != 0) = true := by simpa using s0
            have z2 : (sh == 0) = false := by simpa using s0
            have E1 := Lib.hid (Ehas.out k2 k3 (.inl s0))
            subst k2 k3
            go_wp2
            go_ret
            rw [Told, tie_no _ E1.out (by decide), E1.out]
            exact ⟨rfl, HF, HK0⟩
        · have z1 : (kr != 3) = true := by simpa using k3
          have z2 : (kr == 3) = false := by simpa using k3
          have E1 := Lib.hid (Ekind.out (.inr k3))
          subst k2
          go_wp2
          go_ret
          rw [Told, tie_no _ E1.out (by decide), E1.out]
          exact ⟨rfl, HF, HK0⟩
      · have z1 : (kh != 2) = true := by simpa using k2
        have z2 : (kh == 2) = false := by simpa using k2
        have E1 := Lib.hid (Ekind.out (.inl k2))
        go_wp2
        go_ret
        rw [Told, tie_no _ E1.out (by decide), E1.out]
        exact ⟨rfl, HF, HK0⟩
end
end Go.Proofs.Ytphpbeapibohiaa

namespace Go.Proofs.Ytphpbeapibohiaa
open Go Go.RowKit
variable {G : Nat → Prop}

section
variable {w w' : World} {B c : Nat} {A : Option Addr} {l : List Nd} {d : Nd}
theorem kids_apart {v v' : Value} {xs : List Int} {us : List Value} {base n size : Nat} {t : TypeId} (h : Kids G w v xs) (h' : w.ownsRow base t size v' n us) (ht : t ≠ 3) {g : Nat} (hg : v.ownBlock = some g) : v'.ownBlock ≠ some g := fun e => by
  rcases h.1.2 with ⟨rfl, _⟩ | ⟨g1, cap, cur, rfl, _, hh, _⟩
  · cases hg
  rcases h'.2 with ⟨rfl, _⟩ | ⟨g2, cap2, cur2, rfl, _, hh2, _⟩
  · cases e
  obtain rfl : g1 = g := by simpa [Value.ownBlock] using hg
  obtain rfl : g2 = g1 := by simpa [Value.ownBlock] using e
  exact Has.apart hh2 hh (fun e => ht (by injection e)) rfl
/-- A node without children is put behind. -/
theorem wp_push {P : Program} {o : Oper} {a : Act} {K : Act → World → Prop} {Q : Exit → Act → World → Prop} (s x : Operand) (t : TypeId)
    (ho : o.op = .call { callee := .builtin .append, args := #[s, x], argTypes := #[t, t] }) (i : TypeInfo) (z : Value) (ht : P.underlying t = some (.slice 52)) (hi : P.info? 52 = some i) (hz : i.zero = some z)
    (hsize : i.size = 9) (hby : i.bytes = 104) (hzs : z.cells.size = 9) (hs : a.eval s = .slice A l.length c) (hN : Nodes G w B A c l) {b q : Nat} (hx : a.eval x = .slice (some ⟨b, 0, none⟩) 1 q) {fr : Nat × Nat}
    (hb : Has w b (.cells (d.cells (.slice none 0 0)).toArray 52 fr)) (hd : d.kids = []) (hl : l.length ≤ 1000) (hB : B ≤ w.heap.size) (hG : Fut G B)
    (h : ∀ A' c' w', Nodes G w' B A' c' (l ++ [d]) → Keeps (fun i => B ≤ i) w w' → K (a.put o.dst (.slice A' (l.length + 1) c')) w') : o.wp P a w K Q := by
  obtain ⟨rows, h1, h2, h3, -⟩ := hN
  refine wp_append_own w s x t ho B 52 i z 9 104 ht hi hz hsize hby hzs (by decide) _ l.length (flat rows) hs h2 ⟨b, 0, none⟩ 1 q (d.cells (.slice none 0 0)) hx rfl ?_ ?_ (by unfold maxLen; omega) (by omega) hB ?_
  · exact World.news_of_block hb
  · intro u hu
    exact flat_one (rows := [(d, .slice none 0 0)]) (fun p hp => by obtain rfl := List.mem_singleton.1 hp; rfl) u (by simpa [flat] using hu)
  · intro v' w' ho' hg _
    obtain ⟨A', c', rfl, _⟩ := own_form ho'
    refine h A' c' w' ⟨rows ++ [(d, .slice none 0 0)], by simp [h1], ?_, fun p hp => ?_, fun b off s e => by subst e; exact hG b (ho'.lt b rfl).1⟩ ((Keeps.of_grown hg).wide fun i _ e => (h2.lt i e).1)
    · rw [List.length_append, flat_append]
      have : flat [(d, Value.slice none 0 0)] = d.cells (.slice none 0 0) := by simp [flat]
      rw [this]
      exact ho'
    · rcases List.mem_append.1 hp with hp | hp
      · exact ⟨own_kept (h3 p hp).1 (Keeps.of_grown hg) fun g hg' e => kids_apart (h3 p hp) h2 (by decide) hg' e, (h3 p hp).2⟩
      · obtain rfl := List.mem_singleton.1 hp
        show Kids G w' _ d.kids
        rw [hd]
        exact ⟨World.ownsRow_nil _ _ _ _, fun _ h => absurd h (by simp [Value.ownBlock])⟩
end

section
variable {n : Nat} {k pa ho sh m : Int} {sl : Bool} {na wa : ByteArray} {ks : List Int}
theorem mkErr_kind (h : k < 1 ∨ 4 < k) : mkErr n ⟨k, pa, ho, sh, m, sl, na, wa, ks⟩ = 2 := by unfold mkErr; rw [if_pos h]
theorem mkErr_mode (h0 : 1 ≤ k) (h1 : k ≤ 4) (h : (k = 3 ∧ m ≠ 1 ∧ m ≠ 2) ∨ (k ≠ 3 ∧ m ≠ 0)) : mkErr n ⟨k, pa, ho, sh, m, sl, na, wa, ks⟩ = 1 := by unfold mkErr; rw [if_neg (by show ¬ (k < 1 ∨ 4 < k); omega), if_pos h]
theorem mkErr_name (h0 : 1 ≤ k) (h1 : k ≤ 4) (h2 : ¬ ((k = 3 ∧ m ≠ 1 ∧ m ≠ 2) ∨ (k ≠ 3 ∧ m ≠ 0))) (h : (k ≠ 2 ∧ (sl = true ∨ wa.toList.isEmpty = false)) ∨ (sl = false ∧ na.toList.isEmpty = false) ∨ okName na = false ∨ okName wa = false) :
    mkErr n ⟨k, pa, ho, sh, m, sl, na, wa, ks⟩ = 1 := by unfold mkErr; rw [if_neg (by show ¬ (k < 1 ∨ 4 < k); omega), if_neg h2, if_pos h]
theorem mkErr_rest (h0 : 1 ≤ k) (h1 : k ≤ 4) (h2 : ¬ ((k = 3 ∧ m ≠ 1 ∧ m ≠ 2) ∨ (k ≠ 3 ∧ m ≠ 0))) (h : ¬ ((k ≠ 2 ∧ (sl = true ∨ wa.toList.isEmpty = false)) ∨ (sl = false ∧ na.toList.isEmpty = false) ∨ okName na = false ∨ okName wa = false)) :
    mkErr n ⟨k, pa, ho, sh, m, sl, na, wa, ks⟩ = if 128 ≤ n then 9 else 0 := by unfold mkErr; rw [if_neg (by show ¬ (k < 1 ∨ 4 < k); omega), if_neg h2, if_neg h]
theorem okName_empty {s : ByteArray} (h : s.toList.isEmpty = true) : okName s = true := by unfold okName; rw [h]; rfl
end

/-- What is read of the node that came in. -/
def Box (b : Nat) (k m : Int) (sl : Bool) (na wa : ByteArray) (w : World) : Prop := w.cell? ⟨b, 0, none⟩ = some (.int .i64 k) ∧ w.cell? ⟨b, 5, none⟩ = some (.bool sl) ∧ w.cell? ⟨b, 6, none⟩ = some (.string na) ∧ w.cell? ⟨b, 7, none⟩ = some (.string wa) ∧ w.cell? ⟨b, 4, none⟩ = some (.int .i64 m)
theorem Box.of {b : Nat} {k pa ho sh m : Int} {sl : Bool} {na wa : ByteArray} {kv : Value} {t : TypeId} {fr : Nat × Nat} {w : World} (h : Has w b (.cells #[.int .i64 k, .int .i64 pa, .int .i64 ho, .int .i64 sh, .int .i64 m, .bool sl, .string na, .string wa, kv] t fr)) : Box b k m sl na wa w :=
  ⟨Has.cell h 0, Has.cell h 5, Has.cell h 6, Has.cell h 7, Has.cell h 4⟩
/-- The nodes then, a number, an error's number. -/
def Gave3 (G : Nat → Prop) (w : World) (l' : List Nd) (no err : Int) (e : Ending) (w' : World) : Prop := ∃ A' c', e = .returned (.tuple #[.slice A' l'.length c', .int .i64 no, .int .i64 err]) ∧ Nodes G w' 0 A' c' l' ∧ Below w.heap.size w w'
theorem Gave3.err {w w' : World} {l : List Nd} {A : Option Addr} {c : Nat} {d : Nd} {e : Int} (he : mkErr l.length d = e) (h0 : e ≠ 0) (h : Nodes G w 0 A c l) (hb : Below w.heap.size w w') : Gave3 G w (mkL l d) (mkNo l d) (mkErr l.length d) (.returned (.tuple #[.slice A l.length c, .int .i64 0, .int .i64 e])) w' := by
  unfold mkL mkNo
  rw [he, if_neg h0, if_neg h0]
  exact ⟨_, _, rfl, h.below hb, hb⟩

end Go.Proofs.Ytphpbeapibohiaa

namespace Go.Proofs.Ytphpbeapibohiaa
open Go Go.RowKit

section
variable {G : Nat → Prop} {w : World} {c B : Nat} {A : Option Addr} {l : List Nd} {d : Nd}
/-- A block of another kind is written. -/
theorem Nodes.aside {b i : Nat} {u : Value} {cs : Array Value} {t : TypeId} {fr : Nat × Nat} (h : Nodes G w B A c l) (hb : Has w b (.cells cs t fr)) (h1 : t ≠ 52) (h2 : t ≠ 3) : Nodes G (w.setCell ⟨b, i, none⟩ u) B A c l := by
  obtain ⟨rows, rfl, hr, hk, hg⟩ := h
  refine ⟨rows, rfl, own_kept hr (Keeps.storeAt (F := fun j => j = b) (Keeps.refl _ _) rfl i u) fun g' hg' e => ?_, fun p hp => (hk p hp).aside hb h2, hg⟩
  rcases hr.2 with ⟨hv, _⟩ | ⟨g2, cap, cur, hv, _, hh, _⟩
  · rw [hv] at hg'; cases hg'
  · rw [hv] at hg'
    obtain rfl : g2 = g' := by simpa [Value.ownBlock] using hg'
    exact Has.apart hb hh (fun e => h1 (by injection e)) e.symm
/-- A node without children is put behind, in the old row or a new one. -/
theorem wp_pushG {P : Program} {o : Oper} {a : Act} {K : Act → World → Prop} {Q : Exit → Act → World → Prop} (s x : Operand) (t : TypeId)
    (ho : o.op = .call { callee := .builtin .append, args := #[s, x], argTypes := #[t, t] }) (i : TypeInfo) (z : Value) (ht : P.underlying t = some (.slice 52)) (hi : P.info? 52 = some i) (hz : i.zero = some z)
    (hsize : i.size = 9) (hby : i.bytes = 104) (hzs : z.cells.size = 9) (hs : a.eval s = .slice A l.length c) (hN : Nodes G w 0 A c l) {b q : Nat} (hx : a.eval x = .slice (some ⟨b, 0, none⟩) 1 q) {fr : Nat × Nat}
    (hb : Has w b (.cells (d.cells (.slice none 0 0)).toArray 52 fr)) (hd : d.kids = []) (hl : l.length ≤ 1000) (hG : Fut G w.heap.size)
    (h : ∀ g c' w', Nodes G w' 0 (some ⟨g, 0, none⟩) c' (l ++ [d]) → Keeps (fun i => (Value.slice A l.length c).ownBlock = some i) w w' → K (a.put o.dst (.slice (some ⟨g, 0, none⟩) (l.length + 1) c')) w') : o.wp P a w K Q := by
  obtain ⟨rows, h1, h2, h3, h4⟩ := hN
  refine wp_append_lies w s x t ho 0 52 i z 9 104 ht hi hz hsize hby hzs (by decide) _ l.length (flat rows) hs h2 ⟨b, 0, none⟩ 1 q (d.cells (.slice none 0 0)) hx rfl ?_ ?_ (by decide) (by unfold maxLen; omega) (by omega) (Nat.zero_le _) _ rfl ?_
  · exact World.news_of_block hb
  · intro u hu
    exact flat_one (rows := [(d, .slice none 0 0)]) (fun p hp => by obtain rfl := List.mem_singleton.1 hp; rfl) u (by simpa [flat] using hu)
  · intro g c' w' ho' hg hat _
    refine h g c' w' ⟨rows ++ [(d, .slice none 0 0)], by simp [h1], ?_, fun p hp => ?_, fun b off s e => ?_⟩ (Keeps.of_grown hg)
    · rw [List.length_append, flat_append]
      have : flat [(d, Value.slice none 0 0)] = d.cells (.slice none 0 0) := by simp [flat]
      rw [this]
      exact ho'
    · rcases List.mem_append.1 hp with hp | hp
      · exact ⟨own_kept (h3 p hp).1 (Keeps.of_grown hg) fun g hg' e => kids_apart (h3 p hp) h2 (by decide) hg' e, (h3 p hp).2⟩
      · obtain rfl := List.mem_singleton.1 hp
        show Kids G w' _ d.kids
        rw [hd]
        exact ⟨World.ownsRow_nil _ _ _ _, fun _ h => absurd h (by simp [Value.ownBlock])⟩
    · obtain ⟨rfl, _, _⟩ : g = b ∧ 0 = off ∧ none = s := by simpa using e
      rcases hat with hat | rfl
      · cases A with
        | none => cases hat
        | some a =>
          obtain rfl : a.block = g := by simpa [Value.ownBlock] using hat
          exact h4 _ _ _ rfl
      · exact hG _ (Nat.le_refl _)
end

/-- What fitsMode asks, what fitsSlot asks. -/
def modeOk (k m : Int) : Bool := if k = 3 then decide (m = 1 ∨ m = 2) else decide (m = 0)
def slotOk (k : Int) (sl : Bool) (na wa : ByteArray) : Bool := !((decide (k ≠ 2) && (sl || !wa.toList.isEmpty)) || (!sl && !na.toList.isEmpty) || !okName na || !okName wa)
section
variable {k pa ho sh m : Int} {sl : Bool} {na wa : ByteArray} {kv : Value} {w : World}
set_option maxHeartbeats 1000000 in
theorem arMode {x : Bool} (hx : modeOk k m = x) : Calls Try.prog 44 #[.agg #[.int .i64 k, .int .i64 pa, .int .i64 ho, .int .i64 sh, .int .i64 m, .bool sl, .string na, .string wa, kv]] w fun e w' => e = .returned (.bool x) ∧ Below w.heap.size w w' := by
  have hb : Below w.heap.size w (w.alloc (.cells #[.int .i64 k, .int .i64 pa, .int .i64 ho, .int .i64 sh, .int .i64 m, .bool sl, .string na, .string wa, kv] 52)) := (Below.refl _ w).alloc (Nat.le_refl _) _
  subst hx
  by_cases h3 : k = 3
  · subst h3
    by_cases h1 : m = 1
    · subst h1
      have e : modeOk 3 1 = true := rfl
      rw [e]
      go_enter Try.func44, Try.ntmps44
      go_wp2
      go_ret
      exact ⟨rfl, hb⟩
    · have z1 : (m == 1) = false := by simpa using h1
      by_cases h2 : m = 2
      · subst h2
        have e : modeOk 3 2 = true := rfl
        rw [e]
        clear z1
        go_enter Try.func44, Try.ntmps44
        go_wp2
        go_ret
        exact ⟨rfl, hb⟩
      · have z2 : (m == 2) = false := by simpa using h2
        have e : modeOk 3 m = false := by simp [modeOk, h1, h2]
        rw [e]
        go_enter Try.func44, Try.ntmps44
        go_wp2
        go_ret
        exact ⟨rfl, hb⟩
  · have z3 : (k == 3) = false := by simpa using h3
    by_cases h0 : m = 0
    · subst h0
      have e : modeOk k 0 = true := by simp [modeOk, h3]
      rw [e]
      go_enter Try.func44, Try.ntmps44
      go_wp2
      go_ret
      exact ⟨rfl, hb⟩
    · have z0 : (m == 0) = false := by simpa using h0
      have e : modeOk k m = false := by simp [modeOk, h3, h0]
      rw [e]
      go_enter Try.func44, Try.ntmps44
      go_wp2
      go_ret
      exact ⟨rfl, hb⟩

set_option maxHeartbeats 4000000 in
theorem arSlot {x : Bool} (hx : slotOk k sl na wa = x) (hna : na.size ≤ 9223372036854775807) (hwa : wa.size ≤ 9223372036854775807) : Calls Try.prog 45 #[.agg #[.int .i64 k, .int .i64 pa, .int .i64 ho, .int .i64 sh, .int .i64 m, .bool sl, .string na, .string wa, kv]] w fun e w' => e = .returned (.bool x) ∧ Below w.heap.size w w' := by
  have hb : Below w.heap.size w (w.alloc (.cells #[.int .i64 k, .int .i64 pa, .int .i64 ho, .int .i64 sh, .int .i64 m, .bool sl, .string na, .string wa, kv] 52)) := (Below.refl _ w).alloc (Nat.le_refl _) _
  have c7 : (w.alloc (.cells #[.int .i64 k, .int .i64 pa, .int .i64 ho, .int .i64 sh, .int .i64 m, .bool sl, .string na, .string wa, kv] 52)).cell? ⟨w.heap.size, 7, none⟩ = some (.string wa) := Has.cell (Has.fresh _ _) 7
  have hnot : ∀ (x : Bool) (w : World), (Op.unary .not (.bool x)).run Try.prog w = .ok (.bool (!x)) w := fun _ _ => rfl
  subst hx
  have HB := Lib.hid hb
  have HC := Lib.hid c7
  clear hb c7
  by_cases h2 : k = 2
  · subst h2
    cases hn : na.toList.isEmpty with
    | true =>
      cases ho1 : okName na with
      | false =>
        have : okName na = true := okName_empty hn
        rw [ho1] at this
        cases this
      | true =>
        cases ho2 : okName wa with
        | false =>
          have e : slotOk 2 sl na wa = false := by simp [slotOk, ho2]
          rw [e]
          have H1 := Lib.hid ho1
          have H2 := Lib.hid ho2
          clear e ho1 ho2
          go_enter Try.func45, Try.ntmps45
          go_wp2_with fail
          refine (arFits na _ hna H1.out).mono ?_
          rintro e w1 ⟨rfl, hb1⟩
          have c71 := (hb1.cell (p := ⟨w.heap.size, 7, none⟩) (by simp)).trans HC.out
          go_wp2_with fail
          refine (arFits wa _ hwa H2.out).mono ?_
          rintro e w2 ⟨rfl, hb2⟩
          go_wp2
          go_ret
          have hbb := HB.out.trans (hb1.mono HB.out.size)
          exact ⟨rfl, hbb.trans (hb2.mono hbb.size)⟩
        | true =>
          have e : slotOk 2 sl na wa = true := by simp [slotOk, ho1, ho2, hn]
          rw [e]
          have H1 := Lib.hid ho1
          have H2 := Lib.hid ho2
          clear e ho1 ho2
          go_enter Try.func45, Try.ntmps45
          go_wp2_with fail
          refine (arFits na _ hna H1.out).mono ?_
          rintro e w1 ⟨rfl, hb1⟩
          have c71 := (hb1.cell (p := ⟨w.heap.size, 7, none⟩) (by simp)).trans HC.out
          go_wp2_with fail
          refine (arFits wa _ hwa H2.out).mono ?_
          rintro e w2 ⟨rfl, hb2⟩
          go_wp2
          go_ret
          have hbb := HB.out.trans (hb1.mono HB.out.size)
          exact ⟨rfl, hbb.trans (hb2.mono hbb.size)⟩
    | false =>
      cases sl with
      | false =>
        have e : slotOk 2 false na wa = false := by simp [slotOk, hn]
        rw [e]
        clear e
        go_enter Try.func45, Try.ntmps45
        go_wp2
        go_ret
        exact ⟨rfl, HB.out⟩
      | true =>
        cases ho1 : okName na with
        | false =>
          have e : slotOk 2 true na wa = false := by simp [slotOk, ho1]
          rw [e]
          have H1 := Lib.hid ho1
          clear e ho1
          go_enter Try.func45, Try.ntmps45
          go_wp2_with fail
          refine (arFits na _ hna H1.out).mono ?_
          rintro e w1 ⟨rfl, hb1⟩
          go_wp2
          go_ret
          exact ⟨rfl, HB.out.trans (hb1.mono HB.out.size)⟩
        | true =>
          cases ho2 : okName wa with
          | false =>
            have e : slotOk 2 true na wa = false := by simp [slotOk, ho2]
            rw [e]
            have H1 := Lib.hid ho1
            have H2 := Lib.hid ho2
            clear e ho1 ho2
            go_enter Try.func45, Try.ntmps45
            go_wp2_with fail
            refine (arFits na _ hna H1.out).mono ?_
            rintro e w1 ⟨rfl, hb1⟩
            have c71 := (hb1.cell (p := ⟨w.heap.size, 7, none⟩) (by simp)).trans HC.out
            go_wp2_with fail
            refine (arFits wa _ hwa H2.out).mono ?_
            rintro e w2 ⟨rfl, hb2⟩
            go_wp2
            go_ret
            have hbb := HB.out.trans (hb1.mono HB.out.size)
            exact ⟨rfl, hbb.trans (hb2.mono hbb.size)⟩
          | true =>
            have e : slotOk 2 true na wa = true := by simp [slotOk, ho1, ho2]
            rw [e]
            have H1 := Lib.hid ho1
            have H2 := Lib.hid ho2
            clear e ho1 ho2
            go_enter Try.func45, Try.ntmps45
            go_wp2_with fail
            refine (arFits na _ hna H1.out).mono ?_
            rintro e w1 ⟨rfl, hb1⟩
            have c71 := (hb1.cell (p := ⟨w.heap.size, 7, none⟩) (by simp)).trans HC.out
            go_wp2_with fail
            refine (arFits wa _ hwa H2.out).mono ?_
            rintro e w2 ⟨rfl, hb2⟩
            go_wp2
            go_ret
            have hbb := HB.out.trans (hb1.mono HB.out.size)
            exact ⟨rfl, hbb.trans (hb2.mono hbb.size)⟩
  · have z2 : (k == 2) = false := by simpa using h2
    have z2' : (k != 2) = true := by simpa using h2
    cases sl with
    | true =>
      have e : slotOk k true na wa = false := by simp [slotOk, h2]
      rw [e]
      clear e
      go_enter Try.func45, Try.ntmps45
      go_wp2
      go_ret
      exact ⟨rfl, HB.out⟩
    | false =>
      cases hw : wa.toList.isEmpty with
      | false =>
        have e : slotOk k false na wa = false := by simp [slotOk, h2, hw]
        rw [e]
        clear e
        go_enter Try.func45, Try.ntmps45
        go_wp2
        go_ret
        exact ⟨rfl, HB.out⟩
      | true =>
        cases hn : na.toList.isEmpty with
        | false =>
          have e : slotOk k false na wa = false := by simp [slotOk, hn]
          rw [e]
          clear e
          go_enter Try.func45, Try.ntmps45
          go_wp2
          go_ret
          exact ⟨rfl, HB.out⟩
        | true =>
          have ho1 : okName na = true := okName_empty hn
          have ho2 : okName wa = true := okName_empty hw
          have e : slotOk k false na wa = true := by simp [slotOk, ho1, ho2, hn, hw]
          rw [e]
          have H1 := Lib.hid ho1
          have H2 := Lib.hid ho2
          clear e ho1 ho2
          go_enter Try.func45, Try.ntmps45
          go_wp2_with fail
          refine (arFits na _ hna H1.out).mono ?_
          rintro e w1 ⟨rfl, hb1⟩
          have c71 := (hb1.cell (p := ⟨w.heap.size, 7, none⟩) (by simp)).trans HC.out
          go_wp2_with fail
          refine (arFits wa _ hwa H2.out).mono ?_
          rintro e w2 ⟨rfl, hb2⟩
          go_wp2
          go_ret
          have hbb := HB.out.trans (hb1.mono HB.out.size)
          exact ⟨rfl, hbb.trans (hb2.mono hbb.size)⟩
end
end Go.Proofs.Ytphpbeapibohiaa

namespace Go.Proofs.Ytphpbeapibohiaa
open Go Go.RowKit

section
variable {n : Nat} {k pa ho sh m : Int} {sl : Bool} {na wa : ByteArray} {ks : List Int}
theorem mode_iff (h : modeOk k m = false) : (k = 3 ∧ m ≠ 1 ∧ m ≠ 2) ∨ (k ≠ 3 ∧ m ≠ 0) := by
  unfold modeOk at h
  split at h
  · rename_i h3
    rw [decide_eq_false_iff_not] at h
    exact .inl ⟨h3, fun e => h (.inl e), fun e => h (.inr e)⟩
  · rename_i h3
    exact .inr ⟨h3, of_decide_eq_false h⟩
theorem mode_not (h : modeOk k m = true) : ¬ ((k = 3 ∧ m ≠ 1 ∧ m ≠ 2) ∨ (k ≠ 3 ∧ m ≠ 0)) := by
  unfold modeOk at h
  split at h
  · have := of_decide_eq_true h
    omega
  · have := of_decide_eq_true h
    omega
theorem slot_eq : slotOk k sl na wa = false ↔ (k ≠ 2 ∧ (sl = true ∨ wa.toList.isEmpty = false)) ∨ (sl = false ∧ na.toList.isEmpty = false) ∨ okName na = false ∨ okName wa = false := by
  unfold slotOk
  cases sl <;> cases wa.toList.isEmpty <;> cases na.toList.isEmpty <;> cases okName na <;> cases okName wa <;> by_cases h : k = 2 <;> simp [h]
theorem slot_iff (h : slotOk k sl na wa = false) : (k ≠ 2 ∧ (sl = true ∨ wa.toList.isEmpty = false)) ∨ (sl = false ∧ na.toList.isEmpty = false) ∨ okName na = false ∨ okName wa = false := slot_eq.1 h
theorem slot_not (h : slotOk k sl na wa = true) : ¬ ((k ≠ 2 ∧ (sl = true ∨ wa.toList.isEmpty = false)) ∨ (sl = false ∧ na.toList.isEmpty = false) ∨ okName na = false ∨ okName wa = false) := fun h' => by
  rw [slot_eq.2 h'] at h
  cases h
end

section
variable {S : Nat → Prop} {w : World} {b : Nat} {l : List Nd}
/-- A number, an error's number, and the forest then. -/
def Told2 (S : Nat → Prop) (w : World) (b : Nat) (l : List Nd) (d : Nd) (e : Ending) (w' : World) : Prop := e = .returned (.tuple #[.int .i64 (mkNo l d), .int .i64 (mkErr l.length d)]) ∧ Frst S w' b (mkL l d) ∧ Keeps S w w'
theorem Told2.err {w' : World} {d : Nd} {e : Int} (he : mkErr l.length d = e) (h0 : e ≠ 0) (h : Frst S w b l) (hb : Below w.heap.size w w') : Told2 S w b l d (.returned (.tuple #[.int .i64 0, .int .i64 e])) w' := by
  unfold Told2 mkL mkNo
  rw [he, if_neg h0, if_neg h0]
  exact ⟨rfl, h.below hb, Keeps.ofBelow hb⟩

set_option maxHeartbeats 4000000 in
set_option maxRecDepth 100000 in
theorem arMake (k pa ho sh m : Int) (sl : Bool) (na wa : ByteArray) (ks : List Int) (kv : Value) (h : Frst S w b l) (hl : l.length ≤ 128) (hS : Fut S w.heap.size) (hna : na.size ≤ 9223372036854775807) (hwa : wa.size ≤ 9223372036854775807) :
    Calls Try.prog 28 #[.pointer (some ⟨b, 0, none⟩), .agg #[.int .i64 k, .int .i64 pa, .int .i64 ho, .int .i64 sh, .int .i64 m, .bool sl, .string na, .string wa, kv]] w (Told2 S w b l ⟨k, pa, ho, sh, m, sl, na, wa, ks⟩) := by
  have H := Lib.hid h
  have HS := Lib.hid hS
  clear h hS
  have hnot : ∀ (x : Bool) (w : World), (Op.unary .not (.bool x)).run Try.prog w = .ok (.bool (!x)) w := fun _ _ => rfl
  have hbb : Below w.heap.size w (w.alloc (.cells #[.int .i64 k, .int .i64 pa, .int .i64 ho, .int .i64 sh, .int .i64 m, .bool sl, .string na, .string wa, kv] 52)) := (Below.refl _ w).alloc (Nat.le_refl _) _
  have hbox : Has (w.alloc (.cells #[.int .i64 k, .int .i64 pa, .int .i64 ho, .int .i64 sh, .int .i64 m, .bool sl, .string na, .string wa, kv] 52)) w.heap.size (.cells #[.int .i64 k, .int .i64 pa, .int .i64 ho, .int .i64 sh, .int .i64 m, .bool sl, .string na, .string wa, kv] 52 (0, 0)) := Has.fresh _ _
  have Hbb := Lib.hid hbb
  have Hbox := Lib.hid hbox
  clear hbb hbox
  by_cases k1 : k < 1
  · have e1 : mkErr l.length ⟨k, pa, ho, sh, m, sl, na, wa, ks⟩ = 2 := mkErr_kind (.inl k1)
    have E1 := Lib.hid e1
    have f1 : decide (k < 1) = true := decide_eq_true k1
    clear e1
    go_enter Try.func28, Try.ntmps28
    go_wp2
    go_ret2
    exact Told2.err E1.out (by decide) H.out Hbb.out
  have f1 : decide (k < 1) = false := decide_eq_false k1
  by_cases k4 : 4 < k
  · have e1 : mkErr l.length ⟨k, pa, ho, sh, m, sl, na, wa, ks⟩ = 2 := mkErr_kind (.inr k4)
    have E1 := Lib.hid e1
    have f2 : decide (4 < k) = true := decide_eq_true k4
    clear e1
    go_enter Try.func28, Try.ntmps28
    go_wp2
    go_ret2
    exact Told2.err E1.out (by decide) H.out Hbb.out
  have f2 : decide (4 < k) = false := decide_eq_false k4
  cases hmo : modeOk k m with
  | false =>
    have E1 := Lib.hid (mkErr_mode (n := l.length) (pa := pa) (ho := ho) (sh := sh) (sl := sl) (na := na) (wa := wa) (ks := ks) (by omega) (by omega) (mode_iff hmo))
    have Hmo := Lib.hid hmo
    clear hmo
    go_enter Try.func28, Try.ntmps28
    go_wp2_with fail
    refine (arMode Hmo.out).mono ?_
    rintro e w1 ⟨rfl, hb1⟩
    go_wp2
    go_ret2
    exact Told2.err E1.out (by decide) H.out (Hbb.out.trans (hb1.mono Hbb.out.size))
  | true =>
    have Hmo := Lib.hid hmo
    cases hso : slotOk k sl na wa with
    | false =>
      have E1 := Lib.hid (mkErr_name (n := l.length) (pa := pa) (ho := ho) (sh := sh) (ks := ks) (by omega) (by omega) (mode_not hmo) (slot_iff hso))
      have Hso := Lib.hid hso
      clear hmo hso
      go_enter Try.func28, Try.ntmps28
      go_wp2_with fail
      refine (arMode Hmo.out).mono ?_
      rintro e w1 ⟨rfl, hb1⟩
      have hbox1 := Hbox.out.below hb1 Hbox.out.inside
      have y0 := hbox1.cell 0
      have y1 := hbox1.cell 1
      have y2 := hbox1.cell 2
      have y3 := hbox1.cell 3
      have y4 := hbox1.cell 4
      have y5 := hbox1.cell 5
      have y6 := hbox1.cell 6
      have y7 := hbox1.cell 7
      have y8 := hbox1.cell 8
      clear hbox1
      go_wp2_with fail
      refine (arSlot Hso.out hna hwa).mono ?_
      rintro e w2 ⟨rfl, hb2⟩
      have hB1 := Hbb.out.trans (hb1.mono Hbb.out.size)
      go_wp2
      go_ret2
      exact Told2.err E1.out (by decide) H.out (hB1.trans (hb2.mono hB1.size))
    | true =>
      have e0 := mkErr_rest (n := l.length) (pa := pa) (ho := ho) (sh := sh) (ks := ks) (by omega) (by omega) (mode_not hmo) (slot_not hso)
      have Hso := Lib.hid hso
      clear hmo hso
      go_enter Try.func28, Try.ntmps28
      go_wp2_with fail
      refine (arMode Hmo.out).mono ?_
      rintro e w1 ⟨rfl, hb1⟩
      have hbox1 := Hbox.out.below hb1 Hbox.out.inside
      have y0 := hbox1.cell 0
      have y1 := hbox1.cell 1
      have y2 := hbox1.cell 2
      have y3 := hbox1.cell 3
      have y4 := hbox1.cell 4
      have y5 := hbox1.cell 5
      have y6 := hbox1.cell 6
      have y7 := hbox1.cell 7
      have y8 := hbox1.cell 8
      have HB1 := Lib.hid hbox1
      clear hbox1
      go_wp2_with fail
      refine (arSlot Hso.out hna hwa).mono ?_
      rintro e w2 ⟨rfl, hb2⟩
      have hbox2 := HB1.out.below hb2 HB1.out.inside
      have hB1 := Hbb.out.trans (hb1.mono Hbb.out.size)
      have hB2 : Below w.heap.size w w2 := hB1.trans (hb2.mono hB1.size)
      obtain ⟨hSb, A, c, hh0, hN0⟩ := H.out
      have hh := hh0.below hB2 hh0.inside
      have hN := hN0.below hB2
      have hrow0 : ∀ i, (Value.slice A l.length c).ownBlock = some i → i < w.heap.size ∧ S i := fun i hi => by
        obtain ⟨rows, -, ho, -, h4⟩ := hN0
        refine ⟨own_in ho i hi, ?_⟩
        cases A with
        | none => cases hi
        | some a =>
          obtain rfl : a.block = i := by simpa [Value.ownBlock] using hi
          exact h4 _ _ _ rfl
      have Hrow0 := Lib.hid hrow0
      have q0 : w2.cell? ⟨b, 0, none⟩ = some (.slice A l.length c) := hh.cell 0
      clear hrow0 hh0 hN0
      clear y0 y1 y2 y3 y4 y5 y6 y7 y8 HB1 hB1 hb1 hb2 w1
      by_cases hfull : 128 ≤ l.length
      · rw [if_pos hfull] at e0
        have E1 := Lib.hid e0
        have hf3 : (128 : Int) ≤ (l.length : Int) := by omega
        clear e0 hh hN hbox2
        go_wp2
        go_ret2
        exact Told2.err E1.out (by decide) H.out hB2
      · rw [if_neg hfull] at e0
        have hL : mkL l ⟨k, pa, ho, sh, m, sl, na, wa, ks⟩ = l ++ [bare ⟨k, pa, ho, sh, m, sl, na, wa, ks⟩] := by unfold mkL; rw [if_pos e0]
        have hNo : mkNo l ⟨k, pa, ho, sh, m, sl, na, wa, ks⟩ = (l.length : Int) + 1 := by unfold mkNo; rw [if_pos e0]
        have HL := Lib.hid hL
        have HNo := Lib.hid hNo
        have E0 := Lib.hid e0
        obtain ⟨j0, qi, qz0, qz1, qz2⟩ := info_parts Try.infoNode
        have Qi := Lib.hid qi
        have Qz0 := Lib.hid qz0
        have Qz1 := Lib.hid qz1
        have Qz2 := Lib.hid qz2
        clear qi qz0 qz1 qz2 e0 hL hNo
        have hf3 : ¬ (128 : Int) ≤ (l.length : Int) := by omega
        have hS0 : ∀ w' : World, Has w' w.heap.size (.cells #[.int .i64 k, .int .i64 pa, .int .i64 ho, .int .i64 sh, .int .i64 m, .bool sl, .string na, .string wa, kv] 52 (0, 0)) → Has w' b (.cells #[.slice A l.length c] 74 (0, 0)) → Box w.heap.size k m sl na wa w' ∧ w'.cell? ⟨b, 0, none⟩ = some (.slice A l.length c) := fun w' h1 h2 => ⟨Box.of h1, h2.cell 0⟩
        have HS0 := Lib.hid hS0
        clear hS0
        go_wp2_with fail
        refine wp_region_way (late := [20]) (S := fun w' => (w'.cell? ⟨w.heap.size, 0, none⟩ = some (.int .i64 k) ∧ w'.cell? ⟨w.heap.size, 5, none⟩ = some (.bool sl) ∧ w'.cell? ⟨w.heap.size, 6, none⟩ = some (.string na) ∧ w'.cell? ⟨w.heap.size, 7, none⟩ = some (.string wa) ∧ w'.cell? ⟨w.heap.size, 4, none⟩ = some (.int .i64 m)) ∧ w'.cell? ⟨b, 0, none⟩ = some (.slice A l.length c)) (y := Way.takes [0, 1, 2, 3, 4, 5, 6, 7, 8, 9, 10, 11, 12, 13, 14, 15] (.run 16 (.run 17 (.run 18 (.run 19 (.run 20 .fin)))))) (by kernel_rfl) (by kernel_rfl) rfl (by kernel_rfl) (HS0.out _ hbox2 hh) (fun hHeld => ?_)
        simp only [Way.takes]
        (repeat (first | (refine way_skip (by simp only [List.getElem?_toArray, List.getElem?_cons_succ, List.getElem?_cons_zero]; rfl) (by rfl) hHeld ?_; (try simp only [Act.put, List.setIfInBounds_toArray, List.set_cons_zero, List.set_cons_succ])) | (refine way_pass (by simp only [List.getElem?_toArray, List.getElem?_cons_succ, List.getElem?_cons_zero]; rfl) (by rfl) hHeld ?_; (try simp only [Act.put, List.setIfInBounds_toArray, List.set_cons_zero, List.set_cons_succ])) | (refine way_take (v := ?_) (by simp only [List.getElem?_toArray, List.getElem?_cons_succ, List.getElem?_cons_zero]; rfl) (by rfl) ?_ hHeld ?_; rotate_left; (focus (intro w hSw; (try dsimp only at hSw); go_simp; (try with_reducible rfl); done)); (try simp only [Act.put, List.setIfInBounds_toArray, List.set_cons_zero, List.set_cons_succ]))))
        refine way_run (by simp only [List.getElem?_toArray, List.getElem?_cons_succ, List.getElem?_cons_zero]; rfl) (by rfl) (fun K hK => ?_)
        go_simp
        have hb3 : Below w2.heap.size w2 (w2.alloc (.cells ((bare ⟨k, pa, ho, sh, m, sl, na, wa, ks⟩).cells (.slice none 0 0)).toArray 52)).drew := ((Below.refl _ w2).alloc (Nat.le_refl _) _).drew
        have hbox3 := hbox2.below hb3 hbox2.inside
        have hh3 := hh.below hb3 hh.inside
        have hN3 := hN.below hb3
        have hnew := Has.drewN (Has.fresh w2 (.cells ((bare ⟨k, pa, ho, sh, m, sl, na, wa, ks⟩).cells (.slice none 0 0)).toArray 52)) 1
        refine hK.out _ _ (HS0.out _ hbox3 hh3) (fun hHeld => ?_)
        clear hK K
        (try simp only [Act.put, List.setIfInBounds_toArray, List.set_cons_zero, List.set_cons_succ])
        refine way_run (by simp only [List.getElem?_toArray, List.getElem?_cons_succ, List.getElem?_cons_zero]; rfl) (by rfl) (fun K hK => ?_)
        refine wp_pushG (d := bare ⟨k, pa, ho, sh, m, sl, na, wa, ks⟩) (.tmp 34) (.tmp 46) 72 rfl j0 _ Try.underlying72 Qi.out Qz0.out Qz1.out Qz2.out rfl rfl hN3 rfl hnew rfl (by omega) (HS.out.mono (Nat.le_trans hB2.size hb3.size)) (fun g c4 w4 hN4 hk4 => ?_)
        have hbl : b ≠ w.heap.size := Has.apart hh hbox2 (by simp)
        have hbs : ¬ (Value.slice A l.length c).ownBlock = some b := fun e => by
          obtain ⟨rows, -, ho, -⟩ := hN3
          rcases ho.2 with ⟨hv, _⟩ | ⟨g2, cap, cur, hv, _, hh2, _⟩
          · rw [hv] at e; cases e
          · rw [hv] at e
            obtain rfl : g2 = b := by simpa [Value.ownBlock] using e
            exact Has.apart hh3 hh2 (by simp) rfl
        have hh4 := hh3.kept hk4 hbs
        have hbox4 := hbox3.kept hk4 fun e => absurd (Hrow0.out _ e).1 (Nat.lt_irrefl _)
        have hK4 : Keeps S w w4 := (((Keeps.ofBelow hB2).also (((Keeps.refl _ w2).alloc (.cells ((bare ⟨k, pa, ho, sh, m, sl, na, wa, ks⟩).cells (.slice none 0 0)).toArray 52)).drew))).trans hk4 fun i _ e => (Hrow0.out _ e).2
        have q4 := HS0.out _ hbox4 hh4
        have q44 := q4.2
        have hz4 := hh4.free 0
        have hnew5 : Frst S (w4.setCell ⟨b, 0, none⟩ (.slice (some ⟨g, 0, none⟩) (l.length + 1) c4)) b (mkL l ⟨k, pa, ho, sh, m, sl, na, wa, ks⟩) := by
          rw [HL.out]
          refine ⟨hSb, some ⟨g, 0, none⟩, c4, ?_, hN4.aside hh4 (by decide) (by decide)⟩
          have := hh4.stored 0 (.slice (some ⟨g, 0, none⟩) (l.length + 1) c4)
          rw [List.length_append]
          exact this
        have c5 : (w4.setCell ⟨b, 0, none⟩ (.slice (some ⟨g, 0, none⟩) (l.length + 1) c4)).cell? ⟨b, 0, none⟩ = some (.slice (some ⟨g, 0, none⟩) (l.length + 1) c4) := (hh4.stored 0 _).cell 0
        have hk5 := Lib.hid (hK4.store (p := ⟨b, 0, none⟩) (.inl hSb) (.slice (some ⟨g, 0, none⟩) (l.length + 1) c4))
        have Hnew5 := Lib.hid hnew5
        have Q4 := Lib.hid q4
        clear hnew5 q4
        refine hK.out _ _ Q4.out (fun hHeld => ?_)
        clear hK K
        (try simp only [Act.put, List.setIfInBounds_toArray, List.set_cons_zero, List.set_cons_succ])
        refine way_run (by simp only [List.getElem?_toArray, List.getElem?_cons_succ, List.getElem?_cons_zero]; rfl) (by rfl) (fun K hK => ?_)
        go_simp
        refine hK.out _ _ Q4.out (fun hHeld => ?_)
        clear hK K
        (try simp only [Act.put, List.setIfInBounds_toArray, List.set_cons_zero, List.set_cons_succ])
        refine way_run (by simp only [List.getElem?_toArray, List.getElem?_cons_succ, List.getElem?_cons_zero]; rfl) (by rfl) (fun K hK => ?_)
        go_simp
        refine hK.out _ _ Q4.out (fun hHeld => ?_)
        clear hK K
        (try simp only [Act.put, List.setIfInBounds_toArray, List.set_cons_zero, List.set_cons_succ])
        refine way_last (by rfl) (by simp only [List.getElem?_toArray, List.getElem?_cons_succ, List.getElem?_cons_zero]; rfl) (by rfl) (fun K hK => ?_)
        go_simp
        refine hK.out _ _ ?_
        clear hK K
        refine way_done ?_
        go_wp2
        go_ret2
        refine ⟨?_, Hnew5.out, hk5.out⟩
        rw [HNo.out, E0.out]
        rfl
end
end Go.Proofs.Ytphpbeapibohiaa

namespace Go.Proofs.Ytphpbeapibohiaa
open Go Go.RowKit
variable {G : Nat → Prop}

/-- A call as a value: its node's children stand at kv, its list at lv. -/
def actVal (x : Ac) (kv lv : Value) : Value := .agg #[.int .i64 x.kind, .int .i64 x.a, .int .i64 x.b, .string x.s, .int .i64 x.n.kind, .int .i64 x.n.parent, .int .i64 x.n.host, .int .i64 x.n.shadow, .int .i64 x.n.mode, .bool x.n.slot, .string x.n.name, .string x.n.want, kv, lv]
/-- What an argument's texts and list hold. -/
structure ActIn (w : World) (x : Ac) (A : Option Addr) (c : Nat) : Prop where
  s : x.s.size ≤ 9223372036854775807
  name : x.n.name.size ≤ 9223372036854775807
  want : x.n.want.size ≤ 9223372036854775807
  cap : x.l.length ≤ c
  nil : A = none → c = 0
  nums : Nums w w.heap.size A .i64 x.l

theorem ActIn.below {w w' : World} {x : Ac} {A : Option Addr} {c : Nat} (h : ActIn w x A c) (hb : Below w.heap.size w w') : ActIn w' x A c := ⟨h.s, h.name, h.want, h.cap, h.nil, (h.nums.below hb).mono hb.size⟩

theorem Gave.three {w w' wb : World} {l : List Nd} {x : Ac} {l' : List Nd} {err : Int} {e : Ending} (h : Gave G wb l' err e w') (hb : Below w.heap.size w wb) (h1 : actL l x = l') (h2 : actErr l x = err) (h3 : actNo l x = 0) :
    ∃ A' c', e = .returned (.tuple #[.slice A' l'.length c', .int .i64 err]) ∧ Gave3 G w (actL l x) (actNo l x) (actErr l x) (.returned (.tuple #[.slice A' l'.length c', .int .i64 0, .int .i64 err])) w' := by
  obtain ⟨A', c', he, hN, hb'⟩ := h
  refine ⟨A', c', he, A', c', by rw [h1, h2, h3], by rw [h1]; exact hN, hb.trans (hb'.mono hb.size)⟩

end Go.Proofs.Ytphpbeapibohiaa

namespace Go.Proofs.Ytphpbeapibohiaa
open Go Go.ChangeShapes Go.WideShapes Go.ChangeAt Go.RowKit

section
variable {H : Type} {enc : TypeId × Value → H} {W : World} {sp : Nat → Bool} {held : Bool} {fuel : Nat} {cs : List Value} {y : DataW H × List MemPlace}

theorem node_in (h : DataW.trod enc Try.prog W 0 sp held fuel 52 cs = some y) :
    ∃ (d : Nd) (A : Option Addr) (c : Nat), cs = d.cells (.slice A d.kids.length c) ∧ d.name.size ≤ 9223372036854775807 ∧ d.want.size ≤ 9223372036854775807 ∧ ListIn W A c d.kids := by
  obtain ⟨xs, n, _, _, hlen, hxl, hf⟩ := DataW.trod_struct Try.underlying52 h
  have h9 : cs.length = 9 := hlen.trans (by kernel_rfl)
  have hxl' : xs.length = 9 := hxl
  have one : Try.prog.cellsOf 3 = 1 := by kernel_rfl
  have oneB : Try.prog.cellsOf 4 = 1 := by kernel_rfl
  have oneS : Try.prog.cellsOf 9 = 1 := by kernel_rfl
  have oneL : Try.prog.cellsOf 24 = 1 := by kernel_rfl
  have get : ∀ i, i < 9 → ∃ z, xs[i]? = some z := fun i hi => ⟨xs[i]'(by omega), List.getElem?_eq_getElem _⟩
  obtain ⟨z0, g0⟩ := get 0 (by omega)
  obtain ⟨z1, g1⟩ := get 1 (by omega)
  obtain ⟨z2, g2⟩ := get 2 (by omega)
  obtain ⟨z3, g3⟩ := get 3 (by omega)
  obtain ⟨z4, g4⟩ := get 4 (by omega)
  obtain ⟨z5, g5⟩ := get 5 (by omega)
  obtain ⟨z6, g6⟩ := get 6 (by omega)
  obtain ⟨z7, g7⟩ := get 7 (by omega)
  obtain ⟨z8, g8⟩ := get 8 (by omega)
  obtain ⟨a0, e0, _, _⟩ := DataW.trod_int Try.underlying3 ((hf 0 _ rfl).trans g0)
  obtain ⟨a1, e1, _, _⟩ := DataW.trod_int Try.underlying3 ((hf 1 _ rfl).trans g1)
  obtain ⟨a2, e2, _, _⟩ := DataW.trod_int Try.underlying3 ((hf 2 _ rfl).trans g2)
  obtain ⟨a3, e3, _, _⟩ := DataW.trod_int Try.underlying3 ((hf 3 _ rfl).trans g3)
  obtain ⟨a4, e4, _, _⟩ := DataW.trod_int Try.underlying3 ((hf 4 _ rfl).trans g4)
  obtain ⟨a5, e5, _⟩ := DataW.trod_bool Try.underlying4 ((hf 5 _ rfl).trans g5)
  obtain ⟨a6, e6, _, s6⟩ := DataW.trod_string Try.underlying9 ((hf 6 _ rfl).trans g6)
  obtain ⟨a7, e7, _, s7⟩ := DataW.trod_string Try.underlying9 ((hf 7 _ rfl).trans g7)
  obtain ⟨A, c, ks, e8, hL⟩ := list_in ((hf 8 _ rfl).trans g8)
  refine ⟨⟨a0, a1, a2, a3, a4, a5, a6, a7, ks⟩, A, c, ?_, s6, s7, hL⟩
  refine List.ext_getElem? fun i => ?_
  match i with
  | 0 => exact part_one e0 one
  | 1 => exact part_one e1 one
  | 2 => exact part_one e2 one
  | 3 => exact part_one e3 one
  | 4 => exact part_one e4 one
  | 5 => exact part_one e5 oneB
  | 6 => exact part_one e6 oneS
  | 7 => exact part_one e7 oneS
  | 8 => exact part_one e8 oneL
  | i + 9 => rw [List.getElem?_eq_none (by omega), List.getElem?_eq_none (by rw [Nd.cells_length]; omega)]

/-- A call's fourteen cells. -/
def actCells (x : Ac) (kv lv : Value) : List Value := [.int .i64 x.kind, .int .i64 x.a, .int .i64 x.b, .string x.s, .int .i64 x.n.kind, .int .i64 x.n.parent, .int .i64 x.n.host, .int .i64 x.n.shadow, .int .i64 x.n.mode, .bool x.n.slot, .string x.n.name, .string x.n.want, kv, lv]

theorem act_in (h : DataW.trod enc Try.prog W 0 sp held fuel 54 cs = some y) :
    ∃ (x : Ac) (A1 : Option Addr) (c1 : Nat) (A2 : Option Addr) (c2 : Nat), cs = actCells x (.slice A1 x.n.kids.length c1) (.slice A2 x.l.length c2) ∧ ListIn W A1 c1 x.n.kids ∧ ActIn W x A2 c2 := by
  obtain ⟨xs, n, _, _, hlen, hxl, hf⟩ := DataW.trod_struct Try.underlying54 h
  have h14 : cs.length = 14 := hlen.trans (by kernel_rfl)
  have hxl' : xs.length = 6 := hxl
  have one : Try.prog.cellsOf 3 = 1 := by kernel_rfl
  have oneS : Try.prog.cellsOf 9 = 1 := by kernel_rfl
  have oneL : Try.prog.cellsOf 24 = 1 := by kernel_rfl
  have nine : Try.prog.cellsOf 52 = 9 := by kernel_rfl
  have get : ∀ i, i < 6 → ∃ z, xs[i]? = some z := fun i hi => ⟨xs[i]'(by omega), List.getElem?_eq_getElem _⟩
  obtain ⟨z0, g0⟩ := get 0 (by omega)
  obtain ⟨z1, g1⟩ := get 1 (by omega)
  obtain ⟨z2, g2⟩ := get 2 (by omega)
  obtain ⟨z3, g3⟩ := get 3 (by omega)
  obtain ⟨z4, g4⟩ := get 4 (by omega)
  obtain ⟨z5, g5⟩ := get 5 (by omega)
  obtain ⟨a0, e0, _, _⟩ := DataW.trod_int Try.underlying3 ((hf 0 _ rfl).trans g0)
  obtain ⟨a1, e1, _, _⟩ := DataW.trod_int Try.underlying3 ((hf 1 _ rfl).trans g1)
  obtain ⟨a2, e2, _, _⟩ := DataW.trod_int Try.underlying3 ((hf 2 _ rfl).trans g2)
  obtain ⟨a3, e3, _, s3⟩ := DataW.trod_string Try.underlying9 ((hf 3 _ rfl).trans g3)
  obtain ⟨d, A1, c1, e4, s4, s5, hL1⟩ := node_in ((hf 4 _ rfl).trans g4)
  obtain ⟨A2, c2, ls, e5, hL2⟩ := list_in ((hf 5 _ rfl).trans g5)
  refine ⟨⟨a0, a1, a2, a3, d, ls⟩, A1, c1, A2, c2, ?_, hL1, ⟨s3, s4, s5, hL2.cap, hL2.nil, hL2.nums⟩⟩
  have hd : ∀ f, f < 9 → cs[4 + f]? = (d.cells (.slice A1 d.kids.length c1))[f]? := fun f hf => by
    have : ((cs.drop 4).take (Try.prog.cellsOf 52))[f]? = (d.cells (.slice A1 d.kids.length c1))[f]? := congrArg (fun l : List Value => l[f]?) e4
    rw [nine, List.getElem?_take, if_pos hf, List.getElem?_drop] at this
    exact this
  refine List.ext_getElem? fun i => ?_
  match i with
  | 0 => exact part_one e0 one
  | 1 => exact part_one e1 one
  | 2 => exact part_one e2 one
  | 3 => exact part_one e3 oneS
  | 4 => exact hd 0 (by omega)
  | 5 => exact hd 1 (by omega)
  | 6 => exact hd 2 (by omega)
  | 7 => exact hd 3 (by omega)
  | 8 => exact hd 4 (by omega)
  | 9 => exact hd 5 (by omega)
  | 10 => exact hd 6 (by omega)
  | 11 => exact hd 7 (by omega)
  | 12 => exact hd 8 (by omega)
  | 13 => exact part_one e5 oneL
  | i + 14 => rw [List.getElem?_eq_none (by omega), List.getElem?_eq_none (by show 14 ≤ i + 14; omega)]
end

/-- A call that came in, at its place. -/
def ActAt (w : World) (A : Option Addr) (i : Nat) (x : Ac) : Prop :=
  ∃ (b off : Nat) (A1 : Option Addr) (c1 : Nat) (A2 : Option Addr) (c2 : Nat), A = some ⟨b, off, none⟩ ∧ b < w.heap.size ∧ (∀ f, f < 14 → w.cell? ⟨b, off + (i * 14 + f), none⟩ = (actCells x (.slice A1 x.n.kids.length c1) (.slice A2 x.l.length c2))[f]?) ∧ ListIn w A1 c1 x.n.kids ∧ ActIn w x A2 c2
def Acts (w : World) (A : Option Addr) (xs : List Ac) : Prop := ∀ i (h : i < xs.length), ActAt w A i xs[i]

theorem Acts.below {w w' : World} {A : Option Addr} {xs : List Ac} (h : Acts w A xs) (hb : Below w.heap.size w w') : Acts w' A xs := fun i hi => by
  obtain ⟨b, off, A1, c1, A2, c2, e, hB, hc, hL, hA⟩ := h i hi
  exact ⟨b, off, A1, c1, A2, c2, e, Nat.lt_of_lt_of_le hB hb.size, fun f hf => (hb.cell (p := ⟨b, off + (i * 14 + f), none⟩) hB).trans (hc f hf), hL.below hb, hA.below hb⟩

/-- Out of the row's reading. -/
theorem acts_in {H : Type} {enc : TypeId × Value → H} {W : World} {sp : Nat → Bool} {held : Bool} {fuel : Nat} {A : Option Addr} {n cap : Nat} {y : DataW H × List MemPlace}
    (h : DataW.trod enc Try.prog W 0 sp held fuel 31 [.slice A n cap] = some y) : ∃ xs : List Ac, xs.length = n ∧ Acts W A xs ∧ n ≤ cap ∧ n ≤ maxLen := by
  have c14 : Try.prog.cellsOf 54 = 14 := by kernel_rfl
  rcases DataW.trod_slice Try.underlying31 h with ⟨hv, _⟩ | ⟨a, n', cap', elems, rest, m, _, hv, _, _, hl, hm, hlen, hel, _, _⟩
  · obtain ⟨rfl, rfl, rfl⟩ : A = none ∧ n = 0 ∧ cap = 0 := by simpa using hv
    exact ⟨[], rfl, fun i hi => absurd hi (Nat.not_lt_zero i), Nat.le_refl 0, Nat.zero_le _⟩
  · obtain ⟨rfl, rfl, rfl⟩ : A = some a ∧ n = n' ∧ cap = cap' := by simpa using hv
    have each : ∀ i, i < n → ∃ x, ActAt W (some a) i x := fun i hi => by
      have hb := hel i hi
      rw [List.getElem?_eq_getElem (by omega), c14, Option.bind_eq_some_iff] at hb
      obtain ⟨cs, hcs, ht⟩ := hb
      obtain ⟨x, A1, c1, A2, c2, rfl, hL, hA⟩ := act_in ht
      obtain ⟨_, _, hc⟩ := World.cells?_some hcs
      have h0 := hc 0 (by omega)
      have hz : ∃ v, W.cell? ((a.add (i * 14)).add 0) = some v := ⟨_, h0⟩
      obtain ⟨b, off, spot⟩ := a
      have hs : spot = none := by
        have hb0 := hel 0 (by omega)
        rw [List.getElem?_eq_getElem (by omega), c14, Option.bind_eq_some_iff] at hb0
        obtain ⟨cs0, hcs0, _⟩ := hb0
        obtain ⟨_, hl0, hc0⟩ := World.cells?_some hcs0
        have h1 := hc0 0 (by omega)
        rw [List.getElem?_eq_getElem (by omega)] at h1
        simpa [Addr.add] using World.cell?_spot h1
      subst hs
      have hc' : ∀ f, f < 14 → W.cell? ⟨b, off + (i * 14 + f), none⟩ = (actCells x (.slice A1 x.n.kids.length c1) (.slice A2 x.l.length c2))[f]? := fun f hf => by
        have := hc f hf
        rw [Addr.add_lit, Addr.add_lit] at this
        rw [← this, Nat.add_assoc]
      exact ⟨x, b, off, A1, c1, A2, c2, rfl, cell_in (hc' 0 (by omega)), hc', hL, hA⟩
    refine ⟨(List.range n).attach.map fun i => (each i.1 (List.mem_range.1 i.2)).choose, by simp, fun i hi => ?_, hl, Nat.le_trans hl hm⟩
    have hi' : i < n := by simpa using hi
    have := (each i hi').choose_spec
    simpa using this
end Go.Proofs.Ytphpbeapibohiaa

namespace Go.Proofs.Ytphpbeapibohiaa
open Go Go.RowKit

section
variable {G S : Nat → Prop} {w : World} {b : Nat} {l : List Nd} {xs : List Int}
/-- A list of the call's own is a list. -/
theorem Kids.list {v : Value} (h : Kids G w v xs) : ∃ A c, v = .slice A xs.length c ∧ ListIn w A c xs := by
  obtain ⟨A, c, rfl, hc, hn⟩ := h.form
  refine ⟨A, c, rfl, hc, fun e => ?_, hn⟩
  subst e
  rcases h.1.2 with ⟨e, _⟩ | ⟨g, cap, cur, e, _⟩
  · injection e
  · cases e
theorem kids_none (G : Nat → Prop) (w : World) : Kids G w (.slice none 0 0) [] := ⟨World.ownsRow_nil _ _ _ _, fun _ h => absurd h (by simp [Value.ownBlock])⟩
theorem info_int1 : (Try.prog.info? 3).map (·.size) = some 1 := by kernel_rfl

theorem made_row {w1 : World} {B g n : Nat} {us : List Value} (h : w1.ownsRow B 3 1 (.slice (some ⟨g, 0, none⟩) n n) n us) : ∃ cur : List Value, cur.length = n ∧ Has w1 g (.cells cur.toArray 3 (0, 0)) := by
  rcases h.2 with ⟨h', _⟩ | ⟨g', cap, cur, h', _, hg, _, _, hs, _⟩
  · cases h'
  · injection h' with e1 _ e3
    obtain rfl : g = g' := by simpa using e1
    exact ⟨cur.toList, by simp [hs, e3], hg⟩
theorem wpList_make_ints {P : Program} {ops : Array Oper} {rest : List Oper} {o : Oper} {a : Act} {Q : Exit → Act → World → Prop}
    (hg : o.guard = none) (l c : Operand) (t : TypeId) (hop : o.op = Op.makeSlice t l c) (i : TypeInfo) (z : Value) (h1 : P.underlying t = some (.slice 3)) (h2 : P.info? 3 = some i) (h3 : i.zero = some z) (h4 : i.size = 1)
    (kl kc : IntKind) (L C : Int) (n : Nat) (hl : a.eval l = .int kl L) (hc : a.eval c = .int kc C) (hL : L = (n : Int)) (hC : C = (n : Int)) (b2 : i.bytes * n ≤ 281474976710656) (b3 : n ≤ maxLen)
    (hK : ∀ w' (cur : List Value), Hid (cur.length = n) → Hid (w'.heap[w.heap.size]? = some (.cells cur.toArray 3 (0, 0))) → Below w.heap.size w w' → wpList P ops Q rest (a.put o.dst (.slice (some ⟨w.heap.size, 0, none⟩) n n)) w') : wpList P ops Q (o :: rest) a w :=
  wpList_make_full w hg l c t hop w.heap.size 3 i z 1 h1 h2 h3 h4 kl kc L C n hl hc hL hC b2 b3 (Nat.le_refl _) fun w' ho hgr => by
    obtain ⟨cur, h5, h6⟩ := made_row ho
    exact hK w' cur h5 h6 ((Below.refl _ w).grown hgr (Nat.le_refl _) fun k hk => absurd hk (by simp))
theorem list_from {w1 : World} {A : Option Addr} {c : Nat} {cs : List Value} (h : ListIn w A c xs) (hb : Below w.heap.size w w1) (hcs : cs = xs.map (Value.int .i64)) (h0 : 0 < cs.length) : ∃ ad, A = some ad ∧ ∀ j v, cs[j]? = some v → w1.cell? (ad.add j) = some v := by
  subst hcs
  rcases nums_gives (n := xs.length) ((h.nums).below hb) rfl h.nil with ⟨hv, h1, h2⟩ | ⟨ad, c', hv, h1, h2⟩
  · rw [h2] at h0
    exact absurd h0 (by simp)
  · injection hv with e1
    exact ⟨ad, e1, h2⟩

set_option maxHeartbeats 2000000 in
theorem arCopy (A : Option Addr) (c : Nat) (hL : ListIn w A c xs) (hx : xs.length ≤ 200) (hG : Fut G w.heap.size) :
    Calls Try.prog 49 #[.slice A xs.length c] w fun e w' => ∃ A' c', e = .returned (.slice A' xs.length c') ∧ Kids G w' (.slice A' xs.length c') xs ∧ Below w.heap.size w w' := by
  obtain ⟨n, hn⟩ : ∃ n, n = xs.length := ⟨_, rfl⟩
  rw [← hn]
  rw [← hn] at hx
  have HL := Lib.hid hL
  have Hn := Lib.hid hn
  clear hL hn
  by_cases h0 : n = 0
  · subst h0
    obtain rfl : xs = [] := List.eq_nil_of_length_eq_zero Hn.out.symm
    go_enter Try.func49, Try.ntmps49
    go_wp2
    go_ret
    exact ⟨none, 0, rfl, kids_none _ _, Below.refl _ _⟩
  · have z0 : ((n : Int) == 0) = false := by simpa using h0
    obtain ⟨i0, hi, hz0, hz1, hz2⟩ := info_parts Try.infoInt
    have Hi := Lib.hid hi
    have Hz0 := Lib.hid hz0
    have Hz1 := Lib.hid hz1
    have Hz2 := Lib.hid hz2
    obtain ⟨cs, hcs⟩ : ∃ cs, cs = xs.map (Value.int .i64) := ⟨_, rfl⟩
    have Hcs := Lib.hid hcs
    clear hi hz0 hz1 hz2 hcs
    have hbyt : i0.bytes * n ≤ 281474976710656 := by rw [Hz2.out]; omega
    have hmax : n ≤ maxLen := by unfold maxLen; omega
    have hcn : cs.length = n := by rw [Hcs.out, List.length_map, ← Hn.out]
    have hmin : cs.length = Nat.min n n := hcn.trans (Nat.min_self n).symm
    have hone : ∀ v ∈ cs, v.oneCell' = true := by rw [Hcs.out]; exact kids_one xs
    have hsrc : ∀ w1, Below w.heap.size w w1 → 0 < cs.length → (some (⟨w.heap.size, 0, none⟩ : Addr)) = some ⟨w.heap.size, 0, none⟩ ∧ ∃ ad, A = some ad ∧ ∀ j v, cs[j]? = some v → w1.cell? (ad.add j) = some v := fun w1 hb h0 => ⟨rfl, list_from HL.out hb Hcs.out h0⟩
    have hfit : ∀ cur : List Value, cur.length = n → 0 + cs.length ≤ cur.length := fun cur hc => by omega
    have Hbyt := Lib.hid hbyt
    have Hmax := Lib.hid hmax
    have Hcn := Lib.hid hcn
    have Hmin := Lib.hid hmin
    have Hone := Lib.hid hone
    have Hsrc := Lib.hid hsrc
    have Hfit := Lib.hid hfit
    clear hbyt hmax hcn hmin hone hsrc hfit
    go_enter Try.func49, Try.ntmps49
    go_wp2_with (first | (with_reducible refine wpList_make_ints rfl (.tmp 8) (.tmp 8) 24 rfl i0 _ Try.underlying24 Hi.out Hz0.out Hz1.out .i64 .i64 _ _ n rfl rfl rfl rfl Hbyt.out Hmax.out ?_; intro w1 cur hcur hh1 hb1) | (with_reducible refine wpList_copy_splice rfl (.tmp 10) (.tmp 11) 24 24 rfl 3 Try.underlying24 info_int1 (some ⟨w.heap.size, 0, none⟩) A n n n c rfl rfl w.heap.size 0 cur 3 hh1.out cs Hmin.out (Hsrc.out _ hb1) (Hfit.out _ hcur.out) Hone.out w.heap.size w hb1 (Nat.le_refl _) ?_; intro w2 hg2 hb2))
    go_ret
    have hsp : splice cur 0 cs = cs := by
      have : cs.length = cur.length := Hcn.out.trans hcur.out.symm
      simp [splice, this]
    have hg2 : Has w2 w.heap.size (.cells cs.toArray 3 (0, 0)) := by
      have := hg2.out
      rw [hsp] at this
      exact this
    refine ⟨some ⟨w.heap.size, 0, none⟩, n, rfl, ⟨⟨by simp, .inr ⟨w.heap.size, n, cs.toArray, by rw [Hn.out], Nat.zero_le _, hg2, by rw [Hn.out]; exact Nat.le_refl _, by unfold maxLen; omega, ?_, ?_⟩⟩, fun g hg => ?_⟩, hb2⟩
    · rw [Hcs.out, Hn.out]; simp
    · rw [Hcs.out, Nat.mul_one]
      exact List.take_of_length_le (by simp)
    · obtain rfl : w.heap.size = g := by simpa [Value.ownBlock] using hg
      exact hG _ (Nat.le_refl _)
end
end Go.Proofs.Ytphpbeapibohiaa

namespace Go.Proofs.Ytphpbeapibohiaa
open Go Go.RowKit

section
variable {S : Nat → Prop} {w : World} {b : Nat} {l : List Nd}
/-- A node and a truth. -/
def Node2 (G : Nat → Prop) (w : World) (d : Nd) (ok : Bool) (e : Ending) (w' : World) : Prop :=
  ∃ (A : Option Addr) (c : Nat), e = .returned (.tuple #[.agg #[.int .i64 d.kind, .int .i64 d.parent, .int .i64 d.host, .int .i64 d.shadow, .int .i64 d.mode, .bool d.slot, .string d.name, .string d.want, .slice A d.kids.length c], .bool ok]) ∧ Kids G w' (.slice A d.kids.length c) d.kids ∧ Below w.heap.size w w'
set_option maxHeartbeats 4000000 in
set_option maxRecDepth 100000 in
theorem arNode {G : Nat → Prop} (id : Int) (h : Frst S w b l) (hl : l.length ≤ 128) (hf : Few 200 l) (hG : Fut G w.heap.size) :
    Calls Try.prog 33 #[.pointer (some ⟨b, 0, none⟩), .int .i64 id] w (Node2 G w (if thereB l id = true then nd l id else Nd.zero) (thereB l id)) := by
  have H := Lib.hid h
  have HG := Lib.hid hG
  have hnot : ∀ (x : Bool) (w : World), (Op.unary .not (.bool x)).run Try.prog w = .ok (.bool (!x)) w := fun _ _ => rfl
  have hb0 : Below w.heap.size w (w.alloc (.cells #[.int .i64 0, .int .i64 0, .int .i64 0, .int .i64 0, .int .i64 0, .bool false, .string ⟨#[]⟩, .string ⟨#[]⟩, .slice none 0 0] 52)) := (Below.refl _ w).alloc (Nat.le_refl _) _
  have HB0 := Lib.hid hb0
  clear h hG hb0
  cases hth : thereB l id with
  | false =>
    rw [if_neg (by decide)]
    have Hth := Lib.hid hth
    clear hth
    go_enter Try.func33, Try.ntmps33
    go_wp2_with fail
    refine (arHas_is (H.out.below HB0.out) Hth.out).mono ?_
    rintro e w1 ⟨rfl, rfl⟩
    go_wp2
    (try simp only [Exit.inBlock, Exit.then])
    refine bodyPost_ret (v := .tuple #[.agg #[.int .i64 0, .int .i64 0, .int .i64 0, .int .i64 0, .int .i64 0, .bool false, .string ⟨#[]⟩, .string ⟨#[]⟩, .slice none 0 0], .bool false]) ?_ rfl ⟨none, 0, rfl, kids_none _ _, HB0.out⟩
    rw [results_cell_tmp rfl]
    go_simp
  | true =>
    rw [if_pos rfl]
    obtain ⟨m, rfl, hm⟩ := there_at hth
    have Hth := Lib.hid hth
    obtain ⟨g, c, hR⟩ := H.out.at_ hm
    have hR0 := hR.below HB0.out
    have q0 := hR0.there_
    obtain ⟨_, k, e', -, hgi, hk, -, c0, c1, c2, c3, c4, c5, c6, c7, c8⟩ := hR0.nodes.nine hm
    cases e'
    obtain ⟨A1, n1, rfl, hL1⟩ := hk.list
    have hks : (nd l ((m : Int) + 1)).kids.length ≤ 200 := by
      rw [nd_at hm]
      exact hf _ (List.getElem_mem hm)
    obtain ⟨d, hd⟩ : ∃ d, d = nd l ((m : Int) + 1) := ⟨_, rfl⟩
    rw [← hd] at c0 c1 c2 c3 c4 c5 c6 c7 c8 hL1 hks
    rw [← hd]
    obtain ⟨kd, pa, ho, sh, mo, sl, na, wa, ks⟩ := d
    simp only at c0 c1 c2 c3 c4 c5 c6 c7 c8 hL1 hks
    have HL1 := Lib.hid hL1
    clear hth hk hd hL1 hR
    go_enter Try.func33, Try.ntmps33
    go_wp2_with fail
    refine (arHas_is (H.out.below HB0.out) Hth.out).mono ?_
    rintro e w1 ⟨rfl, rfl⟩
    have hbox : Has ((w.alloc (.cells #[.int .i64 0, .int .i64 0, .int .i64 0, .int .i64 0, .int .i64 0, .bool false, .string ⟨#[]⟩, .string ⟨#[]⟩, .slice none 0 0] 52)).alloc (.cells #[.int .i64 kd, .int .i64 pa, .int .i64 ho, .int .i64 sh, .int .i64 mo, .bool sl, .string na, .string wa, .slice A1 ks.length n1] 52)) (w.heap.size + 1) (.cells #[.int .i64 kd, .int .i64 pa, .int .i64 ho, .int .i64 sh, .int .i64 mo, .bool sl, .string na, .string wa, .slice A1 ks.length n1] 52 (0, 0)) := by
      have := Has.fresh (w.alloc (.cells #[.int .i64 0, .int .i64 0, .int .i64 0, .int .i64 0, .int .i64 0, .bool false, .string ⟨#[]⟩, .string ⟨#[]⟩, .slice none 0 0] 52)) (.cells #[.int .i64 kd, .int .i64 pa, .int .i64 ho, .int .i64 sh, .int .i64 mo, .bool sl, .string na, .string wa, .slice A1 ks.length n1] 52)
      simpa using this
    have hres : Has ((w.alloc (.cells #[.int .i64 0, .int .i64 0, .int .i64 0, .int .i64 0, .int .i64 0, .bool false, .string ⟨#[]⟩, .string ⟨#[]⟩, .slice none 0 0] 52)).alloc (.cells #[.int .i64 kd, .int .i64 pa, .int .i64 ho, .int .i64 sh, .int .i64 mo, .bool sl, .string na, .string wa, .slice A1 ks.length n1] 52)) w.heap.size (.cells #[.int .i64 0, .int .i64 0, .int .i64 0, .int .i64 0, .int .i64 0, .bool false, .string ⟨#[]⟩, .string ⟨#[]⟩, .slice none 0 0] 52 (0, 0)) := (Has.fresh _ _).more _
    have hb2 : Below w.heap.size w ((w.alloc (.cells #[.int .i64 0, .int .i64 0, .int .i64 0, .int .i64 0, .int .i64 0, .bool false, .string ⟨#[]⟩, .string ⟨#[]⟩, .slice none 0 0] 52)).alloc (.cells #[.int .i64 kd, .int .i64 pa, .int .i64 ho, .int .i64 sh, .int .i64 mo, .bool sl, .string na, .string wa, .slice A1 ks.length n1] 52)) := HB0.out.alloc HB0.out.size _
    have hL2 : ListIn ((w.alloc (.cells #[.int .i64 0, .int .i64 0, .int .i64 0, .int .i64 0, .int .i64 0, .bool false, .string ⟨#[]⟩, .string ⟨#[]⟩, .slice none 0 0] 52)).alloc (.cells #[.int .i64 kd, .int .i64 pa, .int .i64 ho, .int .i64 sh, .int .i64 mo, .bool sl, .string na, .string wa, .slice A1 ks.length n1] 52)) A1 n1 ks := HL1.out.below ((Below.refl _ _).alloc (Nat.le_refl _) _)
    have Hbox := Lib.hid hbox
    have Hres := Lib.hid hres
    have HB2 := Lib.hid hb2
    have HL2 := Lib.hid hL2
    clear hbox hres hb2 hL2
    go_wp2_with fail
    refine (arCopy (G := fun i => w.heap.size + 2 ≤ i) A1 n1 HL2.out hks (fun i hi => by simpa using hi)).mono ?_
    rintro e w3 ⟨A3, n3, rfl, hK3, hb3⟩
    have hbox3 := Hbox.out.below hb3 Hbox.out.inside
    have hres3 := Hres.out.below hb3 Hres.out.inside
    have hB3 : Below w.heap.size w w3 := HB2.out.trans (hb3.mono HB2.out.size)
    have y0 := hbox3.cell 0
    have y1 := hbox3.cell 1
    have y2 := hbox3.cell 2
    have y3 := hbox3.cell 3
    have y4 := hbox3.cell 4
    have y5 := hbox3.cell 5
    have y6 := hbox3.cell 6
    have y7 := hbox3.cell 7
    have y8 := hbox3.cell 8
    have v8 := hbox3.free 8
    have z0 := hres3.cell 0
    have z1 := hres3.cell 1
    have z2 := hres3.cell 2
    have z3 := hres3.cell 3
    have z4 := hres3.cell 4
    have z5 := hres3.cell 5
    have z6 := hres3.cell 6
    have z7 := hres3.cell 7
    have z8 := hres3.cell 8
    have x0 := hres3.free 0
    have x1 := hres3.free 1
    have x2 := hres3.free 2
    have x3 := hres3.free 3
    have x4 := hres3.free 4
    have x5 := hres3.free 5
    have x6 := hres3.free 6
    have x7 := hres3.free 7
    have x8 := hres3.free 8
    have hK4 : Kids (fun i => w.heap.size + 2 ≤ i) ((((((((((w3.setCell ⟨w.heap.size + 1, 8, none⟩ (.slice A3 ks.length n3)).setCell ⟨w.heap.size, 0, none⟩ (.int .i64 kd)).setCell ⟨w.heap.size, 1, none⟩ (.int .i64 pa)).setCell ⟨w.heap.size, 2, none⟩ (.int .i64 ho)).setCell ⟨w.heap.size, 3, none⟩ (.int .i64 sh)).setCell ⟨w.heap.size, 4, none⟩ (.int .i64 mo)).setCell ⟨w.heap.size, 5, none⟩ (.bool sl)).setCell ⟨w.heap.size, 6, none⟩ (.string na)).setCell ⟨w.heap.size, 7, none⟩ (.string wa)).setCell ⟨w.heap.size, 8, none⟩ (.slice A3 ks.length n3)) (.slice A3 ks.length n3) ks := by
      refine hK3.keptG (F := fun i => i = w.heap.size ∨ i = w.heap.size + 1) (((((((((((Keeps.refl _ w3).store (p := ⟨w.heap.size + 1, 8, none⟩) (.inl (.inr rfl)) (.slice A3 ks.length n3)).store (p := ⟨w.heap.size, 0, none⟩) (.inl (.inl rfl)) (.int .i64 kd)).store (p := ⟨w.heap.size, 1, none⟩) (.inl (.inl rfl)) (.int .i64 pa)).store (p := ⟨w.heap.size, 2, none⟩) (.inl (.inl rfl)) (.int .i64 ho)).store (p := ⟨w.heap.size, 3, none⟩) (.inl (.inl rfl)) (.int .i64 sh)).store (p := ⟨w.heap.size, 4, none⟩) (.inl (.inl rfl)) (.int .i64 mo)).store (p := ⟨w.heap.size, 5, none⟩) (.inl (.inl rfl)) (.bool sl)).store (p := ⟨w.heap.size, 6, none⟩) (.inl (.inl rfl)) (.string na)).store (p := ⟨w.heap.size, 7, none⟩) (.inl (.inl rfl)) (.string wa)).store (p := ⟨w.heap.size, 8, none⟩) (.inl (.inl rfl)) (.slice A3 ks.length n3)) fun i hi _ e => ?_
      rcases e with rfl | rfl <;> omega
    have hK5 : Kids G ((((((((((w3.setCell ⟨w.heap.size + 1, 8, none⟩ (.slice A3 ks.length n3)).setCell ⟨w.heap.size, 0, none⟩ (.int .i64 kd)).setCell ⟨w.heap.size, 1, none⟩ (.int .i64 pa)).setCell ⟨w.heap.size, 2, none⟩ (.int .i64 ho)).setCell ⟨w.heap.size, 3, none⟩ (.int .i64 sh)).setCell ⟨w.heap.size, 4, none⟩ (.int .i64 mo)).setCell ⟨w.heap.size, 5, none⟩ (.bool sl)).setCell ⟨w.heap.size, 6, none⟩ (.string na)).setCell ⟨w.heap.size, 7, none⟩ (.string wa)).setCell ⟨w.heap.size, 8, none⟩ (.slice A3 ks.length n3)) (.slice A3 ks.length n3) ks := hK4.wide fun i hi _ => HG.out i (by omega)
    have hB5 : Below w.heap.size w ((((((((((w3.setCell ⟨w.heap.size + 1, 8, none⟩ (.slice A3 ks.length n3)).setCell ⟨w.heap.size, 0, none⟩ (.int .i64 kd)).setCell ⟨w.heap.size, 1, none⟩ (.int .i64 pa)).setCell ⟨w.heap.size, 2, none⟩ (.int .i64 ho)).setCell ⟨w.heap.size, 3, none⟩ (.int .i64 sh)).setCell ⟨w.heap.size, 4, none⟩ (.int .i64 mo)).setCell ⟨w.heap.size, 5, none⟩ (.bool sl)).setCell ⟨w.heap.size, 6, none⟩ (.string na)).setCell ⟨w.heap.size, 7, none⟩ (.string wa)).setCell ⟨w.heap.size, 8, none⟩ (.slice A3 ks.length n3)) := (((((((((hB3.setCell (p := ⟨w.heap.size + 1, 8, none⟩) (Nat.le_succ _) (.slice A3 ks.length n3)).setCell (p := ⟨w.heap.size, 0, none⟩) (Nat.le_refl _) (.int .i64 kd)).setCell (p := ⟨w.heap.size, 1, none⟩) (Nat.le_refl _) (.int .i64 pa)).setCell (p := ⟨w.heap.size, 2, none⟩) (Nat.le_refl _) (.int .i64 ho)).setCell (p := ⟨w.heap.size, 3, none⟩) (Nat.le_refl _) (.int .i64 sh)).setCell (p := ⟨w.heap.size, 4, none⟩) (Nat.le_refl _) (.int .i64 mo)).setCell (p := ⟨w.heap.size, 5, none⟩) (Nat.le_refl _) (.bool sl)).setCell (p := ⟨w.heap.size, 6, none⟩) (Nat.le_refl _) (.string na)).setCell (p := ⟨w.heap.size, 7, none⟩) (Nat.le_refl _) (.string wa)).setCell (p := ⟨w.heap.size, 8, none⟩) (Nat.le_refl _) (.slice A3 ks.length n3)
    have HK5 := Lib.hid hK5
    have HB5 := Lib.hid hB5
    clear hbox3 hres3 hK3 hb3 hK4 hK5 hB5
    go_wp2
    (try simp only [Exit.inBlock, Exit.then])
    refine bodyPost_ret (v := .tuple #[.agg #[.int .i64 kd, .int .i64 pa, .int .i64 ho, .int .i64 sh, .int .i64 mo, .bool sl, .string na, .string wa, .slice A3 ks.length n3], .bool true]) ?_ rfl ⟨A3, n3, rfl, HK5.out, HB5.out⟩
    rw [results_cell_tmp rfl]
    go_simp
theorem arNode_is {G : Nat → Prop} {id : Int} (h : Frst S w b l) (hl : l.length ≤ 128) (hf : Few 200 l) (hG : Fut G w.heap.size) (ht : thereB l id = true) :
    Calls Try.prog 33 #[.pointer (some ⟨b, 0, none⟩), .int .i64 id] w (Node2 G w (nd l id) true) := by
  have := arNode id h hl hf hG
  rw [ht, if_pos rfl] at this
  exact this
end
end Go.Proofs.Ytphpbeapibohiaa

namespace Go.Proofs.Ytphpbeapibohiaa
open Go Go.RowKit

section
variable {rows : List (Nd × Value)} {p : Nd × Value}
theorem set_behind {X Y : List Value} (hX : X.length = 9) (n : Nat) (u : Value) : (X ++ Y).set (9 + n) u = X ++ Y.set n u := by
  rw [List.set_append_right _ _ (by omega), hX, Nat.add_sub_cancel_left]
/-- A whole node is written. -/
def put9 (us : List Value) (j : Nat) (d : Nd) (k : Value) : List Value :=
  ((((((((us.set (j * 9) (.int .i64 d.kind)).set (j * 9 + 1) (.int .i64 d.parent)).set (j * 9 + 2) (.int .i64 d.host)).set (j * 9 + 3) (.int .i64 d.shadow)).set (j * 9 + 4) (.int .i64 d.mode)).set (j * 9 + 5) (.bool d.slot)).set (j * 9 + 6) (.string d.name)).set (j * 9 + 7) (.string d.want)).set (j * 9 + 8) k
theorem flat_put (d : Nd) (k : Value) : ∀ {rows : List (Nd × Value)} {i : Nat}, i < rows.length → flat (rows.set i (d, k)) = put9 (flat rows) i d k
  | [], i, h => by simp at h
  | q :: r, 0, _ => by
    rw [List.set_cons_zero, flat_cons, flat_cons]
    simp [put9, Nd.cells]
  | q :: r, i + 1, h => by
    rw [List.set_cons_succ, flat_cons, flat_cons, flat_put d k (by simpa using h)]
    unfold put9
    have e0 : (i + 1) * 9 = 9 + i * 9 := by omega
    have e : ∀ f, (i + 1) * 9 + f = 9 + (i * 9 + f) := fun f => by omega
    simp only [e]
    rw [e0]
    simp only [set_behind (Nd.cells_length q.1 q.2)]
theorem flat_zeros (n : Nat) : (madeCells (Value.agg #[.int .i64 0, .int .i64 0, .int .i64 0, .int .i64 0, .int .i64 0, .bool false, .string ⟨#[]⟩, .string ⟨#[]⟩, .slice none 0 0]).cells (n * 9)).toList = flat (List.replicate n (Nd.zero, Value.slice none 0 0)) := by
  apply List.ext_getElem?
  intro j
  by_cases hj : j < n * 9
  · have hd : j = j / 9 * 9 + j % 9 := by omega
    have hr : (List.replicate n (Nd.zero, Value.slice none 0 0))[j / 9]? = some (Nd.zero, .slice none 0 0) := by
      rw [List.getElem?_replicate, if_pos (by omega)]
    have h2 := flat_get hr (show j % 9 < 9 by omega)
    rw [← hd] at h2
    rw [h2]
    have h3 : j % 9 < 9 := by omega
    have hs : (madeCells (Value.agg #[.int .i64 0, .int .i64 0, .int .i64 0, .int .i64 0, .int .i64 0, .bool false, .string ⟨#[]⟩, .string ⟨#[]⟩, .slice none 0 0]).cells (n * 9)).toList[j]? = some ((#[.int .i64 0, .int .i64 0, .int .i64 0, .int .i64 0, .int .i64 0, .bool false, .string ⟨#[]⟩, .string ⟨#[]⟩, .slice none 0 0] : Array Value)[j % 9]!) := by
      simp [madeCells, hj, Value.cells]
    rw [hs]
    generalize j % 9 = f at h3
    match f, h3 with
    | 0, _ => rfl
    | 1, _ => rfl
    | 2, _ => rfl
    | 3, _ => rfl
    | 4, _ => rfl
    | 5, _ => rfl
    | 6, _ => rfl
    | 7, _ => rfl
    | 8, _ => rfl
  · rw [List.getElem?_eq_none (by simp [madeCells]; omega), List.getElem?_eq_none (by rw [flat_length, List.length_replicate]; omega)]
end

section
variable {G : Nat → Prop} {w : World} {B c g i : Nat} {l : List Nd}
/-- Nine cells are written, one behind the other. -/
def store9 (w : World) (g j : Nat) (d : Nd) (k : Value) : World :=
  ((((((((w.setCell ⟨g, j * 9, none⟩ (.int .i64 d.kind)).setCell ⟨g, j * 9 + 1, none⟩ (.int .i64 d.parent)).setCell ⟨g, j * 9 + 2, none⟩ (.int .i64 d.host)).setCell ⟨g, j * 9 + 3, none⟩ (.int .i64 d.shadow)).setCell ⟨g, j * 9 + 4, none⟩ (.int .i64 d.mode)).setCell ⟨g, j * 9 + 5, none⟩ (.bool d.slot)).setCell ⟨g, j * 9 + 6, none⟩ (.string d.name)).setCell ⟨g, j * 9 + 7, none⟩ (.string d.want)).setCell ⟨g, j * 9 + 8, none⟩ k
theorem keeps9 (w : World) (g j : Nat) (d : Nd) (k : Value) : Keeps (fun i => i = g) w (store9 w g j d k) :=
  (((((((((Keeps.refl (fun i => i = g) w).store (p := ⟨g, j * 9, none⟩) (.inl rfl) _).store (p := ⟨g, j * 9 + 1, none⟩) (.inl rfl) _).store (p := ⟨g, j * 9 + 2, none⟩) (.inl rfl) _).store (p := ⟨g, j * 9 + 3, none⟩) (.inl rfl) _).store (p := ⟨g, j * 9 + 4, none⟩) (.inl rfl) _).store (p := ⟨g, j * 9 + 5, none⟩) (.inl rfl) _).store (p := ⟨g, j * 9 + 6, none⟩) (.inl rfl) _).store (p := ⟨g, j * 9 + 7, none⟩) (.inl rfl) _).store (p := ⟨g, j * 9 + 8, none⟩) (.inl rfl) _
theorem own9 {n : Nat} {us : List Value} (h : w.ownsRow B 52 9 (.slice (some ⟨g, 0, none⟩) n c) n us) (j : Nat) (d : Nd) (k : Value) : (store9 w g j d k).ownsRow B 52 9 (.slice (some ⟨g, 0, none⟩) n c) n (put9 us j d k) := by
  have h0 := (h.stored (j * 9) (.int .i64 d.kind)).1
  have h1 := (h0.stored (j * 9 + 1) (.int .i64 d.parent)).1
  have h2 := (h1.stored (j * 9 + 2) (.int .i64 d.host)).1
  have h3 := (h2.stored (j * 9 + 3) (.int .i64 d.shadow)).1
  have h4 := (h3.stored (j * 9 + 4) (.int .i64 d.mode)).1
  have h5 := (h4.stored (j * 9 + 5) (.bool d.slot)).1
  have h6 := (h5.stored (j * 9 + 6) (.string d.name)).1
  have h7 := (h6.stored (j * 9 + 7) (.string d.want)).1
  exact (h7.stored (j * 9 + 8) k).1
theorem Nodes.put (h : Nodes G w B (some ⟨g, 0, none⟩) c l) (hi : i < l.length) {d : Nd} {k : Value} (hk : Kids G w k d.kids) : Nodes G (store9 w g i d k) B (some ⟨g, 0, none⟩) c (l.set i d) := by
  obtain ⟨rows, rfl, h2, h3, h4⟩ := h
  have hi' : i < rows.length := by simpa using hi
  have far : ∀ (v : Value) (xs : List Int), Kids G w v xs → Kids G (store9 w g i d k) v xs := fun v xs hv =>
    ⟨own_kept hv.1 (keeps9 w g i d k) fun g' hg' e => kids_apart hv h2 (by decide) hg' (by rw [e]; rfl), hv.2⟩
  refine ⟨rows.set i (d, k), by rw [List.map_set], ?_, fun p hp => ?_, h4⟩
  · rw [List.length_set, flat_put d k hi']
    exact own9 h2 i d k
  · rcases List.mem_or_eq_of_mem_set hp with hp | rfl
    · exact far _ _ (h3 p hp)
    · exact far _ _ hk

theorem upto_zero (l : List Nd) : l.take 0 ++ List.replicate (l.length - 0) Nd.zero = List.replicate l.length Nd.zero := by simp
theorem upto_length {l : List Nd} {j : Nat} (hj : j ≤ l.length) : (l.take j ++ List.replicate (l.length - j) Nd.zero).length = l.length := by simp; omega
theorem upto_step {l : List Nd} {j : Nat} (hj : j < l.length) : (l.take j ++ List.replicate (l.length - j) Nd.zero).set j l[j] = l.take (j + 1) ++ List.replicate (l.length - (j + 1)) Nd.zero := by
  have hl : (l.take j).length = j := by rw [List.length_take]; omega
  rw [List.set_append_right _ _ (by omega), hl, Nat.sub_self, show l.length - j = (l.length - (j + 1)) + 1 by omega, List.replicate_succ, List.set_cons_zero, List.take_add_one, List.getElem?_eq_getElem hj, List.append_assoc]
  rfl

variable {S : Nat → Prop} {b : Nat}
end
end Go.Proofs.Ytphpbeapibohiaa
