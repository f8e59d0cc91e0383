/-
  A region that leaves its order open and writes what it has read: 'x = append(x, ..)'. As Ord, but of the operations named 'late' (each waits for all that was taken first) nothing is asked behind them: what was read may be written by them. No program is named here.
  A region that leaves its order open, walked by a way that is typed out: what is taken first, what comes up alone, and where two may come up, both ways. As Late, but with forks. No program is named here.
  towncrierlaw13.EventPlays.
  Arguments that came in, opened: lists of texts and of numbers. Facts of the program that every row's proof wants.
  Proved: the law answers true for every input, and each argument reads afterwards as it read before. No condition.
-/
import Derived.Test.YtboibehnfcbbbaaPartA
import Derived.Deep.CutBlock
import Derived.Test.YtboibehnfcbbbaaProg
import Derived.Test.YtboibehnfcbbbaaChecked
import Derived.ProofKit
import Derived.OpenShut
import Derived.Test.YtboibehnfcbbbaaRows
import Derived.ChangeOld

namespace Go.Proofs.Ytboibehnfcbbbaa
open Go

section
variable {P : Program} {ops : Array Oper} {Q : Exit → Act → World → Prop} {md : Region.Mode} {late pin : List Nat}

/-- Does each late operation wait for i? -/
def waits (md : Region.Mode) (ops : Array Oper) (late : List Nat) (i : Nat) : Bool :=
  late.all fun z => match ops[z]? with
    | some o => o.after.any fun e => Region.binds md e && e.on == i
    | none => true

/-- Whatever order is picked; S holds behind every operation that is not late. -/
def wpAnyZ (P : Program) (md : Region.Mode) (ops : Array Oper) (Q : Exit → Act → World → Prop) (late : List Nat) (S : World → Prop) : Nat → Array Bool → Act → World → Prop
  | 0, listed, a, w => Region.ready md ops listed = [] ∧ Q .normal a w
  | n + 1, listed, a, w => (Region.ready md ops listed = [] → Q .normal a w) ∧
      ∀ i ∈ Region.ready md ops listed, wpOp P ops Q i (fun a' w' => (late.contains i = false → S w') ∧ wpAnyZ P md ops Q late S n (listed.setIfInBounds i true) a' w') a w

theorem wpAny_of_Z {S : World → Prop} : ∀ (n : Nat) (listed : Array Bool) (a : Act) (w : World), wpAnyZ P md ops Q late S n listed a w → wpAny P md ops Q n listed a w
  | 0, _, _, _, h => h
  | n + 1, _, _, _, h => ⟨h.1, fun i hi => wpOp_mono (fun a' w' h' => wpAny_of_Z n _ a' w' h'.2) (h.2 i hi)⟩

theorem wpAnyZ_wide {S S' : World → Prop} (hS : ∀ w, S' w → S w) : ∀ (n : Nat) (listed : Array Bool) (a : Act) (w : World), wpAnyZ P md ops Q late S' n listed a w → wpAnyZ P md ops Q late S n listed a w
  | 0, _, _, _, h => h
  | n + 1, _, _, _, h => ⟨h.1, fun i hi => wpOp_mono (fun a' w' h' => ⟨fun hl => hS _ (h'.1 hl), wpAnyZ_wide hS n _ a' w' h'.2⟩) (h.2 i hi)⟩

theorem wpAnyZ_done {S : World → Prop} {listed : Array Bool} {a : Act} {w : World} (hr : Region.ready md ops listed = []) (h : Q .normal a w) : ∀ n, wpAnyZ P md ops Q late S n listed a w
  | 0 => ⟨hr, h⟩
  | _ + 1 => ⟨fun _ => h, fun _ hi => absurd (hr ▸ hi) (List.not_mem_nil)⟩

/-- What is not listed is waited for. -/
theorem not_waiting {listed : Array Bool} {i : Nat} {oj : Oper} (hi : listed.getD i true = false) (hall : ∀ e ∈ oj.after, Region.binds md e = true → listed.getD e.on false = true) : ∀ e ∈ oj.after, Region.binds md e = true → e.on ≠ i := by
  rintro e he hb rfl
  have h := hall e he hb
  simp only [Array.getD] at hi h
  split at hi
  · rename_i hlt
    rw [dif_pos hlt] at h
    exact absurd (h.symm.trans hi) (by decide)
  · cases hi

theorem not_late {i j : Nat} {oj : Oper} (hw : waits md ops late i = true) (hj : ops[j]? = some oj) (hno : ∀ e ∈ oj.after, Region.binds md e = true → e.on ≠ i) : late.contains j = false := by
  cases hl : late.contains j with
  | false => rfl
  | true =>
    have h := List.all_eq_true.1 hw j (List.contains_iff_mem.1 hl)
    rw [hj] at h
    obtain ⟨e, he, hb⟩ := Array.any_eq_true'.1 h
    simp only [Bool.and_eq_true, beq_iff_eq] at hb
    exact absurd hb.2 (hno e he hb.1)

/-- Operation i may be taken first: it yields v in every world that meets S, and whoever could come ahead of it leaves S standing. -/
theorem wpAnyZ_take {S : World → Prop} {i : Nat} {oi : Oper} {v : Value} (hi : ops[i]? = some oi) (hs : Region.noSelect ops = true) (hw : waits md ops late i = true)
    (hQ : ∀ c a w, Q (.panic c) (Act.put a oi.dst v) w → Q (.panic c) a w) :
    ∀ (n : Nat) (listed : Array Bool) (a : Act) (w : World), Region.free md ops listed i = true → i ∈ Region.ready md ops listed → YieldsIf P ops S oi v a → S w →
      wpAnyZ P md ops Q late S n (listed.setIfInBounds i true) (a.put oi.dst v) w → wpAnyZ P md ops Q late S (n + 1) listed a w := by
  intro n
  induction n with
  | zero =>
    intro listed a w _ hr hy hS H
    refine ⟨fun h => absurd (h ▸ hr) List.not_mem_nil, fun j hj => ?_⟩
    by_cases hji : j = i
    · subst hji
      exact hy.wpOp hi hS ⟨fun _ => hS, H⟩
    · exact absurd (H.1 ▸ ready_mono hj hji) List.not_mem_nil
  | succ n ih =>
    intro listed a w hf hr hy hS H
    refine ⟨fun h => absurd (h ▸ hr) List.not_mem_nil, fun j hj => ?_⟩
    by_cases hji : j = i
    · subst hji
      exact hy.wpOp hi hS ⟨fun _ => hS, H⟩
    · obtain ⟨hun, oj, hoj, hall⟩ := mem_ready.1 hj
      have hno := not_waiting (mem_ready.1 hr).1 hall
      have hnl := not_late hw hoj hno
      have step := wpOp_putIf hoj (Region.free_spec hi hf j oj hoj hji hun hno) (fun cs b => Region.noSelect_spec hs i oi cs b hi) (fun cs b => Region.noSelect_spec hs j oj cs b hoj) hQ hy (H.2 j (ready_mono hj hji))
      have hf' : Region.free md ops (listed.setIfInBounds j true) i = true := by
        simp only [Region.free, hi, List.all_eq_true, List.mem_range] at hf ⊢
        intro k hk
        have := hf k hk
        by_cases hjk : j = k
        · subst hjk
          have hlt : j < listed.size := by
            rcases Nat.lt_or_ge j listed.size with h | h
            · exact h
            · simp [Array.getD, Nat.not_lt.2 h] at hun
          simp [Array.getD, hlt]
        · rw [getD_set_ne true hjk]
          exact this
      refine wpOp_mono (fun a' w' h' => ⟨fun _ => h'.2.1 hnl, ih _ a' w' hf' (ready_mono hr (Ne.symm hji)) h'.1 (h'.2.1 hnl) ?_⟩) step
      rw [Array.setIfInBounds_comm _ _ hji]
      exact h'.2.2

/-- May the operations come up in this order, each pinned one alone, each late one behind what was taken first? -/
def lateOk (md : Region.Mode) (ops : Array Oper) (late pin : List Nat) : List Nat → Array Bool → Bool
  | [], listed => Region.ready md ops listed == []
  | i :: r, listed => (if pin.contains i then Region.ready md ops listed == [i] else (Region.free md ops listed i && (Region.ready md ops listed).contains i && waits md ops late i)) && (ops[i]?).isSome && lateOk md ops late pin r (listed.setIfInBounds i true)

def wpLate (P : Program) (ops : Array Oper) (Q : Exit → Act → World → Prop) (late pin : List Nat) : (World → Prop) → List (Nat × Oper) → Act → World → Prop
  | _, [], a, w => Q .normal a w
  | S, (i, o) :: r, a, w => ∃ S' : World → Prop, (∀ w, S' w → S w) ∧
      if pin.contains i = true then wpOp P ops Q i (fun a' w' => (late.contains i = false → S' w') ∧ wpLate P ops Q late pin S' r a' w') a w
      else ∃ v, YieldsIf P ops S' o v a ∧ S' w ∧ wpLate P ops Q late pin S' r (a.put o.dst v) w

theorem wpAnyZ_of_late (hs : Region.noSelect ops = true) (hQ : ∀ c a d v w, Q (.panic c) (Act.put a d v) w → Q (.panic c) a w) :
    ∀ (l : List Nat) (S : World → Prop) (n : Nat) (listed : Array Bool) (a : Act) (w : World), l.length ≤ n → lateOk md ops late pin l listed = true → wpLate P ops Q late pin S (picked ops.toList l) a w → wpAnyZ P md ops Q late S n listed a w
  | [], S, n, listed, a, w, _, hk, h => wpAnyZ_done (by simpa [lateOk] using hk) h n
  | i :: r, _, 0, _, _, _, hl, _, _ => by simp at hl
  | i :: r, S, n + 1, listed, a, w, hl, hk, h => by
    simp only [lateOk, Bool.and_eq_true] at hk
    obtain ⟨⟨hk1, hk3⟩, hk2⟩ := hk
    obtain ⟨o, ho⟩ := Option.isSome_iff_exists.1 hk3
    have ho' : ops.toList[i]? = some o := by simpa using ho
    simp only [picked, ho', wpLate] at h
    obtain ⟨S', hSS, h⟩ := h
    refine wpAnyZ_wide hSS _ _ _ _ ?_
    have hl' : r.length ≤ n := by simpa using hl
    by_cases hp : pin.contains i = true
    · rw [if_pos hp] at h hk1
      have hr : Region.ready md ops listed = [i] := by simpa using hk1
      refine ⟨fun h0 => absurd (h0.symm.trans hr) (by simp), fun j hj => ?_⟩
      rw [hr] at hj
      obtain rfl := List.mem_singleton.1 hj
      exact wpOp_mono (fun a' w' h' => ⟨h'.1, wpAnyZ_of_late hs hQ r _ n _ a' w' hl' hk2 h'.2⟩) h
    · rw [if_neg hp] at h hk1
      obtain ⟨v, hy, hS, h⟩ := h
      simp only [Bool.and_eq_true] at hk1
      exact wpAnyZ_take ho hs hk1.2 (fun c a w => hQ c a _ v w) n listed a w hk1.1.1 (by simpa using hk1.1.2) hy hS (wpAnyZ_of_late hs hQ r _ n _ _ _ hl' hk2 h)

/-- The beginning. -/
theorem wp_region_late {S : World → Prop} {ol : List Oper} {id : Nat} {a : Act} {w : World} {l : List Nat} (hm : P.follows .mixedOrders = true) (hs : Region.noSelect ol.toArray = true) (hl : (l.length == ol.length) = true)
    (hk : lateOk .any ol.toArray late pin l (Array.replicate ol.length false) = true) (hS : S w.drew)
    (h : S w.drew → wpLate P ol.toArray (NoPanic Q) late pin S (picked ol l) a w.drew) : (Code.region id ol.toArray true).wp P Q a w :=
  wp_region_noPanic (wp_region_any hm (wpAny_of_Z _ _ _ _ (wpAnyZ_of_late hs (fun _ _ _ _ _ h => h) l S ol.toArray.size _ a _ (by
    have : l.length = ol.length := by simpa using hl
    simp; omega) (by simpa using hk) (h hS))))

variable {i : Nat} {r : List (Nat × Oper)} {o : Oper} {a : Act} {w : World} {v : Value} {S : World → Prop}
theorem late_tight (S' : World → Prop) (hS : ∀ w, S' w → S w) (hw : S' w) (h : S' w → wpLate P ops Q late pin S' r a w) : wpLate P ops Q late pin S r a w := by
  match r, h hw with
  | [], h => exact h
  | (_, _) :: _, ⟨S'', h1, h2⟩ => exact ⟨S'', fun w hw => hS w (h1 w hw), h2⟩
theorem late_skip (hp : pin.contains i = false) (hw : Region.wanted o (yielded ops a.tmps) = false) (hS : S w) (h : wpLate P ops Q late pin S r (a.put o.dst undef) w) : wpLate P ops Q late pin S ((i, o) :: r) a w := by
  unfold wpLate
  refine ⟨S, fun _ h => h, ?_⟩
  rw [if_neg (by rw [hp]; decide)]
  exact ⟨undef, .inr ⟨hw, rfl⟩, hS, h⟩
theorem late_take (hp : pin.contains i = false) (hw : Region.wanted o (yielded ops a.tmps) = true) (hy : ∀ w, S w → (execOp a.eval o).run P w = .ok (.value v) w) (hS : S w)
    (h : wpLate P ops Q late pin S r (a.put o.dst v) w) : wpLate P ops Q late pin S ((i, o) :: r) a w := by
  unfold wpLate
  refine ⟨S, fun _ h => h, ?_⟩
  rw [if_neg (by rw [hp]; decide)]
  exact ⟨v, .inl ⟨hw, hy⟩, hS, h⟩
/-- A pinned operation that is not late. -/
theorem late_run (hp : pin.contains i = true) (ho : ops[i]? = some o) (hw : Region.wanted o (yielded ops a.tmps) = true)
    (h : ∀ K' : Act → World → Prop, Shut (∀ a w, S w → (S w → wpLate P ops Q late pin S r a w) → K' a w) → Oper.wp P o a w K' Q) : wpLate P ops Q late pin S ((i, o) :: r) a w := by
  unfold wpLate
  refine ⟨S, fun _ h => h, ?_⟩
  rw [if_pos hp]
  exact wpOp_step ho fun K' hK => by rw [if_pos hw]; exact h K' fun a w hS hW => hK a w ⟨fun _ => hS, hW hS⟩
theorem late_pass (hp : pin.contains i = true) (ho : ops[i]? = some o) (hw : Region.wanted o (yielded ops a.tmps) = false) (hS : S w) (h : wpLate P ops Q late pin S r (a.put o.dst undef) w) : wpLate P ops Q late pin S ((i, o) :: r) a w := by
  unfold wpLate
  refine ⟨S, fun _ h => h, ?_⟩
  rw [if_pos hp]
  exact wpOp_step ho fun K' hK => by rw [if_neg (by rw [hw]; decide)]; exact hK _ _ ⟨fun _ => hS, h⟩
/-- A late one. -/
theorem late_last (hp : pin.contains i = true) (hl : late.contains i = true) (ho : ops[i]? = some o) (hw : Region.wanted o (yielded ops a.tmps) = true)
    (h : ∀ K' : Act → World → Prop, Shut (∀ a w, wpLate P ops Q late pin S r a w → K' a w) → Oper.wp P o a w K' Q) : wpLate P ops Q late pin S ((i, o) :: r) a w := by
  unfold wpLate
  refine ⟨S, fun _ h => h, ?_⟩
  rw [if_pos hp]
  exact wpOp_step ho fun K' hK => by rw [if_pos hw]; exact h K' fun a w hW => hK a w ⟨fun hf => absurd (hl.symm.trans hf) (by decide), hW⟩
theorem late_done (h : Q .normal a w) : wpLate P ops (NoPanic Q) late pin S [] a w := h
end
end Go.Proofs.Ytboibehnfcbbbaa

namespace Go.Proofs.Ytboibehnfcbbbaa
open Go

/-- A way through a region: take i first; i comes up alone; i or j comes up. -/
inductive Way where
  | fin : Way
  | take : Nat → Way → Way
  | run : Nat → Way → Way
  | fork : Nat → Way → Nat → Way → Way
def Way.takes : List Nat → Way → Way
  | [], p => p
  | i :: r, p => .take i (Way.takes r p)
def Way.length : Way → Nat
  | .fin => 0
  | .take _ p => p.length + 1
  | .run _ p => p.length + 1
  | .fork _ p _ q => max p.length q.length + 1

section
variable {P : Program} {ops : Array Oper} {Q : Exit → Act → World → Prop} {md : Region.Mode} {late : List Nat}

def wayOk (md : Region.Mode) (ops : Array Oper) (late : List Nat) : Way → Array Bool → Bool
  | .fin, listed => Region.ready md ops listed == []
  | .take i p, listed => Region.free md ops listed i && (Region.ready md ops listed).contains i && waits md ops late i && wayOk md ops late p (listed.setIfInBounds i true)
  | .run i p, listed => Region.ready md ops listed == [i] && wayOk md ops late p (listed.setIfInBounds i true)
  | .fork i p j q, listed => Region.ready md ops listed == [i, j] && wayOk md ops late p (listed.setIfInBounds i true) && wayOk md ops late q (listed.setIfInBounds j true)

def wpWay (P : Program) (ops : Array Oper) (Q : Exit → Act → World → Prop) (late : List Nat) : (World → Prop) → Way → Act → World → Prop
  | _, .fin, a, w => Q .normal a w
  | S, .take i p, a, w => ∃ S' : World → Prop, (∀ w, S' w → S w) ∧ ∃ o, ops[i]? = some o ∧ ∃ v, YieldsIf P ops S' o v a ∧ S' w ∧ wpWay P ops Q late S' p (a.put o.dst v) w
  | S, .run i p, a, w => ∃ S' : World → Prop, (∀ w, S' w → S w) ∧ wpOp P ops Q i (fun a' w' => (late.contains i = false → S' w') ∧ wpWay P ops Q late S' p a' w') a w
  | S, .fork i p j q, a, w => (∃ S' : World → Prop, (∀ w, S' w → S w) ∧ wpOp P ops Q i (fun a' w' => (late.contains i = false → S' w') ∧ wpWay P ops Q late S' p a' w') a w) ∧
      ∃ S' : World → Prop, (∀ w, S' w → S w) ∧ wpOp P ops Q j (fun a' w' => (late.contains j = false → S' w') ∧ wpWay P ops Q late S' q a' w') a w

theorem wpAnyZ_of_way (hs : Region.noSelect ops = true) (hQ : ∀ c a d v w, Q (.panic c) (Act.put a d v) w → Q (.panic c) a w) :
    ∀ (y : Way) (S : World → Prop) (n : Nat) (listed : Array Bool) (a : Act) (w : World), y.length ≤ n → wayOk md ops late y listed = true → wpWay P ops Q late S y a w → wpAnyZ P md ops Q late S n listed a w
  | .fin, S, n, listed, a, w, _, hk, h => wpAnyZ_done (by simpa [wayOk] using hk) h n
  | .take _ _, _, 0, _, _, _, hl, _, _ => by simp [Way.length] at hl
  | .run _ _, _, 0, _, _, _, hl, _, _ => by simp [Way.length] at hl
  | .fork _ _ _ _, _, 0, _, _, _, hl, _, _ => by simp [Way.length] at hl
  | .take i p, S, n + 1, listed, a, w, hl, hk, h => by
    simp only [wayOk, Bool.and_eq_true] at hk
    obtain ⟨⟨⟨k1, k2⟩, k3⟩, k4⟩ := hk
    obtain ⟨S', hSS, o, ho, v, hy, hS, h⟩ := h
    refine wpAnyZ_wide hSS _ _ _ _ ?_
    exact wpAnyZ_take ho hs k3 (fun c a w => hQ c a _ v w) n listed a w k1 (by simpa using k2) hy hS (wpAnyZ_of_way hs hQ p _ n _ _ _ (by simpa [Way.length] using hl) k4 h)
  | .run i p, S, n + 1, listed, a, w, hl, hk, h => by
    simp only [wayOk, Bool.and_eq_true] at hk
    obtain ⟨k1, k2⟩ := hk
    obtain ⟨S', hSS, h⟩ := h
    refine wpAnyZ_wide hSS _ _ _ _ ?_
    have hr : Region.ready md ops listed = [i] := by simpa using k1
    refine ⟨fun h0 => absurd (h0.symm.trans hr) (by simp), fun j hj => ?_⟩
    rw [hr] at hj
    obtain rfl := List.mem_singleton.1 hj
    exact wpOp_mono (fun a' w' h' => ⟨h'.1, wpAnyZ_of_way hs hQ p _ n _ a' w' (by simpa [Way.length] using hl) k2 h'.2⟩) h
  | .fork i p j q, S, n + 1, listed, a, w, hl, hk, h => by
    simp only [wayOk, Bool.and_eq_true] at hk
    obtain ⟨⟨k1, k2⟩, k3⟩ := hk
    obtain ⟨⟨S1, hS1, h1⟩, S2, hS2, h2⟩ := h
    have hl1 : p.length ≤ n := by simp [Way.length] at hl; omega
    have hl2 : q.length ≤ n := by simp [Way.length] at hl; omega
    have hr : Region.ready md ops listed = [i, j] := by simpa using k1
    refine ⟨fun h0 => absurd (h0.symm.trans hr) (by simp), fun x hx => ?_⟩
    rw [hr] at hx
    rcases List.mem_cons.1 hx with rfl | hx
    · exact wpOp_mono (fun a' w' h' => ⟨fun hf => hS1 _ (h'.1 hf), wpAnyZ_wide hS1 _ _ _ _ (wpAnyZ_of_way hs hQ p _ n _ a' w' hl1 k2 h'.2)⟩) h1
    · obtain rfl := List.mem_singleton.1 hx
      exact wpOp_mono (fun a' w' h' => ⟨fun hf => hS2 _ (h'.1 hf), wpAnyZ_wide hS2 _ _ _ _ (wpAnyZ_of_way hs hQ q _ n _ a' w' hl2 k3 h'.2)⟩) h2

/-- The beginning. -/
theorem wp_region_way {S : World → Prop} {ol : List Oper} {id : Nat} {a : Act} {w : World} {y : Way} (hm : P.follows .mixedOrders = true) (hs : Region.noSelect ol.toArray = true) (hl : y.length = ol.length)
    (hk : wayOk .any ol.toArray late y (Array.replicate ol.length false) = true) (hS : S w.drew)
    (h : S w.drew → wpWay P ol.toArray (NoPanic Q) late S y a w.drew) : (Code.region id ol.toArray true).wp P Q a w :=
  wp_region_noPanic (wp_region_any hm (wpAny_of_Z _ _ _ _ (wpAnyZ_of_way hs (fun _ _ _ _ _ h => h) y S ol.toArray.size _ a _ (by simp; omega) (by simpa using hk) (h hS))))

variable {i j : Nat} {p q : Way} {o : Oper} {a : Act} {w : World} {v : Value} {S : World → Prop}
theorem way_tight (S' : World → Prop) (hS : ∀ w, S' w → S w) (hw : S' w) (h : S' w → wpWay P ops Q late S' p a w) : wpWay P ops Q late S p a w := by
  have h := h hw
  match p, h with
  | .fin, h => exact h
  | .take _ _, ⟨S'', h1, h2⟩ => exact ⟨S'', fun w hw => hS w (h1 w hw), h2⟩
  | .run _ _, ⟨S'', h1, h2⟩ => exact ⟨S'', fun w hw => hS w (h1 w hw), h2⟩
  | .fork _ _ _ _, ⟨⟨S1, h1, h2⟩, S2, h3, h4⟩ => exact ⟨⟨S1, fun w hw => hS w (h1 w hw), h2⟩, S2, fun w hw => hS w (h3 w hw), h4⟩
theorem way_skip (ho : ops[i]? = some o) (hw : Region.wanted o (yielded ops a.tmps) = false) (hS : S w) (h : wpWay P ops Q late S p (a.put o.dst undef) w) : wpWay P ops Q late S (.take i p) a w :=
  ⟨S, fun _ h => h, o, ho, undef, .inr ⟨hw, rfl⟩, hS, h⟩
theorem way_take (ho : ops[i]? = some o) (hw : Region.wanted o (yielded ops a.tmps) = true) (hy : ∀ w, S w → (execOp a.eval o).run P w = .ok (.value v) w) (hS : S w)
    (h : wpWay P ops Q late S p (a.put o.dst v) w) : wpWay P ops Q late S (.take i p) a w :=
  ⟨S, fun _ h => h, o, ho, v, .inl ⟨hw, hy⟩, hS, h⟩
theorem way_run (ho : ops[i]? = some o) (hw : Region.wanted o (yielded ops a.tmps) = true)
    (h : ∀ K' : Act → World → Prop, Shut (∀ a w, S w → (S w → wpWay P ops Q late S p a w) → K' a w) → Oper.wp P o a w K' Q) : wpWay P ops Q late S (.run i p) a w :=
  ⟨S, fun _ h => h, wpOp_step ho fun K' hK => by rw [if_pos hw]; exact h K' fun a w hS hW => hK a w ⟨fun _ => hS, hW hS⟩⟩
theorem way_pass (ho : ops[i]? = some o) (hw : Region.wanted o (yielded ops a.tmps) = false) (hS : S w) (h : wpWay P ops Q late S p (a.put o.dst undef) w) : wpWay P ops Q late S (.run i p) a w :=
  ⟨S, fun _ h => h, wpOp_step ho fun K' hK => by rw [if_neg (by rw [hw]; decide)]; exact hK _ _ ⟨fun _ => hS, h⟩⟩
theorem way_last (hl : late.contains i = true) (ho : ops[i]? = some o) (hw : Region.wanted o (yielded ops a.tmps) = true)
    (h : ∀ K' : Act → World → Prop, Shut (∀ a w, wpWay P ops Q late S p a w → K' a w) → Oper.wp P o a w K' Q) : wpWay P ops Q late S (.run i p) a w :=
  ⟨S, fun _ h => h, wpOp_step ho fun K' hK => by rw [if_pos hw]; exact h K' fun a w hW => hK a w ⟨fun hf => absurd (hl.symm.trans hf) (by decide), hW⟩⟩
theorem way_fork (h1 : wpWay P ops Q late S (.run i p) a w) (h2 : wpWay P ops Q late S (.run j q) a w) : wpWay P ops Q late S (.fork i p j q) a w := ⟨h1, h2⟩
theorem way_done (h : Q .normal a w) : wpWay P ops (NoPanic Q) late S .fin a w := h
end
end Go.Proofs.Ytboibehnfcbbbaa

namespace Go.Proofs.Ytboibehnfcbbbaa
open Go Go.RowKit

section
set_option maxHeartbeats 16000000 in
set_option maxRecDepth 100000 in
theorem eventPlays_any (ty : ByteArray) (rel : Int) (p0 p1 p2 : Bool) (A : Option Addr) (n c : Nat) (xs : List Int) (w : World) (hty : ty.size ≤ 9223372036854775807) (hn : xs.length = n) (h : Nums w w.heap.size A .u8 xs) (hu : ∀ z ∈ xs, 0 ≤ z ∧ z ≤ 255) :
    Calls Try.prog 3 #[.string ty, .int .i64 rel, .agg #[.bool p0, .bool p1, .bool p2], .slice A n c] w fun e w' => e = .returned (.bool true) ∧ Below w.heap.size w w' := by
  have hnot : ∀ (x : Bool) (w : World), (Op.unary .not (.bool x)).run Try.prog w = .ok (.bool (!x)) w := fun _ _ => rfl
  obtain ⟨W0, hW0⟩ : ∃ W0, W0 = w.alloc (.cells #[.bool p0, .bool p1, .bool p2] 22) := ⟨_, rfl⟩
  have hb0 : Below w.heap.size w W0 := by rw [hW0]; exact (Below.refl _ w).alloc (Nat.le_refl _) _
  have hbx : Has W0 w.heap.size (.cells #[.bool p0, .bool p1, .bool p2] 22 (0, 0)) := by rw [hW0]; exact Has.fresh _ _
  have HA := Lib.hid (awake13 W0)
  have HB0 := Lib.hid hb0
  have HBX := Lib.hid hbx
  have HN := Lib.hid hn
  have H := Lib.hid h
  have HU := Lib.hid hu
  have HW0 := Lib.hid hW0
  rw [HW0.out] at HA
  clear hb0 hbx hn h hu hW0
  go_enter Try.func3, Try.ntmps3
  go_wp2_with fail
  refine HA.out.mono ?_
  rw [← HW0.out]
  rintro e w1 ⟨rfl, hb1⟩
  have HB1 := Lib.hid (HB0.out.trans (hb1.mono HB0.out.size))
  have HX1 := Lib.hid (HBX.out.below hb1 HBX.out.inside)
  clear hb1 HA HB0 HBX HW0
  by_cases hbig : 200 < n
  · have z0 : decide ((n : Int) > 200) = true := decide_eq_true (by omega)
    clear hbig
    go_wp2
    go_ret
    exact ⟨rfl, HB1.out⟩
  have z0 : decide ((n : Int) > 200) = false := decide_eq_false (by omega)
  have hn200 : n ≤ 200 := by omega
  have g0 := HX1.out.cell 0
  have g1 := HX1.out.cell 1
  have g2 := HX1.out.cell 2
  clear hbig
  cases hg : evGood ty rel with
  | false =>
    go_wp2_with fail
    refine (evNew_not w1 hg hty).mono ?_
    rintro e w2 ⟨rfl, hb2⟩
    have hX2 := HX1.out.below hb2 HX1.out.inside
    have HB2 := Lib.hid (HB1.out.trans (hb2.mono HB1.out.size))
    have g0 := hX2.cell 0
    have g1 := hX2.cell 1
    have g2 := hX2.cell 2
    clear hb2 hX2
    go_wp2_with fail
    refine (reNew_not w2 hg hty).mono ?_
    rintro e w3 ⟨rfl, rfl⟩
    go_wp2
    go_ret
    exact ⟨rfl, HB2.out⟩
  | true =>
    go_wp2_with fail
    refine (evNew (S := fun i => w.heap.size ≤ i) w1 (fun i hi => Nat.le_trans HB1.out.size hi) hg hty).mono ?_
    rintro e w2 ⟨b, rfl, hE2, hb, hb2⟩
    have hX2 := HX1.out.below hb2 HX1.out.inside
    have HB2 := Lib.hid (HB1.out.trans (hb2.mono HB1.out.size))
    have HE2 := Lib.hid hE2
    have g0 := hX2.cell 0
    have g1 := hX2.cell 1
    have g2 := hX2.cell 2
    clear hb2 hX2 hE2 hb HB1 HX1
    unfold ptrE
    go_wp2_with fail
    refine (reNew (S := fun i => w.heap.size ≤ i) w2 (fun i hi => Nat.le_trans HB2.out.size hi) hg hty).mono ?_
    rintro e w3 ⟨x, rfl, hE3, hx, hb3⟩
    obtain ⟨v, hE2⟩ := HE2.out.below hb3
    obtain ⟨v', hE3⟩ := hE3
    have HD : Hid (Duo13 w b x v v' (Evt.new ty rel p0 p1 p2) (Evt.new ty rel p0 p1 p2) w3) := Lib.hid ⟨hE2, hE3, HB2.out.trans (hb3.mono HB2.out.size)⟩
    clear hE2 hE3 hb3 hx HB2 HE2 g0 g1 g2
    unfold ptrE
    go_wp2_with fail
    go_loopw [13] (fun i wr => ∃ (k : Nat) (v v' : Value) (E : Evt), i = .int .i64 k ∧ k ≤ n ∧ Duo13 w b x v v' E E wr ∧ E.path.length ≤ 1) (fun i _ => n - (intOf i).toNat)
    case atStart => exact ⟨0, v, v', _, rfl, Nat.zero_le _, HD.out, Nat.zero_le _⟩
    case round =>
      obtain ⟨k, v, v', E, rfl, hk, hD, hfew⟩ := hrel
      by_cases hlt : (k : Int) < n
      · have hkn : k < xs.length := by rw [HN.out]; omega
        obtain ⟨bA, off, rfl, hbA, hcell⟩ := H.out k hkn
        have hz := HU.out _ (List.getElem_mem hkn)
        obtain ⟨z, hz1⟩ : ∃ z, z = xs[k] := ⟨_, rfl⟩
        rw [← hz1] at hcell hz
        obtain ⟨y, rfl⟩ : ∃ y : Nat, z = (y : Int) := ⟨z.toNat, by omega⟩
        have c0 : wr.cell? ⟨bA, off + k, none⟩ = some (.int .u8 y) := (hD.below.cell (p := ⟨bA, off + k, none⟩) hbA).trans hcell
        obtain ⟨r, hr7, hr⟩ : ∃ r : Nat, r < 7 ∧ (y : Int).tmod 7 = (r : Int) := ⟨y % 7, by omega, rfl⟩
        have hwk : IntKind.i64.wrap ((k : Int) + 1) = (k : Int) + 1 := wrap_small (by omega) (by omega)
        have HWK := Lib.hid hwk
        have HD := Lib.hid hD
        have HF := Lib.hid hfew
        clear hz hz1 hcell hbA hD hfew hkn hwk
        go_upto_block 2 with (fail)
        go_cut [] (fun wc => ∃ (v v' : Value) (E : Evt), Duo13 w b x v v' E E wc ∧ E.path.length ≤ 1)
        case first =>
          clear H c0 z0 g0 g1 g2
          obtain ⟨ty', tg, re, cu, ph, ps, bu, ca, co, ce, st, no, pa, di⟩ := E
          rcases (show r = 0 ∨ r = 1 ∨ r = 2 ∨ r = 3 ∨ r = 4 ∨ r = 5 ∨ r = 6 by omega) with rfl | rfl | rfl | rfl | rfl | rfl | rfl
          · as_aux_lemma =>
            obtain ⟨m, hm⟩ : ∃ m, m = Evt.may ⟨ty', tg, re, cu, ph, ps, bu, ca, co, ce, st, no, pa, di⟩ := ⟨_, rfl⟩
            have CP := Lib.hid (evPrevent ⟨v, HD.out.prog⟩)
            have CR : Hid (∀ W v2 E2, Duo13 w b x v2 v' E2 ⟨ty', tg, re, cu, ph, ps, bu, ca, co, ce, st, no, pa, di⟩ W → Calls Try.prog 9 #[ptrE x] W fun e w' => e = .returned (.bool m) ∧ EvAt 36 (fun i => w.heap.size ≤ i) w' x (Evt.prevented ⟨ty', tg, re, cu, ph, ps, bu, ca, co, ce, st, no, pa, di⟩) ∧ Keeps (Just [x]) W w') := Lib.hid fun W v2 E2 h => by
              rw [hm]
              exact rePrevent ⟨v', h.doc⟩
            rw [← hm] at CP
            have y1 : (m != m) = false := by simp
            unfold ptrE at CP CR
            clear hm
            go_wp2_with fail
            refine CP.out.mono ?_
            rintro e w5 ⟨rfl, h5, k5⟩
            obtain ⟨v5, h5⟩ := HD.out.atProg h5 k5
            have HD5 := Lib.hid h5
            have CR5 := Lib.hid (CR.out w5 _ _ h5)
            clear h5 k5 CP CR
            go_wp2_with fail
            refine CR5.out.mono ?_
            rintro e w6 ⟨rfl, h6, k6⟩
            obtain ⟨v6, h6⟩ := HD5.out.atDoc h6 k6
            have HD6 := Lib.hid h6
            clear h6 k6 CR5
            go_wp2
            go_meet
            exact ⟨_, _, _, HD6.out, HF.out⟩
          · as_aux_lemma =>
            have CP := Lib.hid (evStop ⟨v, HD.out.prog⟩)
            unfold ptrE at CP
            go_wp2_with fail
            refine CP.out.mono ?_
            rintro e w5 ⟨rfl, h5, k5⟩
            obtain ⟨v5, h5⟩ := HD.out.atProg h5 k5
            have d10 := h5.doc.there 10
            have z10 := h5.doc.free 10
            have HD6 := Lib.hid (h5.putD (E2 := ⟨ty', tg, re, cu, ph, ps, bu, ca, co, ce, true, no, pa, di⟩) 10 (.bool true) rfl rfl)
            clear h5 k5 CP
            go_wp2
            go_meet
            exact ⟨_, _, _, HD6.out, HF.out⟩
          · as_aux_lemma =>
            have CP := Lib.hid (evStopNow ⟨v, HD.out.prog⟩)
            unfold ptrE at CP
            go_wp2_with fail
            refine CP.out.mono ?_
            rintro e w5 ⟨rfl, h5, k5⟩
            obtain ⟨v5, h5⟩ := HD.out.atProg h5 k5
            have d10 := h5.doc.there 10
            have z10 := h5.doc.free 10
            have d11 := h5.doc.there 11
            have z11 := h5.doc.free 11
            have h6 := h5.putD (E2 := ⟨ty', tg, re, cu, ph, ps, bu, ca, co, ce, true, no, pa, di⟩) 10 (.bool true) rfl rfl
            have HD6 := Lib.hid (h6.putD (E2 := ⟨ty', tg, re, cu, ph, ps, bu, ca, co, ce, true, true, pa, di⟩) 11 (.bool true) rfl rfl)
            clear h5 h6 k5 CP
            go_wp2
            go_meet
            exact ⟨_, _, _, HD6.out, HF.out⟩
          · as_aux_lemma =>
            have hdr := HD.out.next (show Below wr.heap.size wr wr.drew from (Below.refl _ wr).drew)
            have CP := Lib.hid (evBegin ⟨v, hdr.prog⟩)
            have HD0 := Lib.hid hdr
            have y1 : ((!di) == di) = false := by cases di <;> rfl
            have d13 := hdr.doc.there 13
            unfold ptrE at CP
            clear hdr
            go_wp2_with fail
            refine wp_region_way (late := []) (S := fun W => W.cell? ⟨x, 13, none⟩ = some (.bool di)) (y := Way.takes [0, 2, 3, 4, 5, 6] (.run 1 (.run 7 .fin))) (by kernel_rfl) (by kernel_rfl) rfl (by kernel_rfl) d13 (fun hHeld => ?_)
            simp only [Way.takes]
            (repeat (first | (refine way_skip (by simp only [List.getElem?_toArray, List.getElem?_cons_succ, List.getElem?_cons_zero]; rfl) (by rfl) hHeld ?_; (try simp only [Act.put, List.setIfInBounds_toArray, List.set_cons_zero, List.set_cons_succ])) | (refine way_pass (by simp only [List.getElem?_toArray, List.getElem?_cons_succ, List.getElem?_cons_zero]; rfl) (by rfl) hHeld ?_; (try simp only [Act.put, List.setIfInBounds_toArray, List.set_cons_zero, List.set_cons_succ])) | (refine way_take (v := ?_) (by simp only [List.getElem?_toArray, List.getElem?_cons_succ, List.getElem?_cons_zero]; rfl) (by rfl) ?_ hHeld ?_; rotate_left; (focus (intro w hSw; (try dsimp only at hSw); go_simp; (try with_reducible rfl); done)); (try simp only [Act.put, List.setIfInBounds_toArray, List.set_cons_zero, List.set_cons_succ]))))
            refine way_run (by simp only [List.getElem?_toArray, List.getElem?_cons_succ, List.getElem?_cons_zero]; rfl) (by rfl) (fun K hK => ?_)
            go_simp
            refine CP.out.mono ?_
            rintro e w5 ⟨rfl, h5, k5⟩
            obtain ⟨v5, h5⟩ := HD0.out.atProg h5 k5
            have HD5 := Lib.hid h5
            have e13 := h5.doc.there 13
            have ze13 := h5.doc.free 13
            clear h5 k5 CP d13
            refine hK.out _ _ e13 (fun hHeld => ?_)
            clear hK K
            (try simp only [Act.put, List.setIfInBounds_toArray, List.set_cons_zero, List.set_cons_succ])
            refine way_run (by simp only [List.getElem?_toArray, List.getElem?_cons_succ, List.getElem?_cons_zero]; rfl) (by rfl) (fun K hK => ?_)
            go_simp
            refine hK.out _ _ e13 (fun hHeld => ?_)
            clear hK K
            (try simp only [Act.put, List.setIfInBounds_toArray, List.set_cons_zero, List.set_cons_succ])
            refine way_done ?_
            clear hHeld
            have HD6 := Lib.hid (HD5.out.putD (E2 := ⟨ty', tg, re, cu, ph, ps, bu, ca, co, ce, st, no, pa, true⟩) 13 (.bool true) rfl rfl)
            go_wp2
            go_meet
            exact ⟨_, _, _, HD6.out, HF.out⟩
          · as_aux_lemma =>
            have CP := Lib.hid (evEnd ⟨v, HD.out.prog⟩)
            have CR : Hid (∀ W v2 E2, Duo13 w b x v2 v' E2 ⟨ty', tg, re, cu, ph, ps, bu, ca, co, ce, st, no, pa, di⟩ W → Calls Try.prog 14 #[ptrE x] W fun e w' => e = .returned (.tuple #[]) ∧ EvAt 36 (fun i => w.heap.size ≤ i) w' x (Evt.ended ⟨ty', tg, re, cu, ph, ps, bu, ca, co, ce, st, no, pa, di⟩) ∧ Keeps (Just [x]) W w') := Lib.hid fun W v2 E2 h => reEnd ⟨v', h.doc⟩
            unfold ptrE at CP CR
            go_wp2_with fail
            refine CP.out.mono ?_
            rintro e w5 ⟨rfl, h5, k5⟩
            obtain ⟨v5, h5⟩ := HD.out.atProg h5 k5
            have HD5 := Lib.hid h5
            have CR5 := Lib.hid (CR.out w5 _ _ h5)
            clear h5 k5 CP CR
            go_wp2_with fail
            refine CR5.out.mono ?_
            rintro e w6 ⟨rfl, h6, k6⟩
            obtain ⟨v6, h6⟩ := HD5.out.atDoc h6 k6
            have HD6 := Lib.hid h6
            clear h6 k6 CR5
            go_wp2
            go_meet
            exact ⟨_, _, _, HD6.out, Nat.zero_le _⟩
          · as_aux_lemma =>
            have f12 := HD.out.prog.there 12
            have zf12 := HD.out.prog.free 12
            have d12 := HD.out.doc.there 12
            have zd12 := HD.out.doc.free 12
            have hne : Hid (b ≠ x) := Lib.hid (Has.apart HD.out.prog.head HD.out.doc.head (by simp))
            have h5 := HD.out.putP (E2 := ⟨ty', tg, re, cu, ph, ps, bu, ca, co, ce, st, no, !pa, di⟩) 12 (.bool !pa) rfl rfl
            have HD6 := Lib.hid (h5.putD (E2 := ⟨ty', tg, re, cu, ph, ps, bu, ca, co, ce, st, no, !pa, di⟩) 12 (.bool !pa) rfl rfl)
            have e12 := h5.doc.there 12
            have ze12 := h5.doc.free 12
            clear h5
            go_wp2
            go_meet
            exact ⟨_, _, _, HD6.out, HF.out⟩
          · skip -- (no as_aux_lemma here: it takes minutes)
            obtain ⟨⟨q1, z1⟩, ⟨q2, z2⟩, ⟨q3, z3⟩, ⟨q4, z4⟩, ⟨q5, z5⟩, ⟨q6, z6⟩, ⟨q7, z7⟩, ⟨q8, z8⟩, h8⟩ := duo_path HD.out
            have HD8 := Lib.hid h8
            clear h8
            go_wp2
            go_meet
            exact ⟨_, _, _, HD8.out, Nat.le_refl _⟩
        case rest =>
          obtain ⟨v, v', E, hD, hfew⟩ := hcut
          have HS := Lib.hid (same_true hD.prog hD.doc (by omega))
          have HD2 := Lib.hid hD
          have hwk := HWK.out
          clear hD
          unfold ptrE at HS
          go_wp2_with fail
          refine HS.out.mono ?_
          rintro e w9 ⟨rfl, m, rfl⟩
          have hD9 := Lib.hid (HD2.out.next (below_draws (Below.refl _ _) m))
          go_wp2
          go_roundw
          case rel => exact ⟨k + 1, _, _, _, by go_num, by omega, hD9.out, hfew⟩
          case measure => simp [intOf]; omega
      · go_wp2
        go_ret
        exact ⟨rfl, hD.below⟩
end
end Go.Proofs.Ytboibehnfcbbbaa

namespace Go.Proofs.Ytboibehnfcbbbaa
open Go.ChangeShapes Go.WideShapes Go.ChangeAt Go.RowKit

theorem own : ownKnob Try.prog.godebug = none := by kernel_rfl
theorem laidOut : laidOutB Try.prog = true := by kernel_rfl
theorem ib {a : Int} (h : (Lit.int .i64 a).wf = true) : -9223372036854775808 ≤ a ∧ a ≤ 9223372036854775807 := by
  have h1 : IntKind.i64.min = -9223372036854775808 := rfl
  have h2 : IntKind.i64.max = 9223372036854775807 := rfl
  simp only [Lit.wf, Bool.and_eq_true, decide_eq_true_eq, h1, h2] at h
  exact h
theorem ib8 {a : Int} (h : (Lit.int .u8 a).wf = true) : 0 ≤ a ∧ a ≤ 255 := by
  have h1 : IntKind.u8.min = 0 := rfl
  have h2 : IntKind.u8.max = 255 := rfl
  simp only [Lit.wf, Bool.and_eq_true, decide_eq_true_eq, h1, h2] at h
  exact h
theorem ib16 {a : Int} (h : (Lit.int .u16 a).wf = true) : 0 ≤ a ∧ a ≤ 65535 := by
  have h1 : IntKind.u16.min = 0 := rfl
  have h2 : IntKind.u16.max = 65535 := rfl
  simp only [Lit.wf, Bool.and_eq_true, decide_eq_true_eq, h1, h2] at h
  exact h
end Go.Proofs.Ytboibehnfcbbbaa

namespace Go.Proofs.Ytboibehnfcbbbaa
open Go.ChangeShapes Go.WideShapes Go.ChangeAt Go.RowKit
open Go.ChangeMaps (open_string shut_string)

set_option maxRecDepth 100000 in
theorem eventPlays_lifted (os : Os) (started : os.Started) (H : Type) (enc : TypeId × Value → H) :
    ReturnsInHanded {} Try.checked os 3 .any (Rows.eventPlaysSpec.pre6 enc Try.prog Try.f3 Rows.eventPlaysRow.domain false) (Rows.eventPlaysSpec.post enc Try.prog Try.f3 false true false false) := by
  refine returnsInHanded_of_change (C := Try.checked) own started (by kernel_rfl) Try.func3
    (ChangeSpec.witness6 (enc := enc) (C := Try.checked) false ⟨#[], #[.string ⟨#[]⟩, .int .i64 0, .agg #[.bool false, .bool false, .bool false], .slice none 0 0], []⟩ 8 (by kernel_rfl) (by kernel_rfl) (by kernel_rfl) (by kernel_rfl)) ?_
  intro W base args ds gs before hval0 hW hcnd _
  have hval : ∀ (j : Nat) t v, Try.f3.params[j]? = some t → args[j]? = some v → Value.okWide Try.prog W .any base t v := hval0
  clear hval0 hcnd
  have hW' := hW
  obtain ⟨p, q, hA0, hV, rfl, hfz, hnd⟩ := hW
  have hA : DataW.TrodAll enc Try.prog W 0 (fun _ => true) true Try.f3.params.toList args.toList ds p := hA0
  rw [Try.params3] at hA hval
  obtain ⟨v0, vs0, d0, ds0, p0, q0, hargs, rfl, rfl, h0, r0⟩ := trodAll_cons hA
  obtain ⟨v1, vs1, d1, ds1, p1, q1, rfl, rfl, rfl, h1, r1⟩ := trodAll_cons r0
  obtain ⟨v2, vs2, d2, ds2, p2, q2, rfl, rfl, rfl, h2, r2⟩ := trodAll_cons r1
  obtain ⟨v3, vs3, d3, ds3, p3, q3, rfl, rfl, rfl, h3, r3⟩ := trodAll_cons r2
  obtain ⟨rfl, rfl, rfl⟩ := trodAll_nil r3
  obtain rfl : args = #[v0, v1, v2, v3] := by cases args; simp_all
  obtain ⟨rfl, rfl⟩ := trodVars_none hV
  obtain ⟨s0, rfl, rfl, rfl, w0⟩ := open_string Try.underlying9 (hval 0 9 v0 rfl rfl) h0
  obtain ⟨a1, rfl, rfl, rfl, w1⟩ := open_int Try.underlying3 (hval 1 3 v1 rfl rfl) h1
  obtain ⟨b2a, b2b, b2c, rfl⟩ := bools3_in (hval 2 22 v2 rfl rfl) h2
  have k2 := h2
  have lt2 : ∀ x ∈ p2, x.block < W.heap.size := by obtain ⟨m, hm⟩ := k2; exact DataW.trod_lt m _ _ _ hm
  obtain ⟨A3, n3, c3, rfl⟩ := okWide_slice Try.underlying23 (hval 3 23 v3 rfl rfl)
  have k3 := h3
  have lt3 : ∀ x ∈ p3, x.block < W.heap.size := by obtain ⟨m, hm⟩ := k3; exact DataW.trod_lt m _ _ _ hm
  obtain ⟨x3, l3, y3, u3, z3, q3x⟩ : ∃ xs : List Int, xs.length = n3 ∧ Nums W W.heap.size A3 .u8 xs ∧ (∀ z ∈ xs, (Lit.int .u8 z).wf = true) ∧ n3 ≤ c3 ∧ n3 ≤ maxLen := by
    obtain ⟨fuel, hf⟩ := h3
    exact nums_in Try.underlying23 Try.underlying5 (by kernel_rfl) hf lt3
  clear hA0
  refine (eventPlays_any s0 a1 b2a b2b b2c A3 n3 c3 x3 W w0 l3 y3 (fun z hz => ib8 (u3 z hz))).mono fun e W' ⟨he, bel⟩ => ?_
  subst he
  exact ⟨_, rfl, _, _, _, [], _, [], hW', trodAll_mk1 (shut_bool Try.underlying4 _), (trodAll_cons_mk (shut_string Try.underlying9 w0) (trodAll_cons_mk (shut_int Try.underlying3 w1) (trodAll_cons_mk (Below.trod laidOut (by kernel_rfl) (of_decide_eq_true (by kernel_rfl)) k2 bel lt2) (trodAll_cons_mk (Below.trod laidOut (by kernel_rfl) (of_decide_eq_true (by kernel_rfl)) k3 bel lt3) trodAll_mk0)))), rfl, bel.frame _, fun h => by cases h⟩

theorem eventPlays_holds : Rows.EventPlaysSaid :=
  OpenClaim.holds_of_wide 3 Try.f3 rfl rfl rfl rfl rfl rfl rfl ⟨rfl, rfl, rfl, rfl, rfl⟩ rfl rfl rfl rfl rfl (by kernel_rfl) Try.func3 (by kernel_rfl)
    (of_decide_eq_true (by kernel_rfl)) (by unfold Func.isWrapper; rw [if_neg (by decide +kernel)]; exact ⟨rfl, rfl⟩)
    (fun os started H enc _ => eventPlays_lifted os started H enc)
end Go.Proofs.Ytboibehnfcbbbaa
