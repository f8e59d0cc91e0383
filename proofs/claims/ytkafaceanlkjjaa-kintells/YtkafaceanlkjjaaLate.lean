/-
  A region that leaves its order open and writes what it has read: 'x = append(x, ..)'. As Ord, but of the operations named 'late' (each waits for all that was taken first) nothing is asked behind them: what was read may be written by them. No program is named here.
-/
import Derived.Test.YtkafaceanlkjjaaOrd
namespace Go.Proofs.Ytkafaceanlkjjaa
open Go

section
variable {P : Program} {ops : Array Oper} {Q : Exit → Act → World → Prop} {md : Region.Mode} {late pin : List Nat}

/-- Does each late operation wait for i? -/
def waits (md : Region.Mode) (ops : Array Oper) (late : List Nat) (i : Nat) : Bool :=
  late.all fun z => match ops[z]? with
    | some o => o.after.any fun e => Region.binds md e && e.on == i
    | none => true

/-- Whatever order is picked; S holds behind every operation that is not late. -/
def wpAnyZ (P : Program) (md : Region.Mode) (ops : Array Oper) (Q : Exit → Act → World → Prop) (late : List Nat) (S : World → Prop) : Nat → Array Bool → Act → World → Prop
  | 0, listed, a, w => Region.ready md ops listed = [] ∧ Q .normal a w
  | n + 1, listed, a, w => (Region.ready md ops listed = [] → Q .normal a w) ∧
      ∀ i ∈ Region.ready md ops listed, wpOp P ops Q i (fun a' w' => (late.contains i = false → S w') ∧ wpAnyZ P md ops Q late S n (listed.setIfInBounds i true) a' w') a w

theorem wpAny_of_Z {S : World → Prop} : ∀ (n : Nat) (listed : Array Bool) (a : Act) (w : World), wpAnyZ P md ops Q late S n listed a w → wpAny P md ops Q n listed a w
  | 0, _, _, _, h => h
  | n + 1, _, _, _, h => ⟨h.1, fun i hi => wpOp_mono (fun a' w' h' => wpAny_of_Z n _ a' w' h'.2) (h.2 i hi)⟩

theorem wpAnyZ_wide {S S' : World → Prop} (hS : ∀ w, S' w → S w) : ∀ (n : Nat) (listed : Array Bool) (a : Act) (w : World), wpAnyZ P md ops Q late S' n listed a w → wpAnyZ P md ops Q late S n listed a w
  | 0, _, _, _, h => h
  | n + 1, _, _, _, h => ⟨h.1, fun i hi => wpOp_mono (fun a' w' h' => ⟨fun hl => hS _ (h'.1 hl), wpAnyZ_wide hS n _ a' w' h'.2⟩) (h.2 i hi)⟩

theorem wpAnyZ_done {S : World → Prop} {listed : Array Bool} {a : Act} {w : World} (hr : Region.ready md ops listed = []) (h : Q .normal a w) : ∀ n, wpAnyZ P md ops Q late S n listed a w
  | 0 => ⟨hr, h⟩
  | _ + 1 => ⟨fun _ => h, fun _ hi => absurd (hr ▸ hi) (List.not_mem_nil)⟩

/-- What is not listed is waited for. -/
theorem not_waiting {listed : Array Bool} {i : Nat} {oj : Oper} (hi : listed.getD i true = false) (hall : ∀ e ∈ oj.after, Region.binds md e = true → listed.getD e.on false = true) : ∀ e ∈ oj.after, Region.binds md e = true → e.on ≠ i := by
  rintro e he hb rfl
  have h := hall e he hb
  simp only [Array.getD] at hi h
  split at hi
  · rename_i hlt
    rw [dif_pos hlt] at h
    exact absurd (h.symm.trans hi) (by decide)
  · cases hi

theorem not_late {i j : Nat} {oj : Oper} (hw : waits md ops late i = true) (hj : ops[j]? = some oj) (hno : ∀ e ∈ oj.after, Region.binds md e = true → e.on ≠ i) : late.contains j = false := by
  cases hl : late.contains j with
  | false => rfl
  | true =>
    have h := List.all_eq_true.1 hw j (List.contains_iff_mem.1 hl)
    rw [hj] at h
    obtain ⟨e, he, hb⟩ := Array.any_eq_true'.1 h
    simp only [Bool.and_eq_true, beq_iff_eq] at hb
    exact absurd hb.2 (hno e he hb.1)

/-- Operation i may be taken first: it yields v in every world that meets S, and whoever could come ahead of it leaves S standing. -/
theorem wpAnyZ_take {S : World → Prop} {i : Nat} {oi : Oper} {v : Value} (hi : ops[i]? = some oi) (hs : Region.noSelect ops = true) (hw : waits md ops late i = true)
    (hQ : ∀ c a w, Q (.panic c) (Act.put a oi.dst v) w → Q (.panic c) a w) :
    ∀ (n : Nat) (listed : Array Bool) (a : Act) (w : World), Region.free md ops listed i = true → i ∈ Region.ready md ops listed → YieldsIf P ops S oi v a → S w →
      wpAnyZ P md ops Q late S n (listed.setIfInBounds i true) (a.put oi.dst v) w → wpAnyZ P md ops Q late S (n + 1) listed a w := by
  intro n
  induction n with
  | zero =>
    intro listed a w _ hr hy hS H
    refine ⟨fun h => absurd (h ▸ hr) List.not_mem_nil, fun j hj => ?_⟩
    by_cases hji : j = i
    · subst hji
      exact hy.wpOp hi hS ⟨fun _ => hS, H⟩
    · exact absurd (H.1 ▸ ready_mono hj hji) List.not_mem_nil
  | succ n ih =>
    intro listed a w hf hr hy hS H
    refine ⟨fun h => absurd (h ▸ hr) List.not_mem_nil, fun j hj => ?_⟩
    by_cases hji : j = i
    · subst hji
      exact hy.wpOp hi hS ⟨fun _ => hS, H⟩
    · obtain ⟨hun, oj, hoj, hall⟩ := mem_ready.1 hj
      have hno := not_waiting (mem_ready.1 hr).1 hall
      have hnl := not_late hw hoj hno
      have step := wpOp_putIf hoj (Region.free_spec hi hf j oj hoj hji hun hno) (fun cs b => Region.noSelect_spec hs i oi cs b hi) (fun cs b => Region.noSelect_spec hs j oj cs b hoj) hQ hy (H.2 j (ready_mono hj hji))
      have hf' : Region.free md ops (listed.setIfInBounds j true) i = true := by
        simp only [Region.free, hi, List.all_eq_true, List.mem_range] at hf ⊢
        intro k hk
        have := hf k hk
        by_cases hjk : j = k
        · subst hjk
          have hlt : j < listed.size := by
            rcases Nat.lt_or_ge j listed.size with h | h
            · exact h
            · simp [Array.getD, Nat.not_lt.2 h] at hun
          simp [Array.getD, hlt]
        · rw [getD_set_ne true hjk]
          exact this
      refine wpOp_mono (fun a' w' h' => ⟨fun _ => h'.2.1 hnl, ih _ a' w' hf' (ready_mono hr (Ne.symm hji)) h'.1 (h'.2.1 hnl) ?_⟩) step
      rw [Array.setIfInBounds_comm _ _ hji]
      exact h'.2.2

/-- May the operations come up in this order, each pinned one alone, each late one behind what was taken first? -/
def lateOk (md : Region.Mode) (ops : Array Oper) (late pin : List Nat) : List Nat → Array Bool → Bool
  | [], listed => Region.ready md ops listed == []
  | i :: r, listed => (if pin.contains i then Region.ready md ops listed == [i] else (Region.free md ops listed i && (Region.ready md ops listed).contains i && waits md ops late i)) && (ops[i]?).isSome && lateOk md ops late pin r (listed.setIfInBounds i true)

def wpLate (P : Program) (ops : Array Oper) (Q : Exit → Act → World → Prop) (late pin : List Nat) : (World → Prop) → List (Nat × Oper) → Act → World → Prop
  | _, [], a, w => Q .normal a w
  | S, (i, o) :: r, a, w => ∃ S' : World → Prop, (∀ w, S' w → S w) ∧
      if pin.contains i = true then wpOp P ops Q i (fun a' w' => (late.contains i = false → S' w') ∧ wpLate P ops Q late pin S' r a' w') a w
      else ∃ v, YieldsIf P ops S' o v a ∧ S' w ∧ wpLate P ops Q late pin S' r (a.put o.dst v) w

theorem wpAnyZ_of_late (hs : Region.noSelect ops = true) (hQ : ∀ c a d v w, Q (.panic c) (Act.put a d v) w → Q (.panic c) a w) :
    ∀ (l : List Nat) (S : World → Prop) (n : Nat) (listed : Array Bool) (a : Act) (w : World), l.length ≤ n → lateOk md ops late pin l listed = true → wpLate P ops Q late pin S (picked ops.toList l) a w → wpAnyZ P md ops Q late S n listed a w
  | [], S, n, listed, a, w, _, hk, h => wpAnyZ_done (by simpa [lateOk] using hk) h n
  | i :: r, _, 0, _, _, _, hl, _, _ => by simp at hl
  | i :: r, S, n + 1, listed, a, w, hl, hk, h => by
    simp only [lateOk, Bool.and_eq_true] at hk
    obtain ⟨⟨hk1, hk3⟩, hk2⟩ := hk
    obtain ⟨o, ho⟩ := Option.isSome_iff_exists.1 hk3
    have ho' : ops.toList[i]? = some o := by simpa using ho
    simp only [picked, ho', wpLate] at h
    obtain ⟨S', hSS, h⟩ := h
    refine wpAnyZ_wide hSS _ _ _ _ ?_
    have hl' : r.length ≤ n := by simpa using hl
    by_cases hp : pin.contains i = true
    · rw [if_pos hp] at h hk1
      have hr : Region.ready md ops listed = [i] := by simpa using hk1
      refine ⟨fun h0 => absurd (h0.symm.trans hr) (by simp), fun j hj => ?_⟩
      rw [hr] at hj
      obtain rfl := List.mem_singleton.1 hj
      exact wpOp_mono (fun a' w' h' => ⟨h'.1, wpAnyZ_of_late hs hQ r _ n _ a' w' hl' hk2 h'.2⟩) h
    · rw [if_neg hp] at h hk1
      obtain ⟨v, hy, hS, h⟩ := h
      simp only [Bool.and_eq_true] at hk1
      exact wpAnyZ_take ho hs hk1.2 (fun c a w => hQ c a _ v w) n listed a w hk1.1.1 (by simpa using hk1.1.2) hy hS (wpAnyZ_of_late hs hQ r _ n _ _ _ hl' hk2 h)

/-- The beginning. -/
theorem wp_region_late {S : World → Prop} {ol : List Oper} {id : Nat} {a : Act} {w : World} {l : List Nat} (hm : P.follows .mixedOrders = true) (hs : Region.noSelect ol.toArray = true) (hl : (l.length == ol.length) = true)
    (hk : lateOk .any ol.toArray late pin l (Array.replicate ol.length false) = true) (hS : S w.drew)
    (h : S w.drew → wpLate P ol.toArray (NoPanic Q) late pin S (picked ol l) a w.drew) : (Code.region id ol.toArray true).wp P Q a w :=
  wp_region_noPanic (wp_region_any hm (wpAny_of_Z _ _ _ _ (wpAnyZ_of_late hs (fun _ _ _ _ _ h => h) l S ol.toArray.size _ a _ (by
    have : l.length = ol.length := by simpa using hl
    simp; omega) (by simpa using hk) (h hS))))

variable {i : Nat} {r : List (Nat × Oper)} {o : Oper} {a : Act} {w : World} {v : Value} {S : World → Prop}
theorem late_tight (S' : World → Prop) (hS : ∀ w, S' w → S w) (hw : S' w) (h : S' w → wpLate P ops Q late pin S' r a w) : wpLate P ops Q late pin S r a w := by
  match r, h hw with
  | [], h => exact h
  | (_, _) :: _, ⟨S'', h1, h2⟩ => exact ⟨S'', fun w hw => hS w (h1 w hw), h2⟩
theorem late_skip (hp : pin.contains i = false) (hw : Region.wanted o (yielded ops a.tmps) = false) (hS : S w) (h : wpLate P ops Q late pin S r (a.put o.dst undef) w) : wpLate P ops Q late pin S ((i, o) :: r) a w := by
  unfold wpLate
  refine ⟨S, fun _ h => h, ?_⟩
  rw [if_neg (by rw [hp]; decide)]
  exact ⟨undef, .inr ⟨hw, rfl⟩, hS, h⟩
theorem late_take (hp : pin.contains i = false) (hw : Region.wanted o (yielded ops a.tmps) = true) (hy : ∀ w, S w → (execOp a.eval o).run P w = .ok (.value v) w) (hS : S w)
    (h : wpLate P ops Q late pin S r (a.put o.dst v) w) : wpLate P ops Q late pin S ((i, o) :: r) a w := by
  unfold wpLate
  refine ⟨S, fun _ h => h, ?_⟩
  rw [if_neg (by rw [hp]; decide)]
  exact ⟨v, .inl ⟨hw, hy⟩, hS, h⟩
/-- A pinned operation that is not late. -/
theorem late_run (hp : pin.contains i = true) (ho : ops[i]? = some o) (hw : Region.wanted o (yielded ops a.tmps) = true)
    (h : ∀ K' : Act → World → Prop, Shut (∀ a w, S w → (S w → wpLate P ops Q late pin S r a w) → K' a w) → Oper.wp P o a w K' Q) : wpLate P ops Q late pin S ((i, o) :: r) a w := by
  unfold wpLate
  refine ⟨S, fun _ h => h, ?_⟩
  rw [if_pos hp]
  exact wpOp_step ho fun K' hK => by rw [if_pos hw]; exact h K' fun a w hS hW => hK a w ⟨fun _ => hS, hW hS⟩
theorem late_pass (hp : pin.contains i = true) (ho : ops[i]? = some o) (hw : Region.wanted o (yielded ops a.tmps) = false) (hS : S w) (h : wpLate P ops Q late pin S r (a.put o.dst undef) w) : wpLate P ops Q late pin S ((i, o) :: r) a w := by
  unfold wpLate
  refine ⟨S, fun _ h => h, ?_⟩
  rw [if_pos hp]
  exact wpOp_step ho fun K' hK => by rw [if_neg (by rw [hw]; decide)]; exact hK _ _ ⟨fun _ => hS, h⟩
/-- A late one. -/
theorem late_last (hp : pin.contains i = true) (hl : late.contains i = true) (ho : ops[i]? = some o) (hw : Region.wanted o (yielded ops a.tmps) = true)
    (h : ∀ K' : Act → World → Prop, Shut (∀ a w, wpLate P ops Q late pin S r a w → K' a w) → Oper.wp P o a w K' Q) : wpLate P ops Q late pin S ((i, o) :: r) a w := by
  unfold wpLate
  refine ⟨S, fun _ h => h, ?_⟩
  rw [if_pos hp]
  exact wpOp_step ho fun K' hK => by rw [if_pos hw]; exact h K' fun a w hW => hK a w ⟨fun hf => absurd (hl.symm.trans hf) (by decide), hW⟩
theorem late_done (h : Q .normal a w) : wpLate P ops (NoPanic Q) late pin S [] a w := h
end
end Go.Proofs.Ytkafaceanlkjjaa
