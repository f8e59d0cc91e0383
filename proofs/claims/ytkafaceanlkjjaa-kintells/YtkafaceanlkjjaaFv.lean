/-
  Forests, plain: a forest stays one. No program is named here.
-/
import Derived.Test.YtkafaceanlkjjaaFq
namespace Go.Proofs.Ytkafaceanlkjjaa
open Go

section
variable {l : List Nd} {id k : Int} {f : Nd → Nd}
theorem there_mod : thereB (modN l id f) k = thereB l k := modN_there l id f k
theorem nd_mod (hi : thereB l id = true) (hk : thereB l k = true) : nd (modN l id f) k = if k = id then f (nd l id) else nd l k := by
  have h1 := thereB_iff.1 hi
  have h2 := thereB_iff.1 hk
  unfold modN
  by_cases e : k = id
  · subst e
    rw [if_pos rfl, nd, List.getD_eq_getElem?_getD, List.getElem?_set_self (there_lt hi)]
    rfl
  · rw [if_neg e, nd, List.getD_eq_getElem?_getD, List.getElem?_set_ne (by omega), ← List.getD_eq_getElem?_getD]
    rfl
theorem there_len {l' : List Nd} (h : l'.length = l.length) : thereB l' k = thereB l k := by unfold thereB; rw [h]
theorem nd_clr {p : Int} (hk : thereB l k = true) : nd (clr l p) k = if (nd l k).parent = p then { nd l k with parent := 0 } else nd l k := by
  have := nd_get hk
  rw [nd, clr, List.getD_eq_getElem?_getD, List.getElem?_map, this]
  rfl
theorem nd_toPar {p : Int} : ∀ (ks : List Int) (l : List Nd) (k : Int), (∀ x ∈ ks, thereB l x = true) → thereB l k = true → nd (toPar l p ks) k = if k ∈ ks then { nd l k with parent := p } else nd l k
  | [], _, _, _, _ => by simp [toPar]
  | x :: r, l, k, hx, hk => by
    have hx0 := hx x (by simp)
    show nd (toPar (modN l x _) p r) k = _
    rw [nd_toPar r (modN l x _) k (fun y hy => by rw [there_mod]; exact hx y (by simp [hy])) (by rw [there_mod]; exact hk), nd_mod hx0 hk]
    by_cases e : k = x
    · subst e
      simp
    · simp [e]
end

/-- What Put makes of a node. -/
theorem put_nd {l : List Nd} {p : Int} {ks : List Int} {k : Int} (h : putErr l p ks = 0) (hp : thereB l p = true) (hks : ∀ x ∈ ks, thereB l x = true) (hk : thereB l k = true) :
    nd (putL l p ks) k = { nd l k with parent := if k ∈ ks then p else if (nd l k).parent = p then 0 else (nd l k).parent, kids := if k = p then ks else (nd l k).kids } := by
  have hc : ∀ x, thereB (clr l p) x = thereB l x := fun x => there_len (clr_length l p)
  have ht : ∀ x, thereB (toPar (clr l p) p ks) x = thereB l x := fun x => there_len (by rw [toPar_length, clr_length])
  unfold putL
  rw [if_pos h, nd_mod (by rw [ht]; exact hp) (by rw [ht]; exact hk), nd_toPar ks _ p (fun x hx => by rw [hc]; exact hks x hx) (by rw [hc]; exact hp), nd_toPar ks _ k (fun x hx => by rw [hc]; exact hks x hx) (by rw [hc]; exact hk), nd_clr hk, nd_clr hp]
  by_cases e : k = p
  · subst e
    by_cases m : k ∈ ks <;> by_cases q : (nd l k).parent = k <;> simp [m, q]
  · by_cases m : k ∈ ks <;> by_cases q : (nd l k).parent = p <;> simp [m, q, e]

/-- What an error's 0 says. -/
theorem put_zero {l : List Nd} {p : Int} {ks : List Int} (h : putErr l p ks = 0) : thereB l p = true ∧ (∀ i, i < ks.length → kidIn l ks i = true) ∧ ∀ k, k ∈ ks → kidOk l (over l p) p k = true := by
  unfold putErr at h
  split at h
  · cases h
  · rename_i h1
    split at h
    · cases h
    · rename_i h2
      split at h
      · cases h
      · rename_i h3
        exact ⟨by simpa using h1, Decidable.not_not.1 h2, Decidable.not_not.1 h3⟩
theorem kids_there {l : List Nd} {ks : List Int} (h : ∀ i, i < ks.length → kidIn l ks i = true) : ∀ x ∈ ks, thereB l x = true := by
  intro x hx
  obtain ⟨i, hi, rfl⟩ := List.mem_iff_getElem.1 hx
  have := h i hi
  unfold kidIn at this
  rw [List.getD_eq_getElem?_getD, List.getElem?_eq_getElem hi, Option.getD_some, Bool.and_eq_true] at this
  exact this.1
theorem kids_nodup {l : List Nd} {ks : List Int} (h : ∀ i, i < ks.length → kidIn l ks i = true) : ks.Nodup := by
  refine List.pairwise_iff_getElem.2 fun i j hi hj hij e' => ?_
  have := h j hj
  unfold kidIn at this
  rw [List.getD_eq_getElem?_getD, List.getElem?_eq_getElem hj, Option.getD_some, Bool.and_eq_true] at this
  have h2 := this.2
  have : hasB (ks.take j) ks[j] = true := by
    rw [hasB, decide_eq_true_iff, ← e', List.mem_iff_getElem?]
    exact ⟨i, by rw [List.getElem?_take, if_pos hij, List.getElem?_eq_getElem hi]⟩
  rw [this] at h2
  cases h2

theorem there_pos {l : List Nd} {i : Int} (h : thereB l i = true) : i ≠ 0 := by have := thereB_iff.1 h; omega
theorem there_zero (l : List Nd) : thereB l 0 = false := by
  cases h : thereB l 0 with
  | false => rfl
  | true => exact absurd rfl (there_pos h)

theorem up_go {l : List Nd} {n : Nat} {i : Int} (h : thereB l i = true) : overN l (n + 1) i = i :: overN l n (upOf l i) := by rw [overN, if_pos h]
theorem up_no {l : List Nd} {n : Nat} {i : Int} (h : thereB l i = false) : overN l n i = [] := by
  cases n with
  | zero => rfl
  | succ n => rw [overN, if_neg (by rw [h]; decide)]
theorem over_le (l : List Nd) : ∀ (n : Nat) (i : Int), (overN l n i).length ≤ n
  | 0, _ => Nat.le_refl 0
  | n + 1, i => by
    cases ht : thereB l i with
    | false => rw [up_no ht]; exact Nat.zero_le _
    | true =>
      have := over_le l n (upOf l i)
      rw [up_go ht]
      simpa using this
/-- Where a way up ends, it stays so. -/
theorem up_more {l : List Nd} : ∀ (n : Nat) (i : Int), (overN l n i).length < n → overN l (n + 1) i = overN l n i
  | 0, _, h => absurd h (Nat.not_lt_zero _)
  | n + 1, i, h => by
    cases ht : thereB l i with
    | false => rw [up_no ht, up_no ht]
    | true =>
      rw [up_go ht] at h
      rw [up_go ht, up_go ht, up_more n (upOf l i) (by simpa using h)]
theorem up_stay {l : List Nd} {n : Nat} {i : Int} (h : (overN l n i).length < n) : ∀ m, overN l (n + m) i = overN l n i
  | 0 => rfl
  | m + 1 => by
    have := up_stay h m
    rw [← Nat.add_assoc, up_more (n + m) i (by rw [this]; exact Nat.lt_of_lt_of_le h (Nat.le_add_right _ _)), this]
/-- A way up that ends, from the next one on. -/
def Ends (l : List Nd) (i : Int) : Prop := ∃ n, (overN l n i).length < n
theorem ends_no {l : List Nd} {i : Int} (h : thereB l i = false) : Ends l i := ⟨1, by rw [up_no h]; decide⟩
theorem ends_up {l : List Nd} {i : Int} (h : Ends l (upOf l i)) : Ends l i := by
  cases ht : thereB l i with
  | false => exact ends_no ht
  | true =>
    obtain ⟨n, hn⟩ := h
    exact ⟨n + 1, by rw [up_go ht]; simpa using hn⟩
/-- What is on the way up from i, is there. -/
theorem up_there {l : List Nd} : ∀ (n : Nat) (i x : Int), x ∈ overN l n i → thereB l x = true
  | 0, _, _, h => absurd h (by simp [overN])
  | n + 1, i, x, h => by
    cases ht : thereB l i with
    | false => rw [up_no ht] at h; cases h
    | true =>
      rw [up_go ht] at h
      rcases List.mem_cons.1 h with rfl | h
      · exact ht
      · exact up_there n _ x h
/-- The way up from one on a way up is on it. -/
theorem up_tail {l : List Nd} : ∀ (n : Nat) (i x : Int), x ∈ overN l n i → ∀ m, ∃ k, ∀ y, y ∈ overN l m x → y ∈ overN l (n + k) i
  | 0, _, _, h, _ => absurd h (by simp [overN])
  | n + 1, i, x, h, m => by
    cases ht : thereB l i with
    | false => rw [up_no ht] at h; cases h
    | true =>
      rw [up_go ht] at h
      rcases List.mem_cons.1 h with rfl | h
      · refine ⟨m, fun y hy => ?_⟩
        have mono : ∀ (a b : Nat) (j : Int), a ≤ b → ∀ y, y ∈ overN l a j → y ∈ overN l b j := by
          intro a
          induction a with
          | zero => intro b j _ y hy; exact absurd hy (by simp [overN])
          | succ a ih =>
            intro b j hab y hy
            cases b with
            | zero => omega
            | succ b =>
              cases hj : thereB l j with
              | false => rw [up_no hj] at hy; cases hy
              | true =>
                rw [up_go hj] at hy ⊢
                rcases List.mem_cons.1 hy with rfl | hy
                · exact List.mem_cons_self
                · exact List.mem_cons_of_mem _ (ih b _ (by omega) y hy)
        exact mono m _ _ (by omega) y hy
      · obtain ⟨k, hk⟩ := up_tail n (upOf l i) x h m
        refine ⟨k, fun y hy => ?_⟩
        rw [show n + 1 + k = (n + k) + 1 by omega, up_go ht]
        exact List.mem_cons_of_mem _ (hk y hy)
/-- Nobody is above itself, where all ways end. -/
theorem up_nodup {l : List Nd} (he : ∀ i, Ends l i) : ∀ (n : Nat) (i : Int), i ∉ overN l n (upOf l i) ∨ thereB l i = false := by
  intro n i
  cases ht : thereB l i with
  | false => exact .inr rfl
  | true =>
    refine .inl fun hm => ?_
    -- from i one comes to i again: so no way up from i ends
    have step : ∀ (a : Nat) (j : Int), i ∈ overN l a j → ∀ m, (overN l m i).length = m → ∃ b, 0 < b ∧ (overN l (b + m) j).length = b + m ∨ j = i := by
      intro a
      induction a with
      | zero => intro j h; exact absurd h (by simp [overN])
      | succ a ih =>
        intro j h m hmm
        cases hj : thereB l j with
        | false => rw [up_no hj] at h; cases h
        | true =>
          rw [up_go hj] at h
          rcases List.mem_cons.1 h with rfl | h
          · exact ⟨0, .inr rfl⟩
          · rcases ih _ h m hmm with ⟨b, hb | hb⟩
            · exact ⟨b + 1, .inl ⟨by omega, by rw [show b + 1 + m = (b + m) + 1 by omega, up_go hj]; simp [hb.2]⟩⟩
            · exact ⟨1, .inl ⟨by omega, by rw [show 1 + m = m + 1 by omega, up_go hj, hb]; simp [hmm]⟩⟩
    have full : ∀ m, (overN l m i).length = m := by
      intro m
      induction m with
      | zero => rfl
      | succ m ih =>
        rcases step n (upOf l i) hm m ih with ⟨b, hb | hb⟩
        · rw [up_go ht]
          have hle : ∀ (c d : Nat) (j : Int), (overN l (c + d) j).length = c + d → (overN l d j).length = d := by
            intro c
            induction c with
            | zero => intro d j h; simpa using h
            | succ c ihc =>
              intro d j h
              refine ihc d j ?_
              rcases Nat.lt_or_ge (overN l (c + d) j).length (c + d) with hlt | hge
              · have := up_more _ _ hlt
                rw [show c + 1 + d = c + d + 1 by omega, this] at h
                omega
              · have := over_le l (c + d) j
                omega
          have := hle b m _ hb.2
          simpa using this
        · rw [up_go ht, hb]
          simpa using ih
    obtain ⟨k, hk⟩ := he i
    rw [full k] at hk
    exact absurd hk (Nat.lt_irrefl k)
/-- A forest. -/
structure Tree (l : List Nd) : Prop where
  kid : ∀ i, thereB l i = true → ∀ k ∈ (nd l i).kids, thereB l k = true ∧ (nd l k).parent = i
  once : ∀ i, thereB l i = true → (nd l i).kids.Nodup
  par : ∀ i, thereB l i = true → (nd l i).parent ≠ 0 → thereB l (nd l i).parent = true ∧ i ∈ (nd l (nd l i).parent).kids
  bare : ∀ i, thereB l i = true → ((nd l i).kind = 1 ∨ (nd l i).kind = 3) → (nd l i).parent = 0
  shade : ∀ i, thereB l i = true → (nd l i).shadow ≠ 0 → thereB l (nd l i).shadow = true ∧ (nd l (nd l i).shadow).host = i ∧ (nd l (nd l i).shadow).kind = 3
  host : ∀ i, thereB l i = true → (nd l i).host ≠ 0 → (nd l i).kind = 3 ∧ thereB l (nd l i).host = true
  ends : ∀ i, Ends l i

end Go.Proofs.Ytkafaceanlkjjaa
