/-
  Forests, plain: whatever is called, a forest stays one. No program is named here.
-/
import Derived.Test.YtkafaceanlkjjaaFv
namespace Go.Proofs.Ytkafaceanlkjjaa
open Go

/-- Numbers below n, each once: there are n at most. -/
theorem pigeon : ∀ (n : Nat) (xs : List Nat), xs.Nodup → (∀ x ∈ xs, x < n) → xs.length ≤ n
  | 0, xs, _, h => by
    cases xs with
    | nil => exact Nat.le_refl 0
    | cons x r => exact absurd (h x (by simp)) (Nat.not_lt_zero x)
  | n + 1, xs, hd, h => by
    by_cases hm : n ∈ xs
    · have hl := List.length_erase_of_mem hm
      have := pigeon n (xs.erase n) (hd.erase n) (fun x hx => by
        have h1 := (hd.mem_erase_iff).1 hx
        have := h x h1.2
        omega)
      omega
    · have := pigeon n xs hd (fun x hx => by
        have := h x hx
        have : x ≠ n := fun e => hm (e ▸ hx)
        omega)
      omega

section
variable {l l' : List Nd}
theorem up_once (he : ∀ i, Ends l i) : ∀ (n : Nat) (i : Int), (overN l n i).Nodup
  | 0, _ => List.nodup_nil
  | n + 1, i => by
    cases ht : thereB l i with
    | false => rw [up_no ht]; exact List.nodup_nil
    | true =>
      rw [up_go ht]
      refine List.nodup_cons.2 ⟨?_, up_once he n _⟩
      rcases up_nodup he n i with h | h
      · exact h
      · rw [ht] at h; cases h
/-- A way up is no longer than there are nodes. -/
theorem up_short (he : ∀ i, Ends l i) (n : Nat) (i : Int) : (overN l n i).length ≤ l.length := by
  have h1 : ((overN l n i).map fun x => (x - 1).toNat).Nodup := by
    refine List.pairwise_map.2 ((up_once he n i).imp_of_mem fun {x y} hx hy hne e => hne ?_)
    have h1 := thereB_iff.1 (up_there n i x hx)
    have h2 := thereB_iff.1 (up_there n i y hy)
    omega
  have := pigeon l.length _ h1 (fun x hx => by
    obtain ⟨y, hy, rfl⟩ := List.mem_map.1 hx
    exact there_lt (up_there n i y hy))
  simpa using this
/-- So all of it is told. -/
theorem up_all (he : ∀ i, Ends l i) {n : Nat} {i x : Int} (h : x ∈ overN l n i) : x ∈ over l i := by
  have hs : (overN l (l.length + 1) i).length < l.length + 1 := Nat.lt_succ_of_le (up_short he _ i)
  have mono : ∀ (a : Nat) (j : Int) (y : Int), y ∈ overN l a j → y ∈ overN l (a + (l.length + 1)) j := by
    intro a
    induction a with
    | zero => intro j y hy; exact absurd hy (by simp [overN])
    | succ a ih =>
      intro j y hy
      cases hj : thereB l j with
      | false => rw [up_no hj] at hy; cases hy
      | true =>
        rw [up_go hj] at hy
        rw [show a + 1 + (l.length + 1) = (a + (l.length + 1)) + 1 by omega, up_go hj]
        rcases List.mem_cons.1 hy with rfl | hy
        · exact List.mem_cons_self
        · exact List.mem_cons_of_mem _ (ih _ y hy)
  have := mono n i x h
  rw [Nat.add_comm, up_stay hs] at this
  exact this
/-- One step further. -/
theorem up_next : ∀ (n : Nat) (j x : Int), x ∈ overN l n j → thereB l (upOf l x) = true → upOf l x ∈ overN l (n + 1) j
  | 0, _, _, h, _ => absurd h (by simp [overN])
  | n + 1, j, x, h, ht => by
    cases hj : thereB l j with
    | false => rw [up_no hj] at h; cases h
    | true =>
      rw [up_go hj] at h
      rw [up_go hj]
      rcases List.mem_cons.1 h with rfl | h
      · rw [up_go ht]
        exact List.mem_cons_of_mem _ List.mem_cons_self
      · exact List.mem_cons_of_mem _ (up_next n _ x h ht)
theorem up_same (hlen : l'.length = l.length) : ∀ (n : Nat) (i : Int), (∀ x ∈ overN l n i, upOf l' x = upOf l x) → overN l' n i = overN l n i
  | 0, _, _ => rfl
  | n + 1, i, h => by
    cases ht : thereB l i with
    | false => rw [up_no ht, up_no (by rw [there_len hlen]; exact ht)]
    | true =>
      rw [up_go ht] at h
      rw [up_go ht, up_go (by rw [there_len hlen]; exact ht), h i List.mem_cons_self, up_same hlen n (upOf l i) fun x hx => h x (List.mem_cons_of_mem _ hx)]
/-- Ways are led to q, or end. -/
theorem ends_led (hlen : l'.length = l.length) (he : ∀ i, Ends l i) (q : Int) (hq : ∀ n x, x ∈ overN l n q → upOf l' x = upOf l x)
    (hc : ∀ i, thereB l i = true → upOf l' i = upOf l i ∨ upOf l' i = q ∨ thereB l (upOf l' i) = false) : ∀ i, Ends l' i := by
  have hqe : Ends l' q := by
    obtain ⟨n, hn⟩ := he q
    exact ⟨n, by rw [up_same hlen n q (hq n)]; exact hn⟩
  have all : ∀ (n : Nat) (i : Int), (overN l n i).length < n → Ends l' i := by
    intro n
    induction n with
    | zero => intro i h; exact absurd h (Nat.not_lt_zero _)
    | succ n ih =>
      intro i h
      cases ht : thereB l i with
      | false => exact ends_no (by rw [there_len hlen]; exact ht)
      | true =>
        rcases hc i ht with e | e | e
        · refine ends_up ?_
          rw [e]
          rw [up_go ht] at h
          exact ih _ (by simpa using h)
        · exact ends_up (by rw [e]; exact hqe)
        · exact ends_up (ends_no (by rw [there_len hlen]; exact e))
  intro i
  obtain ⟨n, hn⟩ := he i
  exact all n i hn
end

theorem tree_put {l : List Nd} {p : Int} {ks : List Int} (T : Tree l) : Tree (putL l p ks) := by
  by_cases h0 : putErr l p ks = 0
  case neg =>
    unfold putL
    rw [if_neg h0]
    exact T
  obtain ⟨hp, hin, hok⟩ := put_zero h0
  have hks := kids_there hin
  have hnd := kids_nodup hin
  have hlen := putL_length l p ks
  have hth : ∀ x, thereB (putL l p ks) x = thereB l x := fun x => there_len hlen
  have hn : ∀ {k}, thereB l k = true → nd (putL l p ks) k = _ := fun {k} hk => put_nd h0 hp hks hk
  have hp0 := there_pos hp
  have hko : ∀ k ∈ ks, (nd l k).kind ≠ 1 ∧ (nd l k).kind ≠ 3 ∧ k ∉ over l p ∧ ((nd l k).parent = 0 ∨ (nd l k).parent = p) := fun k hk => by
    have := hok k hk
    simp only [kidOk, hasB, Bool.not_eq_true', Bool.or_eq_false_iff, decide_eq_false_iff_not, Bool.and_eq_false_iff] at this
    obtain ⟨⟨⟨a, b⟩, c⟩, d⟩ := this
    refine ⟨a, b, c, ?_⟩
    rcases d with d | d
    · exact .inl (Decidable.not_not.1 d)
    · exact .inr (Decidable.not_not.1 d)
  refine ⟨?_, ?_, ?_, ?_, ?_, ?_, ?_⟩
  · intro i hi k hk
    rw [hth] at hi
    rw [hn hi] at hk
    simp only at hk
    by_cases e : i = p
    · rw [if_pos e] at hk
      refine ⟨by rw [hth]; exact hks k hk, ?_⟩
      rw [hn (hks k hk)]
      simp only
      rw [if_pos hk, e]
    · rw [if_neg e] at hk
      obtain ⟨h1, h2⟩ := T.kid i hi k hk
      refine ⟨by rw [hth]; exact h1, ?_⟩
      rw [hn h1]
      simp only
      have hnk : k ∉ ks := fun hm => by
        rcases (hko k hm).2.2.2 with h | h
        · exact there_pos hi (h2.symm.trans h)
        · exact e (h2.symm.trans h)
      rw [if_neg hnk, if_neg (by rw [h2]; exact e), h2]
  · intro i hi
    rw [hth] at hi
    rw [hn hi]
    simp only
    split
    · exact hnd
    · exact T.once i hi
  · intro i hi h
    rw [hth] at hi
    rw [hn hi] at h ⊢
    simp only at h ⊢
    by_cases hm : i ∈ ks
    · rw [if_pos hm]
      refine ⟨by rw [hth]; exact hp, ?_⟩
      rw [hn hp]
      simp only
      rw [if_pos trivial]
      exact hm
    · rw [if_neg hm] at h ⊢
      by_cases hq : (nd l i).parent = p
      · rw [if_pos hq] at h
        exact absurd rfl h
      · rw [if_neg hq] at h ⊢
        obtain ⟨h1, h2⟩ := T.par i hi h
        refine ⟨by rw [hth]; exact h1, ?_⟩
        rw [hn h1]
        simp only
        rw [if_neg hq]
        exact h2
  · intro i hi h
    rw [hth] at hi
    rw [hn hi] at h ⊢
    simp only at h ⊢
    have hm : i ∉ ks := fun hm => by
      have := hko i hm
      rcases h with h | h
      · exact this.1 h
      · exact this.2.1 h
    rw [if_neg hm]
    split
    · rfl
    · exact T.bare i hi h
  · intro i hi h
    rw [hth] at hi
    rw [hn hi] at h ⊢
    simp only at h ⊢
    obtain ⟨h1, h2, h3⟩ := T.shade i hi h
    refine ⟨by rw [hth]; exact h1, ?_⟩
    rw [hn h1]
    exact ⟨h2, h3⟩
  · intro i hi h
    rw [hth] at hi
    rw [hn hi] at h ⊢
    simp only at h ⊢
    obtain ⟨h1, h2⟩ := T.host i hi h
    exact ⟨h1, by rw [hth]; exact h2⟩
  · have hup : ∀ i, thereB l i = true → upOf (putL l p ks) i = if i ∈ ks then p else if (nd l i).parent = p then (nd l i).host else upOf l i := fun i hi => by
      unfold upOf
      rw [hn hi]
      simp only
      by_cases hm : i ∈ ks
      · rw [if_pos hm, if_pos hm, if_neg hp0]
      · rw [if_neg hm, if_neg hm]
        by_cases hq : (nd l i).parent = p
        · rw [if_pos hq, if_pos hq, if_pos rfl]
        · rw [if_neg hq, if_neg hq]
    refine ends_led hlen T.ends p (fun n x hx => ?_) fun i hi => ?_
    · have hxt := up_there n p x hx
      rw [hup x hxt, if_neg (fun hm => (hko x hm).2.2.1 (up_all T.ends hx))]
      by_cases hq : (nd l x).parent = p
      · exfalso
        have hux : upOf l x = p := by
          unfold upOf
          rw [hq, if_neg hp0]
        have hn1 : p ∈ overN l n (upOf l p) ∨ x = p := by
          cases n with
          | zero => exact absurd hx (by simp [overN])
          | succ n =>
            rw [up_go hp] at hx
            rcases List.mem_cons.1 hx with e | hx
            · exact .inr e
            · refine .inl ?_
              have := up_next n (upOf l p) x hx (by rw [hux]; exact hp)
              rw [hux] at this
              exact this
        rcases hn1 with h | h
        · rcases up_nodup T.ends n p with h' | h'
          · exact h' h
          · rw [hp] at h'; cases h'
        · subst h
          rcases up_nodup T.ends 1 x with h' | h'
          · refine h' ?_
            rw [hux, up_go hp]
            exact List.mem_cons_self
          · rw [hp] at h'; cases h'
      · rw [if_neg hq]
    · rw [hup i hi]
      by_cases hm : i ∈ ks
      · rw [if_pos hm]
        exact .inr (.inl rfl)
      · rw [if_neg hm]
        by_cases hq : (nd l i).parent = p
        · rw [if_pos hq]
          refine .inr (.inr ?_)
          have : (nd l i).host = 0 := by
            by_cases hh : (nd l i).host = 0
            · exact hh
            · have := T.bare i hi (.inr (T.host i hi hh).1)
              exact absurd (this.symm.trans hq) (fun e => hp0 e.symm)
          rw [this]
          exact there_zero l
        · rw [if_neg hq]
          exact .inl rfl
/-- What is neither parent, host, shadow root, kind nor children, is of no matter. -/
theorem tree_like {l l' : List Nd} (T : Tree l) (hlen : l'.length = l.length) (h : ∀ i, thereB l i = true → (nd l' i).kind = (nd l i).kind ∧ (nd l' i).parent = (nd l i).parent ∧ (nd l' i).host = (nd l i).host ∧ (nd l' i).shadow = (nd l i).shadow ∧ (nd l' i).kids = (nd l i).kids) : Tree l' := by
  have hth : ∀ x, thereB l' x = thereB l x := fun x => there_len hlen
  refine ⟨?_, ?_, ?_, ?_, ?_, ?_, ?_⟩
  · intro i hi k hk
    rw [hth] at hi
    rw [(h i hi).2.2.2.2] at hk
    obtain ⟨h1, h2⟩ := T.kid i hi k hk
    exact ⟨by rw [hth]; exact h1, by rw [(h k h1).2.1]; exact h2⟩
  · intro i hi
    rw [hth] at hi
    rw [(h i hi).2.2.2.2]
    exact T.once i hi
  · intro i hi hq
    rw [hth] at hi
    rw [(h i hi).2.1] at hq ⊢
    obtain ⟨h1, h2⟩ := T.par i hi hq
    exact ⟨by rw [hth]; exact h1, by rw [(h _ h1).2.2.2.2]; exact h2⟩
  · intro i hi hq
    rw [hth] at hi
    rw [(h i hi).1] at hq
    rw [(h i hi).2.1]
    exact T.bare i hi hq
  · intro i hi hq
    rw [hth] at hi
    rw [(h i hi).2.2.2.1] at hq ⊢
    obtain ⟨h1, h2, h3⟩ := T.shade i hi hq
    exact ⟨by rw [hth]; exact h1, by rw [(h _ h1).2.2.1]; exact h2, by rw [(h _ h1).1]; exact h3⟩
  · intro i hi hq
    rw [hth] at hi
    rw [(h i hi).2.2.1] at hq ⊢
    rw [(h i hi).1]
    obtain ⟨h1, h2⟩ := T.host i hi hq
    exact ⟨h1, by rw [hth]; exact h2⟩
  · have hup : ∀ i, thereB l i = true → upOf l' i = upOf l i := fun i hi => by
      unfold upOf
      rw [(h i hi).2.1, (h i hi).2.2.1]
    exact ends_led hlen T.ends 0 (fun n x hx => hup x (up_there n 0 x hx)) fun i hi => .inl (hup i hi)
theorem tree_mod {l : List Nd} {id : Int} {f : Nd → Nd} (T : Tree l) (hi : thereB l id = true) (hf : ∀ d, (f d).kind = d.kind ∧ (f d).parent = d.parent ∧ (f d).host = d.host ∧ (f d).shadow = d.shadow ∧ (f d).kids = d.kids) : Tree (modN l id f) :=
  tree_like T (modN_length l id f) fun i hk => by
    rw [nd_mod hi hk]
    by_cases e : i = id
    · rw [if_pos e, e]
      exact hf _
    · rw [if_neg e]
      exact ⟨rfl, rfl, rfl, rfl, rfl⟩
theorem tree_name {l : List Nd} {id : Int} {s : ByteArray} (T : Tree l) : Tree (nameL l id s) := by
  unfold nameL
  split
  · rename_i h
    refine tree_mod T ?_ fun _ => ⟨rfl, rfl, rfl, rfl, rfl⟩
    unfold nameErr at h
    cases ht : thereB l id with
    | true => rfl
    | false => rw [if_pos (.inl ht)] at h; cases h
  · exact T
theorem tree_want {l : List Nd} {id : Int} {s : ByteArray} (T : Tree l) : Tree (wantL l id s) := by
  unfold wantL
  split
  · rename_i h
    refine tree_mod T ?_ fun _ => ⟨rfl, rfl, rfl, rfl, rfl⟩
    unfold wantErr at h
    cases ht : thereB l id with
    | true => rfl
    | false => rw [if_pos (.inl ht)] at h; cases h
  · exact T

theorem tree_tie {l : List Nd} {h r : Int} (T : Tree l) : Tree (tieL l h r) := by
  by_cases h0 : tieErr l h r = 0
  case neg =>
    unfold tieL
    rw [if_neg h0]
    exact T
  have hz : thereB l h = true ∧ thereB l r = true ∧ (nd l h).kind = 2 ∧ (nd l r).kind = 3 ∧ (nd l h).shadow = 0 ∧ (nd l r).host = 0 ∧ r ∉ over l h := by
    unfold tieErr at h0
    split at h0
    · cases h0
    · rename_i h1
      split at h0
      · cases h0
      · rename_i h2
        split at h0
        · cases h0
        · rename_i h3
          split at h0
          · cases h0
          · rename_i h4
            simp only [not_or, Bool.not_eq_false, ne_eq, Decidable.not_not] at h1 h2 h3
            exact ⟨h1.1, h1.2, h2.1, h2.2, h3.1, h3.2, by simpa [hasB] using h4⟩
  obtain ⟨hh, hr, kh, kr, sh, hor, hov⟩ := hz
  have hne : h ≠ r := fun e => by
    rw [e, kr] at kh
    cases kh
  have hlen := tieL_length l h r
  have hth : ∀ x, thereB (tieL l h r) x = thereB l x := fun x => there_len hlen
  have hn : ∀ k, thereB l k = true → nd (tieL l h r) k = { nd l k with shadow := if k = h then r else (nd l k).shadow, host := if k = r then h else (nd l k).host } := fun k hk => by
    unfold tieL
    rw [if_pos h0, nd_mod (by rw [there_mod]; exact hr) (by rw [there_mod]; exact hk)]
    by_cases e : k = r
    · subst e
      have e3 : ¬ k = h := fun e => hne e.symm
      rw [if_pos rfl, nd_mod hh hr, if_neg e3, if_neg e3, if_pos rfl]
    · rw [if_neg e, nd_mod hh hk, if_neg e]
      by_cases e2 : k = h
      · subst e2
        rw [if_pos rfl, if_pos rfl]
      · rw [if_neg e2, if_neg e2]
  have pr : (nd l r).parent = 0 := T.bare r hr (.inr kr)
  refine ⟨?_, ?_, ?_, ?_, ?_, ?_, ?_⟩
  · intro i hi k hk
    rw [hth] at hi
    rw [hn i hi] at hk
    obtain ⟨h1, h2⟩ := T.kid i hi k hk
    exact ⟨by rw [hth]; exact h1, by rw [hn k h1]; exact h2⟩
  · intro i hi
    rw [hth] at hi
    rw [hn i hi]
    exact T.once i hi
  · intro i hi hq
    rw [hth] at hi
    rw [hn i hi] at hq ⊢
    obtain ⟨h1, h2⟩ := T.par i hi hq
    exact ⟨by rw [hth]; exact h1, by rw [hn _ h1]; exact h2⟩
  · intro i hi hq
    rw [hth] at hi
    rw [hn i hi] at hq ⊢
    exact T.bare i hi hq
  · intro i hi hq
    rw [hth] at hi
    rw [hn i hi] at hq ⊢
    simp only at hq ⊢
    by_cases e : i = h
    · rw [if_pos e]
      refine ⟨by rw [hth]; exact hr, ?_⟩
      rw [hn r hr]
      simp only
      exact ⟨by rw [if_pos trivial, e], kr⟩
    · rw [if_neg e] at hq ⊢
      obtain ⟨h1, h2, h3⟩ := T.shade i hi hq
      refine ⟨by rw [hth]; exact h1, ?_⟩
      rw [hn _ h1]
      simp only
      have hne2 : (nd l i).shadow ≠ r := fun e2 => by
        rw [e2, hor] at h2
        exact there_pos hi h2.symm
      exact ⟨by rw [if_neg hne2]; exact h2, h3⟩
  · intro i hi hq
    rw [hth] at hi
    rw [hn i hi] at hq ⊢
    simp only at hq ⊢
    by_cases e : i = r
    · rw [if_pos e]
      exact ⟨by rw [e]; exact kr, by rw [hth]; exact hh⟩
    · rw [if_neg e] at hq ⊢
      obtain ⟨h1, h2⟩ := T.host i hi hq
      exact ⟨h1, by rw [hth]; exact h2⟩
  · have hup : ∀ i, thereB l i = true → upOf (tieL l h r) i = if i = r then h else upOf l i := fun i hi => by
      unfold upOf
      rw [hn i hi]
      simp only
      by_cases e : i = r
      · rw [if_pos e, if_pos e, e, pr, if_pos rfl]
      · rw [if_neg e, if_neg e]
    refine ends_led hlen T.ends h (fun n x hx => ?_) fun i hi => ?_
    · rw [hup x (up_there n h x hx), if_neg]
      rintro rfl
      exact hov (up_all T.ends hx)
    · rw [hup i hi]
      by_cases e : i = r
      · rw [if_pos e]
        exact .inr (.inl rfl)
      · rw [if_neg e]
        exact .inl rfl

theorem tree_make {l : List Nd} {d : Nd} (T : Tree l) : Tree (mkL l d) := by
  unfold mkL
  split
  case isFalse => exact T
  have ht : ∀ i, thereB (l ++ [bare d]) i = true → (thereB l i = true ∧ nd (l ++ [bare d]) i = nd l i) ∨ (thereB l i = false ∧ nd (l ++ [bare d]) i = bare d) := fun i hi => by
    have h1 := thereB_iff.1 hi
    rw [List.length_append] at h1
    simp only [List.length_cons, List.length_nil] at h1
    by_cases h2 : i ≤ (l.length : Int)
    · have : thereB l i = true := thereB_iff.2 ⟨h1.1, h2⟩
      refine .inl ⟨this, ?_⟩
      rw [nd, nd, List.getD_eq_getElem?_getD, List.getD_eq_getElem?_getD, List.getElem?_append_left (there_lt this)]
    · refine .inr ⟨?_, ?_⟩
      · cases h : thereB l i with
        | false => rfl
        | true => exact absurd (thereB_iff.1 h).2 h2
      · rw [nd, List.getD_eq_getElem?_getD, List.getElem?_append_right (by omega), show (i - 1).toNat - l.length = 0 by omega]
        rfl
  have hb : ∀ i, thereB l i = true → thereB (l ++ [bare d]) i = true ∧ nd (l ++ [bare d]) i = nd l i := fun i hi => by
    have h1 := thereB_iff.1 hi
    have h2 : thereB (l ++ [bare d]) i = true := thereB_iff.2 ⟨h1.1, by simp; omega⟩
    rcases ht i h2 with h | h
    · exact ⟨h2, h.2⟩
    · rw [hi] at h; exact absurd h.1 (by decide)
  refine ⟨?_, ?_, ?_, ?_, ?_, ?_, ?_⟩
  · intro i hi k hk
    rcases ht i hi with ⟨h1, h2⟩ | ⟨_, h2⟩
    · rw [h2] at hk
      obtain ⟨h3, h4⟩ := T.kid i h1 k hk
      exact ⟨(hb k h3).1, by rw [(hb k h3).2]; exact h4⟩
    · rw [h2] at hk
      exact absurd hk (by simp [bare])
  · intro i hi
    rcases ht i hi with ⟨h1, h2⟩ | ⟨_, h2⟩
    · rw [h2]; exact T.once i h1
    · rw [h2]; exact List.nodup_nil
  · intro i hi hq
    rcases ht i hi with ⟨h1, h2⟩ | ⟨_, h2⟩
    · rw [h2] at hq ⊢
      obtain ⟨h3, h4⟩ := T.par i h1 hq
      exact ⟨(hb _ h3).1, by rw [(hb _ h3).2]; exact h4⟩
    · rw [h2] at hq
      exact absurd rfl hq
  · intro i hi hq
    rcases ht i hi with ⟨h1, h2⟩ | ⟨_, h2⟩
    · rw [h2] at hq ⊢; exact T.bare i h1 hq
    · rw [h2]; rfl
  · intro i hi hq
    rcases ht i hi with ⟨h1, h2⟩ | ⟨_, h2⟩
    · rw [h2] at hq ⊢
      obtain ⟨h3, h4, h5⟩ := T.shade i h1 hq
      exact ⟨(hb _ h3).1, by rw [(hb _ h3).2]; exact h4, by rw [(hb _ h3).2]; exact h5⟩
    · rw [h2] at hq
      exact absurd rfl hq
  · intro i hi hq
    rcases ht i hi with ⟨h1, h2⟩ | ⟨_, h2⟩
    · rw [h2] at hq ⊢
      obtain ⟨h3, h4⟩ := T.host i h1 hq
      exact ⟨h3, (hb _ h4).1⟩
    · rw [h2] at hq
      exact absurd rfl hq
  · have hup : ∀ i, thereB l i = true → upOf (l ++ [bare d]) i = upOf l i := fun i hi => by
      unfold upOf
      rw [(hb i hi).2]
    have hto : ∀ i, thereB l i = true → upOf l i = 0 ∨ thereB l (upOf l i) = true := fun i hi => by
      unfold upOf
      by_cases h1 : (nd l i).parent = 0
      · rw [if_pos h1]
        by_cases h2 : (nd l i).host = 0
        · exact .inl h2
        · exact .inr (T.host i hi h2).2
      · rw [if_neg h1]
        exact .inr (T.par i hi h1).1
    have old : ∀ (n : Nat) (i : Int), thereB l i = true → overN (l ++ [bare d]) n i = overN l n i := by
      intro n
      induction n with
      | zero => intro i _; rfl
      | succ n ih =>
        intro i hi
        rw [up_go hi, up_go (hb i hi).1, hup i hi]
        rcases hto i hi with h | h
        · rw [h, up_no (there_zero l), up_no (there_zero _)]
        · rw [ih _ h]
    intro i
    cases hi : thereB (l ++ [bare d]) i with
    | false => exact ends_no hi
    | true =>
      rcases ht i hi with ⟨h1, _⟩ | ⟨_, h2⟩
      · obtain ⟨n, hn⟩ := T.ends i
        exact ⟨n, by rw [old n i h1]; exact hn⟩
      · refine ends_up (ends_no ?_)
        have : upOf (l ++ [bare d]) i = 0 := by
          unfold upOf
          rw [h2]
          rfl
        rw [this]
        exact there_zero _

theorem tree_nil : Tree [] := by
  have h : ∀ i, thereB [] i = false := fun i => by
    cases h : thereB [] i with
    | false => rfl
    | true =>
      have := thereB_iff.1 h
      simp at this
      omega
  refine ⟨?_, ?_, ?_, ?_, ?_, ?_, fun i => ends_no (h i)⟩
  all_goals (intro i hi; rw [h i] at hi; cases hi)
theorem tree_act {l : List Nd} {x : Ac} (T : Tree l) : Tree (actL l x) := by
  unfold actL
  split
  · exact tree_make T
  · split
    · exact tree_put T
    · split
      · exact tree_tie T
      · split
        · exact tree_name T
        · split
          · exact tree_want T
          · exact T
/-- Whatever is called, it is a forest. -/
theorem tree_forest (acts : List Ac) : Tree (forest acts) := by
  have : ∀ (acts : List Ac) (l : List Nd), Tree l → Tree (acts.foldl actL l) := by
    intro acts
    induction acts with
    | nil => intro l T; exact T
    | cons x r ih => intro l T; exact ih _ (tree_act T)
  exact this acts [] tree_nil
end Go.Proofs.Ytkafaceanlkjjaa
