/-
  Forests, plain: ways up by parents alone, tree order. No program is named here.
-/
import Derived.Test.YtkafaceanlkjjaaFw
namespace Go.Proofs.Ytkafaceanlkjjaa
open Go

/-- A node, its parent, and so on. -/
def parN (l : List Nd) : Nat → Int → List Int
  | 0, _ => []
  | n + 1, id => if thereB l id then id :: parN l n (nd l id).parent else []
def parL (l : List Nd) (id : Int) : List Int := parN l (l.length + 1) id
/-- A node and all below it. -/
def ordN (l : List Nd) : Nat → Int → List Int
  | 0, _ => []
  | n + 1, id => if thereB l id then id :: (nd l id).kids.flatMap (ordN l n) else []
def ordL (l : List Nd) (id : Int) : List Int := ordN l (l.length + 1) id
/-- The last one of a list; 0: there is none. -/
def lastL (xs : List Int) : Int := xs.getLastD 0
def rootL (l : List Nd) (id : Int) : Int := lastL (parL l id)

section
variable {l : List Nd} {n : Nat} {i x k : Int}
theorem par_go (h : thereB l i = true) : parN l (n + 1) i = i :: parN l n (nd l i).parent := by rw [parN, if_pos h]
theorem par_no (h : thereB l i = false) : parN l n i = [] := by
  cases n with
  | zero => rfl
  | succ n => rw [parN, if_neg (by rw [h]; decide)]
/-- It is the beginning of the way up. -/
theorem par_pre : ∀ (n : Nat) (i : Int), parN l n i <+: overN l n i
  | 0, _ => List.prefix_refl _
  | n + 1, i => by
    cases h : thereB l i with
    | false => rw [par_no h]; exact List.nil_prefix
    | true =>
      rw [par_go h, up_go h, List.cons_prefix_cons]
      refine ⟨rfl, ?_⟩
      by_cases hp : (nd l i).parent = 0
      · rw [hp, par_no (there_zero l)]
        exact List.nil_prefix
      · have e : upOf l i = (nd l i).parent := if_neg hp
        rw [e]
        exact par_pre n _
theorem par_short (T : Tree l) (n : Nat) (i : Int) : (parN l n i).length ≤ l.length := Nat.le_trans (par_pre n i).length_le (up_short T.ends n i)
theorem par_once (T : Tree l) (n : Nat) (i : Int) : (parN l n i).Nodup := (up_once T.ends n i).sublist (par_pre n i).sublist
theorem par_more : ∀ (n : Nat) (i : Int), (parN l n i).length < n → parN l (n + 1) i = parN l n i
  | 0, _, h => absurd h (Nat.not_lt_zero _)
  | n + 1, i, h => by
    cases ht : thereB l i with
    | false => rw [par_no ht, par_no ht]
    | true =>
      rw [par_go ht] at h
      rw [par_go ht, par_go (n := n) ht, par_more n _ (by simpa using h)]
theorem parL_no (h : thereB l i = false) : parL l i = [] := par_no h
theorem parL_step (T : Tree l) (h : thereB l i = true) : parL l i = i :: parL l (nd l i).parent := by
  have e : parL l i = i :: parN l l.length (nd l i).parent := par_go h
  have hs : (parL l i).length ≤ l.length := par_short T (l.length + 1) i
  rw [e] at hs
  simp only [List.length_cons] at hs
  rw [e]
  show _ = i :: parN l (l.length + 1) _
  rw [par_more l.length _ (by omega)]
theorem parL_len (T : Tree l) (i : Int) : (parL l i).length ≤ l.length := par_short T _ i
theorem parL_once (T : Tree l) (i : Int) : (parL l i).Nodup := par_once T _ i
theorem par_there : ∀ (n : Nat) (i x : Int), x ∈ parN l n i → thereB l x = true := fun n i x h => up_there n i x ((par_pre n i).subset h)
theorem parL_there (h : x ∈ parL l i) : thereB l x = true := par_there _ i x h
theorem parL_self (T : Tree l) (h : thereB l i = true) : i ∈ parL l i := by rw [parL_step T h]; exact List.mem_cons_self
theorem parL_kid (T : Tree l) (h : thereB l i = true) (hk : k ∈ (nd l i).kids) : parL l k = k :: parL l i := by
  obtain ⟨h1, h2⟩ := T.kid i h k hk
  rw [parL_step T h1, h2]
/-- The way up from one on a way up is its end. -/
theorem parL_tail (T : Tree l) : ∀ (m : Nat) (i : Int), (parL l i).length ≤ m → ∀ x, x ∈ parL l i → parL l x <:+ parL l i
  | 0, i, hm, x, h => by
    have : parL l i = [] := List.length_eq_zero_iff.1 (by omega)
    rw [this] at h
    cases h
  | m + 1, i, hm, x, h => by
    cases ht : thereB l i with
    | false => rw [parL_no ht] at h; cases h
    | true =>
      have e := parL_step T ht
      rw [e] at h
      rcases List.mem_cons.1 h with rfl | h
      · exact List.suffix_refl _
      · rw [e] at hm
        rw [e]
        exact (parL_tail T m _ (by simpa using hm) x h).trans (List.suffix_cons _ _)
theorem parL_suffix (T : Tree l) (h : x ∈ parL l i) : parL l x <:+ parL l i := parL_tail T _ i (Nat.le_refl _) x h
theorem parL_trans (T : Tree l) {y : Int} (h : x ∈ parL l i) (h' : y ∈ parL l x) : y ∈ parL l i := (parL_suffix T h).subset h'
theorem parL_par (T : Tree l) (h : x ∈ parL l i) (hp : thereB l (nd l x).parent = true) : (nd l x).parent ∈ parL l i := by
  refine parL_trans T h ?_
  rw [parL_step T (parL_there h)]
  exact List.mem_cons_of_mem _ (parL_self T hp)
/-- Two on one way up, of one length: one. -/
theorem parL_same (T : Tree l) {a b : Int} (ha : a ∈ parL l i) (hb : b ∈ parL l i) (hl : (parL l a).length = (parL l b).length) : a = b := by
  obtain ⟨p, hp⟩ := parL_suffix T ha
  obtain ⟨q, hq⟩ := parL_suffix T hb
  have e : parL l a = parL l b := (List.append_inj' (hp.trans hq.symm) hl).2
  rw [parL_step T (parL_there ha), parL_step T (parL_there hb)] at e
  exact (List.cons.inj e).1

/-- How much is below at most. -/
theorem ord_no (h : thereB l i = false) : ordN l n i = [] := by
  cases n with
  | zero => rfl
  | succ n => rw [ordN, if_neg (by rw [h]; decide)]
theorem ord_go (h : thereB l i = true) : ordN l (n + 1) i = i :: (nd l i).kids.flatMap (ordN l n) := by rw [ordN, if_pos h]
theorem flatMap_same {f g : Int → List Int} : ∀ (ks : List Int), (∀ k ∈ ks, f k = g k) → ks.flatMap f = ks.flatMap g
  | [], _ => rfl
  | k :: r, h => by rw [List.flatMap_cons, List.flatMap_cons, h k (by simp), flatMap_same r fun k' hk' => h k' (by simp [hk'])]
theorem ord_stay (T : Tree l) : ∀ (n m : Nat) (i : Int), l.length + 1 ≤ n + (parL l i).length → l.length + 1 ≤ m + (parL l i).length → ordN l n i = ordN l m i
  | 0, m, i, hn, _ => by have := parL_len T i; omega
  | n + 1, 0, i, _, hm => by have := parL_len T i; omega
  | n + 1, m + 1, i, hn, hm => by
    cases ht : thereB l i with
    | false => rw [ord_no ht, ord_no ht]
    | true =>
      rw [ord_go ht, ord_go ht]
      congr 1
      refine flatMap_same _ fun k hk => ?_
      have e := congrArg List.length (parL_kid T ht hk)
      simp only [List.length_cons] at e
      exact ord_stay T n m k (by omega) (by omega)
theorem ordL_no (h : thereB l i = false) : ordL l i = [] := ord_no h
theorem ordL_step (T : Tree l) (h : thereB l i = true) : ordL l i = i :: (nd l i).kids.flatMap (ordL l) := by
  have e : ordL l i = i :: (nd l i).kids.flatMap (ordN l l.length) := ord_go h
  rw [e]
  congr 1
  refine flatMap_same _ fun k hk => ?_
  have e' := congrArg List.length (parL_kid T h hk)
  have h1 := congrArg List.length (parL_step T h)
  simp only [List.length_cons] at e' h1
  exact ord_stay T _ _ k (by omega) (by omega)

/-- What is below has it above. -/
theorem ord_above (T : Tree l) : ∀ (n : Nat) (i x : Int), x ∈ ordN l n i → i ∈ parL l x
  | 0, _, _, h => by cases h
  | n + 1, i, x, h => by
    cases ht : thereB l i with
    | false => rw [ord_no ht] at h; cases h
    | true =>
      rw [ord_go ht] at h
      rcases List.mem_cons.1 h with rfl | h
      · exact parL_self T ht
      · obtain ⟨k, hk, hx⟩ := List.mem_flatMap.1 h
        have h1 := ord_above T n k x hx
        have h2 := (T.kid i ht k hk).2
        have := parL_par T h1 (by rw [h2]; exact ht)
        rwa [h2] at this
theorem ord_kid : ∀ (n : Nat) (i y k : Int), y ∈ ordN l n i → thereB l y = true → thereB l k = true → k ∈ (nd l y).kids → k ∈ ordN l (n + 1) i
  | 0, _, _, _, h, _, _, _ => by cases h
  | n + 1, i, y, k, h, hy, hkt, hk => by
    cases ht : thereB l i with
    | false => rw [ord_no ht] at h; cases h
    | true =>
      rw [ord_go ht] at h
      rw [ord_go ht]
      rcases List.mem_cons.1 h with rfl | h
      · refine List.mem_cons_of_mem _ (List.mem_flatMap.2 ⟨k, hk, ?_⟩)
        rw [ord_go hkt]
        exact List.mem_cons_self
      · obtain ⟨k', hk', hx⟩ := List.mem_flatMap.1 h
        exact List.mem_cons_of_mem _ (List.mem_flatMap.2 ⟨k', hk', ord_kid n k' y k hx hy hkt hk⟩)
theorem ordL_kid (T : Tree l) {y : Int} (h : y ∈ ordL l i) (hy : thereB l y = true) (hk : k ∈ (nd l y).kids) : k ∈ ordL l i := by
  have := ord_kid (l.length + 1) i y k h hy (T.kid y hy k hk).1 hk
  rw [ord_stay T (l.length + 1 + 1) (l.length + 1) i (by omega) (by omega)] at this
  exact this
theorem ordL_mem (T : Tree l) : x ∈ ordL l i ↔ i ∈ parL l x := by
  refine ⟨ord_above T _ i x, fun h => ?_⟩
  have go : ∀ (m : Nat) (x : Int), (parL l x).length ≤ m → i ∈ parL l x → x ∈ ordL l i := by
    intro m
    induction m with
    | zero =>
      intro x hm h
      have : parL l x = [] := List.length_eq_zero_iff.1 (by omega)
      rw [this] at h
      cases h
    | succ m ih =>
      intro x hm h
      cases ht : thereB l x with
      | false => rw [parL_no ht] at h; cases h
      | true =>
        have e := parL_step T ht
        rw [e] at h hm
        rcases List.mem_cons.1 h with rfl | h
        · rw [ordL_step T ht]
          exact List.mem_cons_self
        · have hpt : thereB l (nd l x).parent = true := by
            cases hq : thereB l (nd l x).parent with
            | true => rfl
            | false => rw [parL_no hq] at h; cases h
          have h0 : (nd l x).parent ≠ 0 := there_pos hpt
          exact ordL_kid T (ih _ (by simpa using hm) h) hpt (T.par x ht h0).2
  exact go _ x (Nat.le_refl _) h
theorem ordL_there (T : Tree l) (h : x ∈ ordL l i) : thereB l x = true := by
  have h1 := (ordL_mem T).1 h
  cases ht : thereB l x with
  | true => rfl
  | false => rw [parL_no ht] at h1; cases h1

theorem flatMap_nodup {f : Int → List Int} : ∀ (ks : List Int), ks.Nodup → (∀ k ∈ ks, (f k).Nodup) → (∀ a ∈ ks, ∀ b ∈ ks, ∀ x, x ∈ f a → x ∈ f b → a = b) → (ks.flatMap f).Nodup
  | [], _, _, _ => List.nodup_nil
  | k :: r, hn, hf, hd => by
    rw [List.flatMap_cons, List.nodup_append]
    obtain ⟨h1, h2⟩ := List.nodup_cons.1 hn
    refine ⟨hf k (by simp), flatMap_nodup r h2 (fun k' hk' => hf k' (by simp [hk'])) (fun a ha b hb => hd a (by simp [ha]) b (by simp [hb])), fun x hx y hy e => ?_⟩
    subst e
    obtain ⟨k', hk', hx'⟩ := List.mem_flatMap.1 hy
    have := hd k (by simp) k' (by simp [hk']) x hx hx'
    subst this
    exact h1 hk'
theorem ord_once (T : Tree l) : ∀ (n : Nat) (i : Int), (ordN l n i).Nodup
  | 0, _ => List.nodup_nil
  | n + 1, i => by
    cases ht : thereB l i with
    | false => rw [ord_no ht]; exact List.nodup_nil
    | true =>
      rw [ord_go ht, List.nodup_cons]
      refine ⟨fun h => ?_, flatMap_nodup _ (T.once i ht) (fun k _ => ord_once T n k) fun a ha b hb x hxa hxb => ?_⟩
      · obtain ⟨k, hk, hx⟩ := List.mem_flatMap.1 h
        have h1 := ord_above T n k i hx
        have h2 := parL_once T k
        rw [parL_kid T ht hk] at h2
        exact (List.nodup_cons.1 h2).1 h1
      · refine parL_same T (ord_above T n a x hxa) (ord_above T n b x hxb) ?_
        rw [parL_kid T ht ha, parL_kid T ht hb]
        rfl
theorem ordL_once (T : Tree l) (i : Int) : (ordL l i).Nodup := ord_once T _ i
theorem ordL_len (T : Tree l) (i : Int) : (ordL l i).length ≤ l.length := by
  have h := pigeon l.length ((ordL l i).map fun x => (x - 1).toNat) (by
    refine List.pairwise_map.2 ((ordL_once T i).imp_of_mem fun {a b} ha hb hab e => hab ?_)
    have h1 := thereB_iff.1 (ordL_there T ha)
    have h2 := thereB_iff.1 (ordL_there T hb)
    omega) fun y hy => by
      obtain ⟨x, hx, rfl⟩ := List.mem_map.1 hy
      exact there_lt (ordL_there T hx)
  simpa using h

/-- Each has its parent ahead of it. -/
def Beh (l : List Nd) : List Int → List Int → Prop
  | _, [] => True
  | acc, x :: r => (nd l x).parent ∈ acc ∧ Beh l (x :: acc) r
theorem beh_mono : ∀ (xs acc acc' : List Int), (∀ y, y ∈ acc → y ∈ acc') → Beh l acc xs → Beh l acc' xs
  | [], _, _, _, _ => trivial
  | x :: r, acc, acc', h, hb => ⟨h _ hb.1, beh_mono r _ _ (fun y hy => by
      rcases List.mem_cons.1 hy with rfl | hy
      · exact List.mem_cons_self
      · exact List.mem_cons_of_mem _ (h y hy)) hb.2⟩
theorem beh_append : ∀ (xs ys acc : List Int), Beh l acc xs → Beh l acc ys → Beh l acc (xs ++ ys)
  | [], _, _, _, h => h
  | _ :: r, ys, _, h, h' => ⟨h.1, beh_append r ys _ h.2 (beh_mono ys _ _ (fun _ hy => List.mem_cons_of_mem _ hy) h')⟩
theorem beh_flat {f : Int → List Int} {acc : List Int} : ∀ (ks : List Int), (∀ k ∈ ks, Beh l acc (f k)) → Beh l acc (ks.flatMap f)
  | [], _ => trivial
  | k :: r, h => by
    rw [List.flatMap_cons]
    exact beh_append _ _ _ (h k (by simp)) (beh_flat r fun k' hk' => h k' (by simp [hk']))
theorem beh_ord (T : Tree l) : ∀ (n : Nat) (i : Int) (acc : List Int), (nd l i).parent ∈ acc → Beh l acc (ordN l n i)
  | 0, _, _, _ => trivial
  | n + 1, i, acc, h => by
    cases ht : thereB l i with
    | false => rw [ord_no ht]; trivial
    | true =>
      rw [ord_go ht]
      exact ⟨h, beh_flat _ fun k hk => beh_ord T n k _ (by rw [(T.kid i ht k hk).2]; exact List.mem_cons_self)⟩
theorem beh_at : ∀ (xs acc : List Int) (j : Nat) (hj : j < xs.length), Beh l acc xs → (nd l xs[j]).parent ∈ acc ∨ (nd l xs[j]).parent ∈ xs.take j
  | [], _, j, hj, _ => absurd hj (Nat.not_lt_zero j)
  | _ :: _, _, 0, _, h => .inl h.1
  | x :: r, acc, j + 1, hj, h => by
    rcases beh_at r (x :: acc) j (by simpa using hj) h.2 with h' | h'
    · rcases List.mem_cons.1 h' with h' | h'
      · right
        rw [List.take_succ_cons]
        simp only [List.getElem_cons_succ, h']
        exact List.mem_cons_self
      · exact .inl h'
    · right
      rw [List.take_succ_cons]
      exact List.mem_cons_of_mem _ h'
/-- In tree order each one but the first stands behind its parent. -/
theorem ordL_behind (T : Tree l) {j : Nat} (hj : j < (ordL l i).length) (h0 : 0 < j) : (nd l (ordL l i)[j]).parent ∈ (ordL l i).take j := by
  cases ht : thereB l i with
  | false =>
    rw [ordL_no ht] at hj
    exact absurd hj (Nat.not_lt_zero j)
  | true =>
    obtain ⟨m, rfl⟩ : ∃ m, j = m + 1 := ⟨j - 1, by omega⟩
    have e := ordL_step T ht
    have hb : Beh l [i] ((nd l i).kids.flatMap (ordL l)) := beh_flat _ fun k hk => beh_ord T _ k _ (by rw [(T.kid i ht k hk).2]; exact List.mem_cons_self)
    generalize hz : ordL l i = z at hj e ⊢
    subst e
    have hm : m < ((nd l i).kids.flatMap (ordL l)).length := by simpa using hj
    simp only [List.getElem_cons_succ, List.take_succ_cons]
    rcases beh_at _ _ m hm hb with h | h
    · rw [List.mem_singleton.1 h]
      exact List.mem_cons_self
    · exact List.mem_cons_of_mem _ h

theorem lastL_suffix {xs ys : List Int} (h : xs <:+ ys) (hx : xs ≠ []) : lastL ys = lastL xs := by
  obtain ⟨p, rfl⟩ := h
  unfold lastL
  rw [List.getLastD_eq_getLast?, List.getLastD_eq_getLast?, List.getLast?_append, List.getLast?_eq_some_getLast hx, Option.some_or]
theorem lastL_mem {xs : List Int} (h : xs ≠ []) : lastL xs ∈ xs := by
  unfold lastL
  rw [List.getLastD_eq_getLast?, List.getLast?_eq_some_getLast h]
  exact List.getLast_mem h
theorem rootL_no (h : thereB l i = false) : rootL l i = 0 := by
  unfold rootL
  rw [parL_no h]
  rfl
theorem parL_ne (T : Tree l) (h : thereB l i = true) : parL l i ≠ [] := by
  rw [parL_step T h]
  simp
theorem rootL_mem (T : Tree l) (h : thereB l i = true) : rootL l i ∈ parL l i := lastL_mem (parL_ne T h)
theorem rootL_there (T : Tree l) (h : thereB l i = true) : thereB l (rootL l i) = true := parL_there (rootL_mem T h)
/-- A root has no parent. -/
theorem rootL_bare (T : Tree l) (h : thereB l i = true) : (nd l (rootL l i)).parent = 0 := by
  refine Decidable.byContradiction fun hp => ?_
  have hr := rootL_mem T h
  have ht := parL_there hr
  have hpt := (T.par _ ht hp).1
  have e : parL l (rootL l i) = rootL l i :: parL l (nd l (rootL l i)).parent := parL_step T ht
  have hs := lastL_suffix (parL_suffix T hr) (parL_ne T ht)
  have hs2 : lastL (parL l (rootL l i)) = lastL (parL l (nd l (rootL l i)).parent) := lastL_suffix (by rw [e]; exact List.suffix_cons _ _) (parL_ne T hpt)
  have hm := lastL_mem (parL_ne T hpt)
  have hn := parL_once T (rootL l i)
  rw [e] at hn
  refine (List.nodup_cons.1 hn).1 ?_
  rw [← hs2, ← hs] at hm
  exact hm
theorem parL_root (T : Tree l) (h : thereB l i = true) : parL l (rootL l i) = [rootL l i] := by
  rw [parL_step T (rootL_there T h), rootL_bare T h, parL_no (there_zero l)]
/-- What has a root above has it as its root. -/
theorem rootL_of (T : Tree l) (h : thereB l i = true) (hx : rootL l i ∈ parL l x) : rootL l x = rootL l i := by
  have := lastL_suffix (parL_suffix T hx) (parL_ne T (rootL_there T h))
  unfold rootL
  rw [this, parL_root T h]
  rfl
end
end Go.Proofs.Ytkafaceanlkjjaa
