/-
  Forests, plain: ways up by parents alone, tree order. No program is named here.
  Lists of numbers that a call builds: put behind, cut off at the end, read. Only towncrier's types are named here, and slices.Index, slices.Contains.
  What package kin's Up, Root, Above do with an arena that keeps its promises.
  What package kin's Root, Above, row, Index and Next do with an arena that keeps its promises.
  What towncrierref04.Nodes and Up, towncrierref05.Root and Above do.
  What package kin's Count and Order do with an arena that keeps its promises.
  What towncrierref05.Index, Next and Count do.
  A forest and the document's list of the same nodes, side by side.
  A forest that a law changes.
  Forests, plain: host-including ancestors, and what the document says of Check. No program is named here.
  Forests, plain: trees around trees, closed roots, what is hidden. No program is named here.
  What package shade's around, Whole and Closed do with an arena that keeps its promises.
  What package shade's Holds and Hidden do with an arena that keeps its promises.
-/
import Derived.Test.YtamhlapeihcchaaPartD
import Derived.Laws.EntriesVeiled

namespace Go.Proofs.Ytamhlapeihcchaa
open Go

/-- A node, its parent, and so on. -/
def parN (l : List Nd) : Nat → Int → List Int
  | 0, _ => []
  | n + 1, id => if thereB l id then id :: parN l n (nd l id).parent else []
def parL (l : List Nd) (id : Int) : List Int := parN l (l.length + 1) id
/-- A node and all below it. -/
def ordN (l : List Nd) : Nat → Int → List Int
  | 0, _ => []
  | n + 1, id => if thereB l id then id :: (nd l id).kids.flatMap (ordN l n) else []
def ordL (l : List Nd) (id : Int) : List Int := ordN l (l.length + 1) id
/-- The last one of a list; 0: there is none. -/
def lastL (xs : List Int) : Int := xs.getLastD 0
def rootL (l : List Nd) (id : Int) : Int := lastL (parL l id)

section
variable {l : List Nd} {n : Nat} {i x k : Int}
theorem par_go (h : thereB l i = true) : parN l (n + 1) i = i :: parN l n (nd l i).parent := by rw [parN, if_pos h]
theorem par_no (h : thereB l i = false) : parN l n i = [] := by
  cases n with
  | zero => rfl
  | succ n => rw [parN, if_neg (by rw [h]; decide)]
/-- It is the beginning of the way up. -/
theorem par_pre : ∀ (n : Nat) (i : Int), parN l n i <+: overN l n i
  | 0, _ => List.prefix_refl _
  | n + 1, i => by
    cases h : thereB l i with
    | false => rw [par_no h]; exact List.nil_prefix
    | true =>
      rw [par_go h, up_go h, List.cons_prefix_cons]
      refine ⟨rfl, ?_⟩
      by_cases hp : (nd l i).parent = 0
      · rw [hp, par_no (there_zero l)]
        exact List.nil_prefix
      · have e : upOf l i = (nd l i).parent := if_neg hp
        rw [e]
        exact par_pre n _
theorem par_short (T : Tree l) (n : Nat) (i : Int) : (parN l n i).length ≤ l.length := Nat.le_trans (par_pre n i).length_le (up_short T.ends n i)
theorem par_once (T : Tree l) (n : Nat) (i : Int) : (parN l n i).Nodup := (up_once T.ends n i).sublist (par_pre n i).sublist
theorem par_more : ∀ (n : Nat) (i : Int), (parN l n i).length < n → parN l (n + 1) i = parN l n i
  | 0, _, h => absurd h (Nat.not_lt_zero _)
  | n + 1, i, h => by
    cases ht : thereB l i with
    | false => rw [par_no ht, par_no ht]
    | true =>
      rw [par_go ht] at h
      rw [par_go ht, par_go (n := n) ht, par_more n _ (by simpa using h)]
theorem parL_no (h : thereB l i = false) : parL l i = [] := par_no h
theorem parL_step (T : Tree l) (h : thereB l i = true) : parL l i = i :: parL l (nd l i).parent := by
  have e : parL l i = i :: parN l l.length (nd l i).parent := par_go h
  have hs : (parL l i).length ≤ l.length := par_short T (l.length + 1) i
  rw [e] at hs
  simp only [List.length_cons] at hs
  rw [e]
  show _ = i :: parN l (l.length + 1) _
  rw [par_more l.length _ (by omega)]
theorem parL_len (T : Tree l) (i : Int) : (parL l i).length ≤ l.length := par_short T _ i
theorem parL_once (T : Tree l) (i : Int) : (parL l i).Nodup := par_once T _ i
theorem par_there : ∀ (n : Nat) (i x : Int), x ∈ parN l n i → thereB l x = true := fun n i x h => up_there n i x ((par_pre n i).subset h)
theorem parL_there (h : x ∈ parL l i) : thereB l x = true := par_there _ i x h
theorem parL_self (T : Tree l) (h : thereB l i = true) : i ∈ parL l i := by rw [parL_step T h]; exact List.mem_cons_self
theorem parL_kid (T : Tree l) (h : thereB l i = true) (hk : k ∈ (nd l i).kids) : parL l k = k :: parL l i := by
  obtain ⟨h1, h2⟩ := T.kid i h k hk
  rw [parL_step T h1, h2]
/-- The way up from one on a way up is its end. -/
theorem parL_tail (T : Tree l) : ∀ (m : Nat) (i : Int), (parL l i).length ≤ m → ∀ x, x ∈ parL l i → parL l x <:+ parL l i
  | 0, i, hm, x, h => by
    have : parL l i = [] := List.length_eq_zero_iff.1 (by omega)
    rw [this] at h
    cases h
  | m + 1, i, hm, x, h => by
    cases ht : thereB l i with
    | false => rw [parL_no ht] at h; cases h
    | true =>
      have e := parL_step T ht
      rw [e] at h
      rcases List.mem_cons.1 h with rfl | h
      · exact List.suffix_refl _
      · rw [e] at hm
        rw [e]
        exact (parL_tail T m _ (by simpa using hm) x h).trans (List.suffix_cons _ _)
theorem parL_suffix (T : Tree l) (h : x ∈ parL l i) : parL l x <:+ parL l i := parL_tail T _ i (Nat.le_refl _) x h
theorem parL_trans (T : Tree l) {y : Int} (h : x ∈ parL l i) (h' : y ∈ parL l x) : y ∈ parL l i := (parL_suffix T h).subset h'
theorem parL_par (T : Tree l) (h : x ∈ parL l i) (hp : thereB l (nd l x).parent = true) : (nd l x).parent ∈ parL l i := by
  refine parL_trans T h ?_
  rw [parL_step T (parL_there h)]
  exact List.mem_cons_of_mem _ (parL_self T hp)
/-- Two on one way up, of one length: one. -/
theorem parL_same (T : Tree l) {a b : Int} (ha : a ∈ parL l i) (hb : b ∈ parL l i) (hl : (parL l a).length = (parL l b).length) : a = b := by
  obtain ⟨p, hp⟩ := parL_suffix T ha
  obtain ⟨q, hq⟩ := parL_suffix T hb
  have e : parL l a = parL l b := (List.append_inj' (hp.trans hq.symm) hl).2
  rw [parL_step T (parL_there ha), parL_step T (parL_there hb)] at e
  exact (List.cons.inj e).1

/-- How much is below at most. -/
theorem ord_no (h : thereB l i = false) : ordN l n i = [] := by
  cases n with
  | zero => rfl
  | succ n => rw [ordN, if_neg (by rw [h]; decide)]
theorem ord_go (h : thereB l i = true) : ordN l (n + 1) i = i :: (nd l i).kids.flatMap (ordN l n) := by rw [ordN, if_pos h]
theorem flatMap_same {f g : Int → List Int} : ∀ (ks : List Int), (∀ k ∈ ks, f k = g k) → ks.flatMap f = ks.flatMap g
  | [], _ => rfl
  | k :: r, h => by rw [List.flatMap_cons, List.flatMap_cons, h k (by simp), flatMap_same r fun k' hk' => h k' (by simp [hk'])]
theorem ord_stay (T : Tree l) : ∀ (n m : Nat) (i : Int), l.length + 1 ≤ n + (parL l i).length → l.length + 1 ≤ m + (parL l i).length → ordN l n i = ordN l m i
  | 0, m, i, hn, _ => by have := parL_len T i; omega
  | n + 1, 0, i, _, hm => by have := parL_len T i; omega
  | n + 1, m + 1, i, hn, hm => by
    cases ht : thereB l i with
    | false => rw [ord_no ht, ord_no ht]
    | true =>
      rw [ord_go ht, ord_go ht]
      congr 1
      refine flatMap_same _ fun k hk => ?_
      have e := congrArg List.length (parL_kid T ht hk)
      simp only [List.length_cons] at e
      exact ord_stay T n m k (by omega) (by omega)
theorem ordL_no (h : thereB l i = false) : ordL l i = [] := ord_no h
theorem ordL_step (T : Tree l) (h : thereB l i = true) : ordL l i = i :: (nd l i).kids.flatMap (ordL l) := by
  have e : ordL l i = i :: (nd l i).kids.flatMap (ordN l l.length) := ord_go h
  rw [e]
  congr 1
  refine flatMap_same _ fun k hk => ?_
  have e' := congrArg List.length (parL_kid T h hk)
  have h1 := congrArg List.length (parL_step T h)
  simp only [List.length_cons] at e' h1
  exact ord_stay T _ _ k (by omega) (by omega)

/-- What is below has it above. -/
theorem ord_above (T : Tree l) : ∀ (n : Nat) (i x : Int), x ∈ ordN l n i → i ∈ parL l x
  | 0, _, _, h => by cases h
  | n + 1, i, x, h => by
    cases ht : thereB l i with
    | false => rw [ord_no ht] at h; cases h
    | true =>
      rw [ord_go ht] at h
      rcases List.mem_cons.1 h with rfl | h
      · exact parL_self T ht
      · obtain ⟨k, hk, hx⟩ := List.mem_flatMap.1 h
        have h1 := ord_above T n k x hx
        have h2 := (T.kid i ht k hk).2
        have := parL_par T h1 (by rw [h2]; exact ht)
        rwa [h2] at this
theorem ord_kid : ∀ (n : Nat) (i y k : Int), y ∈ ordN l n i → thereB l y = true → thereB l k = true → k ∈ (nd l y).kids → k ∈ ordN l (n + 1) i
  | 0, _, _, _, h, _, _, _ => by cases h
  | n + 1, i, y, k, h, hy, hkt, hk => by
    cases ht : thereB l i with
    | false => rw [ord_no ht] at h; cases h
    | true =>
      rw [ord_go ht] at h
      rw [ord_go ht]
      rcases List.mem_cons.1 h with rfl | h
      · refine List.mem_cons_of_mem _ (List.mem_flatMap.2 ⟨k, hk, ?_⟩)
        rw [ord_go hkt]
        exact List.mem_cons_self
      · obtain ⟨k', hk', hx⟩ := List.mem_flatMap.1 h
        exact List.mem_cons_of_mem _ (List.mem_flatMap.2 ⟨k', hk', ord_kid n k' y k hx hy hkt hk⟩)
theorem ordL_kid (T : Tree l) {y : Int} (h : y ∈ ordL l i) (hy : thereB l y = true) (hk : k ∈ (nd l y).kids) : k ∈ ordL l i := by
  have := ord_kid (l.length + 1) i y k h hy (T.kid y hy k hk).1 hk
  rw [ord_stay T (l.length + 1 + 1) (l.length + 1) i (by omega) (by omega)] at this
  exact this
theorem ordL_mem (T : Tree l) : x ∈ ordL l i ↔ i ∈ parL l x := by
  refine ⟨ord_above T _ i x, fun h => ?_⟩
  have go : ∀ (m : Nat) (x : Int), (parL l x).length ≤ m → i ∈ parL l x → x ∈ ordL l i := by
    intro m
    induction m with
    | zero =>
      intro x hm h
      have : parL l x = [] := List.length_eq_zero_iff.1 (by omega)
      rw [this] at h
      cases h
    | succ m ih =>
      intro x hm h
      cases ht : thereB l x with
      | false => rw [parL_no ht] at h; cases h
      | true =>
        have e := parL_step T ht
        rw [e] at h hm
        rcases List.mem_cons.1 h with rfl | h
        · rw [ordL_step T ht]
          exact List.mem_cons_self
        · have hpt : thereB l (nd l x).parent = true := by
            cases hq : thereB l (nd l x).parent with
            | true => rfl
            | false => rw [parL_no hq] at h; cases h
          have h0 : (nd l x).parent ≠ 0 := there_pos hpt
          exact ordL_kid T (ih _ (by simpa using hm) h) hpt (T.par x ht h0).2
  exact go _ x (Nat.le_refl _) h
theorem ordL_there (T : Tree l) (h : x ∈ ordL l i) : thereB l x = true := by
  have h1 := (ordL_mem T).1 h
  cases ht : thereB l x with
  | true => rfl
  | false => rw [parL_no ht] at h1; cases h1

theorem flatMap_nodup {f : Int → List Int} : ∀ (ks : List Int), ks.Nodup → (∀ k ∈ ks, (f k).Nodup) → (∀ a ∈ ks, ∀ b ∈ ks, ∀ x, x ∈ f a → x ∈ f b → a = b) → (ks.flatMap f).Nodup
  | [], _, _, _ => List.nodup_nil
  | k :: r, hn, hf, hd => by
    rw [List.flatMap_cons, List.nodup_append]
    obtain ⟨h1, h2⟩ := List.nodup_cons.1 hn
    refine ⟨hf k (by simp), flatMap_nodup r h2 (fun k' hk' => hf k' (by simp [hk'])) (fun a ha b hb => hd a (by simp [ha]) b (by simp [hb])), fun x hx y hy e => ?_⟩
    subst e
    obtain ⟨k', hk', hx'⟩ := List.mem_flatMap.1 hy
    have := hd k (by simp) k' (by simp [hk']) x hx hx'
    subst this
    exact h1 hk'
theorem ord_once (T : Tree l) : ∀ (n : Nat) (i : Int), (ordN l n i).Nodup
  | 0, _ => List.nodup_nil
  | n + 1, i => by
    cases ht : thereB l i with
    | false => rw [ord_no ht]; exact List.nodup_nil
    | true =>
      rw [ord_go ht, List.nodup_cons]
      refine ⟨fun h => ?_, flatMap_nodup _ (T.once i ht) (fun k _ => ord_once T n k) fun a ha b hb x hxa hxb => ?_⟩
      · obtain ⟨k, hk, hx⟩ := List.mem_flatMap.1 h
        have h1 := ord_above T n k i hx
        have h2 := parL_once T k
        rw [parL_kid T ht hk] at h2
        exact (List.nodup_cons.1 h2).1 h1
      · refine parL_same T (ord_above T n a x hxa) (ord_above T n b x hxb) ?_
        rw [parL_kid T ht ha, parL_kid T ht hb]
        rfl
theorem ordL_once (T : Tree l) (i : Int) : (ordL l i).Nodup := ord_once T _ i
theorem ordL_len (T : Tree l) (i : Int) : (ordL l i).length ≤ l.length := by
  have h := pigeon l.length ((ordL l i).map fun x => (x - 1).toNat) (by
    refine List.pairwise_map.2 ((ordL_once T i).imp_of_mem fun {a b} ha hb hab e => hab ?_)
    have h1 := thereB_iff.1 (ordL_there T ha)
    have h2 := thereB_iff.1 (ordL_there T hb)
    omega) fun y hy => by
      obtain ⟨x, hx, rfl⟩ := List.mem_map.1 hy
      exact there_lt (ordL_there T hx)
  simpa using h

/-- Each has its parent ahead of it. -/
def Beh (l : List Nd) : List Int → List Int → Prop
  | _, [] => True
  | acc, x :: r => (nd l x).parent ∈ acc ∧ Beh l (x :: acc) r
theorem beh_mono : ∀ (xs acc acc' : List Int), (∀ y, y ∈ acc → y ∈ acc') → Beh l acc xs → Beh l acc' xs
  | [], _, _, _, _ => trivial
  | x :: r, acc, acc', h, hb => ⟨h _ hb.1, beh_mono r _ _ (fun y hy => by
      rcases List.mem_cons.1 hy with rfl | hy
      · exact List.mem_cons_self
      · exact List.mem_cons_of_mem _ (h y hy)) hb.2⟩
theorem beh_append : ∀ (xs ys acc : List Int), Beh l acc xs → Beh l acc ys → Beh l acc (xs ++ ys)
  | [], _, _, _, h => h
  | _ :: r, ys, _, h, h' => ⟨h.1, beh_append r ys _ h.2 (beh_mono ys _ _ (fun _ hy => List.mem_cons_of_mem _ hy) h')⟩
theorem beh_flat {f : Int → List Int} {acc : List Int} : ∀ (ks : List Int), (∀ k ∈ ks, Beh l acc (f k)) → Beh l acc (ks.flatMap f)
  | [], _ => trivial
  | k :: r, h => by
    rw [List.flatMap_cons]
    exact beh_append _ _ _ (h k (by simp)) (beh_flat r fun k' hk' => h k' (by simp [hk']))
theorem beh_ord (T : Tree l) : ∀ (n : Nat) (i : Int) (acc : List Int), (nd l i).parent ∈ acc → Beh l acc (ordN l n i)
  | 0, _, _, _ => trivial
  | n + 1, i, acc, h => by
    cases ht : thereB l i with
    | false => rw [ord_no ht]; trivial
    | true =>
      rw [ord_go ht]
      exact ⟨h, beh_flat _ fun k hk => beh_ord T n k _ (by rw [(T.kid i ht k hk).2]; exact List.mem_cons_self)⟩
theorem beh_at : ∀ (xs acc : List Int) (j : Nat) (hj : j < xs.length), Beh l acc xs → (nd l xs[j]).parent ∈ acc ∨ (nd l xs[j]).parent ∈ xs.take j
  | [], _, j, hj, _ => absurd hj (Nat.not_lt_zero j)
  | _ :: _, _, 0, _, h => .inl h.1
  | x :: r, acc, j + 1, hj, h => by
    rcases beh_at r (x :: acc) j (by simpa using hj) h.2 with h' | h'
    · rcases List.mem_cons.1 h' with h' | h'
      · right
        rw [List.take_succ_cons]
        simp only [List.getElem_cons_succ, h']
        exact List.mem_cons_self
      · exact .inl h'
    · right
      rw [List.take_succ_cons]
      exact List.mem_cons_of_mem _ h'
/-- In tree order each one but the first stands behind its parent. -/
theorem ordL_behind (T : Tree l) {j : Nat} (hj : j < (ordL l i).length) (h0 : 0 < j) : (nd l (ordL l i)[j]).parent ∈ (ordL l i).take j := by
  cases ht : thereB l i with
  | false =>
    rw [ordL_no ht] at hj
    exact absurd hj (Nat.not_lt_zero j)
  | true =>
    obtain ⟨m, rfl⟩ : ∃ m, j = m + 1 := ⟨j - 1, by omega⟩
    have e := ordL_step T ht
    have hb : Beh l [i] ((nd l i).kids.flatMap (ordL l)) := beh_flat _ fun k hk => beh_ord T _ k _ (by rw [(T.kid i ht k hk).2]; exact List.mem_cons_self)
    generalize hz : ordL l i = z at hj e ⊢
    subst e
    have hm : m < ((nd l i).kids.flatMap (ordL l)).length := by simpa using hj
    simp only [List.getElem_cons_succ, List.take_succ_cons]
    rcases beh_at _ _ m hm hb with h | h
    · rw [List.mem_singleton.1 h]
      exact List.mem_cons_self
    · exact List.mem_cons_of_mem _ h

theorem lastL_suffix {xs ys : List Int} (h : xs <:+ ys) (hx : xs ≠ []) : lastL ys = lastL xs := by
  obtain ⟨p, rfl⟩ := h
  unfold lastL
  rw [List.getLastD_eq_getLast?, List.getLastD_eq_getLast?, List.getLast?_append, List.getLast?_eq_some_getLast hx, Option.some_or]
theorem lastL_mem {xs : List Int} (h : xs ≠ []) : lastL xs ∈ xs := by
  unfold lastL
  rw [List.getLastD_eq_getLast?, List.getLast?_eq_some_getLast h]
  exact List.getLast_mem h
theorem rootL_no (h : thereB l i = false) : rootL l i = 0 := by
  unfold rootL
  rw [parL_no h]
  rfl
theorem parL_ne (T : Tree l) (h : thereB l i = true) : parL l i ≠ [] := by
  rw [parL_step T h]
  simp
theorem rootL_mem (T : Tree l) (h : thereB l i = true) : rootL l i ∈ parL l i := lastL_mem (parL_ne T h)
theorem rootL_there (T : Tree l) (h : thereB l i = true) : thereB l (rootL l i) = true := parL_there (rootL_mem T h)
/-- A root has no parent. -/
theorem rootL_bare (T : Tree l) (h : thereB l i = true) : (nd l (rootL l i)).parent = 0 := by
  refine Decidable.byContradiction fun hp => ?_
  have hr := rootL_mem T h
  have ht := parL_there hr
  have hpt := (T.par _ ht hp).1
  have e : parL l (rootL l i) = rootL l i :: parL l (nd l (rootL l i)).parent := parL_step T ht
  have hs := lastL_suffix (parL_suffix T hr) (parL_ne T ht)
  have hs2 : lastL (parL l (rootL l i)) = lastL (parL l (nd l (rootL l i)).parent) := lastL_suffix (by rw [e]; exact List.suffix_cons _ _) (parL_ne T hpt)
  have hm := lastL_mem (parL_ne T hpt)
  have hn := parL_once T (rootL l i)
  rw [e] at hn
  refine (List.nodup_cons.1 hn).1 ?_
  rw [← hs2, ← hs] at hm
  exact hm
theorem parL_root (T : Tree l) (h : thereB l i = true) : parL l (rootL l i) = [rootL l i] := by
  rw [parL_step T (rootL_there T h), rootL_bare T h, parL_no (there_zero l)]
/-- What has a root above has it as its root. -/
theorem rootL_of (T : Tree l) (h : thereB l i = true) (hx : rootL l i ∈ parL l x) : rootL l x = rootL l i := by
  have := lastL_suffix (parL_suffix T hx) (parL_ne T (rootL_there T h))
  unfold rootL
  rw [this, parL_root T h]
  rfl
end
end Go.Proofs.Ytamhlapeihcchaa

namespace Go.Proofs.Ytamhlapeihcchaa
open Go Go.RowKit

/-- A list of numbers of the call's own, its block from base on; what lies behind its end may be written over only where nobody else can see it. -/
def Pile (base : Nat) (w : World) (v : Value) (xs : List Int) : Prop :=
  (v = .slice none 0 0 ∧ xs = []) ∨
  ∃ g cap cur, v = .slice (some ⟨g, 0, none⟩) xs.length cap ∧ base ≤ g ∧ Has w g (.cells cur 3 (0, 0)) ∧ xs.length ≤ cap ∧ cap ≤ maxLen ∧ (cur.size = cap ∨ cap = xs.length) ∧ cur.toList.take xs.length = xs.map (Value.int .i64)

section
variable {base base' : Nat} {w w' : World} {v : Value} {xs : List Int} {F : Nat → Prop}
theorem Pile.nil (base : Nat) (w : World) : Pile base w (.slice none 0 0) [] := .inl ⟨rfl, rfl⟩
theorem Pile.lt (h : Pile base w v xs) : ∀ g, v.ownBlock = some g → base ≤ g ∧ g < w.heap.size := by
  intro k hk
  rcases h with ⟨rfl, _⟩ | ⟨g, cap, cur, rfl, hb, hg, _⟩
  · cases hk
  · obtain rfl : g = k := by simpa [Value.ownBlock] using hk
    exact ⟨hb, hg.inside⟩
theorem Pile.kept (h : Pile base w v xs) (k : Keeps F w w') (hF : ∀ g, v.ownBlock = some g → ¬ F g) : Pile base w' v xs := by
  rcases h with h | ⟨g, cap, cur, rfl, hb, hg, rest⟩
  · exact .inl h
  · exact .inr ⟨g, cap, cur, rfl, hb, hg.kept k (hF g rfl), rest⟩
theorem Pile.below (h : Pile base w v xs) (k : Below w.heap.size w w') : Pile base w' v xs :=
  h.kept (Keeps.of_below (F := fun i => w.heap.size ≤ i) k fun _ _ h => h) fun g hg => Nat.not_le.2 (h.lt g hg).2
theorem Pile.from_ (h : Pile base w v xs) (hb : base' ≤ base) : Pile base' w v xs := by
  rcases h with h | ⟨g, cap, cur, rfl, h1, rest⟩
  · exact .inl h
  · exact .inr ⟨g, cap, cur, rfl, Nat.le_trans hb h1, rest⟩
theorem Pile.since (h : Pile base w v xs) (hb : ∀ g, v.ownBlock = some g → base' ≤ g) : Pile base' w v xs := by
  rcases h with h | ⟨g, cap, cur, rfl, h1, rest⟩
  · exact .inl h
  · exact .inr ⟨g, cap, cur, rfl, hb g rfl, rest⟩
theorem Pile.alloc (h : Pile base w v xs) (o : Obj) : Pile base (w.alloc o) v xs := h.below ((Below.refl _ w).alloc (Nat.le_refl _) o)
theorem Pile.drew (h : Pile base w v xs) : Pile base w.drew v xs := h
theorem Pile.drewN (h : Pile base w v xs) (n : Nat) : Pile base (w.drewN n) v xs := h
/-- Its shape, and that it may be read. -/
theorem Pile.form (h : Pile base w v xs) : ∃ A c, v = .slice A xs.length c ∧ ListIn w A c xs := by
  rcases h with ⟨rfl, rfl⟩ | ⟨g, cap, cur, rfl, hb, hg, hl, hm, hc, ht⟩
  · exact ⟨none, 0, rfl, Nat.le_refl _, fun _ => rfl, fun i hi => absurd hi (Nat.not_lt_zero i)⟩
  · refine ⟨_, cap, rfl, hl, (fun e => by cases e), fun i hi => ⟨g, 0, rfl, hg.inside, ?_⟩⟩
    have e := congrArg (fun z => z[i]?) ht
    simp only [List.getElem?_take, if_pos hi, List.getElem?_map, List.getElem?_eq_getElem hi] at e
    rw [Nat.zero_add, hg.cell i, ← Array.getElem?_toList, e]
    rfl
theorem Pile.of_kids {G : Nat → Prop} (h : Kids G w v xs) (hb : ∀ g, G g → g < w.heap.size → base ≤ g) : Pile base w v xs := by
  rcases h.1.2 with ⟨hv, h0⟩ | ⟨g, cap, cur, hv, _, hg, h1, h2, h3, h4⟩
  · exact .inl ⟨hv, List.length_eq_zero_iff.1 h0⟩
  · exact .inr ⟨g, cap, cur, hv, hb g (h.2 g (by rw [hv]; rfl)) (Has.inside hg), hg, h1, h2, .inl (by omega), by rw [Nat.mul_one] at h4; exact h4⟩
/-- A literal. -/
theorem Pile.lit (w : World) (xs : List Int) (n : Nat) (hn : n = xs.length) (hm : n ≤ maxLen) (hb : base ≤ w.heap.size) : Pile base (w.alloc (.cells (xs.map (Value.int .i64)).toArray 3)) (.slice (some ⟨w.heap.size, 0, none⟩) n n) xs := by
  subst hn
  refine .inr ⟨w.heap.size, xs.length, _, rfl, hb, Has.fresh _ _, Nat.le_refl _, hm, .inr rfl, ?_⟩
  simp only
  rw [List.take_of_length_le (by simp)]
/-- The last one is cut off. -/
theorem Pile.clip {A : Option Addr} {n c : Nat} {y : Int} (h : Pile base w (.slice A (n + 1) c) (xs ++ [y])) (hn : n = xs.length) : ∃ g, A = some ⟨g, 0, none⟩ ∧ Pile base w (.slice A n n) xs := by
  subst hn
  rcases h with ⟨hv, _⟩ | ⟨g, cap, cur, hv, hb, hg, hl, hm, hc, ht⟩
  · cases hv
  · obtain ⟨rfl, -, rfl⟩ : A = some ⟨g, 0, none⟩ ∧ xs.length + 1 = (xs ++ [y]).length ∧ c = cap := by injection hv with e1 e2 e3; exact ⟨e1, e2, e3⟩
    refine ⟨g, rfl, .inr ⟨g, xs.length, cur, rfl, hb, hg, Nat.le_refl _, ?_, .inr rfl, ?_⟩⟩
    · rw [List.length_append] at hl
      omega
    · have e := congrArg (List.take xs.length) ht
      rw [List.take_take, List.length_append, List.map_append, List.take_append_of_le_length (by simp), Nat.min_eq_left (by omega)] at e
      have e2 : List.take xs.length (xs.map (Value.int .i64)) = xs.map (Value.int .i64) := List.take_of_length_le (by simp)
      rw [e2] at e
      exact e
end

section
variable {base : Nat} {w : World} {v : Value} {xs : List Int}
/-- One number is put behind: in the old row or a new one. -/
theorem run_push (t ty : TypeId) (i : TypeInfo) (z : Value) {P : Program} (ht : P.underlying t = some (.slice 3)) (hi : P.info? 3 = some i) (hz : i.zero = some z) (hsize : i.size = 1) (hby : i.bytes = 8) (hzs : z.cells.size = 1)
    (hP : Pile base w v xs) {b c : Nat} {y : Int} {fr : Nat × Nat} (hb : Has w b (.cells #[.int .i64 y] 3 fr)) (hl : xs.length ≤ 1000000) (hbase : base ≤ w.heap.size) :
    ∃ g cap w', (Builtin.append_ #[t, t] ty #[v, .slice (some ⟨b, 0, none⟩) 1 c]).run P w = .ok (.slice (some ⟨g, 0, none⟩) (xs.length + 1) cap) w' ∧
      Pile base w' (.slice (some ⟨g, 0, none⟩) (xs.length + 1) cap) (xs ++ [y]) ∧ Keeps (fun i => v.ownBlock = some i) w w' ∧ (v.ownBlock = some g ∨ w.heap.size ≤ g) ∧ g < w'.heap.size := by
  have hnews : ∀ j u, [Value.int .i64 y][j]? = some u → w.cell? ((⟨b, 0, none⟩ : Addr).add j) = some u := World.news_of_block hb
  have h1 : ∀ u ∈ [Value.int .i64 y], u.oneCell' = true := fun u hu => by obtain rfl := List.mem_singleton.1 hu; rfl
  have owned : ∀ {vo : Value}, w.ownsRow base 3 1 vo xs.length (xs.map (Value.int .i64)) → ∃ g cap w', (Builtin.append_ #[t, t] ty #[vo, .slice (some ⟨b, 0, none⟩) 1 c]).run P w = .ok (.slice (some ⟨g, 0, none⟩) (xs.length + 1) cap) w' ∧
      Pile base w' (.slice (some ⟨g, 0, none⟩) (xs.length + 1) cap) (xs ++ [y]) ∧ Keeps (fun i => vo.ownBlock = some i) w w' ∧ (vo.ownBlock = some g ∨ w.heap.size ≤ g) ∧ g < w'.heap.size := by
    intro vo hown
    obtain ⟨g, cap, w', hr, h2, h3, h4, h5⟩ := run_append_lies (P := P) w t ty base 3 i z 1 8 ht hi hz hsize hby hzs (by decide) vo xs.length (xs.map (Value.int .i64)) hown ⟨b, 0, none⟩ 1 c [.int .i64 y] rfl hnews h1 (by decide) (by unfold maxLen; omega) (by omega) hbase _ rfl
    refine ⟨g, cap, w', hr, ?_, Keeps.of_grown h3, h4.imp id fun e => by omega, h5⟩
    rcases h2.2 with ⟨hv, _⟩ | ⟨g', cap', cur, hv, hb', hg, q1, q2, q3, q4⟩
    · cases hv
    · obtain ⟨rfl, rfl⟩ : g = g' ∧ cap = cap' := by injection hv with e1 _ e3; exact ⟨by simpa using e1, e3⟩
      refine .inr ⟨g, cap, cur, by simp, hb', hg, by simpa using q1, q2, .inl (by omega), ?_⟩
      rw [Nat.mul_one] at q4
      simpa using q4
  rcases hP with ⟨rfl, rfl⟩ | ⟨g, cap, cur, rfl, hb', hg, hlc, hm, hc, htk⟩
  · exact owned (World.ownsRow_nil w base 3 1)
  · by_cases hfull : cap = xs.length
    · subst hfull
      have hle : xs.length ≤ cur.size := by
        have := congrArg List.length htk
        rw [List.length_take, List.length_map] at this
        have h2 : cur.toList.length = cur.size := Array.length_toList
        omega
      have holds : ∀ j u, (xs.map (Value.int .i64))[j]? = some u → w.cell? ((⟨g, 0, none⟩ : Addr).add j) = some u := by
        intro j u hu
        have hj : j < xs.length := by
          have := (List.getElem?_eq_some_iff.1 hu).1
          simpa using this
        rw [Addr.add_lit, Nat.zero_add, hg.cell j]
        rw [← htk, List.getElem?_take, if_pos hj, Array.getElem?_toList] at hu
        exact hu
      have hr := run_append_grow (P := P) w t ty 3 i z ht hi hz ⟨g, 0, none⟩ xs.length xs.length (xs.map (Value.int .i64)) (by rw [hsize]; simp) holds ⟨b, 0, none⟩ 1 c [.int .i64 y] (by rw [hsize]; rfl) hnews (by omega) (by omega) (growslice_fits (by omega) (by rw [hby]; omega))
      have hge := grownCap_ge w (xs.length + 1) xs.length 3
      refine ⟨w.heap.size, grownCap w (xs.length + 1) xs.length 3, _, hr, .inr ⟨w.heap.size, grownCap w (xs.length + 1) xs.length 3, _, by simp, hbase, Has.fresh w.drew _, by simpa using hge, grownCap_le_maxLen w _ _ _ (by unfold maxLen; omega), .inl ?_, ?_⟩, ⟨⟨rfl, rfl, rfl⟩, by simp, fun k hk _ => Below.heap_alloc w.drew _ k hk⟩, .inr (Nat.le_refl _), by simp⟩
      · simp only [Array.size_append, List.size_toArray, size_zeroCells, hzs, List.length_map, List.length_cons, List.length_nil]
        omega
      · simp only [Array.toList_append, List.map_append, List.map_cons, List.map_nil, List.length_append, List.length_cons, List.length_nil]
        rw [List.take_append_of_le_length (by simp), List.take_of_length_le (by simp)]
    · have hcs : cur.size = cap := hc.resolve_right hfull
      exact owned ⟨by simp, .inr ⟨g, cap, cur, rfl, hb', hg, hlc, hm, by omega, by rw [Nat.mul_one]; exact htk⟩⟩
/-- At a plain region. -/
theorem wpList_push {ops : Array Oper} {rest : List Oper} {o : Oper} {a : Act} {Q : Exit → Act → World → Prop} (hgd : o.guard = none) (s x : Operand)
    (ho : o.op = .call { callee := .builtin .append, args := #[s, x], argTypes := #[42, 42] }) (hs : a.eval s = v) (hP : Pile base w v xs) {b c : Nat} {y : Int} {fr : Nat × Nat} (hx : a.eval x = .slice (some ⟨b, 0, none⟩) 1 c)
    (hb : Has w b (.cells #[.int .i64 y] 3 fr)) (hl : xs.length ≤ 1000000) (hbase : base ≤ w.heap.size)
    (h : ∀ g cap w', Pile base w' (.slice (some ⟨g, 0, none⟩) (xs.length + 1) cap) (xs ++ [y]) → Keeps (fun i => v.ownBlock = some i) w w' → (v.ownBlock = some g ∨ w.heap.size ≤ g) → g < w'.heap.size → wpList Try.prog ops Q rest (a.put o.dst (.slice (some ⟨g, 0, none⟩) (xs.length + 1) cap)) w') : wpList Try.prog ops Q (o :: rest) a w := by
  obtain ⟨i0, hi, hz0, hz1, hz2⟩ := info_parts Try.infoInt
  obtain ⟨g, cap, w', hr, h2, h3, h4, h5⟩ := run_push (c := c) 42 o.type i0 _ Try.underlying42 hi hz0 hz1 hz2 rfl hP hb hl hbase
  refine wpList_plain hgd fun _ hK => ?_
  unfold Oper.wp execOp
  simp only [ho, resolve, invoke, builtin, Sem.run_bind, Sem.run_pure, Result.andThen_ok, List.map_toArray, List.map_cons, List.map_nil, hs, hx, hr]
  exact hK _ _ (h g cap w' h2 h3 h4 h5)
end

/-- The place of a number; -1: it isn't there. -/
def idxL (xs : List Int) (x : Int) : Int := if x ∈ xs then (xs.idxOf x : Int) else -1
theorem idxL_at {xs : List Int} {x : Int} {k : Nat} (hk : k < xs.length) (hx : xs[k] = x) (hno : x ∉ xs.take k) : idxL xs x = (k : Int) := by
  have hm : x ∈ xs := hx ▸ List.getElem_mem hk
  unfold idxL
  rw [if_pos hm]
  have e : xs = xs.take k ++ x :: xs.drop (k + 1) := by
    rw [← hx, List.getElem_cons_drop, List.take_append_drop]
  have : xs.idxOf x = k := by
    conv => lhs; rw [e]
    rw [List.idxOf_append, if_neg hno, List.idxOf_cons_self]
    simp
    omega
  rw [this]
theorem idxL_no {xs : List Int} {x : Int} (h : x ∉ xs) : idxL xs x = -1 := if_neg h
theorem not_take {xs : List Int} {x : Int} {k : Nat} (h : x ∉ xs.take k) (hk : k < xs.length) (hx : xs[k] ≠ x) : x ∉ xs.take (k + 1) := by
  rw [List.take_add_one, List.getElem?_eq_getElem hk]
  intro hm
  rcases List.mem_append.1 hm with h' | h'
  · exact h h'
  · have e : x = xs[k] := by simpa using h'
    exact hx e.symm
theorem idxL_nonneg {xs : List Int} {x : Int} : decide (0 ≤ idxL xs x) = hasB xs x := by
  unfold idxL hasB
  by_cases h : x ∈ xs
  · rw [if_pos h, decide_eq_true h]
    exact decide_eq_true (by omega)
  · rw [if_neg h, decide_eq_false h]
    rfl

set_option maxHeartbeats 1000000 in
theorem index_any (xs : List Int) (A : Option Addr) (n c : Nat) (x : Int) (w : World) {B : Nat} (hn : n = xs.length) (hl : n ≤ 1000000) (h : Nums w B A .i64 xs) :
    Calls Try.prog 67 #[.slice A n c, .int .i64 x] w fun e w' => e = .returned (.int .i64 (idxL xs x)) ∧ w = w' := by
  have Hn := Lib.hid hn
  have H := Lib.hid h
  clear hn h
  go_enter Try.func67, Try.ntmps67
  go_wp2
  go_loop [8] (fun i => ∃ k : Nat, i = .int .i64 k ∧ k ≤ n ∧ x ∉ xs.take k) (fun i => n - (intOf i).toNat)
  case atStart => exact ⟨0, rfl, Nat.zero_le _, by simp⟩
  case round =>
    obtain ⟨k, rfl, hk, hc⟩ := hrel
    have Hc := Lib.hid hc
    clear hc
    by_cases hlt : (k : Int) < n
    · have hkl : k < xs.length := by rw [← Hn.out]; omega
      obtain ⟨b, off, rfl, hb, hcell⟩ := H.out k hkl
      obtain ⟨y, hy⟩ : ∃ y, y = xs[k] := ⟨_, rfl⟩
      rw [← hy] at hcell
      have Hy := Lib.hid hy
      clear hy hb
      by_cases hxy : y = x
      · have e1 : idxL xs x = (k : Int) := idxL_at hkl (by rw [← Hy.out]; exact hxy) Hc.out
        have E1 := Lib.hid e1
        clear e1
        subst hxy
        go_wp2
        go_ret
        rw [E1.out]
        exact ⟨rfl, rfl⟩
      · have hxy' : (x == y) = false := by simpa using fun e => hxy e.symm
        have e2 := not_take Hc.out hkl (by rw [← Hy.out]; exact hxy)
        have E2 := Lib.hid e2
        clear e2
        go_wp2
        go_round
        case rel => exact ⟨k + 1, by go_num, by omega, E2.out⟩
        case measure => simp [intOf]; omega
    · have e1 : idxL xs x = -1 := by
        have := Hc.out
        rw [List.take_of_length_le (by rw [← Hn.out]; omega)] at this
        exact idxL_no this
      have E1 := Lib.hid e1
      clear e1
      go_wp2
      go_ret
      rw [E1.out]
      exact ⟨rfl, rfl⟩
theorem contains_any (xs : List Int) (A : Option Addr) (n c : Nat) (x : Int) (w : World) {B : Nat} (hn : n = xs.length) (hl : n ≤ 1000000) (h : Nums w B A .i64 xs) :
    Calls Try.prog 63 #[.slice A n c, .int .i64 x] w fun e w' => e = .returned (.bool (hasB xs x)) ∧ w = w' := by
  have Hn := Lib.hid hn
  have H := Lib.hid h
  have E := Lib.hid (@idxL_nonneg xs x)
  clear hn h
  go_enter Try.func63, Try.ntmps63
  go_wp2_with fail
  refine (index_any xs A n c x w Hn.out hl H.out).mono ?_
  rintro e w1 ⟨rfl, rfl⟩
  go_wp2
  go_ret
  rw [← E.out]
  exact ⟨rfl, rfl⟩
end Go.Proofs.Ytamhlapeihcchaa

namespace Go.Proofs.Ytamhlapeihcchaa
open Go Go.RowKit

section
variable {Rep : (Nat → Prop) → World → Nat → List Nd → Prop} {S : Nat → Prop} {w : World} {b : Nat} {l : List Nd}
/-- Node of one that is there, and of one that isn't. -/
theorem nodeYes (M : ForestMore Rep) {id : Int} (h : Rep S w b l) (hg : Good l) (ht : thereB l id = true) :
    Calls Try.prog 24 #[at_ b, .int .i64 id] w fun e w' => ∃ A1 c1, e = .returned (.tuple #[.agg #[.int .i64 (nd l id).kind, .int .i64 (nd l id).parent, .int .i64 (nd l id).host, .int .i64 (nd l id).shadow, .int .i64 (nd l id).mode, .bool (nd l id).slot, .string (nd l id).name, .string (nd l id).want, .slice A1 (nd l id).kids.length c1], .bool true]) ∧ Kids (fun i => w.heap.size ≤ i) w' (.slice A1 (nd l id).kids.length c1) (nd l id).kids ∧ Below w.heap.size w w' := by
  refine (M.node S w b l id h hg).mono ?_
  rintro e w' ⟨d, A, c, rfl, hd, hk, hb⟩
  rw [if_pos ht] at hd
  subst hd
  rw [ht]
  exact ⟨A, c, rfl, hk, hb⟩
theorem nodeNo (M : ForestMore Rep) {id : Int} (h : Rep S w b l) (hg : Good l) (ht : thereB l id = false) :
    Calls Try.prog 24 #[at_ b, .int .i64 id] w fun e w' => ∃ A1 c1, e = .returned (.tuple #[.agg #[.int .i64 0, .int .i64 0, .int .i64 0, .int .i64 0, .int .i64 0, .bool false, .string ⟨#[]⟩, .string ⟨#[]⟩, .slice A1 0 c1], .bool false]) ∧ Kids (fun i => w.heap.size ≤ i) w' (.slice A1 0 c1) [] ∧ Below w.heap.size w w' := by
  refine (M.node S w b l id h hg).mono ?_
  rintro e w' ⟨d, A, c, rfl, hd, hk, hb⟩
  rw [if_neg (by rw [ht]; decide)] at hd
  subst hd
  rw [ht]
  exact ⟨A, c, rfl, hk, hb⟩
theorem app_len {xs ys : List Int} {R : List Int} (h : xs ++ ys = R) : xs.length ≤ R.length := by rw [← h]; simp

set_option maxHeartbeats 4000000 in
set_option maxRecDepth 100000 in
theorem kinUp (O : ForestOk Rep) (M : ForestMore Rep) (id : Int) (h : Rep S w b l) (hg : Good l) :
    Calls Try.prog 47 #[at_ b, .int .i64 id] w fun e w' => ∃ v, e = .returned v ∧ Pile w.heap.size w' v (parL l id) ∧ Below w.heap.size w w' := by
  have H := Lib.hid h
  have Hg := Lib.hid hg
  have hnot : ∀ (x : Bool) (w : World), (Op.unary .not (.bool x)).run Try.prog w = .ok (.bool (!x)) w := fun _ _ => rfl
  have hRl : (parL l id).length ≤ 128 := Nat.le_trans (parL_len hg.tree id) hg.len
  obtain ⟨R, hR⟩ : ∃ R, R = parL l id := ⟨_, rfl⟩
  rw [← hR] at hRl
  rw [← hR]
  have hR0 : ([] : List Int) ++ parL l id = R := by rw [hR]; rfl
  have HR0 := Lib.hid hR0
  clear h hg hR hR0
  go_enter Try.func47, Try.ntmps47
  go_wp2_with fail
  go_loopw [1, 5] (fun a o wr => ∃ (i : Int) (xs : List Int), a = .int .i64 i ∧ xs ++ parL l i = R ∧ Pile w.heap.size wr o xs ∧ Below w.heap.size w wr) (fun a _ _ => (parL l (intOf a)).length)
  case atStart => exact ⟨id, [], rfl, HR0.out, Pile.nil _ _, Below.refl _ _⟩
  case round =>
    obtain ⟨i, xs, rfl, hxs, hP, hb⟩ := hrel
    have hRw : Rep S wr b l := O.keep H.out (Keeps.of_below (F := fun i => w.heap.size ≤ i) hb fun _ _ h => h) fun _ _ hi => Nat.not_le.2 hi
    have Hxs := Lib.hid hxs
    have hxl : xs.length ≤ 1000000 := by have := app_len hxs; omega
    clear HR0 hxs
    obtain ⟨Ao, co, rfl, -⟩ := hP.form
    cases ht : thereB l i with
    | false =>
      have Ht := Lib.hid ht
      have HP := Lib.hid hP
      clear ht hP
      go_wp2_with fail
      refine (nodeNo M hRw Hg.out Ht.out).mono ?_
      rintro e w1 ⟨A1, c1, rfl, -, hb1⟩
      have HF : Hid (Pile w.heap.size (w1.alloc (.cells #[.int .i64 0, .int .i64 0, .int .i64 0, .int .i64 0, .int .i64 0, .bool false, .string ⟨#[]⟩, .string ⟨#[]⟩, .slice A1 0 c1] 46)) (.slice Ao xs.length co) xs ∧ Below w.heap.size w (w1.alloc (.cells #[.int .i64 0, .int .i64 0, .int .i64 0, .int .i64 0, .int .i64 0, .bool false, .string ⟨#[]⟩, .string ⟨#[]⟩, .slice A1 0 c1] 46))) := Lib.hid ⟨(HP.out.below hb1).alloc _, (hb.trans (hb1.mono hb.size)).alloc (Nat.le_trans hb.size hb1.size) _⟩
      clear hb1 HP
      go_wp2
      go_ret
      refine ⟨_, rfl, ?_, HF.out.2⟩
      have := Hxs.out
      rw [parL_no Ht.out, List.append_nil] at this
      rw [← this]
      exact HF.out.1
    | true =>
      have Ht := Lib.hid ht
      have HP := Lib.hid hP
      have hfin : (xs ++ [i]) ++ parL l (nd l i).parent = R := by
        rw [List.append_assoc, List.singleton_append, ← parL_step Hg.out.tree ht]
        exact Hxs.out
      have Hfin := Lib.hid hfin
      clear ht hP hfin Hxs
      go_wp2_with fail
      refine (nodeYes M hRw Hg.out Ht.out).mono ?_
      rintro e w1 ⟨A1, c1, rfl, -, hb1⟩
      obtain ⟨d, hd⟩ : ∃ d, d = nd l i := ⟨_, rfl⟩
      rw [← hd] at Hfin
      rw [← hd]
      have hB1 : Below w.heap.size w w1 := hb.trans (hb1.mono hb.size)
      have hP1 : Pile w.heap.size w1 (.slice Ao xs.length co) xs := HP.out.below hb1
      have hown : ∀ g, (Value.slice Ao xs.length co).ownBlock = some g → w.heap.size ≤ g ∧ g < w1.heap.size := hP1.lt
      have HC : Hid (∀ w2, Keeps (fun i => (Value.slice Ao xs.length co).ownBlock = some i) ((w1.alloc (.cells #[.int .i64 d.kind, .int .i64 d.parent, .int .i64 d.host, .int .i64 d.shadow, .int .i64 d.mode, .bool d.slot, .string d.name, .string d.want, .slice A1 d.kids.length c1] 46)).alloc (.cells #[.int .i64 i] 3)) w2 → w2.cell? ⟨w1.heap.size, 1, none⟩ = some (.int .i64 d.parent)) := Lib.hid fun w2 hk2 => by
        have hh : Has ((w1.alloc (.cells #[.int .i64 d.kind, .int .i64 d.parent, .int .i64 d.host, .int .i64 d.shadow, .int .i64 d.mode, .bool d.slot, .string d.name, .string d.want, .slice A1 d.kids.length c1] 46)).alloc (.cells #[.int .i64 i] 3)) w1.heap.size (.cells #[.int .i64 d.kind, .int .i64 d.parent, .int .i64 d.host, .int .i64 d.shadow, .int .i64 d.mode, .bool d.slot, .string d.name, .string d.want, .slice A1 d.kids.length c1] 46 (0, 0)) := (Has.fresh _ _).more _
        exact (hh.kept hk2 fun e => by have := (hown _ e).2; omega).cell 1
      have HP2 : Hid (Pile w.heap.size ((w1.alloc (.cells #[.int .i64 d.kind, .int .i64 d.parent, .int .i64 d.host, .int .i64 d.shadow, .int .i64 d.mode, .bool d.slot, .string d.name, .string d.want, .slice A1 d.kids.length c1] 46)).alloc (.cells #[.int .i64 i] 3)) (.slice Ao xs.length co) xs) := Lib.hid ((hP1.alloc _).alloc _)
      have HB2 : Hid (Has ((w1.alloc (.cells #[.int .i64 d.kind, .int .i64 d.parent, .int .i64 d.host, .int .i64 d.shadow, .int .i64 d.mode, .bool d.slot, .string d.name, .string d.want, .slice A1 d.kids.length c1] 46)).alloc (.cells #[.int .i64 i] 3)) (w1.heap.size + 1) (.cells #[.int .i64 i] 3 (0, 0))) := Lib.hid (by
        have := Has.fresh (w1.alloc (.cells #[.int .i64 d.kind, .int .i64 d.parent, .int .i64 d.host, .int .i64 d.shadow, .int .i64 d.mode, .bool d.slot, .string d.name, .string d.want, .slice A1 d.kids.length c1] 46)) (.cells #[.int .i64 i] 3)
        simpa using this)
      have HS2 : Hid (w.heap.size ≤ ((w1.alloc (.cells #[.int .i64 d.kind, .int .i64 d.parent, .int .i64 d.host, .int .i64 d.shadow, .int .i64 d.mode, .bool d.slot, .string d.name, .string d.want, .slice A1 d.kids.length c1] 46)).alloc (.cells #[.int .i64 i] 3)).heap.size) := Lib.hid (by have := hB1.size; simp; omega)
      have HE : Hid (∀ w2, Keeps (fun i => (Value.slice Ao xs.length co).ownBlock = some i) ((w1.alloc (.cells #[.int .i64 d.kind, .int .i64 d.parent, .int .i64 d.host, .int .i64 d.shadow, .int .i64 d.mode, .bool d.slot, .string d.name, .string d.want, .slice A1 d.kids.length c1] 46)).alloc (.cells #[.int .i64 i] 3)) w2 → Below w.heap.size w w2) := Lib.hid fun w2 hk2 =>
        below_then ((hB1.alloc hB1.size _).alloc (by have := hB1.size; simp; omega) _) hk2 (by have := hB1.size; simp; omega) fun i hi e => by have := (hown _ e).1; omega
      have Hd := Lib.hid hd
      clear hd hb1 hB1 hP1 hown HP hb hRw
      go_wp2_with (at_builtin; refine wpList_push rfl (.tmp 17) (.tmp 19) rfl rfl HP2.out rfl HB2.out hxl HS2.out ?_; intro g cap w2 hp2 hk2 _ _; have c1 := HC.out w2 hk2)
      go_roundw
      case rel => exact ⟨_, xs ++ [i], rfl, Hfin.out, by simpa using hp2, HE.out w2 hk2⟩
      case measure =>
        simp only [intOf]
        rw [Hd.out, parL_step Hg.out.tree Ht.out]
        simp
end
end Go.Proofs.Ytamhlapeihcchaa

namespace Go.Proofs.Ytamhlapeihcchaa
open Go Go.RowKit

theorem lastL_at {xs : List Int} {m : Nat} (h : xs.length = m + 1) : lastL xs = xs[m]'(by omega) := by
  unfold lastL
  have e : xs.length - 1 = m := by omega
  rw [List.getLastD_eq_getLast?, List.getLast?_eq_getElem?, e, List.getElem?_eq_getElem (by omega)]
  rfl
/-- The children among which a node stands. -/
def rowL (l : List Nd) (id : Int) : List Int := if thereB l id = true then if thereB l (nd l id).parent = true then (nd l (nd l id).parent).kids else [] else []
/-- The one behind. -/
def nextL (xs : List Int) (x : Int) : Int := if idxL xs x < 0 then 0 else xs.getD ((idxL xs x).toNat + 1) 0
theorem few_nd {l : List Nd} {K : Nat} (h : Few K l) (i : Int) : (nd l i).kids.length ≤ K := by
  unfold nd
  rw [List.getD_eq_getElem?_getD]
  cases e : l[(i - 1).toNat]? with
  | none => exact Nat.zero_le _
  | some d => exact h d (List.mem_of_getElem? e)
theorem rowL_len {l : List Nd} (h : Few 200 l) (i : Int) : (rowL l i).length ≤ 200 := by
  unfold rowL
  split
  · split
    · exact few_nd h _
    · exact Nat.zero_le _
  · exact Nat.zero_le _
theorem idxL_range (xs : List Int) (x : Int) : idxL xs x = -1 ∨ ∃ k : Nat, idxL xs x = (k : Int) ∧ k < xs.length := by
  unfold idxL
  by_cases h : x ∈ xs
  · rw [if_pos h]
    exact .inr ⟨_, rfl, List.idxOf_lt_length_of_mem h⟩
  · rw [if_neg h]
    exact .inl rfl

section
variable {Rep : (Nat → Prop) → World → Nat → List Nd → Prop} {S : Nat → Prop} {w : World} {b : Nat} {l : List Nd}
set_option maxHeartbeats 1000000 in
theorem kinRoot (O : ForestOk Rep) (M : ForestMore Rep) (id : Int) (h : Rep S w b l) (hg : Good l) :
    Calls Try.prog 25 #[at_ b, .int .i64 id] w fun e w' => e = .returned (.int .i64 (rootL l id)) ∧ Below w.heap.size w w' := by
  have C := Lib.hid (kinUp O M id h hg)
  have hRl : (parL l id).length ≤ 128 := Nat.le_trans (parL_len hg.tree id) hg.len
  have hroot : rootL l id = lastL (parL l id) := rfl
  rw [hroot]
  obtain ⟨R, hR⟩ : ∃ R, R = parL l id := ⟨_, rfl⟩
  rw [← hR] at hRl C
  rw [← hR]
  clear h hg hR hroot
  go_enter Try.func25, Try.ntmps25
  go_wp2_with fail
  refine C.out.mono ?_
  rintro e w1 ⟨v, rfl, hP, hb⟩
  obtain ⟨A, c, rfl, hL⟩ := hP.form
  clear C hP
  cases hm : R.length with
  | zero =>
    have e0 : lastL R = 0 := by rw [List.length_eq_zero_iff.1 hm]; rfl
    have E0 := Lib.hid e0
    have Hm := Lib.hid hm
    clear e0 hm
    go_wp2
    go_ret
    rw [E0.out]
    exact ⟨rfl, hb⟩
  | succ m =>
    have e0 := lastL_at hm
    obtain ⟨b', off, rfl, -, hc⟩ := hL.nums m (by omega)
    obtain ⟨y, hy⟩ : ∃ y, y = R[m]'(by omega) := ⟨_, rfl⟩
    rw [← hy] at hc e0
    have E0 := Lib.hid e0
    clear e0
    have hm' : m ≤ 128 := by omega
    have z1 : (((m : Int) + 1) == 0) = false := by rw [beq_eq_false_iff_ne]; omega
    clear hm hy hL hRl
    go_wp2
    go_ret
    rw [E0.out]
    exact ⟨rfl, hb⟩
theorem kinAbove (O : ForestOk Rep) (M : ForestMore Rep) (x id : Int) (h : Rep S w b l) (hg : Good l) :
    Calls Try.prog 43 #[at_ b, .int .i64 x, .int .i64 id] w fun e w' => e = .returned (.bool (hasB (parL l id) x)) ∧ Below w.heap.size w w' := by
  have C := Lib.hid (kinUp O M id h hg)
  have hRl : (parL l id).length ≤ 1000000 := Nat.le_trans (Nat.le_trans (parL_len hg.tree id) hg.len) (by decide)
  obtain ⟨R, hR⟩ : ∃ R, R = parL l id := ⟨_, rfl⟩
  rw [← hR] at hRl C
  rw [← hR]
  clear h hg hR
  go_enter Try.func43, Try.ntmps43
  go_wp2_with fail
  refine C.out.mono ?_
  rintro e w1 ⟨v, rfl, hP, hb⟩
  obtain ⟨A, c, rfl, hL⟩ := hP.form
  clear C hP
  go_wp2_with fail
  refine (contains_any R A R.length c x w1 rfl hRl hL.nums).mono ?_
  rintro e w2 ⟨rfl, rfl⟩
  go_wp2
  go_ret
  exact ⟨rfl, hb⟩
end
end Go.Proofs.Ytamhlapeihcchaa

namespace Go.Proofs.Ytamhlapeihcchaa
open Go Go.RowKit

set_option maxHeartbeats 4000000 in
set_option maxRecDepth 100000 in
theorem refNodes (A : Option Addr) (n c : Nat) (xs : List Ac) (w : World) (hn : xs.length = n) (h : Acts w A xs) (hs : Small xs) :
    Calls Try.prog 11 #[.slice A n c] w fun e w' => ∃ A' c', e = .returned (.slice A' (forest xs).length c') ∧ Nodes (fun i => w.heap.size ≤ i) w' 0 A' c' (forest xs) ∧ Below w.heap.size w w' := by
  have H := Lib.hid h
  have Hn := Lib.hid hn
  have Hs := Lib.hid hs
  have hnb : n ≤ 300 := by rw [← hn]; exact hs.1
  clear h hn hs
  go_enter Try.func11, Try.ntmps11
  go_wp2_with fail
  go_loopw [3, 4] (fun v i wr => ∃ (j : Nat) (A' : Option Addr) (c' : Nat), v = .slice A' (forest (xs.take j)).length c' ∧ i = .int .i64 j ∧ j ≤ n ∧ Nodes (fun i => w.heap.size ≤ i) wr 0 A' c' (forest (xs.take j)) ∧ Below w.heap.size w wr) (fun _ i _ => n - (intOf i).toNat)
  case atStart => exact ⟨0, none, 0, rfl, rfl, Nat.zero_le _, Nodes.nil _ _, Below.refl _ _⟩
  case round =>
    obtain ⟨j, A', c', rfl, rfl, hj, hN, hb⟩ := hrel
    by_cases hjn : (j : Int) < n
    · have hjx : j < xs.length := by rw [Hn.out]; omega
      obtain ⟨b', off, A1, c1, A2, c2, rfl, hB, hc, hL, hA⟩ := H.out j hjx
      have hsn : forest (xs.take (j + 1)) = actL (forest (xs.take j)) xs[j] := by
        rw [List.take_add_one, List.getElem?_eq_getElem hjx]
        exact forest_snoc _ _
      have hxl : xs[j].l.length ≤ 200 := Hs.out.2 _ (List.getElem_mem hjx)
      have hg : Good (forest (xs.take j)) := good_take Hs.out j
      obtain ⟨l, hl⟩ : ∃ l, l = forest (xs.take j) := ⟨_, rfl⟩
      rw [← hl] at hsn hg hN
      rw [← hl]
      obtain ⟨x, hx⟩ : ∃ x, x = xs[j] := ⟨_, rfl⟩
      rw [← hx] at hc hA hsn hxl
      clear hl hx hL
      have hc' : ∀ f, f < 14 → wr.cell? ⟨b', off + j * 14 + f, none⟩ = (actCells x (.slice A1 x.n.kids.length c1) (.slice A2 x.l.length c2))[f]? := fun f hf => by
        rw [hb.cell (p := ⟨b', off + j * 14 + f, none⟩) hB, Nat.add_assoc]
        exact hc f hf
      have g0 : wr.cell? ⟨b', off + j * 14, none⟩ = some (.int .i64 x.kind) := hc' 0 (by omega)
      have g1 : wr.cell? ⟨b', off + j * 14 + 1, none⟩ = some (.int .i64 x.a) := hc' 1 (by omega)
      have g2 : wr.cell? ⟨b', off + j * 14 + 2, none⟩ = some (.int .i64 x.b) := hc' 2 (by omega)
      have g3 : wr.cell? ⟨b', off + j * 14 + 3, none⟩ = some (.string x.s) := hc' 3 (by omega)
      have g4 : wr.cell? ⟨b', off + j * 14 + 4, none⟩ = some (.int .i64 x.n.kind) := hc' 4 (by omega)
      have g5 : wr.cell? ⟨b', off + j * 14 + 5, none⟩ = some (.int .i64 x.n.parent) := hc' 5 (by omega)
      have g6 : wr.cell? ⟨b', off + j * 14 + 6, none⟩ = some (.int .i64 x.n.host) := hc' 6 (by omega)
      have g7 : wr.cell? ⟨b', off + j * 14 + 7, none⟩ = some (.int .i64 x.n.shadow) := hc' 7 (by omega)
      have g8 : wr.cell? ⟨b', off + j * 14 + 8, none⟩ = some (.int .i64 x.n.mode) := hc' 8 (by omega)
      have g9 : wr.cell? ⟨b', off + j * 14 + 9, none⟩ = some (.bool x.n.slot) := hc' 9 (by omega)
      have g10 : wr.cell? ⟨b', off + j * 14 + 10, none⟩ = some (.string x.n.name) := hc' 10 (by omega)
      have g11 : wr.cell? ⟨b', off + j * 14 + 11, none⟩ = some (.string x.n.want) := hc' 11 (by omega)
      have g12 : wr.cell? ⟨b', off + j * 14 + 12, none⟩ = some (.slice A1 x.n.kids.length c1) := hc' 12 (by omega)
      have g13 : wr.cell? ⟨b', off + j * 14 + 13, none⟩ = some (.slice A2 x.l.length c2) := hc' 13 (by omega)
      have C := do_any l A' c' x (.slice A1 x.n.kids.length c1) A2 c2 wr (Nat.le_trans hg.len (by decide)) (fun d hd => Nat.le_trans (hg.few d hd) (by decide)) (G := fun i => w.heap.size ≤ i) (fun i hi => Nat.le_trans hb.size hi) (Nat.le_trans hxl (by decide)) hN (hA.below hb)
      unfold actVal at C
      have HC := Lib.hid C
      have Hsn := Lib.hid hsn
      clear C hc hc' hsn hA hN hg
      go_wp2_with fail
      refine HC.out.mono ?_
      rintro e w2 ⟨A3, c3, rfl, hN3, hb3⟩
      go_wp2
      go_roundw
      case rel => exact ⟨j + 1, A3, c3, by rw [Hsn.out], by go_num, by omega, by rw [Hsn.out]; exact hN3, hb.trans (hb3.mono hb.size)⟩
      case measure => simp [intOf]; omega
    · rw [List.take_of_length_le (by rw [Hn.out]; omega)] at hN
      have e0 : (forest (xs.take j)).length = (forest xs).length := by rw [List.take_of_length_le (by rw [Hn.out]; omega)]
      rw [e0]
      clear e0
      go_wp2
      go_ret
      exact ⟨A', c', rfl, hN, hb⟩
section
variable {G : Nat → Prop}
set_option maxHeartbeats 4000000 in
set_option maxRecDepth 100000 in
theorem refUp (l : List Nd) (A : Option Addr) (c : Nat) (id : Int) (w : World) (hl : l.length ≤ 1000) (h : Nodes G w 0 A c l) :
    Calls Try.prog 61 #[.slice A l.length c, .int .i64 id] w fun e w' => ∃ v, e = .returned v ∧ Pile w.heap.size w' v (parL l id) ∧ Below w.heap.size w w' := by
  have H := Lib.hid h
  obtain ⟨R, hR⟩ : ∃ R, R = parL l id := ⟨_, rfl⟩
  rw [← hR]
  have hR0 : ([] : List Int) ++ parN l (l.length + 1 - 0) id = R := by rw [hR]; rfl
  have HR0 := Lib.hid hR0
  clear h hR hR0
  go_enter Try.func61, Try.ntmps61
  go_wp2_with fail
  go_loopw [1, 5, 6] (fun a o i wr => ∃ (j : Nat) (id : Int) (xs : List Int), a = .int .i64 id ∧ i = .int .i64 j ∧ j ≤ l.length + 1 ∧ xs.length = j ∧ xs ++ parN l (l.length + 1 - j) id = R ∧ Pile w.heap.size wr o xs ∧ Below w.heap.size w wr) (fun _ _ i _ => l.length + 1 - (intOf i).toNat)
  case atStart => exact ⟨0, id, [], rfl, rfl, Nat.zero_le _, rfl, HR0.out, Pile.nil _ _, Below.refl _ _⟩
  case round =>
    obtain ⟨j, id, xs, rfl, rfl, hj, hxl, hxs, hP, hb⟩ := hrel
    have Hxs := Lib.hid hxs
    have Hxl := Lib.hid hxl
    clear HR0 hxs hxl
    obtain ⟨Ao, co, rfl, -⟩ := hP.form
    by_cases hjl : (j : Int) ≤ l.length
    · cases hth : thereB l id with
      | true =>
        have hgo : parN l (l.length + 1 - j) id = id :: parN l (l.length + 1 - (j + 1)) (nd l id).parent := by
          rw [show l.length + 1 - j = (l.length + 1 - (j + 1)) + 1 by omega]
          exact par_go hth
        obtain ⟨m, rfl, hml⟩ := there_at hth
        obtain ⟨g, k, rfl, -, hgw, -, -, -, c1, -⟩ := H.out.nine hml
        have hfin : (xs ++ [(m : Int) + 1]) ++ parN l (l.length + 1 - (j + 1)) (nd l ((m : Int) + 1)).parent = R := by
          rw [List.append_assoc, List.singleton_append, ← hgo]
          exact Hxs.out
        obtain ⟨pa, hpa⟩ : ∃ pa, pa = (nd l ((m : Int) + 1)).parent := ⟨_, rfl⟩
        rw [← hpa] at c1 hfin
        have Hfin := Lib.hid hfin
        have hxb : xs.length ≤ 1000000 := by rw [Hxl.out]; omega
        have Hth := Lib.hid hth
        have hown := hP.lt
        have HP2 : Hid (Pile w.heap.size (wr.alloc (.cells #[.int .i64 ((m : Int) + 1)] 3)) (.slice Ao xs.length co) xs) := Lib.hid (hP.alloc _)
        have HB2 : Hid (Has (wr.alloc (.cells #[.int .i64 ((m : Int) + 1)] 3)) wr.heap.size (.cells #[.int .i64 ((m : Int) + 1)] 3 (0, 0))) := Lib.hid (Has.fresh _ _)
        have HS2 : Hid (w.heap.size ≤ (wr.alloc (.cells #[.int .i64 ((m : Int) + 1)] 3)).heap.size) := Lib.hid (by have := hb.size; simp; omega)
        have HE : Hid (∀ w2, Keeps (fun i => (Value.slice Ao xs.length co).ownBlock = some i) (wr.alloc (.cells #[.int .i64 ((m : Int) + 1)] 3)) w2 → Below w.heap.size w w2) := Lib.hid fun w2 hk2 =>
          below_then (hb.alloc hb.size _) hk2 (by have := hb.size; simp; omega) fun i hi e => by have := (hown _ e).1; omega
        have C1 := Lib.hid c1
        clear hgo hth hpa c1 hfin Hxs hP hown hb
        go_wp2_with fail
        refine (there_any l _ c _ wr).mono ?_
        rintro e w1 ⟨rfl, rfl⟩
        rw [Hth.out]
        go_wp2_with (at_builtin; refine wpList_push rfl (.tmp 18) (.tmp 20) rfl rfl HP2.out rfl HB2.out hxb HS2.out ?_; intro g2 cap w2 hp2 hk2 _ _; have hb2 := HE.out w2 hk2; have d1 := (hb2.cell (p := ⟨g, m * 9 + 1, none⟩) hgw).trans C1.out)
        go_roundw
        case rel => exact ⟨j + 1, _, xs ++ [(m : Int) + 1], rfl, by go_num, by omega, by simp [Hxl.out], Hfin.out, by simpa using hp2, hb2⟩
        case measure => simp [intOf]; omega
      | false =>
        go_wp2_with fail
        refine (there_any l A c id wr).mono ?_
        rintro e w1 ⟨rfl, rfl⟩
        rw [hth]
        go_wp2
        go_ret
        refine ⟨_, rfl, ?_, hb⟩
        have := Hxs.out
        rw [par_no hth, List.append_nil] at this
        rw [← this]
        exact hP
    · go_wp2
      go_ret
      refine ⟨_, rfl, ?_, hb⟩
      have := Hxs.out
      rw [show l.length + 1 - j = 0 by omega] at this
      rw [← this, parN, List.append_nil]
      exact hP
set_option maxHeartbeats 1000000 in
theorem refRoot (l : List Nd) (A : Option Addr) (c : Nat) (id : Int) (w : World) (hg : Good l) (h : Nodes G w 0 A c l) :
    Calls Try.prog 40 #[.slice A l.length c, .int .i64 id] w fun e w' => e = .returned (.int .i64 (rootL l id)) ∧ Below w.heap.size w w' := by
  have C := Lib.hid (refUp l A c id w (Nat.le_trans hg.len (by decide)) h)
  have hRl : (parL l id).length ≤ 128 := Nat.le_trans (parL_len hg.tree id) hg.len
  have hroot : rootL l id = lastL (parL l id) := rfl
  rw [hroot]
  obtain ⟨R, hR⟩ : ∃ R, R = parL l id := ⟨_, rfl⟩
  rw [← hR] at hRl C
  rw [← hR]
  clear h hg hR hroot
  go_enter Try.func40, Try.ntmps40
  go_wp2_with fail
  refine C.out.mono ?_
  rintro e w1 ⟨v, rfl, hP, hb⟩
  obtain ⟨A, c, rfl, hL⟩ := hP.form
  clear C hP
  cases hm : R.length with
  | zero =>
    have e0 : lastL R = 0 := by rw [List.length_eq_zero_iff.1 hm]; rfl
    have E0 := Lib.hid e0
    have Hm := Lib.hid hm
    clear e0 hm
    go_wp2
    go_ret
    rw [E0.out]
    exact ⟨rfl, hb⟩
  | succ m =>
    have e0 := lastL_at hm
    obtain ⟨b', off, rfl, -, hc⟩ := hL.nums m (by omega)
    obtain ⟨y, hy⟩ : ∃ y, y = R[m]'(by omega) := ⟨_, rfl⟩
    rw [← hy] at hc e0
    have E0 := Lib.hid e0
    clear e0
    have hm' : m ≤ 128 := by omega
    have z1 : (((m : Int) + 1) == 0) = false := by rw [beq_eq_false_iff_ne]; omega
    clear hm hy hL hRl
    go_wp2
    go_ret
    rw [E0.out]
    exact ⟨rfl, hb⟩
theorem refAbove (l : List Nd) (A : Option Addr) (c : Nat) (x id : Int) (w : World) (hg : Good l) (h : Nodes G w 0 A c l) :
    Calls Try.prog 44 #[.slice A l.length c, .int .i64 x, .int .i64 id] w fun e w' => e = .returned (.bool (hasB (parL l id) x)) ∧ Below w.heap.size w w' := by
  have C := Lib.hid (refUp l A c id w (Nat.le_trans hg.len (by decide)) h)
  have hRl : (parL l id).length ≤ 1000000 := Nat.le_trans (Nat.le_trans (parL_len hg.tree id) hg.len) (by decide)
  obtain ⟨R, hR⟩ : ∃ R, R = parL l id := ⟨_, rfl⟩
  rw [← hR] at hRl C
  rw [← hR]
  clear h hg hR
  go_enter Try.func44, Try.ntmps44
  go_wp2_with fail
  refine C.out.mono ?_
  rintro e w1 ⟨v, rfl, hP, hb⟩
  obtain ⟨A2, c2, rfl, hL⟩ := hP.form
  clear C hP
  go_wp2_with fail
  refine (has_any R A2 R.length c2 x w1 rfl hRl hL.nums).mono ?_
  rintro e w2 ⟨rfl, rfl⟩
  go_wp2
  go_ret
  exact ⟨rfl, hb⟩
end
end Go.Proofs.Ytamhlapeihcchaa

namespace Go.Proofs.Ytamhlapeihcchaa
open Go Go.RowKit

/-- How many of a list are of a kind. -/
def cntL (l : List Nd) (kind : Int) (ks : List Int) : Nat := (ks.filter fun k => decide ((nd l k).kind = kind)).length
def kidsL (l : List Nd) (id : Int) : List Int := if thereB l id = true then (nd l id).kids else []
theorem cntL_step {l : List Nd} {kind : Int} {ks : List Int} {j : Nat} (hj : j < ks.length) : cntL l kind (ks.take (j + 1)) = cntL l kind (ks.take j) + if (nd l ks[j]).kind = kind then 1 else 0 := by
  unfold cntL
  rw [List.take_add_one, List.getElem?_eq_getElem hj, Option.toList_some, List.filter_append, List.length_append]
  congr 1
  by_cases h : (nd l ks[j]).kind = kind
  · rw [if_pos h, List.filter_cons_of_pos (by simpa using h)]
    rfl
  · rw [if_neg h, List.filter_cons_of_neg (by simpa using h)]
    rfl
theorem cntL_le (l : List Nd) (kind : Int) (ks : List Int) : cntL l kind ks ≤ ks.length := List.length_filter_le _ _

section
variable {Rep : (Nat → Prop) → World → Nat → List Nd → Prop} {S : Nat → Prop} {w : World} {b : Nat} {l : List Nd}
theorem ForestOk.since (O : ForestOk Rep) {w' : World} (h : Rep S w b l) (hb : Below w.heap.size w w') : Rep S w' b l := O.keep h (Keeps.of_below (F := fun i => w.heap.size ≤ i) hb fun _ _ h => h) fun _ _ hi => Nat.not_le.2 hi
end
end Go.Proofs.Ytamhlapeihcchaa

namespace Go.Proofs.Ytamhlapeihcchaa
open Go Go.RowKit

/-- How many nodes ahead of number j have that parent and that kind. -/
def cntP (l : List Nd) (id kind : Int) (j : Nat) : Nat := ((List.range j).filter fun i : Nat => decide ((nd l ((i : Int) + 1)).parent = id ∧ (nd l ((i : Int) + 1)).kind = kind)).length
theorem cntP_step {l : List Nd} {id kind : Int} {j : Nat} : cntP l id kind (j + 1) = cntP l id kind j + if (nd l ((j : Int) + 1)).parent = id ∧ (nd l ((j : Int) + 1)).kind = kind then 1 else 0 := by
  unfold cntP
  rw [List.range_succ, List.filter_append, List.length_append]
  congr 1
  by_cases h : (nd l ((j : Int) + 1)).parent = id ∧ (nd l ((j : Int) + 1)).kind = kind
  · rw [if_pos h, List.filter_cons_of_pos (by simpa using h)]
    rfl
  · rw [if_neg h, List.filter_cons_of_neg (by simpa using h)]
    rfl
theorem cntP_le (l : List Nd) (id kind : Int) (j : Nat) : cntP l id kind j ≤ j := by
  have := List.length_filter_le (fun i : Nat => decide ((nd l ((i : Int) + 1)).parent = id ∧ (nd l ((i : Int) + 1)).kind = kind)) (List.range j)
  rw [List.length_range] at this
  exact this
/-- Those of a parent are its children. -/
theorem cntP_all {l : List Nd} (T : Tree l) {id kind : Int} (ht : thereB l id = true) : cntP l id kind l.length = cntL l kind (kidsL l id) := by
  unfold kidsL
  rw [if_pos ht]
  unfold cntP cntL
  have hp : List.Perm (((List.range l.length).filter fun i : Nat => decide ((nd l ((i : Int) + 1)).parent = id ∧ (nd l ((i : Int) + 1)).kind = kind)).map fun i : Nat => (i : Int) + 1) ((nd l id).kids.filter fun k => decide ((nd l k).kind = kind)) := by
    refine (List.perm_ext_iff_of_nodup ?_ ?_).2 fun k => ?_
    · exact List.pairwise_map.2 ((List.nodup_range.filter _).imp fun h e => h (by omega))
    · exact (T.once id ht).filter _
    · rw [List.mem_map, List.mem_filter]
      constructor
      · rintro ⟨i, hi, rfl⟩
        rw [List.mem_filter, List.mem_range] at hi
        obtain ⟨hlt, hq⟩ := hi
        obtain ⟨h1, h2⟩ := of_decide_eq_true hq
        have hth : thereB l ((i : Int) + 1) = true := thereB_iff.2 ⟨by omega, by omega⟩
        have hne : (nd l ((i : Int) + 1)).parent ≠ 0 := by rw [h1]; exact there_pos ht
        have := (T.par _ hth hne).2
        rw [h1] at this
        exact ⟨this, decide_eq_true h2⟩
      · rintro ⟨hk, hq⟩
        obtain ⟨h1, h2⟩ := T.kid id ht k hk
        obtain ⟨m, rfl, hm⟩ := there_at h1
        exact ⟨m, List.mem_filter.2 ⟨List.mem_range.2 hm, decide_eq_true ⟨h2, of_decide_eq_true hq⟩⟩, rfl⟩
  have := hp.length_eq
  rw [List.length_map] at this
  exact this

section
variable {G : Nat → Prop} {l : List Nd} {A : Option Addr} {c : Nat} {w : World}
/-- The children of a node, as the list holds them. -/
theorem Nodes.row (h : Nodes G w 0 A c l) {m : Nat} (hm : m < l.length) : ∃ g A1 c1, A = some ⟨g, 0, none⟩ ∧ g < w.heap.size ∧ w.cell? ⟨g, m * 9 + 8, none⟩ = some (.slice A1 (nd l ((m : Int) + 1)).kids.length c1) ∧ ListIn w A1 c1 (nd l ((m : Int) + 1)).kids ∧ w.cell? ⟨g, m * 9 + 1, none⟩ = some (.int .i64 (nd l ((m : Int) + 1)).parent) ∧ w.cell? ⟨g, m * 9, none⟩ = some (.int .i64 (nd l ((m : Int) + 1)).kind) := by
  obtain ⟨g, k, rfl, -, hg, hk, -, c0, c1, -, -, -, -, -, -, c8⟩ := h.nine hm
  obtain ⟨A1, n1, rfl, hL⟩ := (Pile.of_kids (base := 0) hk fun _ _ _ => Nat.zero_le _).form
  exact ⟨g, A1, n1, rfl, hg, c8, hL, c1, c0⟩
theorem rowL_no {id : Int} (h : thereB l id = false) : rowL l id = [] := by unfold rowL; rw [if_neg (by rw [h]; decide)]
end
end Go.Proofs.Ytamhlapeihcchaa

namespace Go.Proofs.Ytamhlapeihcchaa
open Go Go.RowKit

/-- A forest and a list of the same nodes. -/
structure Two (Rep : (Nat → Prop) → World → Nat → List Nd → Prop) (w : World) (b : Nat) (A : Option Addr) (c : Nat) (l : List Nd) (v : World) : Prop where
  rep : Rep (fun _ => True) v b l
  nodes : Nodes (fun _ => True) v 0 A c l
  below : Below w.heap.size w v
section
variable {Rep : (Nat → Prop) → World → Nat → List Nd → Prop} {w v v' : World} {b : Nat} {A : Option Addr} {c : Nat} {l : List Nd}
theorem Two.next (O : ForestOk Rep) (h : Two Rep w b A c l v) (hb : Below v.heap.size v v') : Two Rep w b A c l v' := ⟨O.since h.rep hb, h.nodes.below hb, h.below.trans (hb.mono h.below.size)⟩
theorem sameInts_self (xs : List Int) : sameInts xs xs = true := decide_eq_true rfl
/-- A forest, and what is below it. -/
structure One (Rep : (Nat → Prop) → World → Nat → List Nd → Prop) (w : World) (b : Nat) (l : List Nd) (v : World) : Prop where
  rep : Rep (fun _ => True) v b l
  below : Below w.heap.size w v
theorem One.next (O : ForestOk Rep) {w v v' : World} {b : Nat} {l : List Nd} (h : One Rep w b l v) (hb : Below v.heap.size v v') : One Rep w b l v' := ⟨O.since h.rep hb, h.below.trans (hb.mono h.below.size)⟩
end
end Go.Proofs.Ytamhlapeihcchaa

namespace Go.Proofs.Ytamhlapeihcchaa
open Go Go.RowKit

section
variable {Rep : (Nat → Prop) → World → Nat → List Nd → Prop}
/-- A forest in blocks that S names, all of them made since w. -/
structure Live (Rep : (Nat → Prop) → World → Nat → List Nd → Prop) (w : World) (S : Nat → Prop) (b : Nat) (l : List Nd) (v : World) : Prop where
  rep : Rep S v b l
  low : ∀ i, S i → w.heap.size ≤ i ∧ i < v.heap.size
  below : Below w.heap.size w v
section
variable {w v v' : World} {S : Nat → Prop} {b : Nat} {l : List Nd}
theorem Live.next (O : ForestOk Rep) (h : Live Rep w S b l v) (hb : Below v.heap.size v v') : Live Rep w S b l v' :=
  ⟨O.since h.rep hb, fun i hi => ⟨(h.low i hi).1, Nat.lt_of_lt_of_le (h.low i hi).2 hb.size⟩, h.below.trans (hb.mono h.below.size)⟩
theorem Live.keep (O : ForestOk Rep) {F : Nat → Prop} (h : Live Rep w S b l v) (k : Keeps F v v') (hF : ∀ i, S i → ¬ F i) (hw : ∀ i, i < w.heap.size → ¬ F i) : Live Rep w S b l v' :=
  ⟨O.keep h.rep k fun i hi _ => hF i hi, fun i hi => ⟨(h.low i hi).1, Nat.lt_of_lt_of_le (h.low i hi).2 k.grows⟩, below_then h.below k h.below.size hw⟩
theorem keepsBox (w : World) (g : Nat) (u0 u1 u2 u3 u4 u5 u6 u7 u8 : Value) : Keeps (fun i => i = g) w (((((((((w.setCell ⟨g, 0, none⟩ u0).setCell ⟨g, 1, none⟩ u1).setCell ⟨g, 2, none⟩ u2).setCell ⟨g, 3, none⟩ u3).setCell ⟨g, 4, none⟩ u4).setCell ⟨g, 5, none⟩ u5).setCell ⟨g, 6, none⟩ u6).setCell ⟨g, 7, none⟩ u7).setCell ⟨g, 8, none⟩ u8) :=
  (((((((((Keeps.refl (fun i => i = g) w).store (p := ⟨g, 0, none⟩) (.inl rfl) _).store (p := ⟨g, 1, none⟩) (.inl rfl) _).store (p := ⟨g, 2, none⟩) (.inl rfl) _).store (p := ⟨g, 3, none⟩) (.inl rfl) _).store (p := ⟨g, 4, none⟩) (.inl rfl) _).store (p := ⟨g, 5, none⟩) (.inl rfl) _).store (p := ⟨g, 6, none⟩) (.inl rfl) _).store (p := ⟨g, 7, none⟩) (.inl rfl) _).store (p := ⟨g, 8, none⟩) (.inl rfl) _
theorem live_new (O : ForestOk Rep) {w1 : World} (h : Rep (fun i => w1.heap.size ≤ i) v b l) (hw : Below w.heap.size w w1) (hb : Below w1.heap.size w1 v) : ∃ S, Live Rep w S b l v :=
  ⟨fun i => w1.heap.size ≤ i ∧ i < v.heap.size, O.wide h fun _ hi hlt => ⟨hi, hlt⟩, fun _ hi => ⟨Nat.le_trans hw.size hi.1, hi.2⟩, hw.trans (hb.mono hw.size)⟩
/-- A change. -/
theorem Live.turned (O : ForestOk Rep) {l' : List Nd} (h : Live Rep w S b l v) (hR : Rep (fun i => S i ∨ v.heap.size ≤ i) v' b l') (hk : Keeps (fun i => S i ∨ v.heap.size ≤ i) v v') :
    (∃ S', Live Rep w S' b l' v' ∧ ∀ i, i < v.heap.size → ¬ S i → ¬ S' i) ∧ Keeps S v v' := by
  have hk' : Keeps S v v' := hk.wide fun i hi hh => hh.resolve_right (Nat.not_le.2 hi)
  refine ⟨⟨fun i => (S i ∨ v.heap.size ≤ i) ∧ i < v'.heap.size, ⟨O.wide hR fun _ hi hlt => ⟨hi, hlt⟩, fun i hi => ⟨?_, hi.2⟩, below_then h.below hk' h.below.size fun i hi hS => ?_⟩, fun i hi hn hh => ?_⟩, hk'⟩
  · rcases hi.1 with h1 | h1
    · exact (h.low i h1).1
    · exact Nat.le_trans h.below.size h1
  · have := (h.low i hS).1
    omega
  · rcases hh.1 with h1 | h1
    · exact hn h1
    · omega
/-- Put, with a list that lies apart. -/
theorem livePut (O : ForestOk Rep) (p : Int) (ks : List Int) (A : Option Addr) (c : Nat) (h : Live Rep w S b l v) (hg : Good l) (hk : ks.length ≤ 200) (hL : ListIn v A c ks) (hap : ∀ b' off s, A = some ⟨b', off, s⟩ → ¬ S b') :
    Calls Try.prog 26 #[at_ b, .int .i64 p, .slice A ks.length c] v fun e v' => e = .returned (.int .i64 (putErr l p ks)) ∧ (∃ S', Live Rep w S' b (putL l p ks) v' ∧ ∀ i, i < v.heap.size → ¬ S i → ¬ S' i) ∧ Keeps S v v' :=
  (O.put (fun i => S i ∨ v.heap.size ≤ i) v b l p ks A c (O.wide h.rep fun _ hi _ => .inl hi) hg (fun _ hi => .inr hi) hk hL fun _ b' off s e hlt hh => hh.elim (hap b' off s e) (Nat.not_le.2 hlt)).mono fun _ _ ⟨he, hR, hk⟩ => ⟨he, h.turned O hR hk⟩
end
end
end Go.Proofs.Ytamhlapeihcchaa

namespace Go.Proofs.Ytamhlapeihcchaa
open Go

section
variable {l : List Nd} {b x : Int}
theorem rootL_par (T : Tree l) (h : thereB l b = true) (hp : (nd l b).parent ≠ 0) : rootL l b = rootL l (nd l b).parent := by
  have hpt := (T.par _ h hp).1
  unfold rootL
  rw [parL_step T h]
  exact lastL_suffix (List.suffix_cons _ _) (parL_ne T hpt)
theorem rootL_own (T : Tree l) (h : thereB l b = true) (hp : (nd l b).parent = 0) : rootL l b = b := by
  unfold rootL
  rw [parL_step T h, hp, parL_no (there_zero l)]
  rfl
/-- The way up is the way to the root, and then that of its host. -/
theorem over_split (T : Tree l) : ∀ (n : Nat) (b : Int), (parL l b).length ≤ n → thereB l b = true → over l b = parL l b ++ over l (nd l (rootL l b)).host
  | 0, b, hn, h => by
    rw [parL_step T h] at hn
    simp at hn
  | n + 1, b, hn, h => by
    by_cases hp : (nd l b).parent = 0
    · rw [rootL_own T h hp, over_step T h, parL_step T h, hp, parL_no (there_zero l)]
      have e : upOf l b = (nd l b).host := if_pos hp
      rw [e]
      rfl
    · have hpt := (T.par _ h hp).1
      rw [parL_step T h] at hn
      have ih := over_split T n (nd l b).parent (by simpa using hn) hpt
      have e : upOf l b = (nd l b).parent := if_neg hp
      rw [over_step T h, e, ih, ← rootL_par T h hp, parL_step T h, List.cons_append]
theorem over_whole (T : Tree l) (h : thereB l b = true) : over l b = parL l b ++ over l (nd l (rootL l b)).host := over_split T _ b (Nat.le_refl _) h
theorem over_none (h : thereB l b = false) : over l b = [] := over_end h
theorem over_short (T : Tree l) (b : Int) : (over l b).length ≤ l.length := up_short T.ends (l.length + 1) b
theorem over_less (T : Tree l) (h : thereB l b = true) : (over l (nd l (rootL l b)).host).length + 1 ≤ (over l b).length := by
  rw [over_whole T h, List.length_append, parL_step T h, List.length_cons]
  omega
theorem over_self (T : Tree l) (h : thereB l b = true) : b ∈ over l b := by
  rw [over_step T h]
  exact List.mem_cons_self
theorem hasB_yes {xs : List Int} (h : x ∈ xs) : hasB xs x = true := decide_eq_true h
theorem hasB_no {xs : List Int} (h : x ∉ xs) : hasB xs x = false := decide_eq_false h
theorem hasB_mem {xs : List Int} (h : hasB xs x = true) : x ∈ xs := of_decide_eq_true h
theorem hasB_not {xs : List Int} (h : hasB xs x = false) : x ∉ xs := of_decide_eq_false h
theorem over_hit (T : Tree l) (h : hasB (parL l b) x = true) : hasB (over l b) x = true := by
  have hm := hasB_mem h
  have ht : thereB l b = true := by
    cases hq : thereB l b with
    | true => rfl
    | false => rw [parL_no hq] at hm; cases hm
  rw [over_whole T ht]
  exact hasB_yes (List.mem_append_left _ hm)
theorem over_miss (T : Tree l) (ht : thereB l b = true) (h : hasB (parL l b) x = false) : hasB (over l b) x = hasB (over l (nd l (rootL l b)).host) x := by
  have hm := hasB_not h
  rw [over_whole T ht]
  unfold hasB
  simp [hm]

/-- How many Elements come with a node. -/
def moreL (l : List Nd) (n : Int) : Nat := if (nd l n).kind = 4 then cntL l 2 (kidsL l n) else 1
/-- One Element too many. -/
def crowdB (l : List Nd) (n p : Int) : Bool := decide (1 < moreL l n ∨ (moreL l n = 1 ∧ 0 < cntL l 2 (kidsL l p)))
/-- Check: the error's number. -/
def chkErr (l : List Nd) (n p c : Int) : Int :=
  if thereB l n = false ∨ thereB l p = false ∨ (c ≠ 0 ∧ thereB l c = false) then 1
  else if hasB (over l p) n = true then 3
  else if c ≠ 0 ∧ (nd l c).parent ≠ p then 4
  else if (nd l n).kind = 1 ∨ (nd l n).kind = 3 then 3
  else if (nd l p).kind = 1 ∧ crowdB l n p = true then 3
  else 0
theorem cntL_few {l : List Nd} (h : Few 200 l) (kind id : Int) : cntL l kind (kidsL l id) ≤ 200 := by
  refine Nat.le_trans (cntL_le _ _ _) ?_
  unfold kidsL
  split
  · exact few_nd h id
  · exact Nat.zero_le _
end
end Go.Proofs.Ytamhlapeihcchaa

namespace Go.Proofs.Ytamhlapeihcchaa
open Go

section
variable {l : List Nd} {i j x y a b : Int}
/-- The way up from one on a way up is its end. -/
theorem over_tail (T : Tree l) : ∀ (m : Nat) (i : Int), (over l i).length ≤ m → ∀ x, x ∈ over l i → over l x <:+ over l i
  | 0, i, hm, x, h => by
    have : over l i = [] := List.length_eq_zero_iff.1 (by omega)
    rw [this] at h
    cases h
  | m + 1, i, hm, x, h => by
    cases ht : thereB l i with
    | false => rw [over_none ht] at h; cases h
    | true =>
      have e := over_step T ht
      rw [e] at h
      rcases List.mem_cons.1 h with rfl | h
      · exact List.suffix_refl _
      · rw [e] at hm
        rw [e]
        exact (over_tail T m _ (by simpa using hm) x h).trans (List.suffix_cons _ _)
theorem over_suffix (T : Tree l) (h : x ∈ over l i) : over l x <:+ over l i := over_tail T _ i (Nat.le_refl _) x h
theorem over_trans (T : Tree l) (h : x ∈ over l i) (h' : y ∈ over l x) : y ∈ over l i := (over_suffix T h).subset h'
theorem over_in (h : x ∈ over l i) : thereB l x = true := up_there _ i x h
theorem over_from (h : x ∈ over l i) : thereB l i = true := by
  cases ht : thereB l i with
  | true => rfl
  | false => rw [over_none ht] at h; cases h
/-- Two that are above one another are one. -/
theorem over_both (T : Tree l) (h : x ∈ over l y) (h' : y ∈ over l x) : x = y := by
  have h1 := over_suffix T h
  have h2 := over_suffix T h'
  have e : over l x = over l y := h1.eq_of_length (Nat.le_antisymm h1.length_le h2.length_le)
  rw [over_step T (over_in h), over_step T (over_in h')] at e
  exact (List.cons.inj e).1
theorem over_ne (T : Tree l) (h : thereB l i = true) : over l i ≠ [] := by
  rw [over_step T h]
  simp

/-- The host of the tree that a node is in; 0: none. -/
def hostL (l : List Nd) (i : Int) : Int := if thereB l i = true then (nd l (rootL l i)).host else 0
theorem hostL_at (h : thereB l i = true) : hostL l i = (nd l (rootL l i)).host := if_pos h
theorem hostL_no (h : thereB l i = false) : hostL l i = 0 := if_neg (by rw [h]; decide)
theorem hostL_there (T : Tree l) (h : hostL l i ≠ 0) : thereB l (hostL l i) = true := by
  cases ht : thereB l i with
  | false => exact absurd (hostL_no ht) h
  | true =>
    rw [hostL_at ht] at h ⊢
    exact (T.host _ (rootL_there T ht) h).2
theorem over_host (T : Tree l) (h : thereB l i = true) : over l i = parL l i ++ over l (hostL l i) := by
  rw [hostL_at h]
  exact over_whole T h
theorem host_less (T : Tree l) (h : thereB l i = true) : (over l (hostL l i)).length + 1 ≤ (over l i).length := by
  rw [hostL_at h]
  exact over_less T h
theorem root_self (T : Tree l) (h : thereB l i = true) : rootL l (rootL l i) = rootL l i := rootL_own T (rootL_there T h) (rootL_bare T h)
theorem over_root (T : Tree l) (h : thereB l i = true) : over l (rootL l i) = rootL l i :: over l (hostL l i) := by
  have hr := rootL_there T h
  rw [over_host T hr, parL_root T h, hostL_at hr, root_self T h, hostL_at h]
  rfl
theorem root_over (T : Tree l) (h : thereB l i = true) : rootL l i ∈ over l i := by
  rw [over_host T h]
  exact List.mem_append_left _ (rootL_mem T h)

/-- What stands for a node in each of the trees around it. -/
def arN (l : List Nd) : Nat → Int → List Int
  | 0, _ => []
  | n + 1, i => if thereB l i then i :: arN l n (hostL l i) else []
def arL (l : List Nd) (i : Int) : List Int := arN l l.length i
theorem ar_go {n : Nat} (h : thereB l i = true) : arN l (n + 1) i = i :: arN l n (hostL l i) := by rw [arN, if_pos h]
theorem ar_no {n : Nat} (h : thereB l i = false) : arN l n i = [] := by
  cases n with
  | zero => rfl
  | succ n => rw [arN, if_neg (by rw [h]; decide)]
theorem ar_len : ∀ (n : Nat) (i : Int), (arN l n i).length ≤ n
  | 0, _ => Nat.le_refl 0
  | n + 1, i => by
    cases ht : thereB l i with
    | false => rw [ar_no ht]; exact Nat.zero_le _
    | true =>
      rw [ar_go ht]
      have := ar_len n (hostL l i)
      simpa using this
theorem ar_stay (T : Tree l) : ∀ (n m : Nat) (i : Int), (over l i).length ≤ n → (over l i).length ≤ m → arN l n i = arN l m i
  | n, m, i, hn, hm => by
    cases ht : thereB l i with
    | false => rw [ar_no ht, ar_no ht]
    | true =>
      have h1 := host_less T ht
      obtain ⟨n, rfl⟩ : ∃ k, n = k + 1 := ⟨n - 1, by omega⟩
      obtain ⟨m, rfl⟩ : ∃ k, m = k + 1 := ⟨m - 1, by omega⟩
      rw [ar_go ht, ar_go ht, ar_stay T n m (hostL l i) (by omega) (by omega)]
termination_by n => n
theorem arL_no (h : thereB l i = false) : arL l i = [] := ar_no h
theorem arL_step (T : Tree l) (h : thereB l i = true) : arL l i = i :: arL l (hostL l i) := by
  have h1 := host_less T h
  have h2 := over_short T i
  unfold arL
  obtain ⟨n, hn⟩ : ∃ k, l.length = k + 1 := ⟨l.length - 1, by omega⟩
  rw [hn, ar_go h, ar_stay T n (n + 1) (hostL l i) (by omega) (by omega)]
theorem arL_len (l : List Nd) (i : Int) : (arL l i).length ≤ l.length := ar_len _ _
/-- Going from tree to tree. -/
theorem trees (T : Tree l) {P : Int → Prop} (no : ∀ i, thereB l i = false → P i) (go : ∀ i, thereB l i = true → P (hostL l i) → P i) : ∀ i, P i := by
  have : ∀ (n : Nat) (i : Int), (over l i).length ≤ n → P i := by
    intro n
    induction n with
    | zero =>
      intro i hn
      refine no i ?_
      cases ht : thereB l i with
      | false => rfl
      | true => exact absurd (List.length_eq_zero_iff.1 (Nat.le_zero.1 hn)) (over_ne T ht)
    | succ n ih =>
      intro i hn
      cases ht : thereB l i with
      | false => exact no i ht
      | true =>
        have := host_less T ht
        exact go i ht (ih _ (by omega))
  exact fun i => this _ i (Nat.le_refl _)
theorem arL_there (T : Tree l) : ∀ i, ∀ x ∈ arL l i, thereB l x = true :=
  trees T (fun i h x hx => by rw [arL_no h] at hx; cases hx) fun i h ih x hx => by
    rw [arL_step T h] at hx
    rcases List.mem_cons.1 hx with rfl | hx
    · exact h
    · exact ih x hx

/-- The shadow-including root. -/
def wholeL (l : List Nd) (i : Int) : Int := lastL (over l i)
theorem whole_no (h : thereB l i = false) : wholeL l i = 0 := by
  unfold wholeL
  rw [over_none h]
  rfl
theorem whole_end (T : Tree l) (h : thereB l i = true) (h0 : hostL l i = 0) : wholeL l i = rootL l i := by
  unfold wholeL
  rw [over_host T h, h0, over_zero, List.append_nil]
  rfl
theorem whole_go (T : Tree l) (h0 : hostL l i ≠ 0) : wholeL l i = wholeL l (hostL l i) := by
  have ht : thereB l i = true := by
    cases ht : thereB l i with
    | true => rfl
    | false => exact absurd (hostL_no ht) h0
  unfold wholeL
  rw [over_host T ht]
  exact lastL_suffix (List.suffix_append _ _) (over_ne T (hostL_there T h0))
theorem whole_mem (T : Tree l) (h : thereB l i = true) : wholeL l i ∈ over l i := lastL_mem (over_ne T h)
theorem whole_own (T : Tree l) (h : thereB l i = true) : wholeL l (wholeL l i) = wholeL l i := by
  have hm := whole_mem T h
  have := lastL_suffix (over_suffix T hm) (over_ne T (over_in hm))
  exact this.symm
/-- The last of those around tells it. -/
theorem whole_ar (T : Tree l) : ∀ i, rootL l (lastL (arL l i)) = wholeL l i :=
  trees T (fun i h => by rw [arL_no h, whole_no h]; exact rootL_no (there_zero l)) fun i h ih => by
    rw [arL_step T h]
    by_cases h0 : hostL l i = 0
    · rw [whole_end T h h0, h0, arL_no (there_zero l)]
      rfl
    · rw [whole_go T h0, ← ih]
      have hne : arL l (hostL l i) ≠ [] := by rw [arL_step T (hostL_there T h0)]; simp
      rw [lastL_suffix (List.suffix_cons _ _) hne]

/-- Some one of those around has it above. -/
def anyUp (l : List Nd) (a : Int) (xs : List Int) : Bool := xs.any fun i => hasB (parL l i) a
theorem any_ar (T : Tree l) (a : Int) : ∀ i, anyUp l a (arL l i) = hasB (over l i) a :=
  trees T (fun i h => by rw [arL_no h, over_none h]; rfl) fun i h ih => by
    unfold anyUp at ih ⊢
    rw [arL_step T h, List.any_cons, ih]
    cases hp : hasB (parL l i) a with
    | true => rw [over_hit T hp]; rfl
    | false => rw [over_miss T h hp, hostL_at h]; rfl

/-- The closed roots around. -/
def shut (l : List Nd) (i : Int) : Bool := decide ((nd l (rootL l i)).mode = 2)
def clsOf (l : List Nd) (xs : List Int) : List Int := (xs.filter (shut l)).map (rootL l)
def clsL (l : List Nd) (i : Int) : List Int := clsOf l (arL l i)
theorem cls_yes {xs : List Int} (h : (nd l (rootL l i)).mode = 2) : clsOf l (i :: xs) = rootL l i :: clsOf l xs := by
  unfold clsOf
  rw [List.filter_cons_of_pos (by simpa [shut] using h), List.map_cons]
theorem cls_not {xs : List Int} (h : (nd l (rootL l i)).mode ≠ 2) : clsOf l (i :: xs) = clsOf l xs := by
  unfold clsOf
  rw [List.filter_cons_of_neg (by simpa [shut] using h)]
theorem cls_append (xs ys : List Int) : clsOf l (xs ++ ys) = clsOf l xs ++ clsOf l ys := by
  unfold clsOf
  rw [List.filter_append, List.map_append]
theorem cls_le (xs : List Int) : (clsOf l xs).length ≤ xs.length := by
  unfold clsOf
  rw [List.length_map]
  exact List.length_filter_le _ _
theorem clsL_no (h : thereB l i = false) : clsL l i = [] := by
  unfold clsL
  rw [arL_no h]
  rfl
theorem clsL_yes (T : Tree l) (h : thereB l i = true) (hm : (nd l (rootL l i)).mode = 2) : clsL l i = rootL l i :: clsL l (hostL l i) := by
  unfold clsL
  rw [arL_step T h, cls_yes hm]
theorem clsL_not (T : Tree l) (h : thereB l i = true) (hm : (nd l (rootL l i)).mode ≠ 2) : clsL l i = clsL l (hostL l i) := by
  unfold clsL
  rw [arL_step T h, cls_not hm]
theorem clsL_len (l : List Nd) (i : Int) : (clsL l i).length ≤ l.length := Nat.le_trans (cls_le _) (arL_len l i)
/-- A closed root around holds the node's root. -/
theorem cls_root (T : Tree l) : ∀ i, ∀ c ∈ clsL l i, c ∈ over l (rootL l i) :=
  trees T (fun i h c hc => by rw [clsL_no h] at hc; cases hc) fun i h ih c hc => by
    have up : c ∈ clsL l (hostL l i) → c ∈ over l (rootL l i) := fun hc => by
      have h1 := ih c hc
      have hh : thereB l (hostL l i) = true := by
        cases ht : thereB l (hostL l i) with
        | true => rfl
        | false => rw [clsL_no ht] at hc; cases hc
      rw [over_root T h]
      exact List.mem_cons_of_mem _ (over_trans T (root_over T hh) h1)
    by_cases hm : (nd l (rootL l i)).mode = 2
    · rw [clsL_yes T h hm] at hc
      rcases List.mem_cons.1 hc with rfl | hc
      · exact over_self T (rootL_there T h)
      · exact up hc
    · rw [clsL_not T h hm] at hc
      exact up hc
theorem cls_from {c : Int} (h : c ∈ clsL l i) : thereB l i = true := by
  cases ht : thereB l i with
  | true => rfl
  | false => rw [clsL_no ht] at h; cases h
theorem cls_over (T : Tree l) {c : Int} (h : c ∈ clsL l i) : c ∈ over l i := over_trans T (root_over T (cls_from h)) (cls_root T i c h)
theorem cls_there (T : Tree l) {c : Int} (h : c ∈ clsL l i) : thereB l c = true := over_in (cls_over T h)

/-- Is a hidden from b? The innermost closed root tells it. -/
def hidOf (l : List Nd) (cs : List Int) (b : Int) : Bool :=
  match cs with
  | [] => false
  | c :: _ => decide ((nd l c).host ≠ 0) && !hasB (over l b) c
def hidL (l : List Nd) (a b : Int) : Bool := thereB l b && hidOf l (clsL l a) b
theorem hid_noB (h : thereB l b = false) : hidL l a b = false := by unfold hidL; rw [h]; rfl
theorem hid_noA (h : thereB l a = false) : hidL l a b = false := by
  unfold hidL
  rw [clsL_no h]
  exact Bool.and_false _
theorem hid_none (h : clsL l a = []) : hidL l a b = false := by
  unfold hidL
  rw [h]
  exact Bool.and_false _
/-- What holds b hides nothing of what is in its tree. -/
theorem hid_held (T : Tree l) (h : rootL l a ∈ over l b) : hidL l a b = false := by
  unfold hidL
  cases hc : clsL l a with
  | nil => exact Bool.and_false _
  | cons c r =>
    have h1 := over_trans T h (cls_root T a c (by rw [hc]; exact List.mem_cons_self))
    show (_ && (_ && !hasB (over l b) c)) = false
    rw [hasB_yes h1]
    simp
theorem hid_end (T : Tree l) (h : hostL l a = 0) : hidL l a b = false := by
  cases ht : thereB l a with
  | false => exact hid_noA ht
  | true =>
    by_cases hm : (nd l (rootL l a)).mode = 2
    · unfold hidL
      rw [clsL_yes T ht hm]
      rw [hostL_at ht] at h
      show (_ && (decide ((nd l (rootL l a)).host ≠ 0) && _)) = false
      rw [h]
      simp
    · refine hid_none ?_
      rw [clsL_not T ht hm, h, clsL_no (there_zero l)]
theorem hid_shut (T : Tree l) (hb : thereB l b = true) (h : hostL l a ≠ 0) (hn : rootL l a ∉ over l b) (hm : (nd l (rootL l a)).mode = 2) : hidL l a b = true := by
  have ht : thereB l a = true := by
    cases ht : thereB l a with
    | true => rfl
    | false => exact absurd (hostL_no ht) h
  unfold hidL
  rw [clsL_yes T ht hm, hb]
  rw [hostL_at ht] at h
  show (true && (decide ((nd l (rootL l a)).host ≠ 0) && !hasB (over l b) (rootL l a))) = true
  rw [hasB_no hn, decide_eq_true h]
  rfl
theorem hid_next (T : Tree l) (h : hostL l a ≠ 0) (hm : (nd l (rootL l a)).mode ≠ 2) : hidL l a b = hidL l (hostL l a) b := by
  have ht : thereB l a = true := by
    cases ht : thereB l a with
    | true => rfl
    | false => exact absurd (hostL_no ht) h
  unfold hidL
  rw [clsL_not T ht hm]
theorem hid_self (T : Tree l) : hidL l a a = false := by
  cases ht : thereB l a with
  | false => exact hid_noA ht
  | true => exact hid_held T (root_over T ht)
/-- What is hidden lies in a closed tree that doesn't hold the other one. -/
def someOut (l : List Nd) (b : Int) (cs : List Int) : Bool := cs.any fun c => !hasB (over l b) c
theorem hid_some (h : hidL l a b = true) : someOut l b (clsL l a) = true := by
  unfold hidL at h
  unfold someOut
  cases hc : clsL l a with
  | nil => rw [hc] at h; simp [hidOf] at h
  | cons c r =>
    rw [hc] at h
    simp only [hidOf, Bool.and_eq_true] at h
    rw [List.any_cons, h.2.2]
    rfl
theorem someOut_step {b : Int} {cs : List Int} {k : Nat} (hk : k < cs.length) : someOut l b (cs.take (k + 1)) = (someOut l b (cs.take k) || !hasB (over l b) cs[k]) := by
  unfold someOut
  rw [List.take_add_one, List.getElem?_eq_getElem hk, Option.toList_some, List.any_append, List.any_cons, List.any_nil, Bool.or_false]
end

/-- Only shadow roots have a mode. -/
def Moded (l : List Nd) : Prop := ∀ d ∈ l, d.mode ≠ 0 → d.kind = 3
theorem moded_mod {l : List Nd} {id : Int} {f : Nd → Nd} (h : Moded l) (hf : ∀ d, (f d).mode = d.mode ∧ (f d).kind = d.kind) : Moded (modN l id f) := by
  intro d hd
  rcases List.mem_or_eq_of_mem_set hd with hd | rfl
  · exact h d hd
  · rw [(hf _).1, (hf _).2]
    unfold nd
    rw [List.getD_eq_getElem?_getD]
    cases e : l[(id - 1).toNat]? with
    | none => exact fun h0 => absurd rfl h0
    | some d => exact h d (List.mem_of_getElem? e)
theorem moded_toPar {p : Int} : ∀ (kids : List Int) {l : List Nd}, Moded l → Moded (toPar l p kids)
  | [], _, h => h
  | k :: r, l, h => by
    show Moded (toPar (modN l k _) p r)
    exact moded_toPar r (moded_mod h fun _ => ⟨rfl, rfl⟩)
theorem moded_clr {l : List Nd} {p : Int} (h : Moded l) : Moded (clr l p) := by
  intro d hd
  obtain ⟨d', hd', rfl⟩ := List.mem_map.1 hd
  split <;> exact h d' hd'
theorem mkErr_moded {n : Nat} {d : Nd} (h : mkErr n d = 0) : d.mode ≠ 0 → d.kind = 3 := by
  unfold mkErr at h
  split at h
  · cases h
  · split at h
    · cases h
    · rename_i h2
      intro hm
      refine Decidable.byContradiction fun hk => h2 (.inr ⟨hk, hm⟩)
theorem moded_mk {l : List Nd} {d : Nd} (h : Moded l) : Moded (mkL l d) := by
  unfold mkL
  split
  · rename_i h0
    intro x hx
    rcases List.mem_append.1 hx with hx | hx
    · exact h x hx
    · obtain rfl := List.mem_singleton.1 hx
      exact mkErr_moded h0
  · exact h
theorem moded_act {l : List Nd} {x : Ac} (h : Moded l) : Moded (actL l x) := by
  unfold actL
  split
  · exact moded_mk h
  · split
    · unfold putL
      split
      · exact moded_mod (moded_toPar _ (moded_clr h)) fun _ => ⟨rfl, rfl⟩
      · exact h
    · split
      · unfold tieL
        split
        · exact moded_mod (moded_mod h fun _ => ⟨rfl, rfl⟩) fun _ => ⟨rfl, rfl⟩
        · exact h
      · split
        · unfold nameL
          split
          · exact moded_mod h fun _ => ⟨rfl, rfl⟩
          · exact h
        · split
          · unfold wantL
            split
            · exact moded_mod h fun _ => ⟨rfl, rfl⟩
            · exact h
          · exact h
theorem moded_forest (acts : List Ac) : Moded (forest acts) := by
  have : ∀ (acts : List Ac) (l : List Nd), Moded l → Moded (acts.foldl actL l) := by
    intro acts
    induction acts with
    | nil => intro l T; exact T
    | cons x r ih => intro l T; exact ih _ (moded_act T)
  exact this acts [] fun d hd => absurd hd (by simp)
theorem moded_nd {l : List Nd} {i : Int} (h : Moded l) (hm : (nd l i).mode = 2) : (nd l i).kind = 3 := by
  unfold nd at hm ⊢
  rw [List.getD_eq_getElem?_getD] at hm ⊢
  cases e : l[(i - 1).toNat]? with
  | none => rw [e] at hm; cases hm
  | some d =>
    rw [e] at hm
    exact h d (List.mem_of_getElem? e) (by rw [show d.mode = 2 from hm]; decide)

/-- Attach: the node that is made, the error's number, the number, and the nodes. -/
def shadeNd (m : Int) : Nd := ⟨3, 0, 0, 0, m, false, ⟨#[]⟩, ⟨#[]⟩, []⟩
def attNo (l : List Nd) (h m : Int) : Int :=
  if thereB l h = false ∨ (m ≠ 1 ∧ m ≠ 2) then 0 else if (nd l h).kind ≠ 2 ∨ (nd l h).shadow ≠ 0 then 0 else mkNo l (shadeNd m)
def attErr (l : List Nd) (h m : Int) : Int :=
  if thereB l h = false ∨ (m ≠ 1 ∧ m ≠ 2) then 1 else if (nd l h).kind ≠ 2 ∨ (nd l h).shadow ≠ 0 then 5
  else if mkErr l.length (shadeNd m) = 0 then tieErr (mkL l (shadeNd m)) h (mkNo l (shadeNd m)) else mkErr l.length (shadeNd m)
def attL (l : List Nd) (h m : Int) : List Nd :=
  if thereB l h = false ∨ (m ≠ 1 ∧ m ≠ 2) then l else if (nd l h).kind ≠ 2 ∨ (nd l h).shadow ≠ 0 then l
  else if mkErr l.length (shadeNd m) = 0 then tieL (mkL l (shadeNd m)) h (mkNo l (shadeNd m)) else l
end Go.Proofs.Ytamhlapeihcchaa

namespace Go.Proofs.Ytamhlapeihcchaa
open Go Go.RowKit

section
variable {Rep : (Nat → Prop) → World → Nat → List Nd → Prop} {S : Nat → Prop} {w : World} {b : Nat} {l : List Nd}
set_option maxHeartbeats 4000000 in
set_option maxRecDepth 100000 in
theorem shAround (O : ForestOk Rep) (M : ForestMore Rep) (id : Int) (h : Rep S w b l) (hg : Good l) :
    Calls Try.prog 38 #[at_ b, .int .i64 id] w fun e w' => ∃ v, e = .returned v ∧ Pile w.heap.size w' v (arL l id) ∧ Below w.heap.size w w' := by
  have H := Lib.hid h
  have Hg := Lib.hid hg
  have hnot : ∀ (x : Bool) (w : World), (Op.unary .not (.bool x)).run Try.prog w = .ok (.bool (!x)) w := fun _ _ => rfl
  have hRl : (arL l id).length ≤ 128 := Nat.le_trans (arL_len l id) hg.len
  have hll := hg.len
  obtain ⟨R, hR⟩ : ∃ R, R = arL l id := ⟨_, rfl⟩
  rw [← hR] at hRl
  rw [← hR]
  have hR0 : ([] : List Int) ++ arN l (l.length - 0) id = R := by rw [hR]; rfl
  have HR0 := Lib.hid hR0
  clear h hg hR hR0
  go_enter Try.func38, Try.ntmps38
  go_wp2_with fail
  refine (M.len S w b l H.out Hg.out).mono ?_
  rintro e w0 ⟨rfl, hb0⟩
  have Hb0 := Lib.hid hb0
  clear hb0
  go_wp2_with fail
  go_loopw [1, 5, 10] (fun a o k wr => ∃ (i : Int) (j : Nat) (xs : List Int), a = .int .i64 i ∧ k = .int .i64 j ∧ j ≤ l.length ∧ xs ++ arN l (l.length - j) i = R ∧ Pile w.heap.size wr o xs ∧ Below w.heap.size w wr) (fun _ _ k _ => l.length - (intOf k).toNat)
  case atStart => exact ⟨id, 0, [], rfl, rfl, Nat.zero_le _, HR0.out, Pile.nil _ _, Hb0.out⟩
  case round =>
    obtain ⟨i, j, xs, rfl, rfl, hj, hxs, hP, hb⟩ := hrel
    have Hxs := Lib.hid hxs
    have hxl : xs.length ≤ 1000000 := by have := app_len hxs; omega
    have Hrep := Lib.hid (O.since H.out hb)
    clear HR0 Hb0 hxs
    obtain ⟨Ao, co, rfl, -⟩ := hP.form
    by_cases hjl : (j : Int) < l.length
    · have HP := Lib.hid hP
      have Hb := Lib.hid hb
      clear hP hb
      go_wp2_with fail
      refine (kinRoot O M i Hrep.out Hg.out).mono ?_
      rintro e w1 ⟨rfl, hb1⟩
      have Hrep1 := Lib.hid (O.since Hrep.out hb1)
      have HP1 := Lib.hid (HP.out.below hb1)
      have Hb1 := Lib.hid (Hb.out.trans (hb1.mono Hb.out.size))
      clear hb1 HP Hb Hrep
      cases ht : thereB l i with
      | false =>
        have e0 := rootL_no ht
        rw [e0]
        have hfin : xs = R := by
          have := Hxs.out
          rw [ar_no ht, List.append_nil] at this
          exact this
        subst hfin
        clear e0 ht Hxs
        go_wp2_with fail
        refine (nodeNo M Hrep1.out Hg.out (there_zero l)).mono ?_
        rintro e w2 ⟨A1, c1, rfl, -, hb2⟩
        have HF : Hid (Pile w.heap.size (w2.alloc (.cells #[.int .i64 0, .int .i64 0, .int .i64 0, .int .i64 0, .int .i64 0, .bool false, .string ⟨#[]⟩, .string ⟨#[]⟩, .slice A1 0 c1] 46)) (.slice Ao xs.length co) xs ∧ Below w.heap.size w (w2.alloc (.cells #[.int .i64 0, .int .i64 0, .int .i64 0, .int .i64 0, .int .i64 0, .bool false, .string ⟨#[]⟩, .string ⟨#[]⟩, .slice A1 0 c1] 46))) := Lib.hid ⟨(HP1.out.below hb2).alloc _, (Hb1.out.trans (hb2.mono Hb1.out.size)).alloc (Nat.le_trans Hb1.out.size hb2.size) _⟩
        clear hb2 HP1 Hb1 Hrep1
        go_wp2
        go_ret
        exact ⟨_, rfl, HF.out.1, HF.out.2⟩
      | true =>
        have hrt := rootL_there Hg.out.tree ht
        have hfin : (xs ++ [i]) ++ arN l (l.length - (j + 1)) (nd l (rootL l i)).host = R := by
          rw [List.append_assoc, List.singleton_append, ← hostL_at ht, ← ar_go (n := l.length - (j + 1)) ht, show l.length - (j + 1) + 1 = l.length - j by omega]
          exact Hxs.out
        have Hrt := Lib.hid hrt
        have Hfin := Lib.hid hfin
        obtain ⟨r, hr⟩ : ∃ r, r = rootL l i := ⟨_, rfl⟩
        rw [← hr] at Hrt Hfin
        rw [← hr]
        clear ht hrt hfin hr Hxs
        go_wp2_with fail
        refine (nodeYes M Hrep1.out Hg.out Hrt.out).mono ?_
        rintro e w2 ⟨A1, c1, rfl, -, hb2⟩
        obtain ⟨d, hd⟩ : ∃ d, d = nd l r := ⟨_, rfl⟩
        rw [← hd] at Hfin
        rw [← hd]
        have hB2 : Below w.heap.size w w2 := Hb1.out.trans (hb2.mono Hb1.out.size)
        have hP2 : Pile w.heap.size w2 (.slice Ao xs.length co) xs := HP1.out.below hb2
        have hown : ∀ g, (Value.slice Ao xs.length co).ownBlock = some g → w.heap.size ≤ g ∧ g < w2.heap.size := hP2.lt
        have HC : Hid (∀ w3, Keeps (fun i => (Value.slice Ao xs.length co).ownBlock = some i) ((w2.alloc (.cells #[.int .i64 d.kind, .int .i64 d.parent, .int .i64 d.host, .int .i64 d.shadow, .int .i64 d.mode, .bool d.slot, .string d.name, .string d.want, .slice A1 d.kids.length c1] 46)).alloc (.cells #[.int .i64 i] 3)) w3 → w3.cell? ⟨w2.heap.size, 2, none⟩ = some (.int .i64 d.host)) := Lib.hid fun w3 hk3 => by
          have hh : Has ((w2.alloc (.cells #[.int .i64 d.kind, .int .i64 d.parent, .int .i64 d.host, .int .i64 d.shadow, .int .i64 d.mode, .bool d.slot, .string d.name, .string d.want, .slice A1 d.kids.length c1] 46)).alloc (.cells #[.int .i64 i] 3)) w2.heap.size (.cells #[.int .i64 d.kind, .int .i64 d.parent, .int .i64 d.host, .int .i64 d.shadow, .int .i64 d.mode, .bool d.slot, .string d.name, .string d.want, .slice A1 d.kids.length c1] 46 (0, 0)) := (Has.fresh _ _).more _
          exact (hh.kept hk3 fun e => by have := (hown _ e).2; omega).cell 2
        have HP2 : Hid (Pile w.heap.size ((w2.alloc (.cells #[.int .i64 d.kind, .int .i64 d.parent, .int .i64 d.host, .int .i64 d.shadow, .int .i64 d.mode, .bool d.slot, .string d.name, .string d.want, .slice A1 d.kids.length c1] 46)).alloc (.cells #[.int .i64 i] 3)) (.slice Ao xs.length co) xs) := Lib.hid ((hP2.alloc _).alloc _)
        have HB2 : Hid (Has ((w2.alloc (.cells #[.int .i64 d.kind, .int .i64 d.parent, .int .i64 d.host, .int .i64 d.shadow, .int .i64 d.mode, .bool d.slot, .string d.name, .string d.want, .slice A1 d.kids.length c1] 46)).alloc (.cells #[.int .i64 i] 3)) (w2.heap.size + 1) (.cells #[.int .i64 i] 3 (0, 0))) := Lib.hid (by
          have := Has.fresh (w2.alloc (.cells #[.int .i64 d.kind, .int .i64 d.parent, .int .i64 d.host, .int .i64 d.shadow, .int .i64 d.mode, .bool d.slot, .string d.name, .string d.want, .slice A1 d.kids.length c1] 46)) (.cells #[.int .i64 i] 3)
          simpa using this)
        have HS2 : Hid (w.heap.size ≤ ((w2.alloc (.cells #[.int .i64 d.kind, .int .i64 d.parent, .int .i64 d.host, .int .i64 d.shadow, .int .i64 d.mode, .bool d.slot, .string d.name, .string d.want, .slice A1 d.kids.length c1] 46)).alloc (.cells #[.int .i64 i] 3)).heap.size) := Lib.hid (by have := hB2.size; simp; omega)
        have HE : Hid (∀ w3, Keeps (fun i => (Value.slice Ao xs.length co).ownBlock = some i) ((w2.alloc (.cells #[.int .i64 d.kind, .int .i64 d.parent, .int .i64 d.host, .int .i64 d.shadow, .int .i64 d.mode, .bool d.slot, .string d.name, .string d.want, .slice A1 d.kids.length c1] 46)).alloc (.cells #[.int .i64 i] 3)) w3 → Below w.heap.size w w3) := Lib.hid fun w3 hk3 =>
          below_then ((hB2.alloc hB2.size _).alloc (by have := hB2.size; simp; omega) _) hk3 (by have := hB2.size; simp; omega) fun i hi e => by have := (hown _ e).1; omega
        clear hd hb2 hB2 hP2 hown HP1 Hb1 Hrep1
        go_wp2_with (at_builtin; refine wpList_push rfl (.tmp 22) (.tmp 24) rfl rfl HP2.out rfl HB2.out hxl HS2.out ?_; intro g cap w3 hp3 hk3 _ _; have c1 := HC.out w3 hk3)
        go_roundw
        case rel => exact ⟨_, j + 1, xs ++ [i], rfl, by go_num, by omega, Hfin.out, by simpa using hp3, HE.out w3 hk3⟩
        case measure => simp [intOf]; omega
    · have hfin : xs = R := by
        have := Hxs.out
        rw [show l.length - j = 0 by omega, arN, List.append_nil] at this
        exact this
      subst hfin
      clear Hxs
      go_wp2
      go_ret
      exact ⟨_, rfl, hP, hb⟩
set_option maxHeartbeats 2000000 in
theorem shWhole (O : ForestOk Rep) (M : ForestMore Rep) (id : Int) (h : Rep S w b l) (hg : Good l) :
    Calls Try.prog 15 #[at_ b, .int .i64 id] w fun e w' => e = .returned (.int .i64 (wholeL l id)) ∧ Below w.heap.size w w' := by
  have C := Lib.hid (shAround O M id h hg)
  have H := Lib.hid h
  have Hg := Lib.hid hg
  have hRl : (arL l id).length ≤ 128 := Nat.le_trans (arL_len l id) hg.len
  rw [← whole_ar hg.tree id]
  obtain ⟨R, hR⟩ : ∃ R, R = arL l id := ⟨_, rfl⟩
  rw [← hR] at hRl C
  rw [← hR]
  clear h hg hR
  go_enter Try.func15, Try.ntmps15
  go_wp2_with fail
  refine C.out.mono ?_
  rintro e w1 ⟨v, rfl, hP, hb⟩
  obtain ⟨A, c, rfl, hL⟩ := hP.form
  clear C hP
  cases hm : R.length with
  | zero =>
    have e0 : rootL l (lastL R) = 0 := by
      rw [List.length_eq_zero_iff.1 hm]
      exact rootL_no (there_zero l)
    have E0 := Lib.hid e0
    clear e0 hm
    go_wp2
    go_ret
    rw [E0.out]
    exact ⟨rfl, hb⟩
  | succ m =>
    have e0 := lastL_at hm
    obtain ⟨b', off, rfl, -, hc⟩ := hL.nums m (by omega)
    obtain ⟨y, hy⟩ : ∃ y, y = R[m]'(by omega) := ⟨_, rfl⟩
    rw [← hy] at hc e0
    have E0 : Hid (rootL l (lastL R) = rootL l y) := Lib.hid (by rw [e0])
    have hm' : m ≤ 128 := by omega
    have z1 : (((m : Int) + 1) == 0) = false := by rw [beq_eq_false_iff_ne]; omega
    have Hb := Lib.hid hb
    have Hrep := Lib.hid (O.since H.out hb)
    clear hm hy hL hRl e0 hb
    go_wp2_with fail
    refine (kinRoot O M y Hrep.out Hg.out).mono ?_
    rintro e w2 ⟨rfl, hb2⟩
    have HB := Lib.hid (Hb.out.trans (hb2.mono Hb.out.size))
    clear hb2 Hrep Hb
    go_wp2
    go_ret
    rw [E0.out]
    exact ⟨rfl, HB.out⟩
set_option maxHeartbeats 4000000 in
set_option maxRecDepth 100000 in
theorem shClosed (O : ForestOk Rep) (M : ForestMore Rep) (id : Int) (h : Rep S w b l) (hg : Good l) :
    Calls Try.prog 22 #[at_ b, .int .i64 id] w fun e w' => ∃ v, e = .returned v ∧ Pile w.heap.size w' v (clsL l id) ∧ Below w.heap.size w w' := by
  have C := Lib.hid (shAround O M id h hg)
  have H := Lib.hid h
  have Hg := Lib.hid hg
  have hRl : (arL l id).length ≤ 128 := Nat.le_trans (arL_len l id) hg.len
  have hall := arL_there hg.tree id
  have hcls : clsL l id = clsOf l (arL l id) := rfl
  rw [hcls]
  obtain ⟨R, hR⟩ : ∃ R, R = arL l id := ⟨_, rfl⟩
  rw [← hR] at hRl C hall
  rw [← hR]
  have Hall := Lib.hid hall
  clear h hg hR hcls hall
  go_enter Try.func22, Try.ntmps22
  go_wp2_with fail
  refine C.out.mono ?_
  rintro e w1 ⟨v, rfl, hP, hb⟩
  obtain ⟨A, c, rfl, hL⟩ := hP.form
  have HL := Lib.hid hL
  have Hb := Lib.hid hb
  have Hs1 := Lib.hid hb.size
  obtain ⟨n, hn⟩ : ∃ n, n = R.length := ⟨_, rfl⟩
  rw [← hn] at hRl
  rw [← hn]
  have Hn := Lib.hid hn
  clear C hP hL hb hn
  go_wp2_with fail
  go_loopw [5, 15] (fun o k wr => ∃ j : Nat, k = .int .i64 j ∧ j ≤ n ∧ Pile w1.heap.size wr o (clsOf l (R.take j)) ∧ Below w1.heap.size w1 wr) (fun _ k _ => n - (intOf k).toNat)
  case atStart => exact ⟨0, rfl, Nat.zero_le _, Pile.nil _ _, Below.refl _ _⟩
  case round =>
    obtain ⟨j, rfl, hj, hPo, hbr⟩ := hrel
    obtain ⟨Ao, co, rfl, -⟩ := hPo.form
    by_cases hjn : (j : Int) < n
    · have hjk : j < R.length := by rw [← Hn.out]; omega
      obtain ⟨b', off, rfl, hB, hc0⟩ := HL.out.nums j hjk
      have hc : wr.cell? ⟨b', off + j, none⟩ = some (.int .i64 R[j]) := (hbr.cell (p := ⟨b', off + j, none⟩) hB).trans hc0
      have hth := Hall.out R[j] (List.getElem_mem hjk)
      have htk : R.take (j + 1) = R.take j ++ [R[j]] := by rw [List.take_add_one, List.getElem?_eq_getElem hjk]; rfl
      have hxl : (clsOf l (R.take j)).length ≤ 1000000 := by
        have h1 := cls_le (l := l) (R.take j)
        rw [List.length_take] at h1
        omega
      obtain ⟨y, hy⟩ : ∃ y, y = R[j] := ⟨_, rfl⟩
      rw [← hy] at hc hth htk
      have hst : clsOf l (R.take (j + 1)) = clsOf l (R.take j) ++ clsOf l [y] := by rw [htk, cls_append]
      obtain ⟨xs, hxs⟩ : ∃ xs, xs = clsOf l (R.take j) := ⟨_, rfl⟩
      rw [← hxs] at hst hxl hPo
      rw [← hxs]
      have hrt := rootL_there Hg.out.tree hth
      have Hrt := Lib.hid hrt
      have Hst := Lib.hid hst
      have HPo := Lib.hid hPo
      have Hbr := Lib.hid hbr
      have Hrep := Lib.hid (O.since (O.since H.out Hb.out) hbr)
      clear hth hst hc0 hy hxs hjk hrt htk hPo hbr hB
      go_wp2_with fail
      refine (kinRoot O M y Hrep.out Hg.out).mono ?_
      rintro e w2 ⟨rfl, hb2⟩
      have Hrep2 := Lib.hid (O.since Hrep.out hb2)
      have HP2 := Lib.hid (HPo.out.below hb2)
      have Hb2 := Lib.hid (Hbr.out.trans (hb2.mono Hbr.out.size))
      have e2 : ∀ m, (nd l (rootL l y)).mode = m → (m = 2 → clsOf l [y] = [rootL l y]) ∧ (m ≠ 2 → clsOf l [y] = []) := fun m hm => by
        subst hm
        exact ⟨fun h => cls_yes h, fun h => cls_not h⟩
      obtain ⟨r, hr⟩ : ∃ r, r = rootL l y := ⟨_, rfl⟩
      rw [← hr] at Hrt e2
      rw [← hr]
      have E2 := Lib.hid e2
      clear hb2 hr e2 HPo Hbr Hrep hc
      go_wp2_with fail
      refine (nodeYes M Hrep2.out Hg.out Hrt.out).mono ?_
      rintro e w3 ⟨A1, c1, rfl, -, hb3⟩
      have e3 := E2.out _ rfl
      obtain ⟨d, hd⟩ : ∃ d, d = nd l r := ⟨_, rfl⟩
      rw [← hd] at e3
      rw [← hd]
      have hB3 : Below w1.heap.size w1 w3 := Hb2.out.trans (hb3.mono Hb2.out.size)
      have hP3 : Pile w1.heap.size w3 (.slice Ao xs.length co) xs := HP2.out.below hb3
      have x4 : (w3.alloc (.cells #[.int .i64 d.kind, .int .i64 d.parent, .int .i64 d.host, .int .i64 d.shadow, .int .i64 d.mode, .bool d.slot, .string d.name, .string d.want, .slice A1 d.kids.length c1] 46)).cell? ⟨w3.heap.size, 4, none⟩ = some (.int .i64 d.mode) := (Has.fresh w3 (.cells #[.int .i64 d.kind, .int .i64 d.parent, .int .i64 d.host, .int .i64 d.shadow, .int .i64 d.mode, .bool d.slot, .string d.name, .string d.want, .slice A1 d.kids.length c1] 46)).cell 4
      have E3 := Lib.hid e3
      clear hd hb3 HP2 Hb2 Hrep2 e3 E2
      by_cases hm : d.mode = 2
      · have hfin : xs ++ [r] = clsOf l (R.take (j + 1)) := by rw [Hst.out, E3.out.1 hm]
        have Hfin := Lib.hid hfin
        have hown : ∀ g, (Value.slice Ao xs.length co).ownBlock = some g → w1.heap.size ≤ g ∧ g < w3.heap.size := hP3.lt
        have HP2 : Hid (Pile w1.heap.size ((w3.alloc (.cells #[.int .i64 d.kind, .int .i64 d.parent, .int .i64 d.host, .int .i64 d.shadow, .int .i64 d.mode, .bool d.slot, .string d.name, .string d.want, .slice A1 d.kids.length c1] 46)).alloc (.cells #[.int .i64 r] 3)) (.slice Ao xs.length co) xs) := Lib.hid ((hP3.alloc _).alloc _)
        have HB2 : Hid (Has ((w3.alloc (.cells #[.int .i64 d.kind, .int .i64 d.parent, .int .i64 d.host, .int .i64 d.shadow, .int .i64 d.mode, .bool d.slot, .string d.name, .string d.want, .slice A1 d.kids.length c1] 46)).alloc (.cells #[.int .i64 r] 3)) (w3.heap.size + 1) (.cells #[.int .i64 r] 3 (0, 0))) := Lib.hid (by
          have := Has.fresh (w3.alloc (.cells #[.int .i64 d.kind, .int .i64 d.parent, .int .i64 d.host, .int .i64 d.shadow, .int .i64 d.mode, .bool d.slot, .string d.name, .string d.want, .slice A1 d.kids.length c1] 46)) (.cells #[.int .i64 r] 3)
          simpa using this)
        have HS2 : Hid (w1.heap.size ≤ ((w3.alloc (.cells #[.int .i64 d.kind, .int .i64 d.parent, .int .i64 d.host, .int .i64 d.shadow, .int .i64 d.mode, .bool d.slot, .string d.name, .string d.want, .slice A1 d.kids.length c1] 46)).alloc (.cells #[.int .i64 r] 3)).heap.size) := Lib.hid (by have := hB3.size; simp; omega)
        have HE : Hid (∀ w4, Keeps (fun i => (Value.slice Ao xs.length co).ownBlock = some i) ((w3.alloc (.cells #[.int .i64 d.kind, .int .i64 d.parent, .int .i64 d.host, .int .i64 d.shadow, .int .i64 d.mode, .bool d.slot, .string d.name, .string d.want, .slice A1 d.kids.length c1] 46)).alloc (.cells #[.int .i64 r] 3)) w4 → Below w1.heap.size w1 w4) := Lib.hid fun w4 hk4 =>
          below_then ((hB3.alloc hB3.size _).alloc (by have := hB3.size; simp; omega) _) hk4 (by have := hB3.size; simp; omega) fun i hi e => by have := (hown _ e).1; omega
        have zm : (d.mode == 2) = true := by simpa using hm
        clear hfin hown hP3 hB3 hm E3 Hst
        go_wp2_with (at_builtin; refine wpList_push rfl (.tmp 31) (.tmp 33) rfl rfl HP2.out rfl HB2.out hxl HS2.out ?_; intro g cap w4 hp4 hk4 _ _)
        go_roundw
        case rel => exact ⟨j + 1, by go_num, by omega, by rw [← Hfin.out]; simpa using hp4, HE.out w4 hk4⟩
        case measure => simp [intOf]; omega
      · have hfin : xs = clsOf l (R.take (j + 1)) := by rw [Hst.out, E3.out.2 hm, List.append_nil]
        have Hfin := Lib.hid hfin
        have zm : (d.mode == 2) = false := by simpa using hm
        have HF : Hid (Pile w1.heap.size (w3.alloc (.cells #[.int .i64 d.kind, .int .i64 d.parent, .int .i64 d.host, .int .i64 d.shadow, .int .i64 d.mode, .bool d.slot, .string d.name, .string d.want, .slice A1 d.kids.length c1] 46)) (.slice Ao xs.length co) xs ∧ Below w1.heap.size w1 (w3.alloc (.cells #[.int .i64 d.kind, .int .i64 d.parent, .int .i64 d.host, .int .i64 d.shadow, .int .i64 d.mode, .bool d.slot, .string d.name, .string d.want, .slice A1 d.kids.length c1] 46))) := Lib.hid ⟨hP3.alloc _, hB3.alloc hB3.size _⟩
        clear hfin hm E3 Hst hP3 hB3
        go_wp2
        go_roundw
        case rel => exact ⟨j + 1, by go_num, by omega, by rw [← Hfin.out]; exact HF.out.1, HF.out.2⟩
        case measure => simp [intOf]; omega
    · have he : clsOf l (R.take j) = clsOf l R := by rw [List.take_of_length_le (by rw [← Hn.out]; omega)]
      rw [he] at hPo
      rw [he]
      clear he
      go_wp2
      go_ret
      exact ⟨_, rfl, hPo.from_ Hs1.out, Hb.out.trans (hbr.mono Hs1.out)⟩
end
end Go.Proofs.Ytamhlapeihcchaa

namespace Go.Proofs.Ytamhlapeihcchaa
open Go Go.RowKit

theorem anyUp_step {l : List Nd} {a : Int} {xs : List Int} {k : Nat} (hk : k < xs.length) : anyUp l a (xs.take (k + 1)) = (anyUp l a (xs.take k) || hasB (parL l xs[k]) a) := by
  unfold anyUp
  rw [List.take_add_one, List.getElem?_eq_getElem hk, Option.toList_some, List.any_append, List.any_cons, List.any_nil, Bool.or_false]
theorem anyUp_mem {l : List Nd} {a : Int} {xs : List Int} {k : Nat} (hk : k < xs.length) (h : hasB (parL l xs[k]) a = true) : anyUp l a xs = true := List.any_eq_true.2 ⟨xs[k], List.getElem_mem hk, h⟩
section
variable {Rep : (Nat → Prop) → World → Nat → List Nd → Prop} {S : Nat → Prop} {w : World} {b : Nat} {l : List Nd}
/-- The forest's pointer and a number, in two blocks. -/
structure Capd (w : World) (b : Nat) (a : Int) (B : Nat) : Prop where
  hp : Has w B (.cells #[at_ b] 25 (0, 0))
  hq : Has w (B + 1) (.cells #[.int .i64 a] 3 (0, 0))
theorem Capd.below {w' : World} {a : Int} {B : Nat} (h : Capd w b a B) (k : Below w.heap.size w w') : Capd w' b a B := ⟨h.hp.below k h.hp.inside, h.hq.below k h.hq.inside⟩
set_option maxHeartbeats 1000000 in
theorem shHolds1 (O : ForestOk Rep) (M : ForestMore Rep) (a x : Int) {B : Nat} (h : Rep S w b l) (hg : Good l) (hc : Capd w b a B) :
    Calls Try.prog 42 #[.int .i64 x, .pointer (some ⟨B, 0, none⟩), .pointer (some ⟨B + 1, 0, none⟩)] w fun e w' => e = .returned (.bool (hasB (parL l x) a)) ∧ Below w.heap.size w w' := by
  have H := Lib.hid h
  have Hg := Lib.hid hg
  have p0 : w.cell? ⟨B, 0, none⟩ = some (at_ b) := hc.hp.cell 0
  have q0 : w.cell? ⟨B + 1, 0, none⟩ = some (.int .i64 a) := hc.hq.cell 0
  clear h hg hc
  go_enter Try.func42, Try.ntmps42
  go_wp2_with fail
  refine (kinAbove O M a x H.out Hg.out).mono ?_
  rintro e w1 ⟨rfl, hb1⟩
  go_wp2
  go_ret
  exact ⟨rfl, hb1⟩
/-- The function that Holds hands on. -/
abbrev holdsF (B : Nat) : Value := .func (.func 42) #[] #[.pointer (some ⟨B, 0, none⟩), .pointer (some ⟨B + 1, 0, none⟩)]
set_option maxHeartbeats 4000000 in
theorem indexFunc_any (O : ForestOk Rep) (M : ForestMore Rep) (a : Int) (xs : List Int) (A : Option Addr) (n c : Nat) {B : Nat} (hn : n = xs.length) (hl : n ≤ 1000000) (hL : ListIn w A c xs) (h : Rep S w b l) (hg : Good l) (hc : Capd w b a B) :
    Calls Try.prog 62 #[.slice A n c, holdsF B] w fun e w' => (∃ k : Int, e = .returned (.int .i64 k) ∧ decide (0 ≤ k) = anyUp l a xs) ∧ Below w.heap.size w w' := by
  have Hn := Lib.hid hn
  have HL := Lib.hid hL
  have H := Lib.hid h
  have Hg := Lib.hid hg
  have Hc := Lib.hid hc
  clear hn hL h hg hc
  go_enter Try.func62, Try.ntmps62
  go_wp2_with fail
  go_loopw [8] (fun i wr => ∃ k : Nat, i = .int .i64 k ∧ k ≤ n ∧ anyUp l a (xs.take k) = false ∧ Below w.heap.size w wr) (fun i _ => n - (intOf i).toNat)
  case atStart => exact ⟨0, rfl, Nat.zero_le _, rfl, Below.refl _ _⟩
  case round =>
    obtain ⟨k, rfl, hk, hno, hb⟩ := hrel
    have Hno := Lib.hid hno
    clear hno
    by_cases hlt : (k : Int) < n
    · have hkl : k < xs.length := by rw [← Hn.out]; omega
      obtain ⟨b', off, rfl, hB, hcell0⟩ := HL.out.nums k hkl
      have hcell : wr.cell? ⟨b', off + k, none⟩ = some (.int .i64 xs[k]) := (hb.cell (p := ⟨b', off + k, none⟩) hB).trans hcell0
      have hst := anyUp_step (l := l) (a := a) hkl
      have hme := anyUp_mem (l := l) (a := a) hkl
      obtain ⟨y, hy⟩ : ∃ y, y = xs[k] := ⟨_, rfl⟩
      rw [← hy] at hcell hst hme
      have Hst := Lib.hid hst
      have Hme := Lib.hid hme
      have Hrep := Lib.hid (O.since H.out hb)
      have Hcr := Lib.hid (Hc.out.below hb)
      have Hb := Lib.hid hb
      clear hy hB hcell0 hst hme hkl hb
      go_wp2_with fail
      refine (shHolds1 O M a y Hrep.out Hg.out Hcr.out).mono ?_
      rintro e w1 ⟨rfl, hb1⟩
      have HB := Lib.hid (Hb.out.trans (hb1.mono Hb.out.size))
      clear hb1
      cases hp : hasB (parL l y) a with
      | true =>
        have e1 := Hme.out hp
        have E1 := Lib.hid e1
        clear e1 hp
        go_wp2
        go_ret
        refine ⟨⟨(k : Int), rfl, ?_⟩, HB.out⟩
        rw [E1.out]
        exact decide_eq_true (by omega)
      | false =>
        have e1 := Hst.out
        rw [hp, Hno.out] at e1
        have E1 := Lib.hid e1
        clear e1 hp
        go_wp2
        go_roundw
        case rel => exact ⟨k + 1, by go_num, by omega, E1.out, HB.out⟩
        case measure => simp [intOf]; omega
    · have e1 : anyUp l a xs = false := by
        have := Hno.out
        rw [List.take_of_length_le (by rw [← Hn.out]; omega)] at this
        exact this
      have E1 := Lib.hid e1
      clear e1
      go_wp2
      go_ret
      exact ⟨⟨-1, rfl, by rw [E1.out]; rfl⟩, hb⟩
set_option maxHeartbeats 1000000 in
theorem containsFunc_any (O : ForestOk Rep) (M : ForestMore Rep) (a : Int) (xs : List Int) (A : Option Addr) (n c : Nat) {B : Nat} (hn : n = xs.length) (hl : n ≤ 1000000) (hL : ListIn w A c xs) (h : Rep S w b l) (hg : Good l) (hc : Capd w b a B) :
    Calls Try.prog 41 #[.slice A n c, holdsF B] w fun e w' => e = .returned (.bool (anyUp l a xs)) ∧ Below w.heap.size w w' := by
  have C := Lib.hid (indexFunc_any O M a xs A n c hn hl hL h hg hc)
  clear hn hL h hg hc
  go_enter Try.func41, Try.ntmps41
  go_wp2_with fail
  refine C.out.mono ?_
  rintro e w1 ⟨⟨k, rfl, hk⟩, hb⟩
  have Hk := Lib.hid hk
  clear hk
  go_wp2
  go_ret
  rw [← Hk.out]
  exact ⟨rfl, hb⟩
set_option maxHeartbeats 2000000 in
theorem shHolds (O : ForestOk Rep) (M : ForestMore Rep) (a i : Int) (h : Rep S w b l) (hg : Good l) :
    Calls Try.prog 17 #[at_ b, .int .i64 a, .int .i64 i] w fun e w' => e = .returned (.bool (hasB (over l i) a)) ∧ Below w.heap.size w w' := by
  have hmf : ∀ (fn : Fn) (first cap : Array Value) (w : World), (Instr.makeFunc fn first cap).run Try.prog w = .ok (.func fn first cap) w := fun _ _ _ _ => rfl
  have hany := any_ar hg.tree a i
  have hRl : (arL l i).length ≤ 1000000 := Nat.le_trans (Nat.le_trans (arL_len l i) hg.len) (by decide)
  obtain ⟨W, hW⟩ : ∃ W, W = (w.alloc (.cells #[at_ b] 25)).alloc (.cells #[.int .i64 a] 3) := ⟨_, rfl⟩
  have hb : Below w.heap.size w W := by
    rw [hW]
    exact ((Below.refl _ w).alloc (Nat.le_refl _) _).alloc (by simp) _
  have hC : Capd W b a w.heap.size := by
    refine ⟨?_, ?_⟩
    · rw [hW]
      exact (Has.fresh _ _).more _
    · rw [hW]
      have := Has.fresh (w.alloc (.cells #[at_ b] 25)) (.cells #[.int .i64 a] 3)
      rw [show (w.alloc (.cells #[at_ b] 25)).heap.size = w.heap.size + 1 by simp] at this
      exact this
  have p0 : W.cell? ⟨w.heap.size, 0, none⟩ = some (at_ b) := hC.hp.cell 0
  have HR := Lib.hid (O.since h hb)
  have C := Lib.hid (shAround O M i (O.since h hb) hg)
  have Hg := Lib.hid hg
  have HC := Lib.hid hC
  have Hb := Lib.hid hb
  have HW := Lib.hid hW
  rw [← hany]
  obtain ⟨R, hR⟩ : ∃ R, R = arL l i := ⟨_, rfl⟩
  rw [← hR] at hRl C
  rw [← hR]
  rw [hW] at p0
  clear h hg hany hb hC hW hR
  go_enter Try.func17, Try.ntmps17
  go_wp2_with fail
  rw [← HW.out]
  refine C.out.mono ?_
  rintro e w1 ⟨v, rfl, hP, hb1⟩
  obtain ⟨A, c, rfl, hL⟩ := hP.form
  have HR1 := Lib.hid (O.since HR.out hb1)
  have HC1 := Lib.hid (HC.out.below hb1)
  have HB1 := Lib.hid (Hb.out.trans (hb1.mono Hb.out.size))
  have HL := Lib.hid hL
  clear hP hL hb1 C HR HC Hb p0
  go_wp2_with fail
  refine (containsFunc_any O M a R A R.length c rfl hRl HL.out HR1.out Hg.out HC1.out).mono ?_
  rintro e w2 ⟨rfl, hb2⟩
  have HB2 := Lib.hid (HB1.out.trans (hb2.mono HB1.out.size))
  clear hb2
  go_wp2
  go_ret
  exact ⟨rfl, HB2.out⟩
set_option maxHeartbeats 4000000 in
set_option maxRecDepth 100000 in
theorem shHidden (O : ForestOk Rep) (M : ForestMore Rep) (a i : Int) (h : Rep S w b l) (hg : Good l) :
    Calls Try.prog 19 #[at_ b, .int .i64 a, .int .i64 i] w fun e w' => e = .returned (.bool (hidL l a i)) ∧ Below w.heap.size w w' := by
  have hnot : ∀ (x : Bool) (w : World), (Op.unary .not (.bool x)).run Try.prog w = .ok (.bool (!x)) w := fun _ _ => rfl
  have H := Lib.hid h
  have Hg := Lib.hid hg
  obtain ⟨R, hR⟩ : ∃ R, R = hidL l a i := ⟨_, rfl⟩
  rw [← hR]
  have HR := Lib.hid hR
  clear h hg hR
  cases ht : thereB l i with
  | false =>
    have e0 : R = false := by rw [HR.out, hid_noB ht]
    subst e0
    have Ht := Lib.hid ht
    clear ht HR
    go_enter Try.func19, Try.ntmps19
    go_wp2_with fail
    refine (nodeNo M H.out Hg.out Ht.out).mono ?_
    rintro e w1 ⟨A1, c1, rfl, -, hb1⟩
    have hb2 : Below w.heap.size w (w1.alloc (.cells #[.int .i64 0, .int .i64 0, .int .i64 0, .int .i64 0, .int .i64 0, .bool false, .string ⟨#[]⟩, .string ⟨#[]⟩, .slice A1 0 c1] 46)) := hb1.alloc hb1.size _
    have HB2 := Lib.hid hb2
    have HR2 := Lib.hid (O.since H.out hb2)
    clear hb1 hb2
    go_wp2_with fail
    refine (shClosed O M a HR2.out Hg.out).mono ?_
    rintro e w3 ⟨v, rfl, hP, hb3⟩
    obtain ⟨A, c, rfl, -⟩ := hP.form
    have HB3 := Lib.hid (HB2.out.trans (hb3.mono HB2.out.size))
    clear hP hb3
    go_wp2
    go_ret
    exact ⟨rfl, HB3.out⟩
  | true =>
    have Ht := Lib.hid ht
    clear ht
    go_enter Try.func19, Try.ntmps19
    go_wp2_with fail
    refine (nodeYes M H.out Hg.out Ht.out).mono ?_
    rintro e w1 ⟨A1, c1, rfl, -, hb1⟩
    obtain ⟨d, hd⟩ : ∃ d, d = nd l i := ⟨_, rfl⟩
    rw [← hd]
    have hb2 : Below w.heap.size w (w1.alloc (.cells #[.int .i64 d.kind, .int .i64 d.parent, .int .i64 d.host, .int .i64 d.shadow, .int .i64 d.mode, .bool d.slot, .string d.name, .string d.want, .slice A1 d.kids.length c1] 46)) := hb1.alloc hb1.size _
    have HB2 := Lib.hid hb2
    have HR2 := Lib.hid (O.since H.out hb2)
    clear hb1 hb2 hd
    go_wp2_with fail
    refine (shClosed O M a HR2.out Hg.out).mono ?_
    rintro e w3 ⟨v, rfl, hP, hb3⟩
    obtain ⟨A, c, rfl, hL⟩ := hP.form
    have HB3 := Lib.hid (HB2.out.trans (hb3.mono HB2.out.size))
    have HR3 := Lib.hid (O.since HR2.out hb3)
    have hlen : (clsL l a).length ≤ 128 := Nat.le_trans (clsL_len l a) Hg.out.len
    clear hb3 HB2 HR2 hP
    cases hcs : clsL l a with
    | nil =>
      have e0 : R = false := by rw [HR.out, hid_none hcs]
      subst e0
      clear hcs HR hL hlen
      go_wp2
      go_ret
      exact ⟨rfl, HB3.out⟩
    | cons q qs =>
      have hqt : thereB l q = true := cls_there Hg.out.tree (i := a) (by rw [hcs]; exact List.mem_cons_self)
      have e0 : R = (decide ((nd l q).host ≠ 0) && !hasB (over l i) q) := by
        rw [HR.out]
        unfold hidL
        rw [hcs, Ht.out]
        rfl
      rw [hcs] at hL hlen
      obtain ⟨b', off, rfl, hB, hc⟩ := hL.nums 0 (by simp)
      have hc3 : w3.cell? ⟨b', off, none⟩ = some (.int .i64 q) := hc
      have Hqt := Lib.hid hqt
      have E0 := Lib.hid e0
      have HBb := Lib.hid hB
      have HC3 := Lib.hid hc3
      have hn0 : (qs.length : Int) + 1 ≠ 0 := by omega
      have z0 : (((qs.length : Int) + 1) == 0) = false := by rw [beq_eq_false_iff_ne]; omega
      have hql : (qs.length : Int) ≤ 128 := by simp at hlen; omega
      clear hcs hqt e0 hL hc hB hlen HR hn0
      go_wp2_with fail
      refine (nodeYes M HR3.out Hg.out Hqt.out).mono ?_
      rintro e w4 ⟨A4, c4, rfl, -, hb4⟩
      obtain ⟨d4, hd4⟩ : ∃ d4, d4 = nd l q := ⟨_, rfl⟩
      rw [← hd4] at E0
      rw [← hd4]
      have hb5 : Below w3.heap.size w3 (w4.alloc (.cells #[.int .i64 d4.kind, .int .i64 d4.parent, .int .i64 d4.host, .int .i64 d4.shadow, .int .i64 d4.mode, .bool d4.slot, .string d4.name, .string d4.want, .slice A4 d4.kids.length c4] 46)) := hb4.alloc hb4.size _
      have HB5 := Lib.hid (HB3.out.trans (hb5.mono HB3.out.size))
      have HR5 := Lib.hid (O.since HR3.out hb5)
      have x2 : (w4.alloc (.cells #[.int .i64 d4.kind, .int .i64 d4.parent, .int .i64 d4.host, .int .i64 d4.shadow, .int .i64 d4.mode, .bool d4.slot, .string d4.name, .string d4.want, .slice A4 d4.kids.length c4] 46)).cell? ⟨w4.heap.size, 2, none⟩ = some (.int .i64 d4.host) := (Has.fresh w4 (.cells #[.int .i64 d4.kind, .int .i64 d4.parent, .int .i64 d4.host, .int .i64 d4.shadow, .int .i64 d4.mode, .bool d4.slot, .string d4.name, .string d4.want, .slice A4 d4.kids.length c4] 46)).cell 2
      have y2 : (w4.alloc (.cells #[.int .i64 d4.kind, .int .i64 d4.parent, .int .i64 d4.host, .int .i64 d4.shadow, .int .i64 d4.mode, .bool d4.slot, .string d4.name, .string d4.want, .slice A4 d4.kids.length c4] 46)).cell? ⟨b', off, none⟩ = some (.int .i64 q) := (hb5.cell (p := ⟨b', off, none⟩) HBb.out).trans HC3.out
      clear hd4 hb4 hb5 HB3 HR3
      by_cases h0 : d4.host = 0
      · have e1 : R = false := by
          rw [E0.out, h0]
          rfl
        subst e1
        have z1 : (d4.host != 0) = false := by simpa using h0
        clear h0 E0
        go_wp2
        go_ret
        exact ⟨rfl, HB5.out⟩
      · have e1 : R = !hasB (over l i) q := by rw [E0.out, decide_eq_true h0]; rfl
        subst e1
        have z1 : (d4.host != 0) = true := by simpa using h0
        clear h0 E0
        go_wp2_with fail
        refine (shHolds O M q i HR5.out Hg.out).mono ?_
        rintro e w6 ⟨rfl, hb6⟩
        have HB6 := Lib.hid (HB5.out.trans (hb6.mono HB5.out.size))
        clear hb6
        go_wp2
        go_ret
        exact ⟨rfl, HB6.out⟩
end
end Go.Proofs.Ytamhlapeihcchaa
