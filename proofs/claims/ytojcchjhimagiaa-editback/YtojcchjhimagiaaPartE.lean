/-
  Forests, plain: ways up by parents alone, tree order. No program is named here.
  Lists of numbers that a call builds: put behind, cut off at the end, read. Only towncrier's types are named here, and slices.Index, slices.Contains.
  What package kin's Up, Root, Above do with an arena that keeps its promises.
  What package kin's Root, Above, row, Index and Next do with an arena that keeps its promises.
  What towncrierref04.Nodes and Up, towncrierref05.Root and Above do.
  What package kin's Count and Order do with an arena that keeps its promises.
  What towncrierref05.Index, Next and Count do.
  A forest and the document's list of the same nodes, side by side.
  What package edit's joined does: lists are put together from pieces.
  Forests, plain: host-including ancestors, and what the document says of Check. No program is named here.
  Changes of forests, plain: what Remove and Before make of a list of nodes. No program is named here.
-/
import Derived.Test.YtojcchjhimagiaaPartD

namespace Go.Proofs.Ytojcchjhimagiaa
open Go

/-- A node, its parent, and so on. -/
def parN (l : List Nd) : Nat → Int → List Int
  | 0, _ => []
  | n + 1, id => if thereB l id then id :: parN l n (nd l id).parent else []
def parL (l : List Nd) (id : Int) : List Int := parN l (l.length + 1) id
/-- A node and all below it. -/
def ordN (l : List Nd) : Nat → Int → List Int
  | 0, _ => []
  | n + 1, id => if thereB l id then id :: (nd l id).kids.flatMap (ordN l n) else []
def ordL (l : List Nd) (id : Int) : List Int := ordN l (l.length + 1) id
/-- The last one of a list; 0: there is none. -/
def lastL (xs : List Int) : Int := xs.getLastD 0
def rootL (l : List Nd) (id : Int) : Int := lastL (parL l id)

section
variable {l : List Nd} {n : Nat} {i x k : Int}
theorem par_go (h : thereB l i = true) : parN l (n + 1) i = i :: parN l n (nd l i).parent := by rw [parN, if_pos h]
theorem par_no (h : thereB l i = false) : parN l n i = [] := by
  cases n with
  | zero => rfl
  | succ n => rw [parN, if_neg (by rw [h]; decide)]
/-- It is the beginning of the way up. -/
theorem par_pre : ∀ (n : Nat) (i : Int), parN l n i <+: overN l n i
  | 0, _ => List.prefix_refl _
  | n + 1, i => by
    cases h : thereB l i with
    | false => rw [par_no h]; exact List.nil_prefix
    | true =>
      rw [par_go h, up_go h, List.cons_prefix_cons]
      refine ⟨rfl, ?_⟩
      by_cases hp : (nd l i).parent = 0
      · rw [hp, par_no (there_zero l)]
        exact List.nil_prefix
      · have e : upOf l i = (nd l i).parent := if_neg hp
        rw [e]
        exact par_pre n _
theorem par_short (T : Tree l) (n : Nat) (i : Int) : (parN l n i).length ≤ l.length := Nat.le_trans (par_pre n i).length_le (up_short T.ends n i)
theorem par_once (T : Tree l) (n : Nat) (i : Int) : (parN l n i).Nodup := (up_once T.ends n i).sublist (par_pre n i).sublist
theorem par_more : ∀ (n : Nat) (i : Int), (parN l n i).length < n → parN l (n + 1) i = parN l n i
  | 0, _, h => absurd h (Nat.not_lt_zero _)
  | n + 1, i, h => by
    cases ht : thereB l i with
    | false => rw [par_no ht, par_no ht]
    | true =>
      rw [par_go ht] at h
      rw [par_go ht, par_go (n := n) ht, par_more n _ (by simpa using h)]
theorem parL_no (h : thereB l i = false) : parL l i = [] := par_no h
theorem parL_step (T : Tree l) (h : thereB l i = true) : parL l i = i :: parL l (nd l i).parent := by
  have e : parL l i = i :: parN l l.length (nd l i).parent := par_go h
  have hs : (parL l i).length ≤ l.length := par_short T (l.length + 1) i
  rw [e] at hs
  simp only [List.length_cons] at hs
  rw [e]
  show _ = i :: parN l (l.length + 1) _
  rw [par_more l.length _ (by omega)]
theorem parL_len (T : Tree l) (i : Int) : (parL l i).length ≤ l.length := par_short T _ i
theorem parL_once (T : Tree l) (i : Int) : (parL l i).Nodup := par_once T _ i
theorem par_there : ∀ (n : Nat) (i x : Int), x ∈ parN l n i → thereB l x = true := fun n i x h => up_there n i x ((par_pre n i).subset h)
theorem parL_there (h : x ∈ parL l i) : thereB l x = true := par_there _ i x h
theorem parL_self (T : Tree l) (h : thereB l i = true) : i ∈ parL l i := by rw [parL_step T h]; exact List.mem_cons_self
theorem parL_kid (T : Tree l) (h : thereB l i = true) (hk : k ∈ (nd l i).kids) : parL l k = k :: parL l i := by
  obtain ⟨h1, h2⟩ := T.kid i h k hk
  rw [parL_step T h1, h2]
/-- The way up from one on a way up is its end. -/
theorem parL_tail (T : Tree l) : ∀ (m : Nat) (i : Int), (parL l i).length ≤ m → ∀ x, x ∈ parL l i → parL l x <:+ parL l i
  | 0, i, hm, x, h => by
    have : parL l i = [] := List.length_eq_zero_iff.1 (by omega)
    rw [this] at h
    cases h
  | m + 1, i, hm, x, h => by
    cases ht : thereB l i with
    | false => rw [parL_no ht] at h; cases h
    | true =>
      have e := parL_step T ht
      rw [e] at h
      rcases List.mem_cons.1 h with rfl | h
      · exact List.suffix_refl _
      · rw [e] at hm
        rw [e]
        exact (parL_tail T m _ (by simpa using hm) x h).trans (List.suffix_cons _ _)
theorem parL_suffix (T : Tree l) (h : x ∈ parL l i) : parL l x <:+ parL l i := parL_tail T _ i (Nat.le_refl _) x h
theorem parL_trans (T : Tree l) {y : Int} (h : x ∈ parL l i) (h' : y ∈ parL l x) : y ∈ parL l i := (parL_suffix T h).subset h'
theorem parL_par (T : Tree l) (h : x ∈ parL l i) (hp : thereB l (nd l x).parent = true) : (nd l x).parent ∈ parL l i := by
  refine parL_trans T h ?_
  rw [parL_step T (parL_there h)]
  exact List.mem_cons_of_mem _ (parL_self T hp)
/-- Two on one way up, of one length: one. -/
theorem parL_same (T : Tree l) {a b : Int} (ha : a ∈ parL l i) (hb : b ∈ parL l i) (hl : (parL l a).length = (parL l b).length) : a = b := by
  obtain ⟨p, hp⟩ := parL_suffix T ha
  obtain ⟨q, hq⟩ := parL_suffix T hb
  have e : parL l a = parL l b := (List.append_inj' (hp.trans hq.symm) hl).2
  rw [parL_step T (parL_there ha), parL_step T (parL_there hb)] at e
  exact (List.cons.inj e).1

/-- How much is below at most. -/
theorem ord_no (h : thereB l i = false) : ordN l n i = [] := by
  cases n with
  | zero => rfl
  | succ n => rw [ordN, if_neg (by rw [h]; decide)]
theorem ord_go (h : thereB l i = true) : ordN l (n + 1) i = i :: (nd l i).kids.flatMap (ordN l n) := by rw [ordN, if_pos h]
theorem flatMap_same {f g : Int → List Int} : ∀ (ks : List Int), (∀ k ∈ ks, f k = g k) → ks.flatMap f = ks.flatMap g
  | [], _ => rfl
  | k :: r, h => by rw [List.flatMap_cons, List.flatMap_cons, h k (by simp), flatMap_same r fun k' hk' => h k' (by simp [hk'])]
theorem ord_stay (T : Tree l) : ∀ (n m : Nat) (i : Int), l.length + 1 ≤ n + (parL l i).length → l.length + 1 ≤ m + (parL l i).length → ordN l n i = ordN l m i
  | 0, m, i, hn, _ => by have := parL_len T i; omega
  | n + 1, 0, i, _, hm => by have := parL_len T i; omega
  | n + 1, m + 1, i, hn, hm => by
    cases ht : thereB l i with
    | false => rw [ord_no ht, ord_no ht]
    | true =>
      rw [ord_go ht, ord_go ht]
      congr 1
      refine flatMap_same _ fun k hk => ?_
      have e := congrArg List.length (parL_kid T ht hk)
      simp only [List.length_cons] at e
      exact ord_stay T n m k (by omega) (by omega)
theorem ordL_no (h : thereB l i = false) : ordL l i = [] := ord_no h
theorem ordL_step (T : Tree l) (h : thereB l i = true) : ordL l i = i :: (nd l i).kids.flatMap (ordL l) := by
  have e : ordL l i = i :: (nd l i).kids.flatMap (ordN l l.length) := ord_go h
  rw [e]
  congr 1
  refine flatMap_same _ fun k hk => ?_
  have e' := congrArg List.length (parL_kid T h hk)
  have h1 := congrArg List.length (parL_step T h)
  simp only [List.length_cons] at e' h1
  exact ord_stay T _ _ k (by omega) (by omega)

/-- What is below has it above. -/
theorem ord_above (T : Tree l) : ∀ (n : Nat) (i x : Int), x ∈ ordN l n i → i ∈ parL l x
  | 0, _, _, h => by cases h
  | n + 1, i, x, h => by
    cases ht : thereB l i with
    | false => rw [ord_no ht] at h; cases h
    | true =>
      rw [ord_go ht] at h
      rcases List.mem_cons.1 h with rfl | h
      · exact parL_self T ht
      · obtain ⟨k, hk, hx⟩ := List.mem_flatMap.1 h
        have h1 := ord_above T n k x hx
        have h2 := (T.kid i ht k hk).2
        have := parL_par T h1 (by rw [h2]; exact ht)
        rwa [h2] at this
theorem ord_kid : ∀ (n : Nat) (i y k : Int), y ∈ ordN l n i → thereB l y = true → thereB l k = true → k ∈ (nd l y).kids → k ∈ ordN l (n + 1) i
  | 0, _, _, _, h, _, _, _ => by cases h
  | n + 1, i, y, k, h, hy, hkt, hk => by
    cases ht : thereB l i with
    | false => rw [ord_no ht] at h; cases h
    | true =>
      rw [ord_go ht] at h
      rw [ord_go ht]
      rcases List.mem_cons.1 h with rfl | h
      · refine List.mem_cons_of_mem _ (List.mem_flatMap.2 ⟨k, hk, ?_⟩)
        rw [ord_go hkt]
        exact List.mem_cons_self
      · obtain ⟨k', hk', hx⟩ := List.mem_flatMap.1 h
        exact List.mem_cons_of_mem _ (List.mem_flatMap.2 ⟨k', hk', ord_kid n k' y k hx hy hkt hk⟩)
theorem ordL_kid (T : Tree l) {y : Int} (h : y ∈ ordL l i) (hy : thereB l y = true) (hk : k ∈ (nd l y).kids) : k ∈ ordL l i := by
  have := ord_kid (l.length + 1) i y k h hy (T.kid y hy k hk).1 hk
  rw [ord_stay T (l.length + 1 + 1) (l.length + 1) i (by omega) (by omega)] at this
  exact this
theorem ordL_mem (T : Tree l) : x ∈ ordL l i ↔ i ∈ parL l x := by
  refine ⟨ord_above T _ i x, fun h => ?_⟩
  have go : ∀ (m : Nat) (x : Int), (parL l x).length ≤ m → i ∈ parL l x → x ∈ ordL l i := by
    intro m
    induction m with
    | zero =>
      intro x hm h
      have : parL l x = [] := List.length_eq_zero_iff.1 (by omega)
      rw [this] at h
      cases h
    | succ m ih =>
      intro x hm h
      cases ht : thereB l x with
      | false => rw [parL_no ht] at h; cases h
      | true =>
        have e := parL_step T ht
        rw [e] at h hm
        rcases List.mem_cons.1 h with rfl | h
        · rw [ordL_step T ht]
          exact List.mem_cons_self
        · have hpt : thereB l (nd l x).parent = true := by
            cases hq : thereB l (nd l x).parent with
            | true => rfl
            | false => rw [parL_no hq] at h; cases h
          have h0 : (nd l x).parent ≠ 0 := there_pos hpt
          exact ordL_kid T (ih _ (by simpa using hm) h) hpt (T.par x ht h0).2
  exact go _ x (Nat.le_refl _) h
theorem ordL_there (T : Tree l) (h : x ∈ ordL l i) : thereB l x = true := by
  have h1 := (ordL_mem T).1 h
  cases ht : thereB l x with
  | true => rfl
  | false => rw [parL_no ht] at h1; cases h1

theorem flatMap_nodup {f : Int → List Int} : ∀ (ks : List Int), ks.Nodup → (∀ k ∈ ks, (f k).Nodup) → (∀ a ∈ ks, ∀ b ∈ ks, ∀ x, x ∈ f a → x ∈ f b → a = b) → (ks.flatMap f).Nodup
  | [], _, _, _ => List.nodup_nil
  | k :: r, hn, hf, hd => by
    rw [List.flatMap_cons, List.nodup_append]
    obtain ⟨h1, h2⟩ := List.nodup_cons.1 hn
    refine ⟨hf k (by simp), flatMap_nodup r h2 (fun k' hk' => hf k' (by simp [hk'])) (fun a ha b hb => hd a (by simp [ha]) b (by simp [hb])), fun x hx y hy e => ?_⟩
    subst e
    obtain ⟨k', hk', hx'⟩ := List.mem_flatMap.1 hy
    have := hd k (by simp) k' (by simp [hk']) x hx hx'
    subst this
    exact h1 hk'
theorem ord_once (T : Tree l) : ∀ (n : Nat) (i : Int), (ordN l n i).Nodup
  | 0, _ => List.nodup_nil
  | n + 1, i => by
    cases ht : thereB l i with
    | false => rw [ord_no ht]; exact List.nodup_nil
    | true =>
      rw [ord_go ht, List.nodup_cons]
      refine ⟨fun h => ?_, flatMap_nodup _ (T.once i ht) (fun k _ => ord_once T n k) fun a ha b hb x hxa hxb => ?_⟩
      · obtain ⟨k, hk, hx⟩ := List.mem_flatMap.1 h
        have h1 := ord_above T n k i hx
        have h2 := parL_once T k
        rw [parL_kid T ht hk] at h2
        exact (List.nodup_cons.1 h2).1 h1
      · refine parL_same T (ord_above T n a x hxa) (ord_above T n b x hxb) ?_
        rw [parL_kid T ht ha, parL_kid T ht hb]
        rfl
theorem ordL_once (T : Tree l) (i : Int) : (ordL l i).Nodup := ord_once T _ i
theorem ordL_len (T : Tree l) (i : Int) : (ordL l i).length ≤ l.length := by
  have h := pigeon l.length ((ordL l i).map fun x => (x - 1).toNat) (by
    refine List.pairwise_map.2 ((ordL_once T i).imp_of_mem fun {a b} ha hb hab e => hab ?_)
    have h1 := thereB_iff.1 (ordL_there T ha)
    have h2 := thereB_iff.1 (ordL_there T hb)
    omega) fun y hy => by
      obtain ⟨x, hx, rfl⟩ := List.mem_map.1 hy
      exact there_lt (ordL_there T hx)
  simpa using h

/-- Each has its parent ahead of it. -/
def Beh (l : List Nd) : List Int → List Int → Prop
  | _, [] => True
  | acc, x :: r => (nd l x).parent ∈ acc ∧ Beh l (x :: acc) r
theorem beh_mono : ∀ (xs acc acc' : List Int), (∀ y, y ∈ acc → y ∈ acc') → Beh l acc xs → Beh l acc' xs
  | [], _, _, _, _ => trivial
  | x :: r, acc, acc', h, hb => ⟨h _ hb.1, beh_mono r _ _ (fun y hy => by
      rcases List.mem_cons.1 hy with rfl | hy
      · exact List.mem_cons_self
      · exact List.mem_cons_of_mem _ (h y hy)) hb.2⟩
theorem beh_append : ∀ (xs ys acc : List Int), Beh l acc xs → Beh l acc ys → Beh l acc (xs ++ ys)
  | [], _, _, _, h => h
  | _ :: r, ys, _, h, h' => ⟨h.1, beh_append r ys _ h.2 (beh_mono ys _ _ (fun _ hy => List.mem_cons_of_mem _ hy) h')⟩
theorem beh_flat {f : Int → List Int} {acc : List Int} : ∀ (ks : List Int), (∀ k ∈ ks, Beh l acc (f k)) → Beh l acc (ks.flatMap f)
  | [], _ => trivial
  | k :: r, h => by
    rw [List.flatMap_cons]
    exact beh_append _ _ _ (h k (by simp)) (beh_flat r fun k' hk' => h k' (by simp [hk']))
theorem beh_ord (T : Tree l) : ∀ (n : Nat) (i : Int) (acc : List Int), (nd l i).parent ∈ acc → Beh l acc (ordN l n i)
  | 0, _, _, _ => trivial
  | n + 1, i, acc, h => by
    cases ht : thereB l i with
    | false => rw [ord_no ht]; trivial
    | true =>
      rw [ord_go ht]
      exact ⟨h, beh_flat _ fun k hk => beh_ord T n k _ (by rw [(T.kid i ht k hk).2]; exact List.mem_cons_self)⟩
theorem beh_at : ∀ (xs acc : List Int) (j : Nat) (hj : j < xs.length), Beh l acc xs → (nd l xs[j]).parent ∈ acc ∨ (nd l xs[j]).parent ∈ xs.take j
  | [], _, j, hj, _ => absurd hj (Nat.not_lt_zero j)
  | _ :: _, _, 0, _, h => .inl h.1
  | x :: r, acc, j + 1, hj, h => by
    rcases beh_at r (x :: acc) j (by simpa using hj) h.2 with h' | h'
    · rcases List.mem_cons.1 h' with h' | h'
      · right
        rw [List.take_succ_cons]
        simp only [List.getElem_cons_succ, h']
        exact List.mem_cons_self
      · exact .inl h'
    · right
      rw [List.take_succ_cons]
      exact List.mem_cons_of_mem _ h'
/-- In tree order each one but the first stands behind its parent. -/
theorem ordL_behind (T : Tree l) {j : Nat} (hj : j < (ordL l i).length) (h0 : 0 < j) : (nd l (ordL l i)[j]).parent ∈ (ordL l i).take j := by
  cases ht : thereB l i with
  | false =>
    rw [ordL_no ht] at hj
    exact absurd hj (Nat.not_lt_zero j)
  | true =>
    obtain ⟨m, rfl⟩ : ∃ m, j = m + 1 := ⟨j - 1, by omega⟩
    have e := ordL_step T ht
    have hb : Beh l [i] ((nd l i).kids.flatMap (ordL l)) := beh_flat _ fun k hk => beh_ord T _ k _ (by rw [(T.kid i ht k hk).2]; exact List.mem_cons_self)
    generalize hz : ordL l i = z at hj e ⊢
    subst e
    have hm : m < ((nd l i).kids.flatMap (ordL l)).length := by simpa using hj
    simp only [List.getElem_cons_succ, List.take_succ_cons]
    rcases beh_at _ _ m hm hb with h | h
    · rw [List.mem_singleton.1 h]
      exact List.mem_cons_self
    · exact List.mem_cons_of_mem _ h

theorem lastL_suffix {xs ys : List Int} (h : xs <:+ ys) (hx : xs ≠ []) : lastL ys = lastL xs := by
  obtain ⟨p, rfl⟩ := h
  unfold lastL
  rw [List.getLastD_eq_getLast?, List.getLastD_eq_getLast?, List.getLast?_append, List.getLast?_eq_some_getLast hx, Option.some_or]
theorem lastL_mem {xs : List Int} (h : xs ≠ []) : lastL xs ∈ xs := by
  unfold lastL
  rw [List.getLastD_eq_getLast?, List.getLast?_eq_some_getLast h]
  exact List.getLast_mem h
theorem rootL_no (h : thereB l i = false) : rootL l i = 0 := by
  unfold rootL
  rw [parL_no h]
  rfl
theorem parL_ne (T : Tree l) (h : thereB l i = true) : parL l i ≠ [] := by
  rw [parL_step T h]
  simp
theorem rootL_mem (T : Tree l) (h : thereB l i = true) : rootL l i ∈ parL l i := lastL_mem (parL_ne T h)
theorem rootL_there (T : Tree l) (h : thereB l i = true) : thereB l (rootL l i) = true := parL_there (rootL_mem T h)
/-- A root has no parent. -/
theorem rootL_bare (T : Tree l) (h : thereB l i = true) : (nd l (rootL l i)).parent = 0 := by
  refine Decidable.byContradiction fun hp => ?_
  have hr := rootL_mem T h
  have ht := parL_there hr
  have hpt := (T.par _ ht hp).1
  have e : parL l (rootL l i) = rootL l i :: parL l (nd l (rootL l i)).parent := parL_step T ht
  have hs := lastL_suffix (parL_suffix T hr) (parL_ne T ht)
  have hs2 : lastL (parL l (rootL l i)) = lastL (parL l (nd l (rootL l i)).parent) := lastL_suffix (by rw [e]; exact List.suffix_cons _ _) (parL_ne T hpt)
  have hm := lastL_mem (parL_ne T hpt)
  have hn := parL_once T (rootL l i)
  rw [e] at hn
  refine (List.nodup_cons.1 hn).1 ?_
  rw [← hs2, ← hs] at hm
  exact hm
theorem parL_root (T : Tree l) (h : thereB l i = true) : parL l (rootL l i) = [rootL l i] := by
  rw [parL_step T (rootL_there T h), rootL_bare T h, parL_no (there_zero l)]
/-- What has a root above has it as its root. -/
theorem rootL_of (T : Tree l) (h : thereB l i = true) (hx : rootL l i ∈ parL l x) : rootL l x = rootL l i := by
  have := lastL_suffix (parL_suffix T hx) (parL_ne T (rootL_there T h))
  unfold rootL
  rw [this, parL_root T h]
  rfl
end
end Go.Proofs.Ytojcchjhimagiaa

namespace Go.Proofs.Ytojcchjhimagiaa
open Go Go.RowKit

/-- A list of numbers of the call's own, its block from base on; what lies behind its end may be written over only where nobody else can see it. -/
def Pile (base : Nat) (w : World) (v : Value) (xs : List Int) : Prop :=
  (v = .slice none 0 0 ∧ xs = []) ∨
  ∃ g cap cur, v = .slice (some ⟨g, 0, none⟩) xs.length cap ∧ base ≤ g ∧ Has w g (.cells cur 3 (0, 0)) ∧ xs.length ≤ cap ∧ cap ≤ maxLen ∧ (cur.size = cap ∨ cap = xs.length) ∧ cur.toList.take xs.length = xs.map (Value.int .i64)

section
variable {base base' : Nat} {w w' : World} {v : Value} {xs : List Int} {F : Nat → Prop}
theorem Pile.nil (base : Nat) (w : World) : Pile base w (.slice none 0 0) [] := .inl ⟨rfl, rfl⟩
theorem Pile.lt (h : Pile base w v xs) : ∀ g, v.ownBlock = some g → base ≤ g ∧ g < w.heap.size := by
  intro k hk
  rcases h with ⟨rfl, _⟩ | ⟨g, cap, cur, rfl, hb, hg, _⟩
  · cases hk
  · obtain rfl : g = k := by simpa [Value.ownBlock] using hk
    exact ⟨hb, hg.inside⟩
theorem Pile.kept (h : Pile base w v xs) (k : Keeps F w w') (hF : ∀ g, v.ownBlock = some g → ¬ F g) : Pile base w' v xs := by
  rcases h with h | ⟨g, cap, cur, rfl, hb, hg, rest⟩
  · exact .inl h
  · exact .inr ⟨g, cap, cur, rfl, hb, hg.kept k (hF g rfl), rest⟩
theorem Pile.below (h : Pile base w v xs) (k : Below w.heap.size w w') : Pile base w' v xs :=
  h.kept (Keeps.of_below (F := fun i => w.heap.size ≤ i) k fun _ _ h => h) fun g hg => Nat.not_le.2 (h.lt g hg).2
theorem Pile.from_ (h : Pile base w v xs) (hb : base' ≤ base) : Pile base' w v xs := by
  rcases h with h | ⟨g, cap, cur, rfl, h1, rest⟩
  · exact .inl h
  · exact .inr ⟨g, cap, cur, rfl, Nat.le_trans hb h1, rest⟩
theorem Pile.since (h : Pile base w v xs) (hb : ∀ g, v.ownBlock = some g → base' ≤ g) : Pile base' w v xs := by
  rcases h with h | ⟨g, cap, cur, rfl, h1, rest⟩
  · exact .inl h
  · exact .inr ⟨g, cap, cur, rfl, hb g rfl, rest⟩
theorem Pile.alloc (h : Pile base w v xs) (o : Obj) : Pile base (w.alloc o) v xs := h.below ((Below.refl _ w).alloc (Nat.le_refl _) o)
theorem Pile.drew (h : Pile base w v xs) : Pile base w.drew v xs := h
theorem Pile.drewN (h : Pile base w v xs) (n : Nat) : Pile base (w.drewN n) v xs := h
/-- Its shape, and that it may be read. -/
theorem Pile.form (h : Pile base w v xs) : ∃ A c, v = .slice A xs.length c ∧ ListIn w A c xs := by
  rcases h with ⟨rfl, rfl⟩ | ⟨g, cap, cur, rfl, hb, hg, hl, hm, hc, ht⟩
  · exact ⟨none, 0, rfl, Nat.le_refl _, fun _ => rfl, fun i hi => absurd hi (Nat.not_lt_zero i)⟩
  · refine ⟨_, cap, rfl, hl, (fun e => by cases e), fun i hi => ⟨g, 0, rfl, hg.inside, ?_⟩⟩
    have e := congrArg (fun z => z[i]?) ht
    simp only [List.getElem?_take, if_pos hi, List.getElem?_map, List.getElem?_eq_getElem hi] at e
    rw [Nat.zero_add, hg.cell i, ← Array.getElem?_toList, e]
    rfl
theorem Pile.of_kids {G : Nat → Prop} (h : Kids G w v xs) (hb : ∀ g, G g → g < w.heap.size → base ≤ g) : Pile base w v xs := by
  rcases h.1.2 with ⟨hv, h0⟩ | ⟨g, cap, cur, hv, _, hg, h1, h2, h3, h4⟩
  · exact .inl ⟨hv, List.length_eq_zero_iff.1 h0⟩
  · exact .inr ⟨g, cap, cur, hv, hb g (h.2 g (by rw [hv]; rfl)) (Has.inside hg), hg, h1, h2, .inl (by omega), by rw [Nat.mul_one] at h4; exact h4⟩
/-- A literal. -/
theorem Pile.lit (w : World) (xs : List Int) (n : Nat) (hn : n = xs.length) (hm : n ≤ maxLen) (hb : base ≤ w.heap.size) : Pile base (w.alloc (.cells (xs.map (Value.int .i64)).toArray 3)) (.slice (some ⟨w.heap.size, 0, none⟩) n n) xs := by
  subst hn
  refine .inr ⟨w.heap.size, xs.length, _, rfl, hb, Has.fresh _ _, Nat.le_refl _, hm, .inr rfl, ?_⟩
  simp only
  rw [List.take_of_length_le (by simp)]
/-- The last one is cut off. -/
theorem Pile.clip {A : Option Addr} {n c : Nat} {y : Int} (h : Pile base w (.slice A (n + 1) c) (xs ++ [y])) (hn : n = xs.length) : ∃ g, A = some ⟨g, 0, none⟩ ∧ Pile base w (.slice A n n) xs := by
  subst hn
  rcases h with ⟨hv, _⟩ | ⟨g, cap, cur, hv, hb, hg, hl, hm, hc, ht⟩
  · cases hv
  · obtain ⟨rfl, -, rfl⟩ : A = some ⟨g, 0, none⟩ ∧ xs.length + 1 = (xs ++ [y]).length ∧ c = cap := by injection hv with e1 e2 e3; exact ⟨e1, e2, e3⟩
    refine ⟨g, rfl, .inr ⟨g, xs.length, cur, rfl, hb, hg, Nat.le_refl _, ?_, .inr rfl, ?_⟩⟩
    · rw [List.length_append] at hl
      omega
    · have e := congrArg (List.take xs.length) ht
      rw [List.take_take, List.length_append, List.map_append, List.take_append_of_le_length (by simp), Nat.min_eq_left (by omega)] at e
      have e2 : List.take xs.length (xs.map (Value.int .i64)) = xs.map (Value.int .i64) := List.take_of_length_le (by simp)
      rw [e2] at e
      exact e
end

section
variable {base : Nat} {w : World} {v : Value} {xs : List Int}
/-- One number is put behind: in the old row or a new one. -/
theorem run_push (t ty : TypeId) (i : TypeInfo) (z : Value) {P : Program} (ht : P.underlying t = some (.slice 3)) (hi : P.info? 3 = some i) (hz : i.zero = some z) (hsize : i.size = 1) (hby : i.bytes = 8) (hzs : z.cells.size = 1)
    (hP : Pile base w v xs) {b c : Nat} {y : Int} {fr : Nat × Nat} (hb : Has w b (.cells #[.int .i64 y] 3 fr)) (hl : xs.length ≤ 1000000) (hbase : base ≤ w.heap.size) :
    ∃ g cap w', (Builtin.append_ #[t, t] ty #[v, .slice (some ⟨b, 0, none⟩) 1 c]).run P w = .ok (.slice (some ⟨g, 0, none⟩) (xs.length + 1) cap) w' ∧
      Pile base w' (.slice (some ⟨g, 0, none⟩) (xs.length + 1) cap) (xs ++ [y]) ∧ Keeps (fun i => v.ownBlock = some i) w w' ∧ (v.ownBlock = some g ∨ w.heap.size ≤ g) ∧ g < w'.heap.size := by
  have hnews : ∀ j u, [Value.int .i64 y][j]? = some u → w.cell? ((⟨b, 0, none⟩ : Addr).add j) = some u := World.news_of_block hb
  have h1 : ∀ u ∈ [Value.int .i64 y], u.oneCell' = true := fun u hu => by obtain rfl := List.mem_singleton.1 hu; rfl
  have owned : ∀ {vo : Value}, w.ownsRow base 3 1 vo xs.length (xs.map (Value.int .i64)) → ∃ g cap w', (Builtin.append_ #[t, t] ty #[vo, .slice (some ⟨b, 0, none⟩) 1 c]).run P w = .ok (.slice (some ⟨g, 0, none⟩) (xs.length + 1) cap) w' ∧
      Pile base w' (.slice (some ⟨g, 0, none⟩) (xs.length + 1) cap) (xs ++ [y]) ∧ Keeps (fun i => vo.ownBlock = some i) w w' ∧ (vo.ownBlock = some g ∨ w.heap.size ≤ g) ∧ g < w'.heap.size := by
    intro vo hown
    obtain ⟨g, cap, w', hr, h2, h3, h4, h5⟩ := run_append_lies (P := P) w t ty base 3 i z 1 8 ht hi hz hsize hby hzs (by decide) vo xs.length (xs.map (Value.int .i64)) hown ⟨b, 0, none⟩ 1 c [.int .i64 y] rfl hnews h1 (by decide) (by unfold maxLen; omega) (by omega) hbase _ rfl
    refine ⟨g, cap, w', hr, ?_, Keeps.of_grown h3, h4.imp id fun e => by omega, h5⟩
    rcases h2.2 with ⟨hv, _⟩ | ⟨g', cap', cur, hv, hb', hg, q1, q2, q3, q4⟩
    · cases hv
    · obtain ⟨rfl, rfl⟩ : g = g' ∧ cap = cap' := by injection hv with e1 _ e3; exact ⟨by simpa using e1, e3⟩
      refine .inr ⟨g, cap, cur, by simp, hb', hg, by simpa using q1, q2, .inl (by omega), ?_⟩
      rw [Nat.mul_one] at q4
      simpa using q4
  rcases hP with ⟨rfl, rfl⟩ | ⟨g, cap, cur, rfl, hb', hg, hlc, hm, hc, htk⟩
  · exact owned (World.ownsRow_nil w base 3 1)
  · by_cases hfull : cap = xs.length
    · subst hfull
      have hle : xs.length ≤ cur.size := by
        have := congrArg List.length htk
        rw [List.length_take, List.length_map] at this
        have h2 : cur.toList.length = cur.size := Array.length_toList
        omega
      have holds : ∀ j u, (xs.map (Value.int .i64))[j]? = some u → w.cell? ((⟨g, 0, none⟩ : Addr).add j) = some u := by
        intro j u hu
        have hj : j < xs.length := by
          have := (List.getElem?_eq_some_iff.1 hu).1
          simpa using this
        rw [Addr.add_lit, Nat.zero_add, hg.cell j]
        rw [← htk, List.getElem?_take, if_pos hj, Array.getElem?_toList] at hu
        exact hu
      have hr := run_append_grow (P := P) w t ty 3 i z ht hi hz ⟨g, 0, none⟩ xs.length xs.length (xs.map (Value.int .i64)) (by rw [hsize]; simp) holds ⟨b, 0, none⟩ 1 c [.int .i64 y] (by rw [hsize]; rfl) hnews (by omega) (by omega) (growslice_fits (by omega) (by rw [hby]; omega))
      have hge := grownCap_ge w (xs.length + 1) xs.length 3
      refine ⟨w.heap.size, grownCap w (xs.length + 1) xs.length 3, _, hr, .inr ⟨w.heap.size, grownCap w (xs.length + 1) xs.length 3, _, by simp, hbase, Has.fresh w.drew _, by simpa using hge, grownCap_le_maxLen w _ _ _ (by unfold maxLen; omega), .inl ?_, ?_⟩, ⟨⟨rfl, rfl, rfl⟩, by simp, fun k hk _ => Below.heap_alloc w.drew _ k hk⟩, .inr (Nat.le_refl _), by simp⟩
      · simp only [Array.size_append, List.size_toArray, size_zeroCells, hzs, List.length_map, List.length_cons, List.length_nil]
        omega
      · simp only [Array.toList_append, List.map_append, List.map_cons, List.map_nil, List.length_append, List.length_cons, List.length_nil]
        rw [List.take_append_of_le_length (by simp), List.take_of_length_le (by simp)]
    · have hcs : cur.size = cap := hc.resolve_right hfull
      exact owned ⟨by simp, .inr ⟨g, cap, cur, rfl, hb', hg, hlc, hm, by omega, by rw [Nat.mul_one]; exact htk⟩⟩
/-- At a plain region. -/
theorem wpList_push {ops : Array Oper} {rest : List Oper} {o : Oper} {a : Act} {Q : Exit → Act → World → Prop} (hgd : o.guard = none) (s x : Operand)
    (ho : o.op = .call { callee := .builtin .append, args := #[s, x], argTypes := #[43, 43] }) (hs : a.eval s = v) (hP : Pile base w v xs) {b c : Nat} {y : Int} {fr : Nat × Nat} (hx : a.eval x = .slice (some ⟨b, 0, none⟩) 1 c)
    (hb : Has w b (.cells #[.int .i64 y] 3 fr)) (hl : xs.length ≤ 1000000) (hbase : base ≤ w.heap.size)
    (h : ∀ g cap w', Pile base w' (.slice (some ⟨g, 0, none⟩) (xs.length + 1) cap) (xs ++ [y]) → Keeps (fun i => v.ownBlock = some i) w w' → (v.ownBlock = some g ∨ w.heap.size ≤ g) → g < w'.heap.size → wpList Try.prog ops Q rest (a.put o.dst (.slice (some ⟨g, 0, none⟩) (xs.length + 1) cap)) w') : wpList Try.prog ops Q (o :: rest) a w := by
  obtain ⟨i0, hi, hz0, hz1, hz2⟩ := info_parts Try.infoInt
  obtain ⟨g, cap, w', hr, h2, h3, h4, h5⟩ := run_push (c := c) 43 o.type i0 _ Try.underlying43 hi hz0 hz1 hz2 rfl hP hb hl hbase
  refine wpList_plain hgd fun _ hK => ?_
  unfold Oper.wp execOp
  simp only [ho, resolve, invoke, builtin, Sem.run_bind, Sem.run_pure, Result.andThen_ok, List.map_toArray, List.map_cons, List.map_nil, hs, hx, hr]
  exact hK _ _ (h g cap w' h2 h3 h4 h5)
end

/-- The place of a number; -1: it isn't there. -/
def idxL (xs : List Int) (x : Int) : Int := if x ∈ xs then (xs.idxOf x : Int) else -1
theorem idxL_at {xs : List Int} {x : Int} {k : Nat} (hk : k < xs.length) (hx : xs[k] = x) (hno : x ∉ xs.take k) : idxL xs x = (k : Int) := by
  have hm : x ∈ xs := hx ▸ List.getElem_mem hk
  unfold idxL
  rw [if_pos hm]
  have e : xs = xs.take k ++ x :: xs.drop (k + 1) := by
    rw [← hx, List.getElem_cons_drop, List.take_append_drop]
  have : xs.idxOf x = k := by
    conv => lhs; rw [e]
    rw [List.idxOf_append, if_neg hno, List.idxOf_cons_self]
    simp
    omega
  rw [this]
theorem idxL_no {xs : List Int} {x : Int} (h : x ∉ xs) : idxL xs x = -1 := if_neg h
theorem not_take {xs : List Int} {x : Int} {k : Nat} (h : x ∉ xs.take k) (hk : k < xs.length) (hx : xs[k] ≠ x) : x ∉ xs.take (k + 1) := by
  rw [List.take_add_one, List.getElem?_eq_getElem hk]
  intro hm
  rcases List.mem_append.1 hm with h' | h'
  · exact h h'
  · have e : x = xs[k] := by simpa using h'
    exact hx e.symm
theorem idxL_nonneg {xs : List Int} {x : Int} : decide (0 ≤ idxL xs x) = hasB xs x := by
  unfold idxL hasB
  by_cases h : x ∈ xs
  · rw [if_pos h, decide_eq_true h]
    exact decide_eq_true (by omega)
  · rw [if_neg h, decide_eq_false h]
    rfl

set_option maxHeartbeats 1000000 in
theorem index_any (xs : List Int) (A : Option Addr) (n c : Nat) (x : Int) (w : World) {B : Nat} (hn : n = xs.length) (hl : n ≤ 1000000) (h : Nums w B A .i64 xs) :
    Calls Try.prog 48 #[.slice A n c, .int .i64 x] w fun e w' => e = .returned (.int .i64 (idxL xs x)) ∧ w = w' := by
  have Hn := Lib.hid hn
  have H := Lib.hid h
  clear hn h
  go_enter Try.func48, Try.ntmps48
  go_wp2
  go_loop [8] (fun i => ∃ k : Nat, i = .int .i64 k ∧ k ≤ n ∧ x ∉ xs.take k) (fun i => n - (intOf i).toNat)
  case atStart => exact ⟨0, rfl, Nat.zero_le _, by simp⟩
  case round =>
    obtain ⟨k, rfl, hk, hc⟩ := hrel
    have Hc := Lib.hid hc
    clear hc
    by_cases hlt : (k : Int) < n
    · have hkl : k < xs.length := by rw [← Hn.out]; omega
      obtain ⟨b, off, rfl, hb, hcell⟩ := H.out k hkl
      obtain ⟨y, hy⟩ : ∃ y, y = xs[k] := ⟨_, rfl⟩
      rw [← hy] at hcell
      have Hy := Lib.hid hy
      clear hy hb
      by_cases hxy : y = x
      · have e1 : idxL xs x = (k : Int) := idxL_at hkl (by rw [← Hy.out]; exact hxy) Hc.out
        have E1 := Lib.hid e1
        clear e1
        subst hxy
        go_wp2
        go_ret
        rw [E1.out]
        exact ⟨rfl, rfl⟩
      · have hxy' : (x == y) = false := by simpa using fun e => hxy e.symm
        have e2 := not_take Hc.out hkl (by rw [← Hy.out]; exact hxy)
        have E2 := Lib.hid e2
        clear e2
        go_wp2
        go_round
        case rel => exact ⟨k + 1, by go_num, by omega, E2.out⟩
        case measure => simp [intOf]; omega
    · have e1 : idxL xs x = -1 := by
        have := Hc.out
        rw [List.take_of_length_le (by rw [← Hn.out]; omega)] at this
        exact idxL_no this
      have E1 := Lib.hid e1
      clear e1
      go_wp2
      go_ret
      rw [E1.out]
      exact ⟨rfl, rfl⟩
theorem contains_any (xs : List Int) (A : Option Addr) (n c : Nat) (x : Int) (w : World) {B : Nat} (hn : n = xs.length) (hl : n ≤ 1000000) (h : Nums w B A .i64 xs) :
    Calls Try.prog 77 #[.slice A n c, .int .i64 x] w fun e w' => e = .returned (.bool (hasB xs x)) ∧ w = w' := by
  have Hn := Lib.hid hn
  have H := Lib.hid h
  have E := Lib.hid (@idxL_nonneg xs x)
  clear hn h
  go_enter Try.func77, Try.ntmps77
  go_wp2_with fail
  refine (index_any xs A n c x w Hn.out hl H.out).mono ?_
  rintro e w1 ⟨rfl, rfl⟩
  go_wp2
  go_ret
  rw [← E.out]
  exact ⟨rfl, rfl⟩
end Go.Proofs.Ytojcchjhimagiaa

namespace Go.Proofs.Ytojcchjhimagiaa
open Go Go.RowKit

section
variable {Rep : (Nat → Prop) → World → Nat → List Nd → Prop} {S : Nat → Prop} {w : World} {b : Nat} {l : List Nd}
/-- Node of one that is there, and of one that isn't. -/
theorem nodeYes (M : ForestMore Rep) {id : Int} (h : Rep S w b l) (hg : Good l) (ht : thereB l id = true) :
    Calls Try.prog 20 #[at_ b, .int .i64 id] w fun e w' => ∃ A1 c1, e = .returned (.tuple #[.agg #[.int .i64 (nd l id).kind, .int .i64 (nd l id).parent, .int .i64 (nd l id).host, .int .i64 (nd l id).shadow, .int .i64 (nd l id).mode, .bool (nd l id).slot, .string (nd l id).name, .string (nd l id).want, .slice A1 (nd l id).kids.length c1], .bool true]) ∧ Kids (fun i => w.heap.size ≤ i) w' (.slice A1 (nd l id).kids.length c1) (nd l id).kids ∧ Below w.heap.size w w' := by
  refine (M.node S w b l id h hg).mono ?_
  rintro e w' ⟨d, A, c, rfl, hd, hk, hb⟩
  rw [if_pos ht] at hd
  subst hd
  rw [ht]
  exact ⟨A, c, rfl, hk, hb⟩
theorem nodeNo (M : ForestMore Rep) {id : Int} (h : Rep S w b l) (hg : Good l) (ht : thereB l id = false) :
    Calls Try.prog 20 #[at_ b, .int .i64 id] w fun e w' => ∃ A1 c1, e = .returned (.tuple #[.agg #[.int .i64 0, .int .i64 0, .int .i64 0, .int .i64 0, .int .i64 0, .bool false, .string ⟨#[]⟩, .string ⟨#[]⟩, .slice A1 0 c1], .bool false]) ∧ Kids (fun i => w.heap.size ≤ i) w' (.slice A1 0 c1) [] ∧ Below w.heap.size w w' := by
  refine (M.node S w b l id h hg).mono ?_
  rintro e w' ⟨d, A, c, rfl, hd, hk, hb⟩
  rw [if_neg (by rw [ht]; decide)] at hd
  subst hd
  rw [ht]
  exact ⟨A, c, rfl, hk, hb⟩
theorem app_len {xs ys : List Int} {R : List Int} (h : xs ++ ys = R) : xs.length ≤ R.length := by rw [← h]; simp

set_option maxHeartbeats 4000000 in
set_option maxRecDepth 100000 in
theorem kinUp (O : ForestOk Rep) (M : ForestMore Rep) (id : Int) (h : Rep S w b l) (hg : Good l) :
    Calls Try.prog 49 #[at_ b, .int .i64 id] w fun e w' => ∃ v, e = .returned v ∧ Pile w.heap.size w' v (parL l id) ∧ Below w.heap.size w w' := by
  have H := Lib.hid h
  have Hg := Lib.hid hg
  have hnot : ∀ (x : Bool) (w : World), (Op.unary .not (.bool x)).run Try.prog w = .ok (.bool (!x)) w := fun _ _ => rfl
  have hRl : (parL l id).length ≤ 128 := Nat.le_trans (parL_len hg.tree id) hg.len
  obtain ⟨R, hR⟩ : ∃ R, R = parL l id := ⟨_, rfl⟩
  rw [← hR] at hRl
  rw [← hR]
  have hR0 : ([] : List Int) ++ parL l id = R := by rw [hR]; rfl
  have HR0 := Lib.hid hR0
  clear h hg hR hR0
  go_enter Try.func49, Try.ntmps49
  go_wp2_with fail
  go_loopw [1, 5] (fun a o wr => ∃ (i : Int) (xs : List Int), a = .int .i64 i ∧ xs ++ parL l i = R ∧ Pile w.heap.size wr o xs ∧ Below w.heap.size w wr) (fun a _ _ => (parL l (intOf a)).length)
  case atStart => exact ⟨id, [], rfl, HR0.out, Pile.nil _ _, Below.refl _ _⟩
  case round =>
    obtain ⟨i, xs, rfl, hxs, hP, hb⟩ := hrel
    have hRw : Rep S wr b l := O.keep H.out (Keeps.of_below (F := fun i => w.heap.size ≤ i) hb fun _ _ h => h) fun _ _ hi => Nat.not_le.2 hi
    have Hxs := Lib.hid hxs
    have hxl : xs.length ≤ 1000000 := by have := app_len hxs; omega
    clear HR0 hxs
    obtain ⟨Ao, co, rfl, -⟩ := hP.form
    cases ht : thereB l i with
    | false =>
      have Ht := Lib.hid ht
      have HP := Lib.hid hP
      clear ht hP
      go_wp2_with fail
      refine (nodeNo M hRw Hg.out Ht.out).mono ?_
      rintro e w1 ⟨A1, c1, rfl, -, hb1⟩
      have HF : Hid (Pile w.heap.size (w1.alloc (.cells #[.int .i64 0, .int .i64 0, .int .i64 0, .int .i64 0, .int .i64 0, .bool false, .string ⟨#[]⟩, .string ⟨#[]⟩, .slice A1 0 c1] 45)) (.slice Ao xs.length co) xs ∧ Below w.heap.size w (w1.alloc (.cells #[.int .i64 0, .int .i64 0, .int .i64 0, .int .i64 0, .int .i64 0, .bool false, .string ⟨#[]⟩, .string ⟨#[]⟩, .slice A1 0 c1] 45))) := Lib.hid ⟨(HP.out.below hb1).alloc _, (hb.trans (hb1.mono hb.size)).alloc (Nat.le_trans hb.size hb1.size) _⟩
      clear hb1 HP
      go_wp2
      go_ret
      refine ⟨_, rfl, ?_, HF.out.2⟩
      have := Hxs.out
      rw [parL_no Ht.out, List.append_nil] at this
      rw [← this]
      exact HF.out.1
    | true =>
      have Ht := Lib.hid ht
      have HP := Lib.hid hP
      have hfin : (xs ++ [i]) ++ parL l (nd l i).parent = R := by
        rw [List.append_assoc, List.singleton_append, ← parL_step Hg.out.tree ht]
        exact Hxs.out
      have Hfin := Lib.hid hfin
      clear ht hP hfin Hxs
      go_wp2_with fail
      refine (nodeYes M hRw Hg.out Ht.out).mono ?_
      rintro e w1 ⟨A1, c1, rfl, -, hb1⟩
      obtain ⟨d, hd⟩ : ∃ d, d = nd l i := ⟨_, rfl⟩
      rw [← hd] at Hfin
      rw [← hd]
      have hB1 : Below w.heap.size w w1 := hb.trans (hb1.mono hb.size)
      have hP1 : Pile w.heap.size w1 (.slice Ao xs.length co) xs := HP.out.below hb1
      have hown : ∀ g, (Value.slice Ao xs.length co).ownBlock = some g → w.heap.size ≤ g ∧ g < w1.heap.size := hP1.lt
      have HC : Hid (∀ w2, Keeps (fun i => (Value.slice Ao xs.length co).ownBlock = some i) ((w1.alloc (.cells #[.int .i64 d.kind, .int .i64 d.parent, .int .i64 d.host, .int .i64 d.shadow, .int .i64 d.mode, .bool d.slot, .string d.name, .string d.want, .slice A1 d.kids.length c1] 45)).alloc (.cells #[.int .i64 i] 3)) w2 → w2.cell? ⟨w1.heap.size, 1, none⟩ = some (.int .i64 d.parent)) := Lib.hid fun w2 hk2 => by
        have hh : Has ((w1.alloc (.cells #[.int .i64 d.kind, .int .i64 d.parent, .int .i64 d.host, .int .i64 d.shadow, .int .i64 d.mode, .bool d.slot, .string d.name, .string d.want, .slice A1 d.kids.length c1] 45)).alloc (.cells #[.int .i64 i] 3)) w1.heap.size (.cells #[.int .i64 d.kind, .int .i64 d.parent, .int .i64 d.host, .int .i64 d.shadow, .int .i64 d.mode, .bool d.slot, .string d.name, .string d.want, .slice A1 d.kids.length c1] 45 (0, 0)) := (Has.fresh _ _).more _
        exact (hh.kept hk2 fun e => by have := (hown _ e).2; omega).cell 1
      have HP2 : Hid (Pile w.heap.size ((w1.alloc (.cells #[.int .i64 d.kind, .int .i64 d.parent, .int .i64 d.host, .int .i64 d.shadow, .int .i64 d.mode, .bool d.slot, .string d.name, .string d.want, .slice A1 d.kids.length c1] 45)).alloc (.cells #[.int .i64 i] 3)) (.slice Ao xs.length co) xs) := Lib.hid ((hP1.alloc _).alloc _)
      have HB2 : Hid (Has ((w1.alloc (.cells #[.int .i64 d.kind, .int .i64 d.parent, .int .i64 d.host, .int .i64 d.shadow, .int .i64 d.mode, .bool d.slot, .string d.name, .string d.want, .slice A1 d.kids.length c1] 45)).alloc (.cells #[.int .i64 i] 3)) (w1.heap.size + 1) (.cells #[.int .i64 i] 3 (0, 0))) := Lib.hid (by
        have := Has.fresh (w1.alloc (.cells #[.int .i64 d.kind, .int .i64 d.parent, .int .i64 d.host, .int .i64 d.shadow, .int .i64 d.mode, .bool d.slot, .string d.name, .string d.want, .slice A1 d.kids.length c1] 45)) (.cells #[.int .i64 i] 3)
        simpa using this)
      have HS2 : Hid (w.heap.size ≤ ((w1.alloc (.cells #[.int .i64 d.kind, .int .i64 d.parent, .int .i64 d.host, .int .i64 d.shadow, .int .i64 d.mode, .bool d.slot, .string d.name, .string d.want, .slice A1 d.kids.length c1] 45)).alloc (.cells #[.int .i64 i] 3)).heap.size) := Lib.hid (by have := hB1.size; simp; omega)
      have HE : Hid (∀ w2, Keeps (fun i => (Value.slice Ao xs.length co).ownBlock = some i) ((w1.alloc (.cells #[.int .i64 d.kind, .int .i64 d.parent, .int .i64 d.host, .int .i64 d.shadow, .int .i64 d.mode, .bool d.slot, .string d.name, .string d.want, .slice A1 d.kids.length c1] 45)).alloc (.cells #[.int .i64 i] 3)) w2 → Below w.heap.size w w2) := Lib.hid fun w2 hk2 =>
        below_then ((hB1.alloc hB1.size _).alloc (by have := hB1.size; simp; omega) _) hk2 (by have := hB1.size; simp; omega) fun i hi e => by have := (hown _ e).1; omega
      have Hd := Lib.hid hd
      clear hd hb1 hB1 hP1 hown HP hb hRw
      go_wp2_with (at_builtin; refine wpList_push rfl (.tmp 17) (.tmp 19) rfl rfl HP2.out rfl HB2.out hxl HS2.out ?_; intro g cap w2 hp2 hk2 _ _; have c1 := HC.out w2 hk2)
      go_roundw
      case rel => exact ⟨_, xs ++ [i], rfl, Hfin.out, by simpa using hp2, HE.out w2 hk2⟩
      case measure =>
        simp only [intOf]
        rw [Hd.out, parL_step Hg.out.tree Ht.out]
        simp
end
end Go.Proofs.Ytojcchjhimagiaa

namespace Go.Proofs.Ytojcchjhimagiaa
open Go Go.RowKit

theorem lastL_at {xs : List Int} {m : Nat} (h : xs.length = m + 1) : lastL xs = xs[m]'(by omega) := by
  unfold lastL
  have e : xs.length - 1 = m := by omega
  rw [List.getLastD_eq_getLast?, List.getLast?_eq_getElem?, e, List.getElem?_eq_getElem (by omega)]
  rfl
/-- The children among which a node stands. -/
def rowL (l : List Nd) (id : Int) : List Int := if thereB l id = true then if thereB l (nd l id).parent = true then (nd l (nd l id).parent).kids else [] else []
/-- The one behind. -/
def nextL (xs : List Int) (x : Int) : Int := if idxL xs x < 0 then 0 else xs.getD ((idxL xs x).toNat + 1) 0
theorem few_nd {l : List Nd} {K : Nat} (h : Few K l) (i : Int) : (nd l i).kids.length ≤ K := by
  unfold nd
  rw [List.getD_eq_getElem?_getD]
  cases e : l[(i - 1).toNat]? with
  | none => exact Nat.zero_le _
  | some d => exact h d (List.mem_of_getElem? e)
theorem rowL_len {l : List Nd} (h : Few 200 l) (i : Int) : (rowL l i).length ≤ 200 := by
  unfold rowL
  split
  · split
    · exact few_nd h _
    · exact Nat.zero_le _
  · exact Nat.zero_le _
theorem idxL_range (xs : List Int) (x : Int) : idxL xs x = -1 ∨ ∃ k : Nat, idxL xs x = (k : Int) ∧ k < xs.length := by
  unfold idxL
  by_cases h : x ∈ xs
  · rw [if_pos h]
    exact .inr ⟨_, rfl, List.idxOf_lt_length_of_mem h⟩
  · rw [if_neg h]
    exact .inl rfl

section
variable {Rep : (Nat → Prop) → World → Nat → List Nd → Prop} {S : Nat → Prop} {w : World} {b : Nat} {l : List Nd}
set_option maxHeartbeats 1000000 in
theorem kinRoot (O : ForestOk Rep) (M : ForestMore Rep) (id : Int) (h : Rep S w b l) (hg : Good l) :
    Calls Try.prog 22 #[at_ b, .int .i64 id] w fun e w' => e = .returned (.int .i64 (rootL l id)) ∧ Below w.heap.size w w' := by
  have C := Lib.hid (kinUp O M id h hg)
  have hRl : (parL l id).length ≤ 128 := Nat.le_trans (parL_len hg.tree id) hg.len
  have hroot : rootL l id = lastL (parL l id) := rfl
  rw [hroot]
  obtain ⟨R, hR⟩ : ∃ R, R = parL l id := ⟨_, rfl⟩
  rw [← hR] at hRl C
  rw [← hR]
  clear h hg hR hroot
  go_enter Try.func22, Try.ntmps22
  go_wp2_with fail
  refine C.out.mono ?_
  rintro e w1 ⟨v, rfl, hP, hb⟩
  obtain ⟨A, c, rfl, hL⟩ := hP.form
  clear C hP
  cases hm : R.length with
  | zero =>
    have e0 : lastL R = 0 := by rw [List.length_eq_zero_iff.1 hm]; rfl
    have E0 := Lib.hid e0
    have Hm := Lib.hid hm
    clear e0 hm
    go_wp2
    go_ret
    rw [E0.out]
    exact ⟨rfl, hb⟩
  | succ m =>
    have e0 := lastL_at hm
    obtain ⟨b', off, rfl, -, hc⟩ := hL.nums m (by omega)
    obtain ⟨y, hy⟩ : ∃ y, y = R[m]'(by omega) := ⟨_, rfl⟩
    rw [← hy] at hc e0
    have E0 := Lib.hid e0
    clear e0
    have hm' : m ≤ 128 := by omega
    have z1 : (((m : Int) + 1) == 0) = false := by rw [beq_eq_false_iff_ne]; omega
    clear hm hy hL hRl
    go_wp2
    go_ret
    rw [E0.out]
    exact ⟨rfl, hb⟩
theorem kinAbove (O : ForestOk Rep) (M : ForestMore Rep) (x id : Int) (h : Rep S w b l) (hg : Good l) :
    Calls Try.prog 70 #[at_ b, .int .i64 x, .int .i64 id] w fun e w' => e = .returned (.bool (hasB (parL l id) x)) ∧ Below w.heap.size w w' := by
  have C := Lib.hid (kinUp O M id h hg)
  have hRl : (parL l id).length ≤ 1000000 := Nat.le_trans (Nat.le_trans (parL_len hg.tree id) hg.len) (by decide)
  obtain ⟨R, hR⟩ : ∃ R, R = parL l id := ⟨_, rfl⟩
  rw [← hR] at hRl C
  rw [← hR]
  clear h hg hR
  go_enter Try.func70, Try.ntmps70
  go_wp2_with fail
  refine C.out.mono ?_
  rintro e w1 ⟨v, rfl, hP, hb⟩
  obtain ⟨A, c, rfl, hL⟩ := hP.form
  clear C hP
  go_wp2_with fail
  refine (contains_any R A R.length c x w1 rfl hRl hL.nums).mono ?_
  rintro e w2 ⟨rfl, rfl⟩
  go_wp2
  go_ret
  exact ⟨rfl, hb⟩
set_option maxHeartbeats 2000000 in
theorem kinRow (O : ForestOk Rep) (M : ForestMore Rep) (id : Int) (h : Rep S w b l) (hg : Good l) :
    Calls Try.prog 47 #[at_ b, .int .i64 id] w fun e w' => ∃ v, e = .returned v ∧ Pile w.heap.size w' v (rowL l id) ∧ Below w.heap.size w w' := by
  have H := Lib.hid h
  have Hg := Lib.hid hg
  obtain ⟨R, hR⟩ : ∃ R, R = rowL l id := ⟨_, rfl⟩
  rw [← hR]
  unfold rowL at hR
  cases ht : thereB l id with
  | false =>
    rw [ht, if_neg (by decide)] at hR
    subst hR
    have Ht := Lib.hid ht
    clear ht h hg
    go_enter Try.func47, Try.ntmps47
    go_wp2_with fail
    refine (nodeNo M H.out Hg.out Ht.out).mono ?_
    rintro e w1 ⟨A1, c1, rfl, -, hb1⟩
    have hb2 : Below w.heap.size w (w1.alloc (.cells #[.int .i64 0, .int .i64 0, .int .i64 0, .int .i64 0, .int .i64 0, .bool false, .string ⟨#[]⟩, .string ⟨#[]⟩, .slice A1 0 c1] 45)) := hb1.alloc hb1.size _
    have hR2 := O.keep H.out (Keeps.of_below (F := fun i => w.heap.size ≤ i) hb2 fun _ _ h => h) fun _ _ hi => Nat.not_le.2 hi
    have HR2 := Lib.hid hR2
    have Hb2 := Lib.hid hb2
    clear hR2 hb1 hb2
    go_wp2_with fail
    refine (nodeNo M HR2.out Hg.out (there_zero l)).mono ?_
    rintro e w3 ⟨A3, c3, rfl, hk3, hb3⟩
    have hs3 := Hb2.out.size
    have HF : Hid (Pile w.heap.size (w3.alloc (.cells #[.int .i64 0, .int .i64 0, .int .i64 0, .int .i64 0, .int .i64 0, .bool false, .string ⟨#[]⟩, .string ⟨#[]⟩, .slice A3 0 c3] 45)) (.slice A3 0 c3) [] ∧ Below w.heap.size w (w3.alloc (.cells #[.int .i64 0, .int .i64 0, .int .i64 0, .int .i64 0, .int .i64 0, .bool false, .string ⟨#[]⟩, .string ⟨#[]⟩, .slice A3 0 c3] 45))) := Lib.hid ⟨(Pile.of_kids hk3 fun g hg _ => Nat.le_trans hs3 hg).alloc _, (Hb2.out.trans (hb3.mono hs3)).alloc (Nat.le_trans hs3 hb3.size) _⟩
    clear hb3 hk3 HR2 Hb2 hs3
    go_wp2
    go_ret
    exact ⟨_, rfl, HF.out.1, HF.out.2⟩
  | true =>
    rw [ht, if_pos rfl] at hR
    have Ht := Lib.hid ht
    clear ht h hg
    go_enter Try.func47, Try.ntmps47
    go_wp2_with fail
    refine (nodeYes M H.out Hg.out Ht.out).mono ?_
    rintro e w1 ⟨A1, c1, rfl, -, hb1⟩
    obtain ⟨d, hd⟩ : ∃ d, d = nd l id := ⟨_, rfl⟩
    rw [← hd] at hR
    rw [← hd]
    have hb2 : Below w.heap.size w (w1.alloc (.cells #[.int .i64 d.kind, .int .i64 d.parent, .int .i64 d.host, .int .i64 d.shadow, .int .i64 d.mode, .bool d.slot, .string d.name, .string d.want, .slice A1 d.kids.length c1] 45)) := hb1.alloc hb1.size _
    have hR2 := O.keep H.out (Keeps.of_below (F := fun i => w.heap.size ≤ i) hb2 fun _ _ h => h) fun _ _ hi => Nat.not_le.2 hi
    have HR2 := Lib.hid hR2
    have Hb2 := Lib.hid hb2
    clear hR2 hb1 hb2 hd
    cases hp : thereB l d.parent with
    | false =>
      rw [hp, if_neg (by decide)] at hR
      subst hR
      have Hp := Lib.hid hp
      clear hp
      go_wp2_with fail
      refine (nodeNo M HR2.out Hg.out Hp.out).mono ?_
      rintro e w3 ⟨A3, c3, rfl, hk3, hb3⟩
      have hs3 := Hb2.out.size
      have HF : Hid (Pile w.heap.size (w3.alloc (.cells #[.int .i64 0, .int .i64 0, .int .i64 0, .int .i64 0, .int .i64 0, .bool false, .string ⟨#[]⟩, .string ⟨#[]⟩, .slice A3 0 c3] 45)) (.slice A3 0 c3) [] ∧ Below w.heap.size w (w3.alloc (.cells #[.int .i64 0, .int .i64 0, .int .i64 0, .int .i64 0, .int .i64 0, .bool false, .string ⟨#[]⟩, .string ⟨#[]⟩, .slice A3 0 c3] 45))) := Lib.hid ⟨(Pile.of_kids hk3 fun g hg _ => Nat.le_trans hs3 hg).alloc _, (Hb2.out.trans (hb3.mono hs3)).alloc (Nat.le_trans hs3 hb3.size) _⟩
      clear hb3 hk3 HR2 Hb2 hs3
      go_wp2
      go_ret
      exact ⟨_, rfl, HF.out.1, HF.out.2⟩
    | true =>
      rw [hp, if_pos rfl] at hR
      have Hp := Lib.hid hp
      clear hp
      go_wp2_with fail
      refine (nodeYes M HR2.out Hg.out Hp.out).mono ?_
      rintro e w3 ⟨A3, c3, rfl, hk3, hb3⟩
      obtain ⟨d3, hd3⟩ : ∃ d3, d3 = nd l d.parent := ⟨_, rfl⟩
      rw [← hd3] at hR hk3
      rw [← hd3]
      subst hR
      have hs3 := Hb2.out.size
      have HF : Hid (Pile w.heap.size (w3.alloc (.cells #[.int .i64 d3.kind, .int .i64 d3.parent, .int .i64 d3.host, .int .i64 d3.shadow, .int .i64 d3.mode, .bool d3.slot, .string d3.name, .string d3.want, .slice A3 d3.kids.length c3] 45)) (.slice A3 d3.kids.length c3) d3.kids ∧ Below w.heap.size w (w3.alloc (.cells #[.int .i64 d3.kind, .int .i64 d3.parent, .int .i64 d3.host, .int .i64 d3.shadow, .int .i64 d3.mode, .bool d3.slot, .string d3.name, .string d3.want, .slice A3 d3.kids.length c3] 45))) := Lib.hid ⟨(Pile.of_kids hk3 fun g hg _ => Nat.le_trans hs3 hg).alloc _, (Hb2.out.trans (hb3.mono hs3)).alloc (Nat.le_trans hs3 hb3.size) _⟩
      clear hb3 hk3 HR2 Hb2 hs3 hd3
      go_wp2
      go_ret
      exact ⟨_, rfl, HF.out.1, HF.out.2⟩
theorem kinIndex (O : ForestOk Rep) (M : ForestMore Rep) (id : Int) (h : Rep S w b l) (hg : Good l) :
    Calls Try.prog 37 #[at_ b, .int .i64 id] w fun e w' => e = .returned (.int .i64 (idxL (rowL l id) id)) ∧ Below w.heap.size w w' := by
  have C := Lib.hid (kinRow O M id h hg)
  have hRl : (rowL l id).length ≤ 1000000 := Nat.le_trans (rowL_len hg.few id) (by decide)
  obtain ⟨R, hR⟩ : ∃ R, R = rowL l id := ⟨_, rfl⟩
  rw [← hR] at hRl C
  rw [← hR]
  clear h hg hR
  go_enter Try.func37, Try.ntmps37
  go_wp2_with fail
  refine C.out.mono ?_
  rintro e w1 ⟨v, rfl, hP, hb⟩
  obtain ⟨A, c, rfl, hL⟩ := hP.form
  clear C hP
  go_wp2_with fail
  refine (index_any R A R.length c id w1 rfl hRl hL.nums).mono ?_
  rintro e w2 ⟨rfl, rfl⟩
  go_wp2
  go_ret
  exact ⟨rfl, hb⟩
set_option maxHeartbeats 2000000 in
theorem kinNext (O : ForestOk Rep) (M : ForestMore Rep) (id : Int) (h : Rep S w b l) (hg : Good l) :
    Calls Try.prog 21 #[at_ b, .int .i64 id] w fun e w' => e = .returned (.int .i64 (nextL (rowL l id) id)) ∧ Below w.heap.size w w' := by
  have C := Lib.hid (kinRow O M id h hg)
  have hRl : (rowL l id).length ≤ 1000000 := Nat.le_trans (rowL_len hg.few id) (by decide)
  obtain ⟨R, hR⟩ : ∃ R, R = rowL l id := ⟨_, rfl⟩
  rw [← hR] at hRl C
  rw [← hR]
  clear h hg hR
  go_enter Try.func21, Try.ntmps21
  go_wp2_with fail
  refine C.out.mono ?_
  rintro e w1 ⟨v, rfl, hP, hb⟩
  obtain ⟨A, c, rfl, hL⟩ := hP.form
  clear C hP
  go_wp2_with fail
  refine (index_any R A R.length c id w1 rfl hRl hL.nums).mono ?_
  rintro e w2 ⟨rfl, rfl⟩
  rcases idxL_range R id with hi | ⟨k, hi, hk⟩
  · have e0 : nextL R id = 0 := by unfold nextL; rw [hi]; rfl
    rw [hi]
    have E0 := Lib.hid e0
    clear hi e0
    go_wp2
    go_ret
    rw [E0.out]
    exact ⟨rfl, hb⟩
  · have e0 : nextL R id = R.getD (k + 1) 0 := by
      unfold nextL
      rw [hi, if_neg (by omega)]
      rfl
    rw [hi]
    have E0 := Lib.hid e0
    clear hi e0
    obtain ⟨n, hn⟩ : ∃ n, n = R.length := ⟨_, rfl⟩
    rw [← hn] at hRl hk
    rw [← hn]
    by_cases hlast : k + 1 = n
    · subst hlast
      have e1 : R.getD (k + 1) 0 = 0 := by rw [List.getD_eq_getElem?_getD, List.getElem?_eq_none (by omega)]; rfl
      have E1 := Lib.hid e1
      clear hL hn e1
      go_wp2
      go_ret
      rw [E0.out, E1.out]
      exact ⟨rfl, hb⟩
    · have hk1 : k + 1 < R.length := by omega
      obtain ⟨b', off, rfl, -, hc⟩ := hL.nums (k + 1) hk1
      have e1 : R.getD (k + 1) 0 = R[k + 1] := by rw [List.getD_eq_getElem?_getD, List.getElem?_eq_getElem hk1]; rfl
      obtain ⟨y, hy⟩ : ∃ y, y = R[k + 1] := ⟨_, rfl⟩
      rw [← hy] at hc e1
      have E1 := Lib.hid e1
      have hkn : (k : Int) + 1 < n := by omega
      have z1 : ((k : Int) == (n : Int) - 1) = false := by rw [beq_eq_false_iff_ne]; omega
      have hc' : w1.cell? ⟨b', off + k + 1, none⟩ = some (.int .i64 y) := hc
      clear hL hn e1 hy hk1
      go_wp2
      go_ret
      rw [E0.out, E1.out]
      exact ⟨rfl, hb⟩
end
end Go.Proofs.Ytojcchjhimagiaa

namespace Go.Proofs.Ytojcchjhimagiaa
open Go Go.RowKit

set_option maxHeartbeats 4000000 in
set_option maxRecDepth 100000 in
theorem refNodes (A : Option Addr) (n c : Nat) (xs : List Ac) (w : World) (hn : xs.length = n) (h : Acts w A xs) (hs : Small xs) :
    Calls Try.prog 10 #[.slice A n c] w fun e w' => ∃ A' c', e = .returned (.slice A' (forest xs).length c') ∧ Nodes (fun i => w.heap.size ≤ i) w' 0 A' c' (forest xs) ∧ Below w.heap.size w w' := by
  have H := Lib.hid h
  have Hn := Lib.hid hn
  have Hs := Lib.hid hs
  have hnb : n ≤ 300 := by rw [← hn]; exact hs.1
  clear h hn hs
  go_enter Try.func10, Try.ntmps10
  go_wp2_with fail
  go_loopw [3, 4] (fun v i wr => ∃ (j : Nat) (A' : Option Addr) (c' : Nat), v = .slice A' (forest (xs.take j)).length c' ∧ i = .int .i64 j ∧ j ≤ n ∧ Nodes (fun i => w.heap.size ≤ i) wr 0 A' c' (forest (xs.take j)) ∧ Below w.heap.size w wr) (fun _ i _ => n - (intOf i).toNat)
  case atStart => exact ⟨0, none, 0, rfl, rfl, Nat.zero_le _, Nodes.nil _ _, Below.refl _ _⟩
  case round =>
    obtain ⟨j, A', c', rfl, rfl, hj, hN, hb⟩ := hrel
    by_cases hjn : (j : Int) < n
    · have hjx : j < xs.length := by rw [Hn.out]; omega
      obtain ⟨b', off, A1, c1, A2, c2, rfl, hB, hc, hL, hA⟩ := H.out j hjx
      have hsn : forest (xs.take (j + 1)) = actL (forest (xs.take j)) xs[j] := by
        rw [List.take_add_one, List.getElem?_eq_getElem hjx]
        exact forest_snoc _ _
      have hxl : xs[j].l.length ≤ 200 := Hs.out.2 _ (List.getElem_mem hjx)
      have hg : Good (forest (xs.take j)) := good_take Hs.out j
      obtain ⟨l, hl⟩ : ∃ l, l = forest (xs.take j) := ⟨_, rfl⟩
      rw [← hl] at hsn hg hN
      rw [← hl]
      obtain ⟨x, hx⟩ : ∃ x, x = xs[j] := ⟨_, rfl⟩
      rw [← hx] at hc hA hsn hxl
      clear hl hx hL
      have hc' : ∀ f, f < 14 → wr.cell? ⟨b', off + j * 14 + f, none⟩ = (actCells x (.slice A1 x.n.kids.length c1) (.slice A2 x.l.length c2))[f]? := fun f hf => by
        rw [hb.cell (p := ⟨b', off + j * 14 + f, none⟩) hB, Nat.add_assoc]
        exact hc f hf
      have g0 : wr.cell? ⟨b', off + j * 14, none⟩ = some (.int .i64 x.kind) := hc' 0 (by omega)
      have g1 : wr.cell? ⟨b', off + j * 14 + 1, none⟩ = some (.int .i64 x.a) := hc' 1 (by omega)
      have g2 : wr.cell? ⟨b', off + j * 14 + 2, none⟩ = some (.int .i64 x.b) := hc' 2 (by omega)
      have g3 : wr.cell? ⟨b', off + j * 14 + 3, none⟩ = some (.string x.s) := hc' 3 (by omega)
      have g4 : wr.cell? ⟨b', off + j * 14 + 4, none⟩ = some (.int .i64 x.n.kind) := hc' 4 (by omega)
      have g5 : wr.cell? ⟨b', off + j * 14 + 5, none⟩ = some (.int .i64 x.n.parent) := hc' 5 (by omega)
      have g6 : wr.cell? ⟨b', off + j * 14 + 6, none⟩ = some (.int .i64 x.n.host) := hc' 6 (by omega)
      have g7 : wr.cell? ⟨b', off + j * 14 + 7, none⟩ = some (.int .i64 x.n.shadow) := hc' 7 (by omega)
      have g8 : wr.cell? ⟨b', off + j * 14 + 8, none⟩ = some (.int .i64 x.n.mode) := hc' 8 (by omega)
      have g9 : wr.cell? ⟨b', off + j * 14 + 9, none⟩ = some (.bool x.n.slot) := hc' 9 (by omega)
      have g10 : wr.cell? ⟨b', off + j * 14 + 10, none⟩ = some (.string x.n.name) := hc' 10 (by omega)
      have g11 : wr.cell? ⟨b', off + j * 14 + 11, none⟩ = some (.string x.n.want) := hc' 11 (by omega)
      have g12 : wr.cell? ⟨b', off + j * 14 + 12, none⟩ = some (.slice A1 x.n.kids.length c1) := hc' 12 (by omega)
      have g13 : wr.cell? ⟨b', off + j * 14 + 13, none⟩ = some (.slice A2 x.l.length c2) := hc' 13 (by omega)
      have C := do_any l A' c' x (.slice A1 x.n.kids.length c1) A2 c2 wr (Nat.le_trans hg.len (by decide)) (fun d hd => Nat.le_trans (hg.few d hd) (by decide)) (G := fun i => w.heap.size ≤ i) (fun i hi => Nat.le_trans hb.size hi) (Nat.le_trans hxl (by decide)) hN (hA.below hb)
      unfold actVal at C
      have HC := Lib.hid C
      have Hsn := Lib.hid hsn
      clear C hc hc' hsn hA hN hg
      go_wp2_with fail
      refine HC.out.mono ?_
      rintro e w2 ⟨A3, c3, rfl, hN3, hb3⟩
      go_wp2
      go_roundw
      case rel => exact ⟨j + 1, A3, c3, by rw [Hsn.out], by go_num, by omega, by rw [Hsn.out]; exact hN3, hb.trans (hb3.mono hb.size)⟩
      case measure => simp [intOf]; omega
    · rw [List.take_of_length_le (by rw [Hn.out]; omega)] at hN
      have e0 : (forest (xs.take j)).length = (forest xs).length := by rw [List.take_of_length_le (by rw [Hn.out]; omega)]
      rw [e0]
      clear e0
      go_wp2
      go_ret
      exact ⟨A', c', rfl, hN, hb⟩
section
variable {G : Nat → Prop}
set_option maxHeartbeats 4000000 in
set_option maxRecDepth 100000 in
theorem refUp (l : List Nd) (A : Option Addr) (c : Nat) (id : Int) (w : World) (hl : l.length ≤ 1000) (h : Nodes G w 0 A c l) :
    Calls Try.prog 50 #[.slice A l.length c, .int .i64 id] w fun e w' => ∃ v, e = .returned v ∧ Pile w.heap.size w' v (parL l id) ∧ Below w.heap.size w w' := by
  have H := Lib.hid h
  obtain ⟨R, hR⟩ : ∃ R, R = parL l id := ⟨_, rfl⟩
  rw [← hR]
  have hR0 : ([] : List Int) ++ parN l (l.length + 1 - 0) id = R := by rw [hR]; rfl
  have HR0 := Lib.hid hR0
  clear h hR hR0
  go_enter Try.func50, Try.ntmps50
  go_wp2_with fail
  go_loopw [1, 5, 6] (fun a o i wr => ∃ (j : Nat) (id : Int) (xs : List Int), a = .int .i64 id ∧ i = .int .i64 j ∧ j ≤ l.length + 1 ∧ xs.length = j ∧ xs ++ parN l (l.length + 1 - j) id = R ∧ Pile w.heap.size wr o xs ∧ Below w.heap.size w wr) (fun _ _ i _ => l.length + 1 - (intOf i).toNat)
  case atStart => exact ⟨0, id, [], rfl, rfl, Nat.zero_le _, rfl, HR0.out, Pile.nil _ _, Below.refl _ _⟩
  case round =>
    obtain ⟨j, id, xs, rfl, rfl, hj, hxl, hxs, hP, hb⟩ := hrel
    have Hxs := Lib.hid hxs
    have Hxl := Lib.hid hxl
    clear HR0 hxs hxl
    obtain ⟨Ao, co, rfl, -⟩ := hP.form
    by_cases hjl : (j : Int) ≤ l.length
    · cases hth : thereB l id with
      | true =>
        have hgo : parN l (l.length + 1 - j) id = id :: parN l (l.length + 1 - (j + 1)) (nd l id).parent := by
          rw [show l.length + 1 - j = (l.length + 1 - (j + 1)) + 1 by omega]
          exact par_go hth
        obtain ⟨m, rfl, hml⟩ := there_at hth
        obtain ⟨g, k, rfl, -, hgw, -, -, -, c1, -⟩ := H.out.nine hml
        have hfin : (xs ++ [(m : Int) + 1]) ++ parN l (l.length + 1 - (j + 1)) (nd l ((m : Int) + 1)).parent = R := by
          rw [List.append_assoc, List.singleton_append, ← hgo]
          exact Hxs.out
        obtain ⟨pa, hpa⟩ : ∃ pa, pa = (nd l ((m : Int) + 1)).parent := ⟨_, rfl⟩
        rw [← hpa] at c1 hfin
        have Hfin := Lib.hid hfin
        have hxb : xs.length ≤ 1000000 := by rw [Hxl.out]; omega
        have Hth := Lib.hid hth
        have hown := hP.lt
        have HP2 : Hid (Pile w.heap.size (wr.alloc (.cells #[.int .i64 ((m : Int) + 1)] 3)) (.slice Ao xs.length co) xs) := Lib.hid (hP.alloc _)
        have HB2 : Hid (Has (wr.alloc (.cells #[.int .i64 ((m : Int) + 1)] 3)) wr.heap.size (.cells #[.int .i64 ((m : Int) + 1)] 3 (0, 0))) := Lib.hid (Has.fresh _ _)
        have HS2 : Hid (w.heap.size ≤ (wr.alloc (.cells #[.int .i64 ((m : Int) + 1)] 3)).heap.size) := Lib.hid (by have := hb.size; simp; omega)
        have HE : Hid (∀ w2, Keeps (fun i => (Value.slice Ao xs.length co).ownBlock = some i) (wr.alloc (.cells #[.int .i64 ((m : Int) + 1)] 3)) w2 → Below w.heap.size w w2) := Lib.hid fun w2 hk2 =>
          below_then (hb.alloc hb.size _) hk2 (by have := hb.size; simp; omega) fun i hi e => by have := (hown _ e).1; omega
        have C1 := Lib.hid c1
        clear hgo hth hpa c1 hfin Hxs hP hown hb
        go_wp2_with fail
        refine (there_any l _ c _ wr).mono ?_
        rintro e w1 ⟨rfl, rfl⟩
        rw [Hth.out]
        go_wp2_with (at_builtin; refine wpList_push rfl (.tmp 18) (.tmp 20) rfl rfl HP2.out rfl HB2.out hxb HS2.out ?_; intro g2 cap w2 hp2 hk2 _ _; have hb2 := HE.out w2 hk2; have d1 := (hb2.cell (p := ⟨g, m * 9 + 1, none⟩) hgw).trans C1.out)
        go_roundw
        case rel => exact ⟨j + 1, _, xs ++ [(m : Int) + 1], rfl, by go_num, by omega, by simp [Hxl.out], Hfin.out, by simpa using hp2, hb2⟩
        case measure => simp [intOf]; omega
      | false =>
        go_wp2_with fail
        refine (there_any l A c id wr).mono ?_
        rintro e w1 ⟨rfl, rfl⟩
        rw [hth]
        go_wp2
        go_ret
        refine ⟨_, rfl, ?_, hb⟩
        have := Hxs.out
        rw [par_no hth, List.append_nil] at this
        rw [← this]
        exact hP
    · go_wp2
      go_ret
      refine ⟨_, rfl, ?_, hb⟩
      have := Hxs.out
      rw [show l.length + 1 - j = 0 by omega] at this
      rw [← this, parN, List.append_nil]
      exact hP
set_option maxHeartbeats 1000000 in
theorem refRoot (l : List Nd) (A : Option Addr) (c : Nat) (id : Int) (w : World) (hg : Good l) (h : Nodes G w 0 A c l) :
    Calls Try.prog 73 #[.slice A l.length c, .int .i64 id] w fun e w' => e = .returned (.int .i64 (rootL l id)) ∧ Below w.heap.size w w' := by
  have C := Lib.hid (refUp l A c id w (Nat.le_trans hg.len (by decide)) h)
  have hRl : (parL l id).length ≤ 128 := Nat.le_trans (parL_len hg.tree id) hg.len
  have hroot : rootL l id = lastL (parL l id) := rfl
  rw [hroot]
  obtain ⟨R, hR⟩ : ∃ R, R = parL l id := ⟨_, rfl⟩
  rw [← hR] at hRl C
  rw [← hR]
  clear h hg hR hroot
  go_enter Try.func73, Try.ntmps73
  go_wp2_with fail
  refine C.out.mono ?_
  rintro e w1 ⟨v, rfl, hP, hb⟩
  obtain ⟨A, c, rfl, hL⟩ := hP.form
  clear C hP
  cases hm : R.length with
  | zero =>
    have e0 : lastL R = 0 := by rw [List.length_eq_zero_iff.1 hm]; rfl
    have E0 := Lib.hid e0
    have Hm := Lib.hid hm
    clear e0 hm
    go_wp2
    go_ret
    rw [E0.out]
    exact ⟨rfl, hb⟩
  | succ m =>
    have e0 := lastL_at hm
    obtain ⟨b', off, rfl, -, hc⟩ := hL.nums m (by omega)
    obtain ⟨y, hy⟩ : ∃ y, y = R[m]'(by omega) := ⟨_, rfl⟩
    rw [← hy] at hc e0
    have E0 := Lib.hid e0
    clear e0
    have hm' : m ≤ 128 := by omega
    have z1 : (((m : Int) + 1) == 0) = false := by rw [beq_eq_false_iff_ne]; omega
    clear hm hy hL hRl
    go_wp2
    go_ret
    rw [E0.out]
    exact ⟨rfl, hb⟩
theorem refAbove (l : List Nd) (A : Option Addr) (c : Nat) (x id : Int) (w : World) (hg : Good l) (h : Nodes G w 0 A c l) :
    Calls Try.prog 23 #[.slice A l.length c, .int .i64 x, .int .i64 id] w fun e w' => e = .returned (.bool (hasB (parL l id) x)) ∧ Below w.heap.size w w' := by
  have C := Lib.hid (refUp l A c id w (Nat.le_trans hg.len (by decide)) h)
  have hRl : (parL l id).length ≤ 1000000 := Nat.le_trans (Nat.le_trans (parL_len hg.tree id) hg.len) (by decide)
  obtain ⟨R, hR⟩ : ∃ R, R = parL l id := ⟨_, rfl⟩
  rw [← hR] at hRl C
  rw [← hR]
  clear h hg hR
  go_enter Try.func23, Try.ntmps23
  go_wp2_with fail
  refine C.out.mono ?_
  rintro e w1 ⟨v, rfl, hP, hb⟩
  obtain ⟨A2, c2, rfl, hL⟩ := hP.form
  clear C hP
  go_wp2_with fail
  refine (has_any R A2 R.length c2 x w1 rfl hRl hL.nums).mono ?_
  rintro e w2 ⟨rfl, rfl⟩
  go_wp2
  go_ret
  exact ⟨rfl, hb⟩
end
end Go.Proofs.Ytojcchjhimagiaa

namespace Go.Proofs.Ytojcchjhimagiaa
open Go Go.RowKit

/-- How many of a list are of a kind. -/
def cntL (l : List Nd) (kind : Int) (ks : List Int) : Nat := (ks.filter fun k => decide ((nd l k).kind = kind)).length
def kidsL (l : List Nd) (id : Int) : List Int := if thereB l id = true then (nd l id).kids else []
theorem cntL_step {l : List Nd} {kind : Int} {ks : List Int} {j : Nat} (hj : j < ks.length) : cntL l kind (ks.take (j + 1)) = cntL l kind (ks.take j) + if (nd l ks[j]).kind = kind then 1 else 0 := by
  unfold cntL
  rw [List.take_add_one, List.getElem?_eq_getElem hj, Option.toList_some, List.filter_append, List.length_append]
  congr 1
  by_cases h : (nd l ks[j]).kind = kind
  · rw [if_pos h, List.filter_cons_of_pos (by simpa using h)]
    rfl
  · rw [if_neg h, List.filter_cons_of_neg (by simpa using h)]
    rfl
theorem cntL_le (l : List Nd) (kind : Int) (ks : List Int) : cntL l kind ks ≤ ks.length := List.length_filter_le _ _

section
variable {Rep : (Nat → Prop) → World → Nat → List Nd → Prop} {S : Nat → Prop} {w : World} {b : Nat} {l : List Nd}
theorem ForestOk.since (O : ForestOk Rep) {w' : World} (h : Rep S w b l) (hb : Below w.heap.size w w') : Rep S w' b l := O.keep h (Keeps.of_below (F := fun i => w.heap.size ≤ i) hb fun _ _ h => h) fun _ _ hi => Nat.not_le.2 hi
set_option maxHeartbeats 4000000 in
set_option maxRecDepth 100000 in
theorem kinCount (O : ForestOk Rep) (M : ForestMore Rep) (id kind : Int) (h : Rep S w b l) (hg : Good l) :
    Calls Try.prog 72 #[at_ b, .int .i64 id, .int .i64 kind] w fun e w' => e = .returned (.int .i64 (cntL l kind (kidsL l id))) ∧ Below w.heap.size w w' := by
  have H := Lib.hid h
  have Hg := Lib.hid hg
  cases ht : thereB l id with
  | false =>
    have e0 : cntL l kind (kidsL l id) = 0 := by unfold kidsL; rw [if_neg (by rw [ht]; decide)]; rfl
    have E0 := Lib.hid e0
    have Ht := Lib.hid ht
    clear ht h hg e0
    go_enter Try.func72, Try.ntmps72
    go_wp2_with fail
    refine (nodeNo M H.out Hg.out Ht.out).mono ?_
    rintro e w1 ⟨A1, c1, rfl, -, hb1⟩
    have hb2 : Below w.heap.size w (w1.alloc (.cells #[.int .i64 0, .int .i64 0, .int .i64 0, .int .i64 0, .int .i64 0, .bool false, .string ⟨#[]⟩, .string ⟨#[]⟩, .slice A1 0 c1] 45)) := hb1.alloc hb1.size _
    have Hb2 := Lib.hid hb2
    clear hb1 hb2
    go_wp2_with fail
    go_loop [9, 23] (fun c i => c = .int .i64 0 ∧ i = .int .i64 0) (fun _ _ => 0)
    case atStart => exact ⟨rfl, rfl⟩
    case round =>
      obtain ⟨rfl, rfl⟩ := hrel
      go_wp2
      go_ret
      rw [E0.out]
      exact ⟨rfl, Hb2.out⟩
  | true =>
    have e0 : kidsL l id = (nd l id).kids := by unfold kidsL; rw [if_pos ht]
    have hall : ∀ k ∈ kidsL l id, thereB l k = true := fun k hk => by
      rw [e0] at hk
      exact (hg.tree.kid id ht k hk).1
    have hkl : (kidsL l id).length ≤ 200 := by rw [e0]; exact few_nd hg.few id
    have Ht := Lib.hid ht
    have E0 := Lib.hid e0
    have Hall := Lib.hid hall
    obtain ⟨ks, hks⟩ : ∃ ks, ks = kidsL l id := ⟨_, rfl⟩
    rw [← hks] at E0 Hall hkl
    rw [← hks]
    clear ht h hg e0 hks hall
    go_enter Try.func72, Try.ntmps72
    go_wp2_with fail
    refine (nodeYes M H.out Hg.out Ht.out).mono ?_
    rintro e w1 ⟨A1, c1, rfl, hk1, hb1⟩
    obtain ⟨d, hd⟩ : ∃ d, d = nd l id := ⟨_, rfl⟩
    rw [← hd] at hk1 E0
    rw [← hd]
    obtain rfl : ks = d.kids := E0.out
    have hbox : Below w1.heap.size w1 (w1.alloc (.cells #[.int .i64 d.kind, .int .i64 d.parent, .int .i64 d.host, .int .i64 d.shadow, .int .i64 d.mode, .bool d.slot, .string d.name, .string d.want, .slice A1 d.kids.length c1] 45)) := (Below.refl _ w1).alloc (Nat.le_refl _) _
    have hb2 : Below w.heap.size w (w1.alloc (.cells #[.int .i64 d.kind, .int .i64 d.parent, .int .i64 d.host, .int .i64 d.shadow, .int .i64 d.mode, .bool d.slot, .string d.name, .string d.want, .slice A1 d.kids.length c1] 45)) := hb1.alloc hb1.size _
    obtain ⟨A, c, eA, hL⟩ := (Pile.of_kids (base := w.heap.size) (hk1.below hbox) fun g hg _ => hg).form
    obtain ⟨rfl, rfl⟩ : A1 = A ∧ c1 = c := by injection eA with e1 _ e3; exact ⟨e1, e3⟩
    have Hb2 := Lib.hid hb2
    have HL := Lib.hid hL
    have HR2 := Lib.hid (O.since H.out hb2)
    obtain ⟨n, hn⟩ : ∃ n, n = d.kids.length := ⟨_, rfl⟩
    rw [← hn] at Hb2 HL HR2
    rw [← hn]
    rw [← hn] at hkl
    have Hnk := Lib.hid hn
    clear hd hb1 hb2 hbox hk1 eA E0 Ht hL hn
    go_wp2_with fail
    obtain ⟨W, hW⟩ : ∃ W, W = w1.alloc (.cells #[.int .i64 d.kind, .int .i64 d.parent, .int .i64 d.host, .int .i64 d.shadow, .int .i64 d.mode, .bool d.slot, .string d.name, .string d.want, .slice A1 n c1] 45) := ⟨_, rfl⟩
    rw [← hW] at Hb2 HL HR2
    rw [← hW]
    clear hW
    go_loopw [9, 23] (fun cnt i wr => ∃ j : Nat, i = .int .i64 j ∧ j ≤ n ∧ cnt = .int .i64 (cntL l kind (d.kids.take j) : Nat) ∧ Below W.heap.size W wr) (fun _ i _ => n - (intOf i).toNat)
    case atStart => exact ⟨0, rfl, Nat.zero_le _, rfl, Below.refl _ _⟩
    case round =>
      obtain ⟨j, rfl, hj, rfl, hb⟩ := hrel
      by_cases hjn : (j : Int) < n
      · have hjk : j < d.kids.length := by rw [← Hnk.out]; omega
        obtain ⟨b', off, rfl, hB, hc0⟩ := HL.out.nums j hjk
        have hc : wr.cell? ⟨b', off + j, none⟩ = some (.int .i64 d.kids[j]) := (hb.cell (p := ⟨b', off + j, none⟩) hB).trans hc0
        have hth := Hall.out d.kids[j] (List.getElem_mem hjk)
        have hst := cntL_step (l := l) (kind := kind) hjk
        have hle := cntL_le l kind (d.kids.take j)
        rw [List.length_take] at hle
        obtain ⟨y, hy⟩ : ∃ y, y = d.kids[j] := ⟨_, rfl⟩
        rw [← hy] at hc hth hst
        obtain ⟨q, hq⟩ : ∃ q, q = cntL l kind (d.kids.take j) := ⟨_, rfl⟩
        rw [← hq] at hst hle
        rw [← hq]
        have hqb : q ≤ 200 := by omega
        have Hth := Lib.hid hth
        have Hst := Lib.hid hst
        have HRr := Lib.hid (O.since HR2.out hb)
        clear hth hst hc0 hy hq hle hjk
        go_wp2_with fail
        refine (nodeYes M HRr.out Hg.out Hth.out).mono ?_
        rintro e w2 ⟨A2, c2, rfl, -, hb2⟩
        obtain ⟨d2, hd2⟩ : ∃ d2, d2 = nd l y := ⟨_, rfl⟩
        rw [← hd2] at Hst
        rw [← hd2]
        have HB3 : Hid (Below W.heap.size W (w2.alloc (.cells #[.int .i64 d2.kind, .int .i64 d2.parent, .int .i64 d2.host, .int .i64 d2.shadow, .int .i64 d2.mode, .bool d2.slot, .string d2.name, .string d2.want, .slice A2 d2.kids.length c2] 45))) := Lib.hid ((hb.trans (hb2.mono hb.size)).alloc (Nat.le_trans hb.size hb2.size) _)
        clear hd2 hb2 hb HRr Hth
        by_cases hkd : d2.kind = kind
        · have hs1 : cntL l kind (d.kids.take (j + 1)) = q + 1 := by rw [Hst.out, if_pos hkd]
          have Hs1 := Lib.hid hs1
          clear hs1
          subst hkd
          go_wp2
          go_roundw
          case rel => exact ⟨j + 1, by go_num, by omega, by rw [Hs1.out]; go_num, HB3.out⟩
          case measure => simp [intOf]; omega
        · have hs1 : cntL l kind (d.kids.take (j + 1)) = q := by rw [Hst.out, if_neg hkd]; rfl
          have Hs1 := Lib.hid hs1
          have z1 : (d2.kind == kind) = false := by simpa using hkd
          clear hs1
          go_wp2
          go_roundw
          case rel => exact ⟨j + 1, by go_num, by omega, by rw [Hs1.out], HB3.out⟩
          case measure => simp [intOf]; omega
      · have he : cntL l kind (d.kids.take j) = cntL l kind d.kids := by rw [List.take_of_length_le (by rw [← Hnk.out]; omega)]
        rw [he]
        clear he
        go_wp2
        go_ret
        exact ⟨rfl, Hb2.out.trans (hb.mono Hb2.out.size)⟩
end
end Go.Proofs.Ytojcchjhimagiaa

namespace Go.Proofs.Ytojcchjhimagiaa
open Go Go.RowKit

/-- How many nodes ahead of number j have that parent and that kind. -/
def cntP (l : List Nd) (id kind : Int) (j : Nat) : Nat := ((List.range j).filter fun i : Nat => decide ((nd l ((i : Int) + 1)).parent = id ∧ (nd l ((i : Int) + 1)).kind = kind)).length
theorem cntP_step {l : List Nd} {id kind : Int} {j : Nat} : cntP l id kind (j + 1) = cntP l id kind j + if (nd l ((j : Int) + 1)).parent = id ∧ (nd l ((j : Int) + 1)).kind = kind then 1 else 0 := by
  unfold cntP
  rw [List.range_succ, List.filter_append, List.length_append]
  congr 1
  by_cases h : (nd l ((j : Int) + 1)).parent = id ∧ (nd l ((j : Int) + 1)).kind = kind
  · rw [if_pos h, List.filter_cons_of_pos (by simpa using h)]
    rfl
  · rw [if_neg h, List.filter_cons_of_neg (by simpa using h)]
    rfl
theorem cntP_le (l : List Nd) (id kind : Int) (j : Nat) : cntP l id kind j ≤ j := by
  have := List.length_filter_le (fun i : Nat => decide ((nd l ((i : Int) + 1)).parent = id ∧ (nd l ((i : Int) + 1)).kind = kind)) (List.range j)
  rw [List.length_range] at this
  exact this
/-- Those of a parent are its children. -/
theorem cntP_all {l : List Nd} (T : Tree l) {id kind : Int} (ht : thereB l id = true) : cntP l id kind l.length = cntL l kind (kidsL l id) := by
  unfold kidsL
  rw [if_pos ht]
  unfold cntP cntL
  have hp : List.Perm (((List.range l.length).filter fun i : Nat => decide ((nd l ((i : Int) + 1)).parent = id ∧ (nd l ((i : Int) + 1)).kind = kind)).map fun i : Nat => (i : Int) + 1) ((nd l id).kids.filter fun k => decide ((nd l k).kind = kind)) := by
    refine (List.perm_ext_iff_of_nodup ?_ ?_).2 fun k => ?_
    · exact List.pairwise_map.2 ((List.nodup_range.filter _).imp fun h e => h (by omega))
    · exact (T.once id ht).filter _
    · rw [List.mem_map, List.mem_filter]
      constructor
      · rintro ⟨i, hi, rfl⟩
        rw [List.mem_filter, List.mem_range] at hi
        obtain ⟨hlt, hq⟩ := hi
        obtain ⟨h1, h2⟩ := of_decide_eq_true hq
        have hth : thereB l ((i : Int) + 1) = true := thereB_iff.2 ⟨by omega, by omega⟩
        have hne : (nd l ((i : Int) + 1)).parent ≠ 0 := by rw [h1]; exact there_pos ht
        have := (T.par _ hth hne).2
        rw [h1] at this
        exact ⟨this, decide_eq_true h2⟩
      · rintro ⟨hk, hq⟩
        obtain ⟨h1, h2⟩ := T.kid id ht k hk
        obtain ⟨m, rfl, hm⟩ := there_at h1
        exact ⟨m, List.mem_filter.2 ⟨List.mem_range.2 hm, decide_eq_true ⟨h2, of_decide_eq_true hq⟩⟩, rfl⟩
  have := hp.length_eq
  rw [List.length_map] at this
  exact this

section
variable {G : Nat → Prop} {l : List Nd} {A : Option Addr} {c : Nat} {w : World}
/-- The children of a node, as the list holds them. -/
theorem Nodes.row (h : Nodes G w 0 A c l) {m : Nat} (hm : m < l.length) : ∃ g A1 c1, A = some ⟨g, 0, none⟩ ∧ g < w.heap.size ∧ w.cell? ⟨g, m * 9 + 8, none⟩ = some (.slice A1 (nd l ((m : Int) + 1)).kids.length c1) ∧ ListIn w A1 c1 (nd l ((m : Int) + 1)).kids ∧ w.cell? ⟨g, m * 9 + 1, none⟩ = some (.int .i64 (nd l ((m : Int) + 1)).parent) ∧ w.cell? ⟨g, m * 9, none⟩ = some (.int .i64 (nd l ((m : Int) + 1)).kind) := by
  obtain ⟨g, k, rfl, -, hg, hk, -, c0, c1, -, -, -, -, -, -, c8⟩ := h.nine hm
  obtain ⟨A1, n1, rfl, hL⟩ := (Pile.of_kids (base := 0) hk fun _ _ _ => Nat.zero_le _).form
  exact ⟨g, A1, n1, rfl, hg, c8, hL, c1, c0⟩
theorem rowL_no {id : Int} (h : thereB l id = false) : rowL l id = [] := by unfold rowL; rw [if_neg (by rw [h]; decide)]
set_option maxHeartbeats 4000000 in
theorem refIndex (id : Int) (hg : Good l) (h : Nodes G w 0 A c l) :
    Calls Try.prog 65 #[.slice A l.length c, .int .i64 id] w fun e w' => e = .returned (.int .i64 (idxL (rowL l id) id)) ∧ w = w' := by
  have hnot : ∀ (x : Bool) (w : World), (Op.unary .not (.bool x)).run Try.prog w = .ok (.bool (!x)) w := fun _ _ => rfl
  have hll := hg.len
  cases ht : thereB l id with
  | false =>
    have e0 : idxL (rowL l id) id = -1 := by
      unfold rowL
      rw [ht]
      rfl
    have E0 := Lib.hid e0
    have Ht := Lib.hid ht
    clear e0 ht h hg
    go_enter Try.func65, Try.ntmps65
    go_wp2_with fail
    refine (there_any l A c id w).mono ?_
    rintro e w1 ⟨rfl, rfl⟩
    rw [Ht.out]
    go_wp2
    go_ret
    rw [E0.out]
    exact ⟨rfl, rfl⟩
  | true =>
    obtain ⟨m, rfl, hm⟩ := there_at ht
    obtain ⟨g, A1, c1, rfl, -, -, -, cp, -⟩ := h.row hm
    by_cases hp : (nd l ((m : Int) + 1)).parent = 0
    · have e0 : idxL (rowL l ((m : Int) + 1)) ((m : Int) + 1) = -1 := by
        unfold rowL
        rw [if_pos ht, hp, if_neg (by rw [there_zero]; decide)]
        rfl
      rw [hp] at cp
      have E0 := Lib.hid e0
      have Ht := Lib.hid ht
      clear e0 ht h hg hp
      go_enter Try.func65, Try.ntmps65
      go_wp2_with fail
      refine (there_any l _ c _ w).mono ?_
      rintro e w1 ⟨rfl, rfl⟩
      rw [Ht.out]
      go_wp2
      go_ret
      rw [E0.out]
      exact ⟨rfl, rfl⟩
    · have hpt := (hg.tree.par _ ht hp).1
      have e0 : rowL l ((m : Int) + 1) = (nd l (nd l ((m : Int) + 1)).parent).kids := by
        unfold rowL
        rw [if_pos ht, if_pos hpt]
      rw [e0]
      have hkl : (nd l (nd l ((m : Int) + 1)).parent).kids.length ≤ 200 := few_nd hg.few _
      obtain ⟨p, hpe, hpm⟩ := there_at hpt
      rw [hpe] at cp hkl
      rw [hpe]
      obtain ⟨g', A2, c2, eg, -, ck, hL, -, -⟩ := h.row hpm
      obtain rfl : g = g' := by simpa using eg
      obtain ⟨ks, hks⟩ : ∃ ks, ks = (nd l ((p : Int) + 1)).kids := ⟨_, rfl⟩
      rw [← hks] at ck hL hkl
      rw [← hks]
      obtain ⟨n, hn⟩ : ∃ n, n = ks.length := ⟨_, rfl⟩
      rw [← hn] at ck hkl
      have z1 : (((p : Int) + 1) == 0) = false := by rw [beq_eq_false_iff_ne]; omega
      have Hn := Lib.hid hn
      have HL := Lib.hid hL
      have Ht := Lib.hid ht
      clear hn hks hL ht h hg hp hpt hpe e0 eg
      go_enter Try.func65, Try.ntmps65
      go_wp2_with fail
      refine (there_any l _ c _ w).mono ?_
      rintro e w1 ⟨rfl, rfl⟩
      rw [Ht.out]
      go_wp2
      go_loop [6] (fun i => ∃ k : Nat, i = .int .i64 k ∧ k ≤ n ∧ ((m : Int) + 1) ∉ ks.take k) (fun i => n - (intOf i).toNat)
      case atStart => exact ⟨0, rfl, Nat.zero_le _, by simp⟩
      case round =>
        obtain ⟨k, rfl, hk, hc⟩ := hrel
        have Hc := Lib.hid hc
        clear hc
        by_cases hlt : (k : Int) < n
        · have hkl : k < ks.length := by rw [← Hn.out]; omega
          obtain ⟨b, off, rfl, hb, hcell⟩ := HL.out.nums k hkl
          obtain ⟨y, hy⟩ : ∃ y, y = ks[k] := ⟨_, rfl⟩
          rw [← hy] at hcell
          have Hy := Lib.hid hy
          clear hy hb
          by_cases hxy : y = (m : Int) + 1
          · have e1 : idxL ks ((m : Int) + 1) = (k : Int) := idxL_at hkl (by rw [← Hy.out]; exact hxy) Hc.out
            have E1 := Lib.hid e1
            clear e1
            subst hxy
            go_wp2
            go_ret
            rw [E1.out]
            exact ⟨rfl, rfl⟩
          · have hxy' : (y == (m : Int) + 1) = false := by simpa using hxy
            have e2 := not_take Hc.out hkl (by rw [← Hy.out]; exact hxy)
            have E2 := Lib.hid e2
            clear e2
            go_wp2
            go_round
            case rel => exact ⟨k + 1, by go_num, by omega, E2.out⟩
            case measure => simp [intOf]; omega
        · have e1 : idxL ks ((m : Int) + 1) = -1 := by
            have := Hc.out
            rw [List.take_of_length_le (by rw [← Hn.out]; omega)] at this
            exact idxL_no this
          have E1 := Lib.hid e1
          clear e1
          go_wp2
          go_ret
          rw [E1.out]
          exact ⟨rfl, rfl⟩
set_option maxHeartbeats 4000000 in
theorem refNext (id : Int) (hg : Good l) (h : Nodes G w 0 A c l) :
    Calls Try.prog 40 #[.slice A l.length c, .int .i64 id] w fun e w' => e = .returned (.int .i64 (nextL (rowL l id) id)) ∧ w = w' := by
  have C := Lib.hid (refIndex id hg h)
  have hll := hg.len
  rcases idxL_range (rowL l id) id with hi | ⟨k, hi, hk⟩
  · have e0 : nextL (rowL l id) id = 0 := by unfold nextL; rw [hi]; rfl
    rw [hi] at C
    have E0 := Lib.hid e0
    clear hi e0 h hg
    go_enter Try.func40, Try.ntmps40
    go_wp2_with fail
    refine C.out.mono ?_
    rintro e w1 ⟨rfl, rfl⟩
    go_wp2
    go_ret
    rw [E0.out]
    exact ⟨rfl, rfl⟩
  · have e0 : nextL (rowL l id) id = (rowL l id).getD (k + 1) 0 := by
      unfold nextL
      rw [hi, if_neg (by omega)]
      rfl
    rw [hi] at C
    have ht : thereB l id = true := by
      cases hq : thereB l id with
      | true => rfl
      | false => rw [rowL_no hq] at hk; exact absurd hk (Nat.not_lt_zero k)
    have hpt : thereB l (nd l id).parent = true := by
      cases hq : thereB l (nd l id).parent with
      | true => rfl
      | false =>
        unfold rowL at hk
        rw [if_pos ht, if_neg (by rw [hq]; decide)] at hk
        exact absurd hk (Nat.not_lt_zero k)
    have er : rowL l id = (nd l (nd l id).parent).kids := by unfold rowL; rw [if_pos ht, if_pos hpt]
    have e0 := e0.trans (congrArg (fun z => List.getD z (k + 1) 0) er)
    rw [er] at hk
    have hkl : (nd l (nd l id).parent).kids.length ≤ 200 := few_nd hg.few _
    obtain ⟨m, rfl, hm⟩ := there_at ht
    obtain ⟨g, A1, c1, rfl, -, -, -, cp, -⟩ := h.row hm
    obtain ⟨p, hpe, hpm⟩ := there_at hpt
    rw [hpe] at cp hkl e0 hk
    obtain ⟨g', A2, c2, eg, -, ck, hL, -, -⟩ := h.row hpm
    obtain rfl : g = g' := by simpa using eg
    obtain ⟨ks, hks⟩ : ∃ ks, ks = (nd l ((p : Int) + 1)).kids := ⟨_, rfl⟩
    rw [← hks] at ck hL hkl e0 hk
    obtain ⟨n, hn⟩ : ∃ n, n = ks.length := ⟨_, rfl⟩
    rw [← hn] at ck hkl hk
    by_cases hlast : k + 1 = n
    · have e1 : ks.getD (k + 1) 0 = 0 := by rw [List.getD_eq_getElem?_getD, List.getElem?_eq_none (by omega)]; rfl
      have E0 := Lib.hid (e0.trans e1)
      subst hlast
      clear hi e0 e1 h hg ht hpt er hpe eg hks hn hL
      go_enter Try.func40, Try.ntmps40
      go_wp2_with fail
      refine C.out.mono ?_
      rintro e w1 ⟨rfl, rfl⟩
      go_wp2
      go_ret
      rw [E0.out]
      exact ⟨rfl, rfl⟩
    · have hk1 : k + 1 < ks.length := by omega
      obtain ⟨b', off, rfl, -, hc⟩ := hL.nums (k + 1) hk1
      have e1 : ks.getD (k + 1) 0 = ks[k + 1] := by rw [List.getD_eq_getElem?_getD, List.getElem?_eq_getElem hk1]; rfl
      obtain ⟨y, hy⟩ : ∃ y, y = ks[k + 1] := ⟨_, rfl⟩
      rw [← hy] at hc e1
      have E0 := Lib.hid (e0.trans e1)
      have hkn : (k : Int) + 1 < n := by omega
      have z1 : ¬ ((n : Int) ≤ (k : Int) + 1) := by omega
      have hc' : w.cell? ⟨b', off + k + 1, none⟩ = some (.int .i64 y) := hc
      clear hi e0 e1 h hg ht hpt er hpe eg hks hn hL hy hk1
      go_enter Try.func40, Try.ntmps40
      go_wp2_with fail
      refine C.out.mono ?_
      rintro e w1 ⟨rfl, rfl⟩
      go_wp2
      go_ret
      rw [E0.out]
      exact ⟨rfl, rfl⟩
set_option maxHeartbeats 4000000 in
theorem refCount (id kind : Int) (hg : Good l) (h : Nodes G w 0 A c l) :
    Calls Try.prog 64 #[.slice A l.length c, .int .i64 id, .int .i64 kind] w fun e w' => e = .returned (.int .i64 (cntL l kind (kidsL l id))) ∧ w = w' := by
  have H := Lib.hid h
  have hll := hg.len
  cases ht : thereB l id with
  | false =>
    have e0 : cntL l kind (kidsL l id) = 0 := by unfold kidsL; rw [if_neg (by rw [ht]; decide)]; rfl
    have E0 := Lib.hid e0
    have Ht := Lib.hid ht
    clear e0 ht h hg
    go_enter Try.func64, Try.ntmps64
    go_wp2
    go_loop [7, 8] (fun q i => ∃ k : Nat, i = .int .i64 k ∧ k ≤ l.length ∧ q = .int .i64 0) (fun _ i => l.length - (intOf i).toNat)
    case atStart => exact ⟨0, rfl, Nat.zero_le _, rfl⟩
    case round =>
      obtain ⟨k, rfl, hk, rfl⟩ := hrel
      by_cases hlt : (k : Int) < l.length
      · go_wp2_with fail
        refine (there_any l A c id w).mono ?_
        rintro e w1 ⟨rfl, rfl⟩
        rw [Ht.out]
        go_wp2
        go_round
        case rel => exact ⟨k + 1, by go_num, by omega, rfl⟩
        case measure => simp [intOf]; omega
      · go_wp2
        go_ret
        rw [E0.out]
        exact ⟨rfl, rfl⟩
  | true =>
    have e0 := cntP_all hg.tree (kind := kind) ht
    have E0 := Lib.hid e0
    have Ht := Lib.hid ht
    clear e0 ht h hg
    go_enter Try.func64, Try.ntmps64
    go_wp2
    go_loop [7, 8] (fun q i => ∃ k : Nat, i = .int .i64 k ∧ k ≤ l.length ∧ q = .int .i64 (cntP l id kind k : Nat)) (fun _ i => l.length - (intOf i).toNat)
    case atStart => exact ⟨0, rfl, Nat.zero_le _, rfl⟩
    case round =>
      obtain ⟨k, rfl, hk, rfl⟩ := hrel
      by_cases hlt : (k : Int) < l.length
      · have hkm : k < l.length := by omega
        obtain ⟨g, A1, c1, rfl, -, -, -, cp, ck⟩ := H.out.row hkm
        have hst := cntP_step (l := l) (id := id) (kind := kind) (j := k)
        have hle := cntP_le l id kind k
        obtain ⟨q, hq⟩ : ∃ q, q = cntP l id kind k := ⟨_, rfl⟩
        rw [← hq] at hst hle
        rw [← hq]
        obtain ⟨pa, hpa⟩ : ∃ pa, pa = (nd l ((k : Int) + 1)).parent := ⟨_, rfl⟩
        obtain ⟨kd, hkd⟩ : ∃ kd, kd = (nd l ((k : Int) + 1)).kind := ⟨_, rfl⟩
        rw [← hpa] at cp hst
        rw [← hkd] at ck hst
        have Hst := Lib.hid hst
        clear hst hq hpa hkd
        by_cases h1 : pa = id
        · subst h1
          by_cases h2 : kd = kind
          · subst h2
            have hs1 := Lib.hid (Hst.out.trans (by rw [if_pos ⟨rfl, rfl⟩]))
            clear Hst
            go_wp2_with fail
            refine (there_any l _ c _ w).mono ?_
            rintro e w1 ⟨rfl, rfl⟩
            rw [Ht.out]
            go_wp2
            go_round
            case rel => exact ⟨k + 1, by go_num, by omega, by rw [hs1.out]; go_num⟩
            case measure => simp [intOf]; omega
          · have z2 : (kd == kind) = false := by simpa using h2
            have hs1 := Lib.hid (Hst.out.trans (by rw [if_neg (fun hh => h2 hh.2)]))
            clear Hst
            go_wp2_with fail
            refine (there_any l _ c _ w).mono ?_
            rintro e w1 ⟨rfl, rfl⟩
            rw [Ht.out]
            go_wp2
            go_round
            case rel => exact ⟨k + 1, by go_num, by omega, by rw [hs1.out]; rfl⟩
            case measure => simp [intOf]; omega
        · have z1 : (pa == id) = false := by simpa using h1
          have hs1 := Lib.hid (Hst.out.trans (by rw [if_neg (fun hh => h1 hh.1)]))
          clear Hst
          go_wp2_with fail
          refine (there_any l _ c _ w).mono ?_
          rintro e w1 ⟨rfl, rfl⟩
          rw [Ht.out]
          go_wp2
          go_round
          case rel => exact ⟨k + 1, by go_num, by omega, by rw [hs1.out]; rfl⟩
          case measure => simp [intOf]; omega
      · obtain rfl : k = l.length := by omega
        rw [E0.out]
        go_wp2
        go_ret
        exact ⟨rfl, rfl⟩
end
end Go.Proofs.Ytojcchjhimagiaa

namespace Go.Proofs.Ytojcchjhimagiaa
open Go Go.RowKit

/-- A forest and a list of the same nodes. -/
structure Two (Rep : (Nat → Prop) → World → Nat → List Nd → Prop) (w : World) (b : Nat) (A : Option Addr) (c : Nat) (l : List Nd) (v : World) : Prop where
  rep : Rep (fun _ => True) v b l
  nodes : Nodes (fun _ => True) v 0 A c l
  below : Below w.heap.size w v
section
variable {Rep : (Nat → Prop) → World → Nat → List Nd → Prop} {w v v' : World} {b : Nat} {A : Option Addr} {c : Nat} {l : List Nd}
theorem Two.next (O : ForestOk Rep) (h : Two Rep w b A c l v) (hb : Below v.heap.size v v') : Two Rep w b A c l v' := ⟨O.since h.rep hb, h.nodes.below hb, h.below.trans (hb.mono h.below.size)⟩
theorem sameInts_self (xs : List Int) : sameInts xs xs = true := decide_eq_true rfl
/-- A forest, and what is below it. -/
structure One (Rep : (Nat → Prop) → World → Nat → List Nd → Prop) (w : World) (b : Nat) (l : List Nd) (v : World) : Prop where
  rep : Rep (fun _ => True) v b l
  below : Below w.heap.size w v
theorem One.next (O : ForestOk Rep) {w v v' : World} {b : Nat} {l : List Nd} (h : One Rep w b l v) (hb : Below v.heap.size v v') : One Rep w b l v' := ⟨O.since h.rep hb, h.below.trans (hb.mono h.below.size)⟩
end
end Go.Proofs.Ytojcchjhimagiaa

namespace Go.Proofs.Ytojcchjhimagiaa
open Go Go.RowKit

/-- Pieces that lie in a row. -/
def Parts (w : World) (A : Option Addr) (ps : List (List Int)) : Prop := ∀ i (hi : i < ps.length), ∃ g off A1 c1, A = some ⟨g, off, none⟩ ∧ g < w.heap.size ∧ w.cell? ⟨g, off + i, none⟩ = some (.slice A1 ps[i].length c1) ∧ ListIn w A1 c1 ps[i]
theorem Parts.below {w w' : World} {A : Option Addr} {ps : List (List Int)} (h : Parts w A ps) (hb : Below w.heap.size w w') : Parts w' A ps := fun i hi => by
  obtain ⟨g, off, A1, c1, e, hg, hc, hL⟩ := h i hi
  exact ⟨g, off, A1, c1, e, Nat.lt_of_lt_of_le hg hb.size, (hb.cell (p := ⟨g, off + i, none⟩) hg).trans hc, hL.below hb⟩
theorem flat_take_le (ps : List (List Int)) (j : Nat) : (ps.take j).flatten.length ≤ ps.flatten.length := by
  conv => rhs; rw [← List.take_append_drop j ps]
  rw [List.flatten_append, List.length_append]
  exact Nat.le_add_right _ _
theorem flat_take_succ {ps : List (List Int)} {j : Nat} (hj : j < ps.length) : (ps.take (j + 1)).flatten = (ps.take j).flatten ++ ps[j] := by
  rw [List.take_add_one, List.getElem?_eq_getElem hj, List.flatten_append]
  simp
theorem kids_one' (xs : List Int) : ∀ u ∈ xs.map (Value.int .i64), u.oneCell' = true := by
  intro u hu
  obtain ⟨x, _, rfl⟩ := List.mem_map.1 hu
  rfl

set_option maxHeartbeats 4000000 in
set_option maxRecDepth 100000 in
theorem edJoined (ps : List (List Int)) (A : Option Addr) (n c : Nat) (w : World) (hn : n = ps.length) (hl : n ≤ 10) (ht : ps.flatten.length ≤ 1000) (h : Parts w A ps) :
    Calls Try.prog 38 #[.slice A n c] w fun e w' => ∃ v, e = .returned v ∧ w'.ownsRow w.heap.size 3 1 v ps.flatten.length (ps.flatten.map (Value.int .i64)) ∧ Below w.heap.size w w' := by
  obtain ⟨R, hR⟩ : ∃ R, R = ps.flatten := ⟨_, rfl⟩
  rw [← hR]
  have HR := Lib.hid hR
  clear hR
  obtain ⟨i0, hi, hz0, hz1, hz2⟩ := info_parts Try.infoInt
  have Hi := Lib.hid hi
  have Hz0 := Lib.hid hz0
  have Hz1 := Lib.hid hz1
  have Hz2 := Lib.hid hz2
  have H := Lib.hid h
  have Hn := Lib.hid hn
  have Ht := Lib.hid ht
  clear hi hz0 hz1 hz2 h hn ht
  go_enter Try.func38, Try.ntmps38
  go_wp2_with fail
  go_loopw [3, 8] (fun o i wr => ∃ (j : Nat) (xs : List Int), i = .int .i64 j ∧ j ≤ n ∧ xs = (ps.take j).flatten ∧ wr.ownsRow w.heap.size 3 1 o xs.length (xs.map (Value.int .i64)) ∧ Below w.heap.size w wr) (fun _ i _ => n - (intOf i).toNat)
  case atStart => exact ⟨0, [], rfl, Nat.zero_le _, rfl, World.ownsRow_nil _ _ _ _, Below.refl _ _⟩
  case round =>
    obtain ⟨j, xs, rfl, hj, hxs, hown, hb⟩ := hrel
    have Hxs := Lib.hid hxs
    clear hxs
    obtain ⟨Ao, co, rfl, hco⟩ := own_form hown
    by_cases hlt : (j : Int) < n
    · have hjl : j < ps.length := by rw [← Hn.out]; omega
      obtain ⟨g, off, A1, c1, rfl, hg, hc, hL⟩ := (H.out.below hb) j hjl
      have hnext : (ps.take (j + 1)).flatten = xs ++ ps[j] := by rw [flat_take_succ hjl, ← Hxs.out]
      obtain ⟨ys, hys⟩ : ∃ ys, ys = ps[j] := ⟨_, rfl⟩
      rw [← hys] at hc hL hnext
      have hsum : xs.length + ys.length ≤ 1000 := by
        have h1 := flat_take_le ps (j + 1)
        rw [hnext, List.length_append] at h1
        exact Nat.le_trans h1 Ht.out
      obtain ⟨m, hm⟩ : ∃ m, m = ys.length := ⟨_, rfl⟩
      rw [← hm] at hc hsum
      have hgv : Gives wr 1 (.slice A1 m c1) m (ys.map (Value.int .i64)) := nums_gives hL.nums hm hL.nil
      have Hgv := Lib.hid hgv
      have Hnext := Lib.hid hnext
      have Hm := Lib.hid hm
      have hbw := hb.size
      clear hL hgv hnext hys hm hjl hg
      go_wp2_with (at_builtin; refine wpList_append_gives rfl (.tmp 12) (.tmp 13) 43 rfl w.heap.size 3 i0 _ 1 8 Try.underlying43 Hi.out Hz0.out Hz1.out Hz2.out rfl (by decide) (.slice Ao xs.length co) xs.length (xs.map (Value.int .i64)) rfl hown _ m (ys.map (Value.int .i64)) rfl Hgv.out (kids_one' ys) (by unfold maxLen; omega) (by omega) hbw ?_; intro v2 w2 ho2 hg2; obtain ⟨A2, c2, rfl, hc2⟩ := own_form ho2; have hb2 : Below w.heap.size w w2 := hb.grown hg2 hbw (fun k hk => (hown.lt k hk).1))
      go_roundw
      case rel => exact ⟨j + 1, xs ++ ys, by go_num, by omega, Hnext.out.symm, by rw [List.length_append, List.map_append, ← Hm.out]; exact ho2, hb2⟩
      case measure => simp [intOf]; omega
    · have e : xs = R := by rw [Hxs.out, HR.out, List.take_of_length_le (by rw [← Hn.out]; omega)]
      subst e
      go_wp2
      go_ret
      exact ⟨_, rfl, hown, hb⟩
end Go.Proofs.Ytojcchjhimagiaa

namespace Go.Proofs.Ytojcchjhimagiaa
open Go

section
variable {l : List Nd} {b x : Int}
theorem rootL_par (T : Tree l) (h : thereB l b = true) (hp : (nd l b).parent ≠ 0) : rootL l b = rootL l (nd l b).parent := by
  have hpt := (T.par _ h hp).1
  unfold rootL
  rw [parL_step T h]
  exact lastL_suffix (List.suffix_cons _ _) (parL_ne T hpt)
theorem rootL_own (T : Tree l) (h : thereB l b = true) (hp : (nd l b).parent = 0) : rootL l b = b := by
  unfold rootL
  rw [parL_step T h, hp, parL_no (there_zero l)]
  rfl
/-- The way up is the way to the root, and then that of its host. -/
theorem over_split (T : Tree l) : ∀ (n : Nat) (b : Int), (parL l b).length ≤ n → thereB l b = true → over l b = parL l b ++ over l (nd l (rootL l b)).host
  | 0, b, hn, h => by
    rw [parL_step T h] at hn
    simp at hn
  | n + 1, b, hn, h => by
    by_cases hp : (nd l b).parent = 0
    · rw [rootL_own T h hp, over_step T h, parL_step T h, hp, parL_no (there_zero l)]
      have e : upOf l b = (nd l b).host := if_pos hp
      rw [e]
      rfl
    · have hpt := (T.par _ h hp).1
      rw [parL_step T h] at hn
      have ih := over_split T n (nd l b).parent (by simpa using hn) hpt
      have e : upOf l b = (nd l b).parent := if_neg hp
      rw [over_step T h, e, ih, ← rootL_par T h hp, parL_step T h, List.cons_append]
theorem over_whole (T : Tree l) (h : thereB l b = true) : over l b = parL l b ++ over l (nd l (rootL l b)).host := over_split T _ b (Nat.le_refl _) h
theorem over_none (h : thereB l b = false) : over l b = [] := over_end h
theorem over_short (T : Tree l) (b : Int) : (over l b).length ≤ l.length := up_short T.ends (l.length + 1) b
theorem over_less (T : Tree l) (h : thereB l b = true) : (over l (nd l (rootL l b)).host).length + 1 ≤ (over l b).length := by
  rw [over_whole T h, List.length_append, parL_step T h, List.length_cons]
  omega
theorem over_self (T : Tree l) (h : thereB l b = true) : b ∈ over l b := by
  rw [over_step T h]
  exact List.mem_cons_self
theorem hasB_yes {xs : List Int} (h : x ∈ xs) : hasB xs x = true := decide_eq_true h
theorem hasB_no {xs : List Int} (h : x ∉ xs) : hasB xs x = false := decide_eq_false h
theorem hasB_mem {xs : List Int} (h : hasB xs x = true) : x ∈ xs := of_decide_eq_true h
theorem hasB_not {xs : List Int} (h : hasB xs x = false) : x ∉ xs := of_decide_eq_false h
theorem over_hit (T : Tree l) (h : hasB (parL l b) x = true) : hasB (over l b) x = true := by
  have hm := hasB_mem h
  have ht : thereB l b = true := by
    cases hq : thereB l b with
    | true => rfl
    | false => rw [parL_no hq] at hm; cases hm
  rw [over_whole T ht]
  exact hasB_yes (List.mem_append_left _ hm)
theorem over_miss (T : Tree l) (ht : thereB l b = true) (h : hasB (parL l b) x = false) : hasB (over l b) x = hasB (over l (nd l (rootL l b)).host) x := by
  have hm := hasB_not h
  rw [over_whole T ht]
  unfold hasB
  simp [hm]

/-- How many Elements come with a node. -/
def moreL (l : List Nd) (n : Int) : Nat := if (nd l n).kind = 4 then cntL l 2 (kidsL l n) else 1
/-- One Element too many. -/
def crowdB (l : List Nd) (n p : Int) : Bool := decide (1 < moreL l n ∨ (moreL l n = 1 ∧ 0 < cntL l 2 (kidsL l p)))
/-- Check: the error's number. -/
def chkErr (l : List Nd) (n p c : Int) : Int :=
  if thereB l n = false ∨ thereB l p = false ∨ (c ≠ 0 ∧ thereB l c = false) then 1
  else if hasB (over l p) n = true then 3
  else if c ≠ 0 ∧ (nd l c).parent ≠ p then 4
  else if (nd l n).kind = 1 ∨ (nd l n).kind = 3 then 3
  else if (nd l p).kind = 1 ∧ crowdB l n p = true then 3
  else 0
theorem cntL_few {l : List Nd} (h : Few 200 l) (kind id : Int) : cntL l kind (kidsL l id) ≤ 200 := by
  refine Nat.le_trans (cntL_le _ _ _) ?_
  unfold kidsL
  split
  · exact few_nd h id
  · exact Nat.zero_le _
end
end Go.Proofs.Ytojcchjhimagiaa

namespace Go.Proofs.Ytojcchjhimagiaa
open Go

/-- Two lists of nodes are one if each node is. -/
theorem nd_eachL {l l' : List Nd} (hlen : l'.length = l.length) (h : ∀ k, thereB l k = true → nd l' k = nd l k) : l' = l := by
  refine List.ext_getElem hlen fun i h1 h2 => ?_
  have ht : thereB l ((i : Int) + 1) = true := thereB_iff.2 ⟨by omega, by omega⟩
  have e := h _ ht
  unfold nd at e
  rw [show (((i : Int) + 1) - 1).toNat = i by omega, List.getD_eq_getElem?_getD, List.getD_eq_getElem?_getD, List.getElem?_eq_getElem h1, List.getElem?_eq_getElem h2] at e
  exact e

/-- A node with another parent and other children. -/
def Nd.re (d : Nd) (pa : Int) (ks : List Int) : Nd := ⟨d.kind, pa, d.host, d.shadow, d.mode, d.slot, d.name, d.want, ks⟩
theorem Nd.re_self (d : Nd) : d.re d.parent d.kids = d := rfl
theorem put_re {l : List Nd} {p : Int} {ks : List Int} {k : Int} (h : putErr l p ks = 0) (hk : thereB l k = true) :
    nd (putL l p ks) k = (nd l k).re (if k ∈ ks then p else if (nd l k).parent = p then 0 else (nd l k).parent) (if k = p then ks else (nd l k).kids) :=
  put_nd h (put_zero h).1 (kids_there (put_zero h).2.1) hk

/-- A list without one number. -/
def lessL (xs : List Int) (x : Int) : List Int := xs.filter fun y => decide (y ≠ x)
theorem lessL_mem {xs : List Int} {x y : Int} : y ∈ lessL xs x ↔ y ∈ xs ∧ y ≠ x := by simp [lessL]
theorem lessL_same {xs : List Int} {x : Int} (h : x ∉ xs) : lessL xs x = xs := List.filter_eq_self.2 fun _ hy => decide_eq_true fun e => h (e ▸ hy)
theorem lessL_len (xs : List Int) (x : Int) : (lessL xs x).length ≤ xs.length := List.length_filter_le _ _
theorem lessL_cut {a b : List Int} {x : Int} (ha : x ∉ a) (hb : x ∉ b) : lessL (a ++ x :: b) x = a ++ b := by
  unfold lessL
  rw [List.filter_append, List.filter_cons_of_neg (by simp)]
  exact congr (congrArg _ (lessL_same ha)) (lessL_same hb)
/-- Where a number stands, and what is ahead of it and behind it. -/
theorem cut_at {xs : List Int} {x : Int} (h : x ∈ xs) (hn : xs.Nodup) : ∃ a b, xs = a ++ x :: b ∧ x ∉ a ∧ x ∉ b ∧ idxL xs x = (a.length : Int) := by
  obtain ⟨a, b, e⟩ := List.append_of_mem h
  subst e
  have h1 := List.nodup_append.1 hn
  have h2 := List.nodup_cons.1 h1.2.1
  have ha : x ∉ a := fun hx => h1.2.2 x hx x List.mem_cons_self rfl
  refine ⟨a, b, rfl, ha, h2.1, ?_⟩
  unfold idxL
  rw [if_pos h, List.idxOf_append, if_neg ha, List.idxOf_cons_self, Nat.zero_add]
theorem nodup_len {l : List Nd} {xs : List Int} (h : xs.Nodup) (ht : ∀ x ∈ xs, thereB l x = true) : xs.length ≤ l.length := by
  have h1 : (xs.map fun x => (x - 1).toNat).Nodup := by
    refine List.pairwise_map.2 ((List.pairwise_iff_getElem.1 h |> List.pairwise_iff_getElem.2).imp_of_mem ?_)
    intro a b ha hb hab e
    have h1 := thereB_iff.1 (ht a ha)
    have h2 := thereB_iff.1 (ht b hb)
    exact hab (by omega)
  have := pigeon l.length _ h1 (fun x hx => by
    obtain ⟨y, hy, rfl⟩ := List.mem_map.1 hx
    exact there_lt (ht y hy))
  rwa [List.length_map] at this
theorem nodup_kids {l : List Nd} {ks : List Int} (h : ks.Nodup) (ht : ∀ x ∈ ks, thereB l x = true) : ∀ i, i < ks.length → kidIn l ks i = true := by
  intro i hi
  unfold kidIn
  rw [List.getD_eq_getElem?_getD, List.getElem?_eq_getElem hi, Option.getD_some, ht _ (List.getElem_mem hi)]
  have : hasB (ks.take i) ks[i] = false := decide_eq_false fun hm => by
    obtain ⟨j, hj, e⟩ := List.mem_iff_getElem.1 hm
    rw [List.length_take] at hj
    rw [List.getElem_take] at e
    exact List.pairwise_iff_getElem.1 h j i (by omega) hi (by omega) e
  rw [this]; rfl
/-- What is let in as children. -/
theorem put_fits {l : List Nd} {p : Int} {ks : List Int} (hp : thereB l p = true) (h1 : ks.Nodup) (h2 : ∀ k ∈ ks, thereB l k = true) (h3 : ∀ k ∈ ks, (nd l k).kind ≠ 1 ∧ (nd l k).kind ≠ 3 ∧ k ∉ over l p ∧ ((nd l k).parent = 0 ∨ (nd l k).parent = p)) : putErr l p ks = 0 := by
  have ok : ∀ k, k ∈ ks → kidOk l (over l p) p k = true := fun k hk => by
    obtain ⟨q1, q2, q3, q4⟩ := h3 k hk
    unfold kidOk
    rw [decide_eq_false q1, decide_eq_false q2, hasB_no q3]
    rcases q4 with e | e <;> simp [e]
  unfold putErr
  rw [if_neg (by rw [hp]; decide), if_neg (fun h => h (nodup_kids h1 h2)), if_neg (fun h => h ok)]

section
variable {l : List Nd}
theorem kid_out (T : Tree l) {p k : Int} (hp : thereB l p = true) (hk : k ∈ (nd l p).kids) : (nd l k).kind ≠ 1 ∧ (nd l k).kind ≠ 3 ∧ k ∉ over l p ∧ ((nd l k).parent = 0 ∨ (nd l k).parent = p) := by
  obtain ⟨h1, h2⟩ := T.kid p hp k hk
  have hp0 := there_pos hp
  have h3 : ¬ ((nd l k).kind = 1 ∨ (nd l k).kind = 3) := fun h => hp0 (h2.symm.trans (T.bare k h1 h))
  refine ⟨fun h => h3 (.inl h), fun h => h3 (.inr h), fun h => ?_, .inr h2⟩
  have e : upOf l k = p := by unfold upOf; rw [if_neg (by rw [h2]; exact hp0), h2]
  rcases up_nodup T.ends (l.length + 1) k with h' | h'
  · rw [e] at h'
    exact h' h
  · rw [h1] at h'
    cases h'
theorem kid_iff (T : Tree l) {p k : Int} (hp : thereB l p = true) (hk : thereB l k = true) : k ∈ (nd l p).kids ↔ (nd l k).parent = p := by
  refine ⟨fun h => (T.kid p hp k h).2, fun h => ?_⟩
  have := (T.par k hk (by rw [h]; exact there_pos hp)).2
  rwa [h] at this
theorem put_part (T : Tree l) {p : Int} {ks : List Int} (hp : thereB l p = true) (h1 : ks.Nodup) (h2 : ∀ k ∈ ks, k ∈ (nd l p).kids) : putErr l p ks = 0 :=
  put_fits hp h1 (fun k hk => (T.kid p hp k (h2 k hk)).1) fun k hk => kid_out T hp (h2 k hk)
theorem good_put {p : Int} {ks : List Int} (h : Good l) (hx : ks.length ≤ 200) : Good (putL l p ks) := by
  have := good_act (x := ⟨1, p, 0, ⟨#[]⟩, Nd.zero, ks⟩) h hx
  exact this
theorem kids_len (h : Good l) (i : Int) : (kidsL l i).length ≤ 128 := by
  unfold kidsL
  split
  · rename_i ht
    exact Nat.le_trans (nodup_len (h.tree.once i ht) fun x hx => (h.tree.kid i ht x hx).1) h.len
  · exact Nat.zero_le _

/-- Remove: the error's number, and the nodes. -/
def rmErr (l : List Nd) (n p : Int) : Int := if thereB l n = false ∨ thereB l p = false then 1 else if (nd l n).parent ≠ p then 4 else 0
def rmL (l : List Nd) (n p : Int) : List Nd := if rmErr l n p = 0 then putL l p (lessL (nd l p).kids n) else l
theorem rm_zero {n p : Int} (h : rmErr l n p = 0) : thereB l n = true ∧ thereB l p = true ∧ (nd l n).parent = p := by
  unfold rmErr at h
  split at h
  · cases h
  · rename_i h1
    split at h
    · cases h
    · rename_i h2
      have := not_or.1 h1
      exact ⟨by simpa using this.1, by simpa using this.2, Decidable.not_not.1 h2⟩
theorem rm_put (T : Tree l) {n p : Int} (h : rmErr l n p = 0) : putErr l p (lessL (nd l p).kids n) = 0 := by
  obtain ⟨_, hp, _⟩ := rm_zero h
  exact put_part T hp ((T.once p hp).sublist List.filter_sublist) fun k hk => (lessL_mem.1 hk).1
theorem less_len (h : Good l) (n p : Int) : (lessL (nd l p).kids n).length ≤ 200 := Nat.le_trans (lessL_len _ _) (few_nd h.few p)
theorem good_rm {n p : Int} (h : Good l) : Good (rmL l n p) := by
  unfold rmL
  split
  · exact good_put h (less_len h n p)
  · exact h
theorem rm_len (n p : Int) : (rmL l n p).length = l.length := by
  unfold rmL
  split
  · exact putL_length _ _ _
  · rfl
theorem rm_nd (T : Tree l) {n p k : Int} (h : rmErr l n p = 0) (hk : thereB l k = true) : nd (rmL l n p) k = (nd l k).re (if k = n then 0 else (nd l k).parent) (if k = p then lessL (nd l k).kids n else (nd l k).kids) := by
  obtain ⟨hn, hp, hnp⟩ := rm_zero h
  have e1 : (if k ∈ lessL (nd l p).kids n then p else if (nd l k).parent = p then 0 else (nd l k).parent) = if k = n then 0 else (nd l k).parent := by
    by_cases q : k = n
    · subst q
      rw [if_neg (fun h => (lessL_mem.1 h).2 rfl), if_pos hnp, if_pos rfl]
    · by_cases m : (nd l k).parent = p
      · rw [if_pos (lessL_mem.2 ⟨(kid_iff T hp hk).2 m, q⟩), if_neg q, m]
      · rw [if_neg (fun h => m ((kid_iff T hp hk).1 (lessL_mem.1 h).1)), if_neg m, if_neg q]
  have e2 : (if k = p then lessL (nd l p).kids n else (nd l k).kids) = if k = p then lessL (nd l k).kids n else (nd l k).kids := by
    by_cases q : k = p
    · subst q; rfl
    · rw [if_neg q, if_neg q]
  unfold rmL
  rw [if_pos h, put_re (rm_put T h) hk, e1, e2]

/-- What is put where a node is put. -/
def moveL (l : List Nd) (n : Int) : List Int := if (nd l n).kind = 4 then (nd l n).kids else [n]
/-- .. and it leaves. -/
def looseL (l : List Nd) (n : Int) : List Nd := if (nd l n).kind = 4 then putL l n [] else rmL l n (nd l n).parent
theorem loose_len (n : Int) : (looseL l n).length = l.length := by
  unfold looseL
  split
  · exact putL_length _ _ _
  · exact rm_len _ _
theorem good_loose {n : Int} (h : Good l) : Good (looseL l n) := by
  unfold looseL
  split
  · exact good_put h (by simp)
  · exact good_rm h
theorem loose_there (n k : Int) : thereB (looseL l n) k = thereB l k := there_len (loose_len n)
theorem put_none (T : Tree l) {n : Int} (hn : thereB l n = true) : putErr l n [] = 0 := put_part T hn List.nodup_nil fun k hk => absurd hk (by simp)
theorem loose_nd (T : Tree l) {n k : Int} (hn : thereB l n = true) (hk : thereB l k = true) :
    nd (looseL l n) k = (nd l k).re (if k ∈ moveL l n then 0 else (nd l k).parent) (if (nd l n).kind = 4 then (if k = n then [] else (nd l k).kids) else if k = (nd l n).parent then lessL (nd l k).kids n else (nd l k).kids) := by
  by_cases h4 : (nd l n).kind = 4
  · have e1 : (if k ∈ ([] : List Int) then n else if (nd l k).parent = n then 0 else (nd l k).parent) = if k ∈ moveL l n then 0 else (nd l k).parent := by
      unfold moveL
      rw [if_pos h4, if_neg (by simp)]
      by_cases m : (nd l k).parent = n
      · rw [if_pos m, if_pos ((kid_iff T hn hk).2 m)]
      · rw [if_neg m, if_neg (fun h => m ((kid_iff T hn hk).1 h))]
    unfold looseL
    rw [if_pos h4, if_pos h4, put_re (put_none T hn) hk, e1]
  · have e0 : (k ∈ moveL l n) = (k = n) := by
      unfold moveL
      rw [if_neg h4]
      simp
    unfold looseL
    rw [if_neg h4, if_neg h4]
    by_cases h0 : (nd l n).parent = 0
    · have e : rmErr l n (nd l n).parent = 1 := by unfold rmErr; rw [if_pos (.inr (by rw [h0]; exact there_zero l))]
      have e2 : ¬ k = (nd l n).parent := by rw [h0]; exact there_pos hk
      have e3 : (if k ∈ moveL l n then 0 else (nd l k).parent) = (nd l k).parent := by
        by_cases q : k = n
        · rw [if_pos (by rw [e0]; exact q), q, h0]
        · rw [if_neg (by rw [e0]; exact q)]
      unfold rmL
      rw [if_neg (by rw [e]; decide), if_neg e2, e3]
      rfl
    · obtain ⟨hp, _⟩ := T.par n hn h0
      have e : rmErr l n (nd l n).parent = 0 := by unfold rmErr; rw [if_neg (by rw [hn, hp]; simp), if_neg (fun h => h rfl)]
      rw [rm_nd T e hk]
      simp only [e0]

/-- What 6's Check saw to. -/
theorem chk_zero {n p c : Int} (h : chkErr l n p c = 0) : thereB l n = true ∧ thereB l p = true ∧ (c ≠ 0 → thereB l c = true ∧ (nd l c).parent = p) ∧ n ∉ over l p ∧ (nd l n).kind ≠ 1 ∧ (nd l n).kind ≠ 3 := by
  unfold chkErr at h
  split at h
  · cases h
  · rename_i h1
    split at h
    · cases h
    · rename_i h2
      split at h
      · cases h
      · rename_i h3
        split at h
        · cases h
        · rename_i h4
          have q1 := not_or.1 h1
          have q2 := not_or.1 q1.2
          have q4 := not_or.1 h4
          refine ⟨by simpa using q1.1, by simpa using q2.1, fun hc => ⟨?_, ?_⟩, fun hm => h2 (hasB_yes hm), q4.1, q4.2⟩
          · cases ht : thereB l c with
            | true => rfl
            | false => exact absurd ⟨hc, ht⟩ q2.2
          · exact Decidable.not_not.1 fun hne => h3 ⟨hc, hne⟩
end
end Go.Proofs.Ytojcchjhimagiaa
