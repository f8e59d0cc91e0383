/-
  Lists of numbers that a call builds: put behind, cut off at the end, read. No function is named here.
  Lists of numbers that a call builds: put behind, cut off at the end, read. Only towncrier's types are named here, and slices.Index, slices.Contains.
  What towncrierlaw16.great does: where it says no, there are few calls with short lists.
  What a package arena must do (the document's promises, as contracts), and what towncrierlaw04.do and made do with such a one.
  What towncrierlaw04.made does with an arena that keeps its promises.
  What towncrierref01.Ints does.
  What towncrierref04.One and Same do.
  What towncrierref04.Same does.
  More promises of arena; what may be written over; a node is the same as itself.
  What package kin's Up, Root, Above do with an arena that keeps its promises.
  What package kin's Root, Above, row, Index and Next do with an arena that keeps its promises.
  What package kin's Count and Order do with an arena that keeps its promises.
  The forest of package arena in memory; what its small functions do: New, Len, has, fitsName, nextAbove, isAbove.
  Forests, plain: host-including ancestors, and what the document says of Check. No program is named here.
  Forests, plain: trees around trees, closed roots, what is hidden. No program is named here.
  Forests, plain: slots, what is assigned to them, what is shown there at last. No program is named here.
  Forests, plain: a node, aimed at another one. No program is named here.
  Paths, plain: a node's parent for an event, the way up by it, and that it ends. No program is named here.
-/
import Derived.Test.YtekmgaigppenlaaPartC

namespace Go.Proofs.Ytekmgaigppenlaa
open Go Go.RowKit

/-- A list of numbers of the call's own, its block from base on; what lies behind its end may be written over only where nobody else can see it. -/
def Pile (base : Nat) (w : World) (v : Value) (xs : List Int) : Prop :=
  (v = .slice none 0 0 ∧ xs = []) ∨
  ∃ g cap cur, v = .slice (some ⟨g, 0, none⟩) xs.length cap ∧ base ≤ g ∧ Has w g (.cells cur 3 (0, 0)) ∧ xs.length ≤ cap ∧ cap ≤ maxLen ∧ (cur.size = cap ∨ cap = xs.length) ∧ cur.toList.take xs.length = xs.map (Value.int .i64)

section
variable {base base' : Nat} {w w' : World} {v : Value} {xs : List Int} {F : Nat → Prop}
theorem Pile.nil (base : Nat) (w : World) : Pile base w (.slice none 0 0) [] := .inl ⟨rfl, rfl⟩
theorem Pile.lt (h : Pile base w v xs) : ∀ g, v.ownBlock = some g → base ≤ g ∧ g < w.heap.size := by
  intro k hk
  rcases h with ⟨rfl, _⟩ | ⟨g, cap, cur, rfl, hb, hg, _⟩
  · cases hk
  · obtain rfl : g = k := by simpa [Value.ownBlock] using hk
    exact ⟨hb, hg.inside⟩
theorem Pile.kept (h : Pile base w v xs) (k : Keeps F w w') (hF : ∀ g, v.ownBlock = some g → ¬ F g) : Pile base w' v xs := by
  rcases h with h | ⟨g, cap, cur, rfl, hb, hg, rest⟩
  · exact .inl h
  · exact .inr ⟨g, cap, cur, rfl, hb, hg.kept k (hF g rfl), rest⟩
theorem Pile.below (h : Pile base w v xs) (k : Below w.heap.size w w') : Pile base w' v xs :=
  h.kept (Keeps.of_below (F := fun i => w.heap.size ≤ i) k fun _ _ h => h) fun g hg => Nat.not_le.2 (h.lt g hg).2
theorem Pile.from_ (h : Pile base w v xs) (hb : base' ≤ base) : Pile base' w v xs := by
  rcases h with h | ⟨g, cap, cur, rfl, h1, rest⟩
  · exact .inl h
  · exact .inr ⟨g, cap, cur, rfl, Nat.le_trans hb h1, rest⟩
theorem Pile.since (h : Pile base w v xs) (hb : ∀ g, v.ownBlock = some g → base' ≤ g) : Pile base' w v xs := by
  rcases h with h | ⟨g, cap, cur, rfl, h1, rest⟩
  · exact .inl h
  · exact .inr ⟨g, cap, cur, rfl, hb g rfl, rest⟩
theorem Pile.alloc (h : Pile base w v xs) (o : Obj) : Pile base (w.alloc o) v xs := h.below ((Below.refl _ w).alloc (Nat.le_refl _) o)
theorem Pile.drew (h : Pile base w v xs) : Pile base w.drew v xs := h
theorem Pile.drewN (h : Pile base w v xs) (n : Nat) : Pile base (w.drewN n) v xs := h
/-- Its shape, and that it may be read. -/
theorem Pile.form (h : Pile base w v xs) : ∃ A c, v = .slice A xs.length c ∧ ListIn w A c xs := by
  rcases h with ⟨rfl, rfl⟩ | ⟨g, cap, cur, rfl, hb, hg, hl, hm, hc, ht⟩
  · exact ⟨none, 0, rfl, Nat.le_refl _, fun _ => rfl, fun i hi => absurd hi (Nat.not_lt_zero i)⟩
  · refine ⟨_, cap, rfl, hl, (fun e => by cases e), fun i hi => ⟨g, 0, rfl, hg.inside, ?_⟩⟩
    have e := congrArg (fun z => z[i]?) ht
    simp only [List.getElem?_take, if_pos hi, List.getElem?_map, List.getElem?_eq_getElem hi] at e
    rw [Nat.zero_add, hg.cell i, ← Array.getElem?_toList, e]
    rfl
theorem Pile.of_kids {G : Nat → Prop} (h : Kids G w v xs) (hb : ∀ g, G g → g < w.heap.size → base ≤ g) : Pile base w v xs := by
  rcases h.1.2 with ⟨hv, h0⟩ | ⟨g, cap, cur, hv, _, hg, h1, h2, h3, h4⟩
  · exact .inl ⟨hv, List.length_eq_zero_iff.1 h0⟩
  · exact .inr ⟨g, cap, cur, hv, hb g (h.2 g (by rw [hv]; rfl)) (Has.inside hg), hg, h1, h2, .inl (by omega), by rw [Nat.mul_one] at h4; exact h4⟩
/-- A literal. -/
theorem Pile.lit (w : World) (xs : List Int) (n : Nat) (hn : n = xs.length) (hm : n ≤ maxLen) (hb : base ≤ w.heap.size) : Pile base (w.alloc (.cells (xs.map (Value.int .i64)).toArray 3)) (.slice (some ⟨w.heap.size, 0, none⟩) n n) xs := by
  subst hn
  refine .inr ⟨w.heap.size, xs.length, _, rfl, hb, Has.fresh _ _, Nat.le_refl _, hm, .inr rfl, ?_⟩
  simp only
  rw [List.take_of_length_le (by simp)]
/-- The last one is cut off. -/
theorem Pile.clip {A : Option Addr} {n c : Nat} {y : Int} (h : Pile base w (.slice A (n + 1) c) (xs ++ [y])) (hn : n = xs.length) : ∃ g, A = some ⟨g, 0, none⟩ ∧ Pile base w (.slice A n n) xs := by
  subst hn
  rcases h with ⟨hv, _⟩ | ⟨g, cap, cur, hv, hb, hg, hl, hm, hc, ht⟩
  · cases hv
  · obtain ⟨rfl, -, rfl⟩ : A = some ⟨g, 0, none⟩ ∧ xs.length + 1 = (xs ++ [y]).length ∧ c = cap := by injection hv with e1 e2 e3; exact ⟨e1, e2, e3⟩
    refine ⟨g, rfl, .inr ⟨g, xs.length, cur, rfl, hb, hg, Nat.le_refl _, ?_, .inr rfl, ?_⟩⟩
    · rw [List.length_append] at hl
      omega
    · have e := congrArg (List.take xs.length) ht
      rw [List.take_take, List.length_append, List.map_append, List.take_append_of_le_length (by simp), Nat.min_eq_left (by omega)] at e
      have e2 : List.take xs.length (xs.map (Value.int .i64)) = xs.map (Value.int .i64) := List.take_of_length_le (by simp)
      rw [e2] at e
      exact e
end

section
variable {base : Nat} {w : World} {v : Value} {xs : List Int}
/-- One number is put behind: in the old row or a new one. -/
theorem run_push (t ty : TypeId) (i : TypeInfo) (z : Value) {P : Program} (ht : P.underlying t = some (.slice 3)) (hi : P.info? 3 = some i) (hz : i.zero = some z) (hsize : i.size = 1) (hby : i.bytes = 8) (hzs : z.cells.size = 1)
    (hP : Pile base w v xs) {b c : Nat} {y : Int} {fr : Nat × Nat} (hb : Has w b (.cells #[.int .i64 y] 3 fr)) (hl : xs.length ≤ 1000000) (hbase : base ≤ w.heap.size) :
    ∃ g cap w', (Builtin.append_ #[t, t] ty #[v, .slice (some ⟨b, 0, none⟩) 1 c]).run P w = .ok (.slice (some ⟨g, 0, none⟩) (xs.length + 1) cap) w' ∧
      Pile base w' (.slice (some ⟨g, 0, none⟩) (xs.length + 1) cap) (xs ++ [y]) ∧ Keeps (fun i => v.ownBlock = some i) w w' ∧ (v.ownBlock = some g ∨ w.heap.size ≤ g) ∧ g < w'.heap.size := by
  have hnews : ∀ j u, [Value.int .i64 y][j]? = some u → w.cell? ((⟨b, 0, none⟩ : Addr).add j) = some u := World.news_of_block hb
  have h1 : ∀ u ∈ [Value.int .i64 y], u.oneCell' = true := fun u hu => by obtain rfl := List.mem_singleton.1 hu; rfl
  have owned : ∀ {vo : Value}, w.ownsRow base 3 1 vo xs.length (xs.map (Value.int .i64)) → ∃ g cap w', (Builtin.append_ #[t, t] ty #[vo, .slice (some ⟨b, 0, none⟩) 1 c]).run P w = .ok (.slice (some ⟨g, 0, none⟩) (xs.length + 1) cap) w' ∧
      Pile base w' (.slice (some ⟨g, 0, none⟩) (xs.length + 1) cap) (xs ++ [y]) ∧ Keeps (fun i => vo.ownBlock = some i) w w' ∧ (vo.ownBlock = some g ∨ w.heap.size ≤ g) ∧ g < w'.heap.size := by
    intro vo hown
    obtain ⟨g, cap, w', hr, h2, h3, h4, h5⟩ := run_append_lies (P := P) w t ty base 3 i z 1 8 ht hi hz hsize hby hzs (by decide) vo xs.length (xs.map (Value.int .i64)) hown ⟨b, 0, none⟩ 1 c [.int .i64 y] rfl hnews h1 (by decide) (by unfold maxLen; omega) (by omega) hbase _ rfl
    refine ⟨g, cap, w', hr, ?_, Keeps.of_grown h3, h4.imp id fun e => by omega, h5⟩
    rcases h2.2 with ⟨hv, _⟩ | ⟨g', cap', cur, hv, hb', hg, q1, q2, q3, q4⟩
    · cases hv
    · obtain ⟨rfl, rfl⟩ : g = g' ∧ cap = cap' := by injection hv with e1 _ e3; exact ⟨by simpa using e1, e3⟩
      refine .inr ⟨g, cap, cur, by simp, hb', hg, by simpa using q1, q2, .inl (by omega), ?_⟩
      rw [Nat.mul_one] at q4
      simpa using q4
  rcases hP with ⟨rfl, rfl⟩ | ⟨g, cap, cur, rfl, hb', hg, hlc, hm, hc, htk⟩
  · exact owned (World.ownsRow_nil w base 3 1)
  · by_cases hfull : cap = xs.length
    · subst hfull
      have hle : xs.length ≤ cur.size := by
        have := congrArg List.length htk
        rw [List.length_take, List.length_map] at this
        have h2 : cur.toList.length = cur.size := Array.length_toList
        omega
      have holds : ∀ j u, (xs.map (Value.int .i64))[j]? = some u → w.cell? ((⟨g, 0, none⟩ : Addr).add j) = some u := by
        intro j u hu
        have hj : j < xs.length := by
          have := (List.getElem?_eq_some_iff.1 hu).1
          simpa using this
        rw [Addr.add_lit, Nat.zero_add, hg.cell j]
        rw [← htk, List.getElem?_take, if_pos hj, Array.getElem?_toList] at hu
        exact hu
      have hr := run_append_grow (P := P) w t ty 3 i z ht hi hz ⟨g, 0, none⟩ xs.length xs.length (xs.map (Value.int .i64)) (by rw [hsize]; simp) holds ⟨b, 0, none⟩ 1 c [.int .i64 y] (by rw [hsize]; rfl) hnews (by omega) (by omega) (growslice_fits (by omega) (by rw [hby]; omega))
      have hge := grownCap_ge w (xs.length + 1) xs.length 3
      refine ⟨w.heap.size, grownCap w (xs.length + 1) xs.length 3, _, hr, .inr ⟨w.heap.size, grownCap w (xs.length + 1) xs.length 3, _, by simp, hbase, Has.fresh w.drew _, by simpa using hge, grownCap_le_maxLen w _ _ _ (by unfold maxLen; omega), .inl ?_, ?_⟩, ⟨⟨rfl, rfl, rfl⟩, by simp, fun k hk _ => Below.heap_alloc w.drew _ k hk⟩, .inr (Nat.le_refl _), by simp⟩
      · simp only [Array.size_append, List.size_toArray, size_zeroCells, hzs, List.length_map, List.length_cons, List.length_nil]
        omega
      · simp only [Array.toList_append, List.map_append, List.map_cons, List.map_nil, List.length_append, List.length_cons, List.length_nil]
        rw [List.take_append_of_le_length (by simp), List.take_of_length_le (by simp)]
    · have hcs : cur.size = cap := hc.resolve_right hfull
      exact owned ⟨by simp, .inr ⟨g, cap, cur, rfl, hb', hg, hlc, hm, by omega, by rw [Nat.mul_one]; exact htk⟩⟩
/-- At a plain region. -/
theorem wpList_push {ops : Array Oper} {rest : List Oper} {o : Oper} {a : Act} {Q : Exit → Act → World → Prop} (hgd : o.guard = none) (s x : Operand)
    (ho : o.op = .call { callee := .builtin .append, args := #[s, x], argTypes := #[55, 55] }) (hs : a.eval s = v) (hP : Pile base w v xs) {b c : Nat} {y : Int} {fr : Nat × Nat} (hx : a.eval x = .slice (some ⟨b, 0, none⟩) 1 c)
    (hb : Has w b (.cells #[.int .i64 y] 3 fr)) (hl : xs.length ≤ 1000000) (hbase : base ≤ w.heap.size)
    (h : ∀ g cap w', Pile base w' (.slice (some ⟨g, 0, none⟩) (xs.length + 1) cap) (xs ++ [y]) → Keeps (fun i => v.ownBlock = some i) w w' → (v.ownBlock = some g ∨ w.heap.size ≤ g) → g < w'.heap.size → wpList Try.prog ops Q rest (a.put o.dst (.slice (some ⟨g, 0, none⟩) (xs.length + 1) cap)) w') : wpList Try.prog ops Q (o :: rest) a w := by
  obtain ⟨i0, hi, hz0, hz1, hz2⟩ := info_parts Try.infoInt
  obtain ⟨g, cap, w', hr, h2, h3, h4, h5⟩ := run_push (c := c) 55 o.type i0 _ Try.underlying55 hi hz0 hz1 hz2 rfl hP hb hl hbase
  refine wpList_plain hgd fun _ hK => ?_
  unfold Oper.wp execOp
  simp only [ho, resolve, invoke, builtin, Sem.run_bind, Sem.run_pure, Result.andThen_ok, List.map_toArray, List.map_cons, List.map_nil, hs, hx, hr]
  exact hK _ _ (h g cap w' h2 h3 h4 h5)
end
end Go.Proofs.Ytekmgaigppenlaa

namespace Go.Proofs.Ytekmgaigppenlaa
open Go Go.RowKit

/-- The place of a number; -1: it isn't there. -/
def idxL (xs : List Int) (x : Int) : Int := if x ∈ xs then (xs.idxOf x : Int) else -1
theorem idxL_at {xs : List Int} {x : Int} {k : Nat} (hk : k < xs.length) (hx : xs[k] = x) (hno : x ∉ xs.take k) : idxL xs x = (k : Int) := by
  have hm : x ∈ xs := hx ▸ List.getElem_mem hk
  unfold idxL
  rw [if_pos hm]
  have e : xs = xs.take k ++ x :: xs.drop (k + 1) := by
    rw [← hx, List.getElem_cons_drop, List.take_append_drop]
  have : xs.idxOf x = k := by
    conv => lhs; rw [e]
    rw [List.idxOf_append, if_neg hno, List.idxOf_cons_self]
    simp
    omega
  rw [this]
theorem idxL_no {xs : List Int} {x : Int} (h : x ∉ xs) : idxL xs x = -1 := if_neg h
theorem not_take {xs : List Int} {x : Int} {k : Nat} (h : x ∉ xs.take k) (hk : k < xs.length) (hx : xs[k] ≠ x) : x ∉ xs.take (k + 1) := by
  rw [List.take_add_one, List.getElem?_eq_getElem hk]
  intro hm
  rcases List.mem_append.1 hm with h' | h'
  · exact h h'
  · have e : x = xs[k] := by simpa using h'
    exact hx e.symm
theorem idxL_nonneg {xs : List Int} {x : Int} : decide (0 ≤ idxL xs x) = hasB xs x := by
  unfold idxL hasB
  by_cases h : x ∈ xs
  · rw [if_pos h, decide_eq_true h]
    exact decide_eq_true (by omega)
  · rw [if_neg h, decide_eq_false h]
    rfl

end Go.Proofs.Ytekmgaigppenlaa

namespace Go.Proofs.Ytekmgaigppenlaa
open Go Go.RowKit

/-- Few calls with short lists. -/
def Small (xs : List Ac) : Prop := xs.length ≤ 300 ∧ ∀ x ∈ xs, x.l.length ≤ 200

/-- A truth; if it is no, they are few. -/
def SaysFew (xs : List Ac) (e : Ending) : Prop := ∃ g, e = .returned (.bool g) ∧ (g = false → Small xs)
set_option maxHeartbeats 2000000 in
theorem great_any (A : Option Addr) (n c : Nat) (xs : List Ac) (w : World) (hn : xs.length = n) (hm : n ≤ maxLen) (h : Acts w A xs) :
    Calls Try.prog 14 #[.slice A n c] w fun e w' => SaysFew xs e ∧ w = w' := by
  have H := Lib.hid h
  have Hn := Lib.hid hn
  clear h hn
  unfold maxLen at hm
  go_enter Try.func14, Try.ntmps14
  go_wp2
  go_loop [3] (fun i => ∃ k : Nat, i = .int .i64 k ∧ k ≤ n ∧ ∀ j (hj : j < xs.length), j < k → xs[j].l.length ≤ 200) (fun i => n - (intOf i).toNat)
  case atStart => exact ⟨0, rfl, Nat.zero_le _, fun j _ hj => absurd hj (Nat.not_lt_zero j)⟩
  case round =>
    obtain ⟨k, rfl, hk, hall⟩ := hrel
    have Hall := Lib.hid hall
    clear hall
    by_cases hlt : (k : Int) < n
    · have hkx : k < xs.length := by rw [Hn.out]; omega
      obtain ⟨b, off, A1, c1, A2, c2, rfl, -, hc, -, -⟩ := H.out k hkx
      have c13 : w.cell? ⟨b, off + k * 14 + 13, none⟩ = some (.slice A2 xs[k].l.length c2) := by
        rw [Nat.add_assoc]
        exact hc 13 (by omega)
      obtain ⟨m, hmm⟩ : ∃ m, m = xs[k].l.length := ⟨_, rfl⟩
      rw [← hmm] at c13
      have Hm := Lib.hid hmm
      clear hmm hc
      by_cases h2 : m ≤ 200
      · have h2' : ¬ (200 : Int) < m := by omega
        go_wp2
        go_round
        case rel =>
          refine ⟨k + 1, by go_num, by omega, fun j hj hjk => ?_⟩
          by_cases e : j = k
          · subst e
            rw [← Hm.out]
            exact h2
          · exact Hall.out j hj (by omega)
        case measure => simp [intOf]; omega
      · have h2' : (200 : Int) < m := by omega
        go_wp2
        go_ret
        exact ⟨⟨true, rfl, fun e => absurd e (by decide)⟩, rfl⟩
    · obtain ⟨g, hg⟩ : ∃ g, g = decide ((300 : Int) < n) := ⟨_, rfl⟩
      have Hg := Lib.hid hg
      clear hg
      go_wp2
      go_ret
      refine ⟨⟨g, by rw [Hg.out]; rfl, fun e => ⟨?_, fun x hx => ?_⟩⟩, rfl⟩
      · have := Hg.out
        rw [e] at this
        have := of_decide_eq_false this.symm
        have := Hn.out
        omega
      · obtain ⟨j, hj, rfl⟩ := List.mem_iff_getElem.1 hx
        exact Hall.out j hj (by have := Hn.out; omega)
end Go.Proofs.Ytekmgaigppenlaa

namespace Go.Proofs.Ytekmgaigppenlaa
open Go Go.RowKit

/-- A forest as calls make it. -/
structure Good (l : List Nd) : Prop where
  tree : Tree l
  len : l.length ≤ 128
  few : Few 200 l
theorem good_nil : Good [] := ⟨tree_nil, Nat.zero_le _, fun _ h => absurd h (by simp)⟩
theorem good_act {l : List Nd} {x : Ac} (h : Good l) (hx : x.l.length ≤ 200) : Good (actL l x) := ⟨tree_act h.tree, actL_length l x h.len, actL_kids h.few hx⟩

/-- Where a forest lies. -/
abbrev at_ (b : Nat) : Value := .pointer (some ⟨b, 0, none⟩)

/-- The promises: 'Rep S w b l': in w the forest at b holds l, in blocks that S names. -/
structure ForestOk (Rep : (Nat → Prop) → World → Nat → List Nd → Prop) : Prop where
  keep : ∀ {S F : Nat → Prop} {w w' : World} {b : Nat} {l : List Nd}, Rep S w b l → Keeps F w w' → (∀ i, S i → i < w.heap.size → ¬ F i) → Rep S w' b l
  wide : ∀ {S S' : Nat → Prop} {w : World} {b : Nat} {l : List Nd}, Rep S w b l → (∀ i, S i → i < w.heap.size → S' i) → Rep S' w b l
  new : ∀ (S : Nat → Prop) (w : World), Fut S w.heap.size → Calls Try.prog 26 #[] w fun e w' => ∃ b, e = .returned (at_ b) ∧ Rep S w' b [] ∧ Below w.heap.size w w'
  make : ∀ (S : Nat → Prop) (w : World) (b : Nat) (l : List Nd) (k pa ho sh m : Int) (sl : Bool) (na wa : ByteArray) (ks : List Int) (A1 : Option Addr) (c1 : Nat), Rep S w b l → Good l → Fut S w.heap.size → na.size ≤ 9223372036854775807 → wa.size ≤ 9223372036854775807 → ListIn w A1 c1 ks →
    Calls Try.prog 27 #[at_ b, .agg #[.int .i64 k, .int .i64 pa, .int .i64 ho, .int .i64 sh, .int .i64 m, .bool sl, .string na, .string wa, .slice A1 ks.length c1]] w fun e w' =>
      e = .returned (.tuple #[.int .i64 (mkNo l ⟨k, pa, ho, sh, m, sl, na, wa, ks⟩), .int .i64 (mkErr l.length ⟨k, pa, ho, sh, m, sl, na, wa, ks⟩)]) ∧ Rep S w' b (mkL l ⟨k, pa, ho, sh, m, sl, na, wa, ks⟩) ∧ Keeps S w w'
  put : ∀ (S : Nat → Prop) (w : World) (b : Nat) (l : List Nd) (p : Int) (ks : List Int) (A2 : Option Addr) (c2 : Nat), Rep S w b l → Good l → Fut S w.heap.size → ks.length ≤ 200 → ListIn w A2 c2 ks → (0 < ks.length → ∀ b' off s, A2 = some ⟨b', off, s⟩ → b' < w.heap.size → ¬ S b') →
    Calls Try.prog 28 #[at_ b, .int .i64 p, .slice A2 ks.length c2] w fun e w' => e = .returned (.int .i64 (putErr l p ks)) ∧ Rep S w' b (putL l p ks) ∧ Keeps S w w'
  tie : ∀ (S : Nat → Prop) (w : World) (b : Nat) (l : List Nd) (h r : Int), Rep S w b l → Good l → Fut S w.heap.size →
    Calls Try.prog 29 #[at_ b, .int .i64 h, .int .i64 r] w fun e w' => e = .returned (.int .i64 (tieErr l h r)) ∧ Rep S w' b (tieL l h r) ∧ Keeps S w w'
  name : ∀ (S : Nat → Prop) (w : World) (b : Nat) (l : List Nd) (id : Int) (s : ByteArray), Rep S w b l → Good l → Fut S w.heap.size → s.size ≤ 9223372036854775807 →
    Calls Try.prog 30 #[at_ b, .int .i64 id, .string s] w fun e w' => e = .returned (.int .i64 (nameErr l id s)) ∧ Rep S w' b (nameL l id s) ∧ Keeps S w w'
  want : ∀ (S : Nat → Prop) (w : World) (b : Nat) (l : List Nd) (id : Int) (s : ByteArray), Rep S w b l → Good l → Fut S w.heap.size → s.size ≤ 9223372036854775807 →
    Calls Try.prog 31 #[at_ b, .int .i64 id, .string s] w fun e w' => e = .returned (.int .i64 (wantErr l id s)) ∧ Rep S w' b (wantL l id s) ∧ Keeps S w w'

section
variable {Rep : (Nat → Prop) → World → Nat → List Nd → Prop}
theorem ForestOk.below (O : ForestOk Rep) {S : Nat → Prop} {w w' : World} {b : Nat} {l : List Nd} (h : Rep S w b l) (hb : Below w.heap.size w w') : Rep S w' b l :=
  O.keep h (Keeps.of_below (F := fun i => w.heap.size ≤ i) hb fun _ _ h => h) fun _ _ hi => Nat.not_le.2 hi

/-- An append of a whole list, as one operation. -/
theorem wp_append_gives {P : Program} {w : World} {o : Oper} {a : Act} {K : Act → World → Prop} {Q : Exit → Act → World → Prop} (s x : Operand) (t : TypeId)
    (ho : o.op = .call { callee := .builtin .append, args := #[s, x], argTypes := #[t, t] })
    (base : Nat) (e : TypeId) (i : TypeInfo) (z : Value) (size bytes : Nat) (ht : P.underlying t = some (.slice e)) (hi : P.info? e = some i) (hz : i.zero = some z)
    (hsize : i.size = size) (hby : i.bytes = bytes) (hzs : z.cells.size = size) (hsz : 0 < size)
    (v : Value) (n : Nat) (xs : List Value) (hs : a.eval s = v) (hown : w.ownsRow base e size v n xs)
    (X : Value) (m : Nat) (us : List Value) (hx : a.eval x = X) (hG : Gives w size X m us) (h1 : ∀ u ∈ us, u.oneCell' = true)
    (h63 : n + m ≤ maxLen) (hbytes : (n + m) * bytes ≤ 140737488355328) (hbase : base ≤ w.heap.size)
    (h : ∀ v' w', w'.ownsRow base e size v' (n + m) (xs ++ us) → w.grownBy w' v.ownBlock → K (a.put o.dst v') w') : o.wp P a w K Q := by
  rcases hG with ⟨rfl, rfl, rfl⟩ | ⟨ad, c, rfl, hl, hc⟩
  · have hrun := run_append_owned_none (P := P) (w := w) base t o.type e i size ht hi v n xs hown
    have hk := h v w (by rw [List.append_nil]; exact hown) ⟨rfl, rfl, rfl, Nat.le_refl _, fun _ _ _ => rfl⟩
    unfold Oper.wp
    simp [execOp, ho, resolve, invoke, builtin, hs, hx, hrun, Result.andThen]
    exact hk
  · exact wp_append_own w s x t ho base e i z size bytes ht hi hz hsize hby hzs hsz v n xs hs hown ad m c us hx hl hc h1 h63 hbytes hbase fun v' w' h2 h3 _ => h v' w' h2 h3

/-- A number and an error's number; the forest is l' then. -/
def Did (Rep : (Nat → Prop) → World → Nat → List Nd → Prop) (S : Nat → Prop) (w : World) (b : Nat) (l' : List Nd) (no err : Int) (e : Ending) (w' : World) : Prop :=
  e = .returned (.tuple #[.int .i64 no, .int .i64 err]) ∧ Rep S w' b l' ∧ Keeps S w w'

end
end Go.Proofs.Ytekmgaigppenlaa

namespace Go.Proofs.Ytekmgaigppenlaa
open Go Go.RowKit

theorem good_take {xs : List Ac} (h : Small xs) : ∀ j, Good (forest (xs.take j))
  | 0 => good_nil
  | j + 1 => by
    rcases Nat.lt_or_ge j xs.length with hj | hj
    · rw [List.take_add_one, List.getElem?_eq_getElem hj]
      show Good (forest (xs.take j ++ [xs[j]]))
      rw [forest_snoc]
      exact good_act (good_take h j) (h.2 _ (List.getElem_mem hj))
    · rw [List.take_of_length_le (by omega), ← List.take_of_length_le hj]
      exact good_take h j
theorem good_forest {xs : List Ac} (h : Small xs) : Good (forest xs) := by
  have := good_take h xs.length
  rwa [List.take_length] at this

end Go.Proofs.Ytekmgaigppenlaa

namespace Go.Proofs.Ytekmgaigppenlaa
open Go Go.RowKit

/-- The same numbers? -/
def sameInts (xs ys : List Int) : Bool := decide (xs = ys)
end Go.Proofs.Ytekmgaigppenlaa

namespace Go.Proofs.Ytekmgaigppenlaa
open Go Go.RowKit

/-- The same node? -/
def oneB (d e : Nd) : Bool := (d.kind == e.kind) && (d.parent == e.parent) && (d.host == e.host) && (d.shadow == e.shadow) && (d.mode == e.mode) && (d.slot == e.slot) && (d.name.toList == e.name.toList) && (d.want.toList == e.want.toList) && sameInts d.kids e.kids

end Go.Proofs.Ytekmgaigppenlaa

namespace Go.Proofs.Ytekmgaigppenlaa
open Go Go.RowKit
variable {G : Nat → Prop}

/-- The same nodes? -/
def sameL (a b : List Nd) : Bool := decide (a.length = b.length ∧ ∀ i, i < a.length → oneB (a.getD i Nd.zero) (b.getD i Nd.zero) = true)
theorem getD_at {l : List Nd} {i : Nat} (h : i < l.length) : l.getD i Nd.zero = l[i] := by
  rw [List.getD_eq_getElem?_getD, List.getElem?_eq_getElem h]
  rfl

end Go.Proofs.Ytekmgaigppenlaa

namespace Go.Proofs.Ytekmgaigppenlaa
open Go Go.RowKit

/-- Node and Len. -/
structure ForestMore (Rep : (Nat → Prop) → World → Nat → List Nd → Prop) : Prop where
  node : ∀ (S : Nat → Prop) (w : World) (b : Nat) (l : List Nd) (id : Int), Rep S w b l → Good l →
    Calls Try.prog 35 #[at_ b, .int .i64 id] w fun e w' => ∃ (d : Nd) (A : Option Addr) (c : Nat), e = .returned (.tuple #[.agg #[.int .i64 d.kind, .int .i64 d.parent, .int .i64 d.host, .int .i64 d.shadow, .int .i64 d.mode, .bool d.slot, .string d.name, .string d.want, .slice A d.kids.length c], .bool (thereB l id)]) ∧
      d = (if thereB l id = true then nd l id else Nd.zero) ∧ Kids (fun i => w.heap.size ≤ i) w' (.slice A d.kids.length c) d.kids ∧ Below w.heap.size w w'
  len : ∀ (S : Nat → Prop) (w : World) (b : Nat) (l : List Nd), Rep S w b l → Good l →
    Calls Try.prog 52 #[at_ b] w fun e w' => e = .returned (.int .i64 l.length) ∧ Below w.heap.size w w'

theorem oneB_refl (d : Nd) : oneB d d = true := by simp [oneB, sameInts]
theorem sameL_refl (l : List Nd) : sameL l l = true := by
  rw [sameL, decide_eq_true_iff]
  exact ⟨rfl, fun i _ => oneB_refl _⟩

section
variable {G : Nat → Prop} {w : World}
/-- A number is written over in a list of the call's own. -/
theorem Kids.write {A : Option Addr} {n c j : Nat} {ks : List Int} (h : Kids G w (.slice A n c) ks) (hj : j < ks.length) (y : Int) : ∃ g, A = some ⟨g, 0, none⟩ ∧ G g ∧ n = ks.length ∧ (∃ x, w.cell? ⟨g, j, none⟩ = some (.int .i64 x)) ∧ w.frozen? ⟨g, j, none⟩ = false ∧ Has w g (.cells (w.heap[g]?.elim #[] fun | .cells cs _ _ => cs | _ => #[]) 3 (0, 0)) ∧ Kids G (w.setCell ⟨g, j, none⟩ (.int .i64 y)) (.slice A n c) (ks.set j y) := by
  obtain ⟨h1, h2⟩ := h
  rcases h1.2 with ⟨_, h0⟩ | ⟨g, cap, cur, e, _, hh, _⟩
  · omega
  · injection e with e1 e2 e3
    subst e1
    subst e2
    subst e3
    refine ⟨g, rfl, h2 g rfl, rfl, ⟨ks[j], ?_⟩, h1.frozenAt j, ?_, ?_, h2⟩
    · rw [h1.cellAt j (by omega), List.getElem?_map, List.getElem?_eq_getElem hj]
      rfl
    · rw [hh]
      exact hh
    · have := (h1.stored j (.int .i64 y)).1
      rw [List.length_set, List.map_set]
      exact this
/-- .. and what it is in other lists. -/
theorem Kids.written {g j : Nat} {v : Value} {ks : List Int} (h : Kids G w v ks) (y : Int) : ∃ ks', ks'.length = ks.length ∧ Kids G (w.setCell ⟨g, j, none⟩ (.int .i64 y)) v ks' := by
  obtain ⟨h1, h2⟩ := h
  rcases h1.2 with ⟨rfl, h0⟩ | ⟨g', cap, cur, rfl, _, hh, _⟩
  · exact ⟨ks, rfl, ⟨h1.1, .inl ⟨rfl, h0⟩⟩, h2⟩
  · by_cases e : g' = g
    · subst e
      refine ⟨ks.set j y, List.length_set, ?_, h2⟩
      have := (h1.stored j (.int .i64 y)).1
      rw [List.length_set, List.map_set]
      exact this
    · refine ⟨ks, rfl, own_kept h1 (Keeps.storeAt (F := fun i => i = g) (Keeps.refl _ _) rfl j _) fun i hi e' => ?_, h2⟩
      have : g' = i := by simpa [Value.ownBlock] using hi
      exact e (this.trans e')
theorem Nodes.written {B g j c : Nat} {A : Option Addr} {l : List Nd} (h : Nodes G w B A c l) (y : Int) {cs : Array Value} (hg : Has w g (.cells cs 3 (0, 0))) : ∃ l', l'.length = l.length ∧ (∀ i, (l'.getD i Nd.zero).kids.length = (l.getD i Nd.zero).kids.length) ∧ Nodes G (w.setCell ⟨g, j, none⟩ (.int .i64 y)) B A c l' := by
  obtain ⟨rows, rfl, h2, h3, h4⟩ := h
  have each : ∀ rs : List (Nd × Value), (∀ p ∈ rs, Kids G w p.2 p.1.kids) → ∃ rs' : List (Nd × Value), rs'.length = rs.length ∧ flat rs' = flat rs ∧ (∀ p ∈ rs', Kids G (w.setCell ⟨g, j, none⟩ (.int .i64 y)) p.2 p.1.kids) ∧ ∀ i, ((rs'.map Prod.fst).getD i Nd.zero).kids.length = ((rs.map Prod.fst).getD i Nd.zero).kids.length := by
    intro rs
    induction rs with
    | nil => exact fun _ => ⟨[], rfl, rfl, fun _ h => absurd h (by simp), fun _ => rfl⟩
    | cons p r ih =>
      intro hk
      obtain ⟨r', e1, e2, e3, e4⟩ := ih fun q hq => hk q (by simp [hq])
      obtain ⟨ks', hl, hk'⟩ := (hk p (by simp)).written (g := g) (j := j) y
      refine ⟨({ p.1 with kids := ks' }, p.2) :: r', by simp [e1], by rw [flat_cons, flat_cons, e2]; rfl, fun q hq => ?_, fun i => ?_⟩
      · rcases List.mem_cons.1 hq with rfl | hq
        · exact hk'
        · exact e3 q hq
      · cases i with
        | zero => exact hl
        | succ i => simpa using e4 i
  obtain ⟨rows', e1, e2, e3, e4⟩ := each rows h3
  have hlen : (rows'.map Prod.fst).length = (rows.map Prod.fst).length := by simp [e1]
  refine ⟨rows'.map Prod.fst, hlen, e4, rows', rfl, ?_, e3, h4⟩
  rw [hlen, e2]
  refine own_kept h2 (Keeps.storeAt (F := fun i => i = g) (Keeps.refl _ _) rfl j _) fun i hi e => ?_
  subst e
  rcases h2.2 with ⟨hv, _⟩ | ⟨g', cap, cur, hv, _, hh, _⟩
  · rw [hv] at hi; cases hi
  · rw [hv] at hi
    obtain rfl : g' = i := by simpa [Value.ownBlock] using hi
    exact Has.apart hh hg (by simp) rfl
end
end Go.Proofs.Ytekmgaigppenlaa

namespace Go.Proofs.Ytekmgaigppenlaa
open Go Go.RowKit

section
variable {Rep : (Nat → Prop) → World → Nat → List Nd → Prop} {S : Nat → Prop} {w : World} {b : Nat} {l : List Nd}
/-- Node of one that is there, and of one that isn't. -/
theorem nodeYes (M : ForestMore Rep) {id : Int} (h : Rep S w b l) (hg : Good l) (ht : thereB l id = true) :
    Calls Try.prog 35 #[at_ b, .int .i64 id] w fun e w' => ∃ A1 c1, e = .returned (.tuple #[.agg #[.int .i64 (nd l id).kind, .int .i64 (nd l id).parent, .int .i64 (nd l id).host, .int .i64 (nd l id).shadow, .int .i64 (nd l id).mode, .bool (nd l id).slot, .string (nd l id).name, .string (nd l id).want, .slice A1 (nd l id).kids.length c1], .bool true]) ∧ Kids (fun i => w.heap.size ≤ i) w' (.slice A1 (nd l id).kids.length c1) (nd l id).kids ∧ Below w.heap.size w w' := by
  refine (M.node S w b l id h hg).mono ?_
  rintro e w' ⟨d, A, c, rfl, hd, hk, hb⟩
  rw [if_pos ht] at hd
  subst hd
  rw [ht]
  exact ⟨A, c, rfl, hk, hb⟩
theorem nodeNo (M : ForestMore Rep) {id : Int} (h : Rep S w b l) (hg : Good l) (ht : thereB l id = false) :
    Calls Try.prog 35 #[at_ b, .int .i64 id] w fun e w' => ∃ A1 c1, e = .returned (.tuple #[.agg #[.int .i64 0, .int .i64 0, .int .i64 0, .int .i64 0, .int .i64 0, .bool false, .string ⟨#[]⟩, .string ⟨#[]⟩, .slice A1 0 c1], .bool false]) ∧ Kids (fun i => w.heap.size ≤ i) w' (.slice A1 0 c1) [] ∧ Below w.heap.size w w' := by
  refine (M.node S w b l id h hg).mono ?_
  rintro e w' ⟨d, A, c, rfl, hd, hk, hb⟩
  rw [if_neg (by rw [ht]; decide)] at hd
  subst hd
  rw [ht]
  exact ⟨A, c, rfl, hk, hb⟩
theorem app_len {xs ys : List Int} {R : List Int} (h : xs ++ ys = R) : xs.length ≤ R.length := by rw [← h]; simp

set_option maxHeartbeats 4000000 in
set_option maxRecDepth 100000 in
theorem kinUp (O : ForestOk Rep) (M : ForestMore Rep) (id : Int) (h : Rep S w b l) (hg : Good l) :
    Calls Try.prog 51 #[at_ b, .int .i64 id] w fun e w' => ∃ v, e = .returned v ∧ Pile w.heap.size w' v (parL l id) ∧ Below w.heap.size w w' := by
  have H := Lib.hid h
  have Hg := Lib.hid hg
  have hnot : ∀ (x : Bool) (w : World), (Op.unary .not (.bool x)).run Try.prog w = .ok (.bool (!x)) w := fun _ _ => rfl
  have hRl : (parL l id).length ≤ 128 := Nat.le_trans (parL_len hg.tree id) hg.len
  obtain ⟨R, hR⟩ : ∃ R, R = parL l id := ⟨_, rfl⟩
  rw [← hR] at hRl
  rw [← hR]
  have hR0 : ([] : List Int) ++ parL l id = R := by rw [hR]; rfl
  have HR0 := Lib.hid hR0
  clear h hg hR hR0
  go_enter Try.func51, Try.ntmps51
  go_wp2_with fail
  go_loopw [1, 5] (fun a o wr => ∃ (i : Int) (xs : List Int), a = .int .i64 i ∧ xs ++ parL l i = R ∧ Pile w.heap.size wr o xs ∧ Below w.heap.size w wr) (fun a _ _ => (parL l (intOf a)).length)
  case atStart => exact ⟨id, [], rfl, HR0.out, Pile.nil _ _, Below.refl _ _⟩
  case round =>
    obtain ⟨i, xs, rfl, hxs, hP, hb⟩ := hrel
    have hRw : Rep S wr b l := O.keep H.out (Keeps.of_below (F := fun i => w.heap.size ≤ i) hb fun _ _ h => h) fun _ _ hi => Nat.not_le.2 hi
    have Hxs := Lib.hid hxs
    have hxl : xs.length ≤ 1000000 := by have := app_len hxs; omega
    clear HR0 hxs
    obtain ⟨Ao, co, rfl, -⟩ := hP.form
    cases ht : thereB l i with
    | false =>
      have Ht := Lib.hid ht
      have HP := Lib.hid hP
      clear ht hP
      go_wp2_with fail
      refine (nodeNo M hRw Hg.out Ht.out).mono ?_
      rintro e w1 ⟨A1, c1, rfl, -, hb1⟩
      have HF : Hid (Pile w.heap.size (w1.alloc (.cells #[.int .i64 0, .int .i64 0, .int .i64 0, .int .i64 0, .int .i64 0, .bool false, .string ⟨#[]⟩, .string ⟨#[]⟩, .slice A1 0 c1] 57)) (.slice Ao xs.length co) xs ∧ Below w.heap.size w (w1.alloc (.cells #[.int .i64 0, .int .i64 0, .int .i64 0, .int .i64 0, .int .i64 0, .bool false, .string ⟨#[]⟩, .string ⟨#[]⟩, .slice A1 0 c1] 57))) := Lib.hid ⟨(HP.out.below hb1).alloc _, (hb.trans (hb1.mono hb.size)).alloc (Nat.le_trans hb.size hb1.size) _⟩
      clear hb1 HP
      go_wp2
      go_ret
      refine ⟨_, rfl, ?_, HF.out.2⟩
      have := Hxs.out
      rw [parL_no Ht.out, List.append_nil] at this
      rw [← this]
      exact HF.out.1
    | true =>
      have Ht := Lib.hid ht
      have HP := Lib.hid hP
      have hfin : (xs ++ [i]) ++ parL l (nd l i).parent = R := by
        rw [List.append_assoc, List.singleton_append, ← parL_step Hg.out.tree ht]
        exact Hxs.out
      have Hfin := Lib.hid hfin
      clear ht hP hfin Hxs
      go_wp2_with fail
      refine (nodeYes M hRw Hg.out Ht.out).mono ?_
      rintro e w1 ⟨A1, c1, rfl, -, hb1⟩
      obtain ⟨d, hd⟩ : ∃ d, d = nd l i := ⟨_, rfl⟩
      rw [← hd] at Hfin
      rw [← hd]
      have hB1 : Below w.heap.size w w1 := hb.trans (hb1.mono hb.size)
      have hP1 : Pile w.heap.size w1 (.slice Ao xs.length co) xs := HP.out.below hb1
      have hown : ∀ g, (Value.slice Ao xs.length co).ownBlock = some g → w.heap.size ≤ g ∧ g < w1.heap.size := hP1.lt
      have HC : Hid (∀ w2, Keeps (fun i => (Value.slice Ao xs.length co).ownBlock = some i) ((w1.alloc (.cells #[.int .i64 d.kind, .int .i64 d.parent, .int .i64 d.host, .int .i64 d.shadow, .int .i64 d.mode, .bool d.slot, .string d.name, .string d.want, .slice A1 d.kids.length c1] 57)).alloc (.cells #[.int .i64 i] 3)) w2 → w2.cell? ⟨w1.heap.size, 1, none⟩ = some (.int .i64 d.parent)) := Lib.hid fun w2 hk2 => by
        have hh : Has ((w1.alloc (.cells #[.int .i64 d.kind, .int .i64 d.parent, .int .i64 d.host, .int .i64 d.shadow, .int .i64 d.mode, .bool d.slot, .string d.name, .string d.want, .slice A1 d.kids.length c1] 57)).alloc (.cells #[.int .i64 i] 3)) w1.heap.size (.cells #[.int .i64 d.kind, .int .i64 d.parent, .int .i64 d.host, .int .i64 d.shadow, .int .i64 d.mode, .bool d.slot, .string d.name, .string d.want, .slice A1 d.kids.length c1] 57 (0, 0)) := (Has.fresh _ _).more _
        exact (hh.kept hk2 fun e => by have := (hown _ e).2; omega).cell 1
      have HP2 : Hid (Pile w.heap.size ((w1.alloc (.cells #[.int .i64 d.kind, .int .i64 d.parent, .int .i64 d.host, .int .i64 d.shadow, .int .i64 d.mode, .bool d.slot, .string d.name, .string d.want, .slice A1 d.kids.length c1] 57)).alloc (.cells #[.int .i64 i] 3)) (.slice Ao xs.length co) xs) := Lib.hid ((hP1.alloc _).alloc _)
      have HB2 : Hid (Has ((w1.alloc (.cells #[.int .i64 d.kind, .int .i64 d.parent, .int .i64 d.host, .int .i64 d.shadow, .int .i64 d.mode, .bool d.slot, .string d.name, .string d.want, .slice A1 d.kids.length c1] 57)).alloc (.cells #[.int .i64 i] 3)) (w1.heap.size + 1) (.cells #[.int .i64 i] 3 (0, 0))) := Lib.hid (by
        have := Has.fresh (w1.alloc (.cells #[.int .i64 d.kind, .int .i64 d.parent, .int .i64 d.host, .int .i64 d.shadow, .int .i64 d.mode, .bool d.slot, .string d.name, .string d.want, .slice A1 d.kids.length c1] 57)) (.cells #[.int .i64 i] 3)
        simpa using this)
      have HS2 : Hid (w.heap.size ≤ ((w1.alloc (.cells #[.int .i64 d.kind, .int .i64 d.parent, .int .i64 d.host, .int .i64 d.shadow, .int .i64 d.mode, .bool d.slot, .string d.name, .string d.want, .slice A1 d.kids.length c1] 57)).alloc (.cells #[.int .i64 i] 3)).heap.size) := Lib.hid (by have := hB1.size; simp; omega)
      have HE : Hid (∀ w2, Keeps (fun i => (Value.slice Ao xs.length co).ownBlock = some i) ((w1.alloc (.cells #[.int .i64 d.kind, .int .i64 d.parent, .int .i64 d.host, .int .i64 d.shadow, .int .i64 d.mode, .bool d.slot, .string d.name, .string d.want, .slice A1 d.kids.length c1] 57)).alloc (.cells #[.int .i64 i] 3)) w2 → Below w.heap.size w w2) := Lib.hid fun w2 hk2 =>
        below_then ((hB1.alloc hB1.size _).alloc (by have := hB1.size; simp; omega) _) hk2 (by have := hB1.size; simp; omega) fun i hi e => by have := (hown _ e).1; omega
      have Hd := Lib.hid hd
      clear hd hb1 hB1 hP1 hown HP hb hRw
      go_wp2_with (at_builtin; refine wpList_push rfl (.tmp 17) (.tmp 19) rfl rfl HP2.out rfl HB2.out hxl HS2.out ?_; intro g cap w2 hp2 hk2 _ _; have c1 := HC.out w2 hk2)
      go_roundw
      case rel => exact ⟨_, xs ++ [i], rfl, Hfin.out, by simpa using hp2, HE.out w2 hk2⟩
      case measure =>
        simp only [intOf]
        rw [Hd.out, parL_step Hg.out.tree Ht.out]
        simp
end
end Go.Proofs.Ytekmgaigppenlaa

namespace Go.Proofs.Ytekmgaigppenlaa
open Go Go.RowKit

theorem lastL_at {xs : List Int} {m : Nat} (h : xs.length = m + 1) : lastL xs = xs[m]'(by omega) := by
  unfold lastL
  have e : xs.length - 1 = m := by omega
  rw [List.getLastD_eq_getLast?, List.getLast?_eq_getElem?, e, List.getElem?_eq_getElem (by omega)]
  rfl
/-- The children among which a node stands. -/
def rowL (l : List Nd) (id : Int) : List Int := if thereB l id = true then if thereB l (nd l id).parent = true then (nd l (nd l id).parent).kids else [] else []
/-- The one behind. -/
def nextL (xs : List Int) (x : Int) : Int := if idxL xs x < 0 then 0 else xs.getD ((idxL xs x).toNat + 1) 0
theorem few_nd {l : List Nd} {K : Nat} (h : Few K l) (i : Int) : (nd l i).kids.length ≤ K := by
  unfold nd
  rw [List.getD_eq_getElem?_getD]
  cases e : l[(i - 1).toNat]? with
  | none => exact Nat.zero_le _
  | some d => exact h d (List.mem_of_getElem? e)
theorem rowL_len {l : List Nd} (h : Few 200 l) (i : Int) : (rowL l i).length ≤ 200 := by
  unfold rowL
  split
  · split
    · exact few_nd h _
    · exact Nat.zero_le _
  · exact Nat.zero_le _
theorem idxL_range (xs : List Int) (x : Int) : idxL xs x = -1 ∨ ∃ k : Nat, idxL xs x = (k : Int) ∧ k < xs.length := by
  unfold idxL
  by_cases h : x ∈ xs
  · rw [if_pos h]
    exact .inr ⟨_, rfl, List.idxOf_lt_length_of_mem h⟩
  · rw [if_neg h]
    exact .inl rfl

section
variable {Rep : (Nat → Prop) → World → Nat → List Nd → Prop} {S : Nat → Prop} {w : World} {b : Nat} {l : List Nd}
set_option maxHeartbeats 1000000 in
theorem kinRoot (O : ForestOk Rep) (M : ForestMore Rep) (id : Int) (h : Rep S w b l) (hg : Good l) :
    Calls Try.prog 36 #[at_ b, .int .i64 id] w fun e w' => e = .returned (.int .i64 (rootL l id)) ∧ Below w.heap.size w w' := by
  have C := Lib.hid (kinUp O M id h hg)
  have hRl : (parL l id).length ≤ 128 := Nat.le_trans (parL_len hg.tree id) hg.len
  have hroot : rootL l id = lastL (parL l id) := rfl
  rw [hroot]
  obtain ⟨R, hR⟩ : ∃ R, R = parL l id := ⟨_, rfl⟩
  rw [← hR] at hRl C
  rw [← hR]
  clear h hg hR hroot
  go_enter Try.func36, Try.ntmps36
  go_wp2_with fail
  refine C.out.mono ?_
  rintro e w1 ⟨v, rfl, hP, hb⟩
  obtain ⟨A, c, rfl, hL⟩ := hP.form
  clear C hP
  cases hm : R.length with
  | zero =>
    have e0 : lastL R = 0 := by rw [List.length_eq_zero_iff.1 hm]; rfl
    have E0 := Lib.hid e0
    have Hm := Lib.hid hm
    clear e0 hm
    go_wp2
    go_ret
    rw [E0.out]
    exact ⟨rfl, hb⟩
  | succ m =>
    have e0 := lastL_at hm
    obtain ⟨b', off, rfl, -, hc⟩ := hL.nums m (by omega)
    obtain ⟨y, hy⟩ : ∃ y, y = R[m]'(by omega) := ⟨_, rfl⟩
    rw [← hy] at hc e0
    have E0 := Lib.hid e0
    clear e0
    have hm' : m ≤ 128 := by omega
    have z1 : (((m : Int) + 1) == 0) = false := by rw [beq_eq_false_iff_ne]; omega
    clear hm hy hL hRl
    go_wp2
    go_ret
    rw [E0.out]
    exact ⟨rfl, hb⟩
end
end Go.Proofs.Ytekmgaigppenlaa

namespace Go.Proofs.Ytekmgaigppenlaa
open Go Go.RowKit

/-- How many of a list are of a kind. -/
def cntL (l : List Nd) (kind : Int) (ks : List Int) : Nat := (ks.filter fun k => decide ((nd l k).kind = kind)).length
def kidsL (l : List Nd) (id : Int) : List Int := if thereB l id = true then (nd l id).kids else []
theorem cntL_step {l : List Nd} {kind : Int} {ks : List Int} {j : Nat} (hj : j < ks.length) : cntL l kind (ks.take (j + 1)) = cntL l kind (ks.take j) + if (nd l ks[j]).kind = kind then 1 else 0 := by
  unfold cntL
  rw [List.take_add_one, List.getElem?_eq_getElem hj, Option.toList_some, List.filter_append, List.length_append]
  congr 1
  by_cases h : (nd l ks[j]).kind = kind
  · rw [if_pos h, List.filter_cons_of_pos (by simpa using h)]
    rfl
  · rw [if_neg h, List.filter_cons_of_neg (by simpa using h)]
    rfl
theorem cntL_le (l : List Nd) (kind : Int) (ks : List Int) : cntL l kind ks ≤ ks.length := List.length_filter_le _ _

section
variable {Rep : (Nat → Prop) → World → Nat → List Nd → Prop} {S : Nat → Prop} {w : World} {b : Nat} {l : List Nd}
theorem ForestOk.since (O : ForestOk Rep) {w' : World} (h : Rep S w b l) (hb : Below w.heap.size w w') : Rep S w' b l := O.keep h (Keeps.of_below (F := fun i => w.heap.size ≤ i) hb fun _ _ h => h) fun _ _ hi => Nat.not_le.2 hi
end
end Go.Proofs.Ytekmgaigppenlaa

namespace Go.Proofs.Ytekmgaigppenlaa
open Go Go.RowKit

/-- The forest at block b holds l, in blocks that S names. -/
def Frst (S : Nat → Prop) (w : World) (b : Nat) (l : List Nd) : Prop := S b ∧ ∃ A c, Has w b (.cells #[.slice A l.length c] 76 (0, 0)) ∧ Nodes S w 0 A c l
section
variable {S S' F : Nat → Prop} {w w' : World} {b : Nat} {l : List Nd}
theorem Frst.keep (h : Frst S w b l) (k : Keeps F w w') (hF : ∀ i, S i → i < w.heap.size → ¬ F i) : Frst S w' b l := by
  obtain ⟨hS, A, c, h1, h2⟩ := h
  exact ⟨hS, A, c, h1.kept k (hF b hS h1.inside), h2.keptG k hF⟩
theorem Frst.wide (h : Frst S w b l) (hS : ∀ i, S i → i < w.heap.size → S' i) : Frst S' w b l := by
  obtain ⟨h0, A, c, h1, h2⟩ := h
  exact ⟨hS b h0 h1.inside, A, c, h1, h2.wide hS⟩
theorem Frst.below (h : Frst S w b l) (k : Below w.heap.size w w') : Frst S w' b l :=
  h.keep (Keeps.of_below (F := fun i => w.heap.size ≤ i) k fun _ _ h => h) fun _ _ hi => Nat.not_le.2 hi
/-- A node's nine cells. -/
theorem Nodes.nine {G : Nat → Prop} {B c m : Nat} {A : Option Addr} (h : Nodes G w B A c l) (hm : m < l.length) : ∃ g k, A = some ⟨g, 0, none⟩ ∧ B ≤ g ∧ g < w.heap.size ∧ Kids G w k (nd l ((m : Int) + 1)).kids ∧ (∀ j, w.frozen? ⟨g, j, none⟩ = false) ∧
    w.cell? ⟨g, m * 9, none⟩ = some (.int .i64 (nd l ((m : Int) + 1)).kind) ∧ w.cell? ⟨g, m * 9 + 1, none⟩ = some (.int .i64 (nd l ((m : Int) + 1)).parent) ∧ w.cell? ⟨g, m * 9 + 2, none⟩ = some (.int .i64 (nd l ((m : Int) + 1)).host) ∧
    w.cell? ⟨g, m * 9 + 3, none⟩ = some (.int .i64 (nd l ((m : Int) + 1)).shadow) ∧ w.cell? ⟨g, m * 9 + 4, none⟩ = some (.int .i64 (nd l ((m : Int) + 1)).mode) ∧ w.cell? ⟨g, m * 9 + 5, none⟩ = some (.bool (nd l ((m : Int) + 1)).slot) ∧
    w.cell? ⟨g, m * 9 + 6, none⟩ = some (.string (nd l ((m : Int) + 1)).name) ∧ w.cell? ⟨g, m * 9 + 7, none⟩ = some (.string (nd l ((m : Int) + 1)).want) ∧ w.cell? ⟨g, m * 9 + 8, none⟩ = some k := by
  obtain ⟨g, k, rfl, hg, hk, hz, hc⟩ := h.at_ hm
  rw [nd_at hm]
  exact ⟨g, k, rfl, hg, h.inside _ _ _ rfl, hk, hz, hc 0 (by omega), hc 1 (by omega), hc 2 (by omega), hc 3 (by omega), hc 4 (by omega), hc 5 (by omega), hc 6 (by omega), hc 7 (by omega), hc 8 (by omega)⟩
end

section
variable {S : Nat → Prop} {w : World} {b : Nat} {l : List Nd}
theorem arNew (S : Nat → Prop) (w : World) (hS : Fut S w.heap.size) : Calls Try.prog 26 #[] w fun e w' => ∃ b, e = .returned (.pointer (some ⟨b, 0, none⟩)) ∧ Frst S w' b [] ∧ Below w.heap.size w w' := by
  have hh : Has (w.alloc (.cells #[.slice none 0 0] 76)) w.heap.size (.cells #[.slice none 0 0] 76 (0, 0)) := Has.fresh _ _
  have hb : Below w.heap.size w (w.alloc (.cells #[.slice none 0 0] 76)) := (Below.refl _ w).alloc (Nat.le_refl _) _
  have HH := Lib.hid hh
  clear hh
  go_enter Try.func26, Try.ntmps26
  go_wp2
  go_ret
  exact ⟨_, rfl, ⟨hS _ (Nat.le_refl _), none, 0, HH.out, Nodes.nil _ _⟩, hb⟩

theorem arLen (h : Frst S w b l) : Calls Try.prog 52 #[.pointer (some ⟨b, 0, none⟩)] w fun e w' => e = .returned (.int .i64 l.length) ∧ w = w' := by
  obtain ⟨-, A, c, h1, -⟩ := h
  have c0 := h1.cell 0
  clear h1
  go_enter Try.func52, Try.ntmps52
  go_wp2
  go_ret
  exact ⟨rfl, rfl⟩

theorem arHas (h : Frst S w b l) (id : Int) : Calls Try.prog 39 #[.pointer (some ⟨b, 0, none⟩), .int .i64 id] w fun e w' => e = .returned (.bool (thereB l id)) ∧ w = w' := by
  have H := Lib.hid h
  clear h
  by_cases h1 : 1 ≤ id
  · have e1 : decide (1 ≤ id) = true := decide_eq_true h1
    have e : thereB l id = decide (id ≤ (l.length : Int)) := by unfold thereB; rw [e1]; rfl
    rw [e]
    clear e
    go_enter Try.func39, Try.ntmps39
    go_wp2_with fail
    refine (arLen H.out).mono ?_
    rintro e w1 ⟨rfl, rfl⟩
    go_wp2
    go_ret
    exact ⟨rfl, rfl⟩
  · have e1 : decide (1 ≤ id) = false := decide_eq_false h1
    have e : thereB l id = false := by unfold thereB; rw [e1]; rfl
    rw [e]
    clear e
    go_enter Try.func39, Try.ntmps39
    go_wp2
    go_ret
    exact ⟨rfl, rfl⟩
theorem arHas_is (h : Frst S w b l) {id : Int} {x : Bool} (hx : thereB l id = x) : Calls Try.prog 39 #[.pointer (some ⟨b, 0, none⟩), .int .i64 id] w fun e w' => e = .returned (.bool x) ∧ w = w' := by
  rw [← hx]
  exact arHas h id

theorem arFits (s : ByteArray) (w : World) (hs : s.size ≤ 9223372036854775807) {x : Bool} (hx : okName s = x) :
    Calls Try.prog 44 #[.string s] w fun e w' => e = .returned (.bool x) ∧ Below w.heap.size w w' := by
  subst hx
  cases h0 : s.toList.isEmpty with
  | true =>
    have e1 : okName s = true := by unfold okName; rw [h0]; rfl
    rw [e1]
    go_enter Try.func44, Try.ntmps44
    go_wp2
    go_ret
    exact ⟨rfl, Below.refl _ _⟩
  | false =>
    have e1 : okName s = rightL s.data.toList := by unfold okName; rw [h0]; rfl
    rw [e1]
    clear e1
    go_enter Try.func44, Try.ntmps44
    go_wp2_with fail
    refine (right_any s w hs).mono ?_
    rintro e w1 ⟨rfl, hb⟩
    go_wp2
    go_ret
    exact ⟨rfl, hb⟩

/-- One step up. -/
theorem arNext (h : Frst S w b l) (hl : l.length ≤ 128) {id : Int} (ht : thereB l id = true) : Calls Try.prog 53 #[.pointer (some ⟨b, 0, none⟩), .int .i64 id] w fun e w' => e = .returned (.int .i64 (upOf l id)) ∧ Below w.heap.size w w' := by
  obtain ⟨-, A, c, h1, hN⟩ := h
  have q0 := h1.cell 0
  obtain ⟨m, rfl, hm⟩ := there_at ht
  obtain ⟨g, k, rfl, -, -, hk, -, c0, c1, c2, c3, c4, c5, c6, c7, c8⟩ := hN.nine hm
  obtain ⟨A1, n1, rfl, -, -⟩ := hk.form
  have hb : Below w.heap.size w (w.alloc (.cells #[.int .i64 (nd l ((m : Int) + 1)).kind, .int .i64 (nd l ((m : Int) + 1)).parent, .int .i64 (nd l ((m : Int) + 1)).host, .int .i64 (nd l ((m : Int) + 1)).shadow, .int .i64 (nd l ((m : Int) + 1)).mode, .bool (nd l ((m : Int) + 1)).slot, .string (nd l ((m : Int) + 1)).name, .string (nd l ((m : Int) + 1)).want, .slice A1 (nd l ((m : Int) + 1)).kids.length n1] 57)) := (Below.refl _ w).alloc (Nat.le_refl _) _
  have e : upOf l ((m : Int) + 1) = if (nd l ((m : Int) + 1)).parent = 0 then (nd l ((m : Int) + 1)).host else (nd l ((m : Int) + 1)).parent := rfl
  rw [e]
  obtain ⟨d, hd⟩ : ∃ d, d = nd l ((m : Int) + 1) := ⟨_, rfl⟩
  rw [← hd] at c0 c1 c2 c3 c4 c5 c6 c7 c8 hb
  rw [← hd]
  obtain ⟨kd, pa, ho, sh, mo, sl, na, wa, ks⟩ := d
  simp only at c0 c1 c2 c3 c4 c5 c6 c7 c8 hb
  simp only
  clear h1 hN ht hk e hd
  by_cases hp : pa = 0
  · subst hp
    rw [if_pos rfl]
    go_enter Try.func53, Try.ntmps53
    go_wp2
    go_ret
    exact ⟨rfl, hb⟩
  · rw [if_neg hp]
    have z1 : (pa != 0) = true := by simpa using hp
    have z2 : (pa == 0) = false := by simpa using hp
    go_enter Try.func53, Try.ntmps53
    go_wp2
    go_ret
    exact ⟨rfl, hb⟩
end

section
variable {l : List Nd}
theorem over_step (T : Tree l) {x : Int} (h : thereB l x = true) : over l x = x :: over l (upOf l x) := by
  have e : over l x = x :: overN l l.length (upOf l x) := over_go h
  have hs : (over l x).length ≤ l.length := up_short T.ends (l.length + 1) x
  rw [e] at hs
  simp only [List.length_cons] at hs
  rw [e]
  show _ = x :: overN l (l.length + 1) _
  rw [up_more l.length (upOf l x) (by omega)]
theorem over_zero : over l 0 = [] := over_end (there_zero l)
theorem up_or (T : Tree l) {x : Int} (h : thereB l x = true) : upOf l x = 0 ∨ thereB l (upOf l x) = true := by
  unfold upOf
  split
  · by_cases hh : (nd l x).host = 0
    · exact .inl hh
    · exact .inr (T.host x h hh).2
  · rename_i hp
    exact .inr (T.par x h hp).1
theorem has_over_step (T : Tree l) {x a : Int} (h : thereB l x = true) : hasB (over l x) a = (decide (a = x) || hasB (over l (upOf l x)) a) := by
  rw [over_step T h]
  unfold hasB
  by_cases e : a = x <;> simp [e]
end

section
variable {S : Nat → Prop} {w : World} {b : Nat} {l : List Nd}
set_option maxHeartbeats 2000000 in
set_option maxRecDepth 100000 in
theorem arAbove (h : Frst S w b l) (hl : l.length ≤ 128) (T : Tree l) (a : Int) {id : Int} (ht : thereB l id = true) {x : Bool} (hx : hasB (over l (upOf l id)) a = x) :
    Calls Try.prog 43 #[.pointer (some ⟨b, 0, none⟩), .int .i64 a, .int .i64 id] w fun e w' => e = .returned (.bool x) ∧ Below w.heap.size w w' := by
  have H := Lib.hid h
  have HT := Lib.hid T
  have Ht := Lib.hid ht
  have Hx := Lib.hid hx
  clear h T ht hx
  go_enter Try.func43, Try.ntmps43
  go_wp2_with fail
  refine (arNext H.out hl Ht.out).mono ?_
  rintro e w1 ⟨rfl, hb1⟩
  have hup := up_or HT.out Ht.out
  obtain ⟨y, hy⟩ : ∃ y, y = upOf l id := ⟨_, rfl⟩
  rw [← hy] at hup Hx
  rw [← hy]
  have Hup := Lib.hid hup
  clear hup hy Ht
  go_wp2_with fail
  go_loopw [7] (fun at_ wr => ∃ z : Int, at_ = .int .i64 z ∧ (z = 0 ∨ thereB l z = true) ∧ hasB (over l z) a = x ∧ Below w.heap.size w wr) (fun at_ _ => (over l (intOf at_)).length)
  case atStart => exact ⟨y, rfl, Hup.out, Hx.out, hb1⟩
  case round =>
    obtain ⟨z, rfl, hz, hxz, hb⟩ := hrel
    clear Hup Hx
    by_cases h0 : z = 0
    · subst h0
      rw [over_zero] at hxz
      have hx0 : x = false := by rw [← hxz]; rfl
      subst hx0
      clear hxz hz
      go_wp2
      go_ret
      exact ⟨rfl, hb⟩
    · have hth : thereB l z = true := hz.resolve_left h0
      have z1 : (z != 0) = true := by simpa using h0
      have z2 : (z == 0) = false := by simpa using h0
      rw [has_over_step HT.out hth] at hxz
      by_cases ha : z = a
      · have hx0 : x = true := by rw [← hxz, ha]; simp
        subst hx0
        subst ha
        clear hxz hz
        go_wp2
        go_ret
        exact ⟨rfl, hb⟩
      · have z3 : (z == a) = false := by simpa using ha
        have hxz' : hasB (over l (upOf l z)) a = x := by
          rw [← hxz, decide_eq_false (fun e => ha e.symm)]
          rfl
        have Hxz := Lib.hid hxz'
        have Hth := Lib.hid hth
        have hR := H.out.below hb
        clear hxz hxz' hz hth
        go_wp2_with fail
        refine (arNext hR hl Hth.out).mono ?_
        rintro e w2 ⟨rfl, hb2⟩
        go_wp2
        go_roundw
        case rel => exact ⟨upOf l z, rfl, up_or HT.out Hth.out, Hxz.out, hb.trans (hb2.mono hb.size)⟩
        case measure =>
          simp only [intOf]
          rw [over_step HT.out Hth.out]
          simp
end
end Go.Proofs.Ytekmgaigppenlaa

namespace Go.Proofs.Ytekmgaigppenlaa
open Go

section
variable {l : List Nd} {b x : Int}
theorem rootL_par (T : Tree l) (h : thereB l b = true) (hp : (nd l b).parent ≠ 0) : rootL l b = rootL l (nd l b).parent := by
  have hpt := (T.par _ h hp).1
  unfold rootL
  rw [parL_step T h]
  exact lastL_suffix (List.suffix_cons _ _) (parL_ne T hpt)
theorem rootL_own (T : Tree l) (h : thereB l b = true) (hp : (nd l b).parent = 0) : rootL l b = b := by
  unfold rootL
  rw [parL_step T h, hp, parL_no (there_zero l)]
  rfl
/-- The way up is the way to the root, and then that of its host. -/
theorem over_split (T : Tree l) : ∀ (n : Nat) (b : Int), (parL l b).length ≤ n → thereB l b = true → over l b = parL l b ++ over l (nd l (rootL l b)).host
  | 0, b, hn, h => by
    rw [parL_step T h] at hn
    simp at hn
  | n + 1, b, hn, h => by
    by_cases hp : (nd l b).parent = 0
    · rw [rootL_own T h hp, over_step T h, parL_step T h, hp, parL_no (there_zero l)]
      have e : upOf l b = (nd l b).host := if_pos hp
      rw [e]
      rfl
    · have hpt := (T.par _ h hp).1
      rw [parL_step T h] at hn
      have ih := over_split T n (nd l b).parent (by simpa using hn) hpt
      have e : upOf l b = (nd l b).parent := if_neg hp
      rw [over_step T h, e, ih, ← rootL_par T h hp, parL_step T h, List.cons_append]
theorem over_whole (T : Tree l) (h : thereB l b = true) : over l b = parL l b ++ over l (nd l (rootL l b)).host := over_split T _ b (Nat.le_refl _) h
theorem over_none (h : thereB l b = false) : over l b = [] := over_end h
theorem over_short (T : Tree l) (b : Int) : (over l b).length ≤ l.length := up_short T.ends (l.length + 1) b
theorem over_less (T : Tree l) (h : thereB l b = true) : (over l (nd l (rootL l b)).host).length + 1 ≤ (over l b).length := by
  rw [over_whole T h, List.length_append, parL_step T h, List.length_cons]
  omega
theorem over_self (T : Tree l) (h : thereB l b = true) : b ∈ over l b := by
  rw [over_step T h]
  exact List.mem_cons_self
theorem hasB_yes {xs : List Int} (h : x ∈ xs) : hasB xs x = true := decide_eq_true h
theorem hasB_no {xs : List Int} (h : x ∉ xs) : hasB xs x = false := decide_eq_false h
theorem hasB_mem {xs : List Int} (h : hasB xs x = true) : x ∈ xs := of_decide_eq_true h
theorem hasB_not {xs : List Int} (h : hasB xs x = false) : x ∉ xs := of_decide_eq_false h
theorem over_hit (T : Tree l) (h : hasB (parL l b) x = true) : hasB (over l b) x = true := by
  have hm := hasB_mem h
  have ht : thereB l b = true := by
    cases hq : thereB l b with
    | true => rfl
    | false => rw [parL_no hq] at hm; cases hm
  rw [over_whole T ht]
  exact hasB_yes (List.mem_append_left _ hm)
theorem over_miss (T : Tree l) (ht : thereB l b = true) (h : hasB (parL l b) x = false) : hasB (over l b) x = hasB (over l (nd l (rootL l b)).host) x := by
  have hm := hasB_not h
  rw [over_whole T ht]
  unfold hasB
  simp [hm]

/-- How many Elements come with a node. -/
def moreL (l : List Nd) (n : Int) : Nat := if (nd l n).kind = 4 then cntL l 2 (kidsL l n) else 1
/-- One Element too many. -/
def crowdB (l : List Nd) (n p : Int) : Bool := decide (1 < moreL l n ∨ (moreL l n = 1 ∧ 0 < cntL l 2 (kidsL l p)))
/-- Check: the error's number. -/
def chkErr (l : List Nd) (n p c : Int) : Int :=
  if thereB l n = false ∨ thereB l p = false ∨ (c ≠ 0 ∧ thereB l c = false) then 1
  else if hasB (over l p) n = true then 3
  else if c ≠ 0 ∧ (nd l c).parent ≠ p then 4
  else if (nd l n).kind = 1 ∨ (nd l n).kind = 3 then 3
  else if (nd l p).kind = 1 ∧ crowdB l n p = true then 3
  else 0
theorem cntL_few {l : List Nd} (h : Few 200 l) (kind id : Int) : cntL l kind (kidsL l id) ≤ 200 := by
  refine Nat.le_trans (cntL_le _ _ _) ?_
  unfold kidsL
  split
  · exact few_nd h id
  · exact Nat.zero_le _
end
end Go.Proofs.Ytekmgaigppenlaa

namespace Go.Proofs.Ytekmgaigppenlaa
open Go

section
variable {l : List Nd} {i j x y a b : Int}
/-- The way up from one on a way up is its end. -/
theorem over_tail (T : Tree l) : ∀ (m : Nat) (i : Int), (over l i).length ≤ m → ∀ x, x ∈ over l i → over l x <:+ over l i
  | 0, i, hm, x, h => by
    have : over l i = [] := List.length_eq_zero_iff.1 (by omega)
    rw [this] at h
    cases h
  | m + 1, i, hm, x, h => by
    cases ht : thereB l i with
    | false => rw [over_none ht] at h; cases h
    | true =>
      have e := over_step T ht
      rw [e] at h
      rcases List.mem_cons.1 h with rfl | h
      · exact List.suffix_refl _
      · rw [e] at hm
        rw [e]
        exact (over_tail T m _ (by simpa using hm) x h).trans (List.suffix_cons _ _)
theorem over_suffix (T : Tree l) (h : x ∈ over l i) : over l x <:+ over l i := over_tail T _ i (Nat.le_refl _) x h
theorem over_trans (T : Tree l) (h : x ∈ over l i) (h' : y ∈ over l x) : y ∈ over l i := (over_suffix T h).subset h'
theorem over_in (h : x ∈ over l i) : thereB l x = true := up_there _ i x h
theorem over_from (h : x ∈ over l i) : thereB l i = true := by
  cases ht : thereB l i with
  | true => rfl
  | false => rw [over_none ht] at h; cases h
/-- Two that are above one another are one. -/
theorem over_both (T : Tree l) (h : x ∈ over l y) (h' : y ∈ over l x) : x = y := by
  have h1 := over_suffix T h
  have h2 := over_suffix T h'
  have e : over l x = over l y := h1.eq_of_length (Nat.le_antisymm h1.length_le h2.length_le)
  rw [over_step T (over_in h), over_step T (over_in h')] at e
  exact (List.cons.inj e).1
theorem over_ne (T : Tree l) (h : thereB l i = true) : over l i ≠ [] := by
  rw [over_step T h]
  simp

/-- The host of the tree that a node is in; 0: none. -/
def hostL (l : List Nd) (i : Int) : Int := if thereB l i = true then (nd l (rootL l i)).host else 0
theorem hostL_at (h : thereB l i = true) : hostL l i = (nd l (rootL l i)).host := if_pos h
theorem hostL_no (h : thereB l i = false) : hostL l i = 0 := if_neg (by rw [h]; decide)
theorem hostL_there (T : Tree l) (h : hostL l i ≠ 0) : thereB l (hostL l i) = true := by
  cases ht : thereB l i with
  | false => exact absurd (hostL_no ht) h
  | true =>
    rw [hostL_at ht] at h ⊢
    exact (T.host _ (rootL_there T ht) h).2
theorem over_host (T : Tree l) (h : thereB l i = true) : over l i = parL l i ++ over l (hostL l i) := by
  rw [hostL_at h]
  exact over_whole T h
theorem host_less (T : Tree l) (h : thereB l i = true) : (over l (hostL l i)).length + 1 ≤ (over l i).length := by
  rw [hostL_at h]
  exact over_less T h
theorem root_self (T : Tree l) (h : thereB l i = true) : rootL l (rootL l i) = rootL l i := rootL_own T (rootL_there T h) (rootL_bare T h)
theorem over_root (T : Tree l) (h : thereB l i = true) : over l (rootL l i) = rootL l i :: over l (hostL l i) := by
  have hr := rootL_there T h
  rw [over_host T hr, parL_root T h, hostL_at hr, root_self T h, hostL_at h]
  rfl
theorem root_over (T : Tree l) (h : thereB l i = true) : rootL l i ∈ over l i := by
  rw [over_host T h]
  exact List.mem_append_left _ (rootL_mem T h)

/-- What stands for a node in each of the trees around it. -/
def arN (l : List Nd) : Nat → Int → List Int
  | 0, _ => []
  | n + 1, i => if thereB l i then i :: arN l n (hostL l i) else []
def arL (l : List Nd) (i : Int) : List Int := arN l l.length i
theorem ar_go {n : Nat} (h : thereB l i = true) : arN l (n + 1) i = i :: arN l n (hostL l i) := by rw [arN, if_pos h]
theorem ar_no {n : Nat} (h : thereB l i = false) : arN l n i = [] := by
  cases n with
  | zero => rfl
  | succ n => rw [arN, if_neg (by rw [h]; decide)]
theorem ar_len : ∀ (n : Nat) (i : Int), (arN l n i).length ≤ n
  | 0, _ => Nat.le_refl 0
  | n + 1, i => by
    cases ht : thereB l i with
    | false => rw [ar_no ht]; exact Nat.zero_le _
    | true =>
      rw [ar_go ht]
      have := ar_len n (hostL l i)
      simpa using this
theorem ar_stay (T : Tree l) : ∀ (n m : Nat) (i : Int), (over l i).length ≤ n → (over l i).length ≤ m → arN l n i = arN l m i
  | n, m, i, hn, hm => by
    cases ht : thereB l i with
    | false => rw [ar_no ht, ar_no ht]
    | true =>
      have h1 := host_less T ht
      obtain ⟨n, rfl⟩ : ∃ k, n = k + 1 := ⟨n - 1, by omega⟩
      obtain ⟨m, rfl⟩ : ∃ k, m = k + 1 := ⟨m - 1, by omega⟩
      rw [ar_go ht, ar_go ht, ar_stay T n m (hostL l i) (by omega) (by omega)]
termination_by n => n
theorem arL_no (h : thereB l i = false) : arL l i = [] := ar_no h
theorem arL_step (T : Tree l) (h : thereB l i = true) : arL l i = i :: arL l (hostL l i) := by
  have h1 := host_less T h
  have h2 := over_short T i
  unfold arL
  obtain ⟨n, hn⟩ : ∃ k, l.length = k + 1 := ⟨l.length - 1, by omega⟩
  rw [hn, ar_go h, ar_stay T n (n + 1) (hostL l i) (by omega) (by omega)]
theorem arL_len (l : List Nd) (i : Int) : (arL l i).length ≤ l.length := ar_len _ _
/-- Going from tree to tree. -/
theorem trees (T : Tree l) {P : Int → Prop} (no : ∀ i, thereB l i = false → P i) (go : ∀ i, thereB l i = true → P (hostL l i) → P i) : ∀ i, P i := by
  have : ∀ (n : Nat) (i : Int), (over l i).length ≤ n → P i := by
    intro n
    induction n with
    | zero =>
      intro i hn
      refine no i ?_
      cases ht : thereB l i with
      | false => rfl
      | true => exact absurd (List.length_eq_zero_iff.1 (Nat.le_zero.1 hn)) (over_ne T ht)
    | succ n ih =>
      intro i hn
      cases ht : thereB l i with
      | false => exact no i ht
      | true =>
        have := host_less T ht
        exact go i ht (ih _ (by omega))
  exact fun i => this _ i (Nat.le_refl _)
theorem arL_there (T : Tree l) : ∀ i, ∀ x ∈ arL l i, thereB l x = true :=
  trees T (fun i h x hx => by rw [arL_no h] at hx; cases hx) fun i h ih x hx => by
    rw [arL_step T h] at hx
    rcases List.mem_cons.1 hx with rfl | hx
    · exact h
    · exact ih x hx

/-- The shadow-including root. -/
def wholeL (l : List Nd) (i : Int) : Int := lastL (over l i)
theorem whole_no (h : thereB l i = false) : wholeL l i = 0 := by
  unfold wholeL
  rw [over_none h]
  rfl
theorem whole_end (T : Tree l) (h : thereB l i = true) (h0 : hostL l i = 0) : wholeL l i = rootL l i := by
  unfold wholeL
  rw [over_host T h, h0, over_zero, List.append_nil]
  rfl
theorem whole_go (T : Tree l) (h0 : hostL l i ≠ 0) : wholeL l i = wholeL l (hostL l i) := by
  have ht : thereB l i = true := by
    cases ht : thereB l i with
    | true => rfl
    | false => exact absurd (hostL_no ht) h0
  unfold wholeL
  rw [over_host T ht]
  exact lastL_suffix (List.suffix_append _ _) (over_ne T (hostL_there T h0))
theorem whole_mem (T : Tree l) (h : thereB l i = true) : wholeL l i ∈ over l i := lastL_mem (over_ne T h)
theorem whole_own (T : Tree l) (h : thereB l i = true) : wholeL l (wholeL l i) = wholeL l i := by
  have hm := whole_mem T h
  have := lastL_suffix (over_suffix T hm) (over_ne T (over_in hm))
  exact this.symm
/-- The last of those around tells it. -/
theorem whole_ar (T : Tree l) : ∀ i, rootL l (lastL (arL l i)) = wholeL l i :=
  trees T (fun i h => by rw [arL_no h, whole_no h]; exact rootL_no (there_zero l)) fun i h ih => by
    rw [arL_step T h]
    by_cases h0 : hostL l i = 0
    · rw [whole_end T h h0, h0, arL_no (there_zero l)]
      rfl
    · rw [whole_go T h0, ← ih]
      have hne : arL l (hostL l i) ≠ [] := by rw [arL_step T (hostL_there T h0)]; simp
      rw [lastL_suffix (List.suffix_cons _ _) hne]

/-- Some one of those around has it above. -/
def anyUp (l : List Nd) (a : Int) (xs : List Int) : Bool := xs.any fun i => hasB (parL l i) a
theorem any_ar (T : Tree l) (a : Int) : ∀ i, anyUp l a (arL l i) = hasB (over l i) a :=
  trees T (fun i h => by rw [arL_no h, over_none h]; rfl) fun i h ih => by
    unfold anyUp at ih ⊢
    rw [arL_step T h, List.any_cons, ih]
    cases hp : hasB (parL l i) a with
    | true => rw [over_hit T hp]; rfl
    | false => rw [over_miss T h hp, hostL_at h]; rfl

/-- The closed roots around. -/
def shut (l : List Nd) (i : Int) : Bool := decide ((nd l (rootL l i)).mode = 2)
def clsOf (l : List Nd) (xs : List Int) : List Int := (xs.filter (shut l)).map (rootL l)
def clsL (l : List Nd) (i : Int) : List Int := clsOf l (arL l i)
theorem cls_yes {xs : List Int} (h : (nd l (rootL l i)).mode = 2) : clsOf l (i :: xs) = rootL l i :: clsOf l xs := by
  unfold clsOf
  rw [List.filter_cons_of_pos (by simpa [shut] using h), List.map_cons]
theorem cls_not {xs : List Int} (h : (nd l (rootL l i)).mode ≠ 2) : clsOf l (i :: xs) = clsOf l xs := by
  unfold clsOf
  rw [List.filter_cons_of_neg (by simpa [shut] using h)]
theorem cls_append (xs ys : List Int) : clsOf l (xs ++ ys) = clsOf l xs ++ clsOf l ys := by
  unfold clsOf
  rw [List.filter_append, List.map_append]
theorem cls_le (xs : List Int) : (clsOf l xs).length ≤ xs.length := by
  unfold clsOf
  rw [List.length_map]
  exact List.length_filter_le _ _
theorem clsL_no (h : thereB l i = false) : clsL l i = [] := by
  unfold clsL
  rw [arL_no h]
  rfl
theorem clsL_yes (T : Tree l) (h : thereB l i = true) (hm : (nd l (rootL l i)).mode = 2) : clsL l i = rootL l i :: clsL l (hostL l i) := by
  unfold clsL
  rw [arL_step T h, cls_yes hm]
theorem clsL_not (T : Tree l) (h : thereB l i = true) (hm : (nd l (rootL l i)).mode ≠ 2) : clsL l i = clsL l (hostL l i) := by
  unfold clsL
  rw [arL_step T h, cls_not hm]
theorem clsL_len (l : List Nd) (i : Int) : (clsL l i).length ≤ l.length := Nat.le_trans (cls_le _) (arL_len l i)
/-- A closed root around holds the node's root. -/
theorem cls_root (T : Tree l) : ∀ i, ∀ c ∈ clsL l i, c ∈ over l (rootL l i) :=
  trees T (fun i h c hc => by rw [clsL_no h] at hc; cases hc) fun i h ih c hc => by
    have up : c ∈ clsL l (hostL l i) → c ∈ over l (rootL l i) := fun hc => by
      have h1 := ih c hc
      have hh : thereB l (hostL l i) = true := by
        cases ht : thereB l (hostL l i) with
        | true => rfl
        | false => rw [clsL_no ht] at hc; cases hc
      rw [over_root T h]
      exact List.mem_cons_of_mem _ (over_trans T (root_over T hh) h1)
    by_cases hm : (nd l (rootL l i)).mode = 2
    · rw [clsL_yes T h hm] at hc
      rcases List.mem_cons.1 hc with rfl | hc
      · exact over_self T (rootL_there T h)
      · exact up hc
    · rw [clsL_not T h hm] at hc
      exact up hc
theorem cls_from {c : Int} (h : c ∈ clsL l i) : thereB l i = true := by
  cases ht : thereB l i with
  | true => rfl
  | false => rw [clsL_no ht] at h; cases h
theorem cls_over (T : Tree l) {c : Int} (h : c ∈ clsL l i) : c ∈ over l i := over_trans T (root_over T (cls_from h)) (cls_root T i c h)
theorem cls_there (T : Tree l) {c : Int} (h : c ∈ clsL l i) : thereB l c = true := over_in (cls_over T h)

/-- Is a hidden from b? The innermost closed root tells it. -/
def hidOf (l : List Nd) (cs : List Int) (b : Int) : Bool :=
  match cs with
  | [] => false
  | c :: _ => decide ((nd l c).host ≠ 0) && !hasB (over l b) c
def hidL (l : List Nd) (a b : Int) : Bool := thereB l b && hidOf l (clsL l a) b
theorem hid_noB (h : thereB l b = false) : hidL l a b = false := by unfold hidL; rw [h]; rfl
theorem hid_noA (h : thereB l a = false) : hidL l a b = false := by
  unfold hidL
  rw [clsL_no h]
  exact Bool.and_false _
theorem hid_none (h : clsL l a = []) : hidL l a b = false := by
  unfold hidL
  rw [h]
  exact Bool.and_false _
/-- What holds b hides nothing of what is in its tree. -/
theorem hid_held (T : Tree l) (h : rootL l a ∈ over l b) : hidL l a b = false := by
  unfold hidL
  cases hc : clsL l a with
  | nil => exact Bool.and_false _
  | cons c r =>
    have h1 := over_trans T h (cls_root T a c (by rw [hc]; exact List.mem_cons_self))
    show (_ && (_ && !hasB (over l b) c)) = false
    rw [hasB_yes h1]
    simp
theorem hid_end (T : Tree l) (h : hostL l a = 0) : hidL l a b = false := by
  cases ht : thereB l a with
  | false => exact hid_noA ht
  | true =>
    by_cases hm : (nd l (rootL l a)).mode = 2
    · unfold hidL
      rw [clsL_yes T ht hm]
      rw [hostL_at ht] at h
      show (_ && (decide ((nd l (rootL l a)).host ≠ 0) && _)) = false
      rw [h]
      simp
    · refine hid_none ?_
      rw [clsL_not T ht hm, h, clsL_no (there_zero l)]
theorem hid_shut (T : Tree l) (hb : thereB l b = true) (h : hostL l a ≠ 0) (hn : rootL l a ∉ over l b) (hm : (nd l (rootL l a)).mode = 2) : hidL l a b = true := by
  have ht : thereB l a = true := by
    cases ht : thereB l a with
    | true => rfl
    | false => exact absurd (hostL_no ht) h
  unfold hidL
  rw [clsL_yes T ht hm, hb]
  rw [hostL_at ht] at h
  show (true && (decide ((nd l (rootL l a)).host ≠ 0) && !hasB (over l b) (rootL l a))) = true
  rw [hasB_no hn, decide_eq_true h]
  rfl
theorem hid_next (T : Tree l) (h : hostL l a ≠ 0) (hm : (nd l (rootL l a)).mode ≠ 2) : hidL l a b = hidL l (hostL l a) b := by
  have ht : thereB l a = true := by
    cases ht : thereB l a with
    | true => rfl
    | false => exact absurd (hostL_no ht) h
  unfold hidL
  rw [clsL_not T ht hm]
theorem hid_self (T : Tree l) : hidL l a a = false := by
  cases ht : thereB l a with
  | false => exact hid_noA ht
  | true => exact hid_held T (root_over T ht)
/-- What is hidden lies in a closed tree that doesn't hold the other one. -/
def someOut (l : List Nd) (b : Int) (cs : List Int) : Bool := cs.any fun c => !hasB (over l b) c
theorem hid_some (h : hidL l a b = true) : someOut l b (clsL l a) = true := by
  unfold hidL at h
  unfold someOut
  cases hc : clsL l a with
  | nil => rw [hc] at h; simp [hidOf] at h
  | cons c r =>
    rw [hc] at h
    simp only [hidOf, Bool.and_eq_true] at h
    rw [List.any_cons, h.2.2]
    rfl
theorem someOut_step {b : Int} {cs : List Int} {k : Nat} (hk : k < cs.length) : someOut l b (cs.take (k + 1)) = (someOut l b (cs.take k) || !hasB (over l b) cs[k]) := by
  unfold someOut
  rw [List.take_add_one, List.getElem?_eq_getElem hk, Option.toList_some, List.any_append, List.any_cons, List.any_nil, Bool.or_false]
end

/-- Only shadow roots have a mode. -/
def Moded (l : List Nd) : Prop := ∀ d ∈ l, d.mode ≠ 0 → d.kind = 3
theorem moded_mod {l : List Nd} {id : Int} {f : Nd → Nd} (h : Moded l) (hf : ∀ d, (f d).mode = d.mode ∧ (f d).kind = d.kind) : Moded (modN l id f) := by
  intro d hd
  rcases List.mem_or_eq_of_mem_set hd with hd | rfl
  · exact h d hd
  · rw [(hf _).1, (hf _).2]
    unfold nd
    rw [List.getD_eq_getElem?_getD]
    cases e : l[(id - 1).toNat]? with
    | none => exact fun h0 => absurd rfl h0
    | some d => exact h d (List.mem_of_getElem? e)
theorem moded_toPar {p : Int} : ∀ (kids : List Int) {l : List Nd}, Moded l → Moded (toPar l p kids)
  | [], _, h => h
  | k :: r, l, h => by
    show Moded (toPar (modN l k _) p r)
    exact moded_toPar r (moded_mod h fun _ => ⟨rfl, rfl⟩)
theorem moded_clr {l : List Nd} {p : Int} (h : Moded l) : Moded (clr l p) := by
  intro d hd
  obtain ⟨d', hd', rfl⟩ := List.mem_map.1 hd
  split <;> exact h d' hd'
theorem mkErr_moded {n : Nat} {d : Nd} (h : mkErr n d = 0) : d.mode ≠ 0 → d.kind = 3 := by
  unfold mkErr at h
  split at h
  · cases h
  · split at h
    · cases h
    · rename_i h2
      intro hm
      refine Decidable.byContradiction fun hk => h2 (.inr ⟨hk, hm⟩)
theorem moded_mk {l : List Nd} {d : Nd} (h : Moded l) : Moded (mkL l d) := by
  unfold mkL
  split
  · rename_i h0
    intro x hx
    rcases List.mem_append.1 hx with hx | hx
    · exact h x hx
    · obtain rfl := List.mem_singleton.1 hx
      exact mkErr_moded h0
  · exact h
theorem moded_act {l : List Nd} {x : Ac} (h : Moded l) : Moded (actL l x) := by
  unfold actL
  split
  · exact moded_mk h
  · split
    · unfold putL
      split
      · exact moded_mod (moded_toPar _ (moded_clr h)) fun _ => ⟨rfl, rfl⟩
      · exact h
    · split
      · unfold tieL
        split
        · exact moded_mod (moded_mod h fun _ => ⟨rfl, rfl⟩) fun _ => ⟨rfl, rfl⟩
        · exact h
      · split
        · unfold nameL
          split
          · exact moded_mod h fun _ => ⟨rfl, rfl⟩
          · exact h
        · split
          · unfold wantL
            split
            · exact moded_mod h fun _ => ⟨rfl, rfl⟩
            · exact h
          · exact h
theorem moded_forest (acts : List Ac) : Moded (forest acts) := by
  have : ∀ (acts : List Ac) (l : List Nd), Moded l → Moded (acts.foldl actL l) := by
    intro acts
    induction acts with
    | nil => intro l T; exact T
    | cons x r ih => intro l T; exact ih _ (moded_act T)
  exact this acts [] fun d hd => absurd hd (by simp)
theorem moded_nd {l : List Nd} {i : Int} (h : Moded l) (hm : (nd l i).mode = 2) : (nd l i).kind = 3 := by
  unfold nd at hm ⊢
  rw [List.getD_eq_getElem?_getD] at hm ⊢
  cases e : l[(i - 1).toNat]? with
  | none => rw [e] at hm; cases hm
  | some d =>
    rw [e] at hm
    exact h d (List.mem_of_getElem? e) (by rw [show d.mode = 2 from hm]; decide)

/-- Attach: the node that is made, the error's number, the number, and the nodes. -/
def shadeNd (m : Int) : Nd := ⟨3, 0, 0, 0, m, false, ⟨#[]⟩, ⟨#[]⟩, []⟩
def attNo (l : List Nd) (h m : Int) : Int :=
  if thereB l h = false ∨ (m ≠ 1 ∧ m ≠ 2) then 0 else if (nd l h).kind ≠ 2 ∨ (nd l h).shadow ≠ 0 then 0 else mkNo l (shadeNd m)
def attErr (l : List Nd) (h m : Int) : Int :=
  if thereB l h = false ∨ (m ≠ 1 ∧ m ≠ 2) then 1 else if (nd l h).kind ≠ 2 ∨ (nd l h).shadow ≠ 0 then 5
  else if mkErr l.length (shadeNd m) = 0 then tieErr (mkL l (shadeNd m)) h (mkNo l (shadeNd m)) else mkErr l.length (shadeNd m)
def attL (l : List Nd) (h m : Int) : List Nd :=
  if thereB l h = false ∨ (m ≠ 1 ∧ m ≠ 2) then l else if (nd l h).kind ≠ 2 ∨ (nd l h).shadow ≠ 0 then l
  else if mkErr l.length (shadeNd m) = 0 then tieL (mkL l (shadeNd m)) h (mkNo l (shadeNd m)) else l
end Go.Proofs.Ytekmgaigppenlaa

namespace Go.Proofs.Ytekmgaigppenlaa
open Go

/-- The children, and the shadow root, of what is there; else none. -/
def kidsOf (l : List Nd) (i : Int) : List Int := if thereB l i = true then (nd l i).kids else []
def shOf (l : List Nd) (i : Int) : Int := if thereB l i = true then (nd l i).shadow else 0
/-- Slots in tree order. -/
def slotsL (l : List Nd) (r : Int) : List Int := (ordL l r).filter fun x => (nd l x).slot
def namedL (l : List Nd) (n : ByteArray) (xs : List Int) : List Int := xs.filter fun s => (nd l s).name.toList == n.toList
/-- The first one of a list; 0: there is none. -/
def headL (xs : List Int) : Int := xs.headD 0
/-- The slot of a node. -/
def ofL (l : List Nd) (i : Int) : Int := if thereB l i = true ∧ (nd l i).kind = 2 then headL (namedL l (nd l i).want (slotsL l (shOf l (nd l i).parent))) else 0
def asgOf (l : List Nd) (s : Int) (xs : List Int) : List Int := xs.filter fun k => decide (ofL l k = s)
def asgL (l : List Nd) (s : Int) : List Int := asgOf l s (kidsOf l (hostL l s))
/-- A slot in a shadow tree. -/
def upB (l : List Nd) (i : Int) : Bool := thereB l i && ((nd l i).slot && decide ((nd l (rootL l i)).kind = 3))
def elsOf (l : List Nd) (xs : List Int) : List Int := xs.filter fun k => decide ((nd l k).kind = 2)
/-- What a slot shows. -/
def conL (l : List Nd) (s : Int) : List Int := if asgL l s = [] then elsOf l (kidsOf l s) else asgL l s
/-- How far it is to the outermost tree, and down. -/
def rkL (l : List Nd) (s : Int) : Nat := (arL l s).length * (l.length + 1) + (l.length - (parL l s).length)
def flatN (l : List Nd) : Nat → Int → List Int
  | 0, _ => []
  | n + 1, s => if upB l s = true then (conL l s).flatMap fun c => if upB l c = true then flatN l n c else [c] else []
def flatL (l : List Nd) (s : Int) : List Int := flatN l (rkL l s + 1) s
def oneL (l : List Nd) (c : Int) : List Int := if upB l c = true then flatL l c else [c]
/-- The slots that are opened up on the way. -/
def visN (l : List Nd) : Nat → Int → List Int
  | 0, _ => []
  | n + 1, s => if upB l s = true then s :: (conL l s).flatMap (visN l n) else []
def visL (l : List Nd) (s : Int) : List Int := visN l (rkL l s + 1) s

theorem headL_mem {xs : List Int} (h : headL xs ≠ 0) : headL xs ∈ xs := by
  cases xs with
  | nil => exact absurd rfl h
  | cons x r => exact List.mem_cons_self
section
variable {l : List Nd} {i j x y a b s k p : Int}
theorem kidsOf_at (h : thereB l i = true) : kidsOf l i = (nd l i).kids := if_pos h
theorem kidsOf_no (h : thereB l i = false) : kidsOf l i = [] := if_neg (by rw [h]; decide)
theorem kidsOf_mem (h : k ∈ kidsOf l i) : thereB l i = true ∧ k ∈ (nd l i).kids := by
  cases ht : thereB l i with
  | false => rw [kidsOf_no ht] at h; cases h
  | true => rw [kidsOf_at ht] at h; exact ⟨rfl, h⟩
theorem shOf_at (h : thereB l i = true) : shOf l i = (nd l i).shadow := if_pos h
theorem shOf_no (h : thereB l i = false) : shOf l i = 0 := if_neg (by rw [h]; decide)
theorem slotsL_no (h : thereB l i = false) : slotsL l i = [] := by unfold slotsL; rw [ordL_no h]; rfl
theorem ofL_no (h : thereB l i = false) : ofL l i = 0 := if_neg (by rw [h]; simp)
theorem ofL_kind (h : (nd l i).kind ≠ 2) : ofL l i = 0 := if_neg (by simp [h])
theorem ofL_at (h : thereB l i = true) (hk : (nd l i).kind = 2) : ofL l i = headL (namedL l (nd l i).want (slotsL l (shOf l (nd l i).parent))) := if_pos ⟨h, hk⟩
/-- Whose slot there is. -/
theorem of_what (T : Tree l) (h : ofL l i ≠ 0) : thereB l i = true ∧ (nd l i).kind = 2 ∧ thereB l (nd l i).parent = true ∧ i ∈ (nd l (nd l i).parent).kids ∧ thereB l (ofL l i) = true ∧ (nd l (ofL l i)).slot = true ∧ (nd l (rootL l (ofL l i))).kind = 3 ∧ hostL l (ofL l i) = (nd l i).parent := by
  have ht : thereB l i = true := by
    cases ht : thereB l i with
    | true => rfl
    | false => exact absurd (ofL_no ht) h
  have hk : (nd l i).kind = 2 := Decidable.byContradiction fun hk => h (ofL_kind hk)
  have hm : ofL l i ∈ namedL l (nd l i).want (slotsL l (shOf l (nd l i).parent)) := by
    rw [ofL_at ht hk] at h ⊢
    exact headL_mem h
  obtain ⟨hm, -⟩ := List.mem_filter.1 hm
  obtain ⟨hm, hsl⟩ := List.mem_filter.1 hm
  generalize ofL l i = s at *
  have hst := ordL_there T hm
  have hp : thereB l (nd l i).parent = true := by
    cases hp : thereB l (nd l i).parent with
    | true => rfl
    | false => rw [shOf_no hp, ordL_no (there_zero l)] at hm; cases hm
  rw [shOf_at hp] at hm
  have h0 : (nd l (nd l i).parent).shadow ≠ 0 := fun e => by rw [e, ordL_no (there_zero l)] at hm; cases hm
  obtain ⟨q1, q2, q3⟩ := T.shade _ hp h0
  have hb := T.bare _ q1 (.inr q3)
  have hr := rootL_own T q1 hb
  have hx : rootL l s = (nd l (nd l i).parent).shadow := by
    rw [rootL_of T q1 (by rw [hr]; exact (ordL_mem T).1 hm), hr]
  exact ⟨ht, hk, hp, (T.par i ht (there_pos hp)).2, hst, hsl, by rw [hx]; exact q3, by rw [hostL_at hst, hx]; exact q2⟩
theorem asg_mem : k ∈ asgL l s ↔ k ∈ kidsOf l (hostL l s) ∧ ofL l k = s := by
  unfold asgL asgOf
  rw [List.mem_filter, decide_eq_true_iff]
theorem asg_iff (T : Tree l) (hs : s ≠ 0) : i ∈ asgL l s ↔ ofL l i = s := by
  rw [asg_mem]
  refine ⟨fun h => h.2, fun h => ⟨?_, h⟩⟩
  subst h
  obtain ⟨_, _, h3, h4, _, _, _, h8⟩ := of_what T hs
  rw [h8, kidsOf_at h3]
  exact h4
theorem asg_what (h : k ∈ asgL l s) : thereB l s = true ∧ thereB l (hostL l s) = true ∧ k ∈ (nd l (hostL l s)).kids ∧ ofL l k = s := by
  obtain ⟨h1, h2⟩ := asg_mem.1 h
  obtain ⟨h3, h4⟩ := kidsOf_mem h1
  refine ⟨?_, h3, h4, h2⟩
  cases ht : thereB l s with
  | true => rfl
  | false => rw [hostL_no ht, there_zero] at h3; cases h3
theorem upB_what (h : upB l s = true) : thereB l s = true ∧ (nd l s).slot = true ∧ (nd l (rootL l s)).kind = 3 := by
  unfold upB at h
  simp only [Bool.and_eq_true, decide_eq_true_iff] at h
  exact h
theorem con_mem (h : k ∈ conL l s) : k ∈ asgL l s ∨ (thereB l s = true ∧ k ∈ (nd l s).kids ∧ (nd l k).kind = 2) := by
  unfold conL at h
  split at h
  · obtain ⟨h1, h2⟩ := List.mem_filter.1 h
    obtain ⟨h3, h4⟩ := kidsOf_mem h1
    exact .inr ⟨h3, h4, of_decide_eq_true h2⟩
  · exact .inl h
theorem con_kind (T : Tree l) (hs : s ≠ 0) (h : k ∈ conL l s) : thereB l k = true ∧ (nd l k).kind = 2 := by
  rcases con_mem h with h | ⟨h1, h2, h3⟩
  · have e := (asg_iff T hs).1 h
    have := of_what T (by rw [e]; exact hs)
    exact ⟨this.1, this.2.1⟩
  · exact ⟨(T.kid s h1 k h2).1, h3⟩
theorem kidsOf_once (T : Tree l) (i : Int) : (kidsOf l i).Nodup := by
  cases ht : thereB l i with
  | false => rw [kidsOf_no ht]; exact List.nodup_nil
  | true => rw [kidsOf_at ht]; exact T.once i ht
theorem con_once (T : Tree l) (s : Int) : (conL l s).Nodup := by
  unfold conL asgL
  split
  · exact (kidsOf_once T _).sublist List.filter_sublist
  · exact (kidsOf_once T _).sublist List.filter_sublist
/-- Those that are shown side by side are children of one node. -/
theorem con_kids (h : a ∈ conL l s) (h' : b ∈ conL l s) : ∃ p, thereB l p = true ∧ a ∈ (nd l p).kids ∧ b ∈ (nd l p).kids := by
  unfold conL at h h'
  split at h
  · rename_i e
    rw [if_pos e] at h'
    obtain ⟨q1, q2⟩ := kidsOf_mem (List.mem_filter.1 h).1
    obtain ⟨_, q3⟩ := kidsOf_mem (List.mem_filter.1 h').1
    exact ⟨_, q1, q2, q3⟩
  · rename_i e
    rw [if_neg e] at h'
    obtain ⟨q1, q2⟩ := kidsOf_mem (List.mem_filter.1 h).1
    obtain ⟨_, q3⟩ := kidsOf_mem (List.mem_filter.1 h').1
    exact ⟨_, q1, q2, q3⟩
theorem kid_root (T : Tree l) (h : thereB l p = true) (hk : k ∈ (nd l p).kids) : rootL l k = rootL l p := by
  refine rootL_of T h ?_
  rw [parL_kid T h hk]
  exact List.mem_cons_of_mem _ (rootL_mem T h)
theorem kid_host (T : Tree l) (h : thereB l p = true) (hk : k ∈ (nd l p).kids) : hostL l k = hostL l p := by
  rw [hostL_at (T.kid p h k hk).1, hostL_at h, kid_root T h hk]
theorem kid_ar (T : Tree l) (h : thereB l p = true) (hk : k ∈ (nd l p).kids) : (arL l k).length = (arL l p).length := by
  rw [arL_step T (T.kid p h k hk).1, arL_step T h, kid_host T h hk]
  rfl
theorem asg_ar (T : Tree l) (h : k ∈ asgL l s) : (arL l k).length + 1 = (arL l s).length := by
  obtain ⟨h1, h2, h3, _⟩ := asg_what h
  rw [kid_ar T h2 h3, arL_step T h1]
  rfl
theorem con_rk (T : Tree l) (h : k ∈ conL l s) : rkL l k < rkL l s := by
  unfold rkL
  rcases con_mem h with h | ⟨h1, h2, -⟩
  · rw [← asg_ar T h, Nat.add_mul]
    omega
  · have h3 := parL_len T k
    rw [kid_ar T h1 h2]
    rw [parL_kid T h1 h2] at h3 ⊢
    simp only [List.length_cons] at h3 ⊢
    omega
theorem flat_no {n : Nat} (h : upB l s = false) : flatN l n s = [] := by
  cases n with
  | zero => rfl
  | succ n => rw [flatN, if_neg (by rw [h]; decide)]
theorem flat_go {n : Nat} (h : upB l s = true) : flatN l (n + 1) s = (conL l s).flatMap fun c => if upB l c = true then flatN l n c else [c] := by rw [flatN, if_pos h]
theorem flat_stay (T : Tree l) : ∀ (n m : Nat) (s : Int), rkL l s < n → rkL l s < m → flatN l n s = flatN l m s
  | 0, _, _, h, _ => absurd h (Nat.not_lt_zero _)
  | _ + 1, 0, _, _, h => absurd h (Nat.not_lt_zero _)
  | n + 1, m + 1, s, hn, hm => by
    cases hu : upB l s with
    | false => rw [flat_no hu, flat_no hu]
    | true =>
      rw [flat_go hu, flat_go hu]
      refine flatMap_same _ fun c hc => ?_
      have := con_rk T hc
      split
      · exact flat_stay T n m c (by omega) (by omega)
      · rfl
theorem flatL_no (h : upB l s = false) : flatL l s = [] := flat_no h
theorem flatL_step (T : Tree l) (h : upB l s = true) : flatL l s = (conL l s).flatMap (oneL l) := by
  unfold flatL
  rw [flat_go h]
  refine flatMap_same _ fun c hc => ?_
  have := con_rk T hc
  unfold oneL flatL
  split
  · exact flat_stay T _ _ c (by omega) (by omega)
  · rfl
theorem oneL_up (h : upB l s = true) : oneL l s = flatL l s := if_pos h
theorem oneL_not (h : upB l s = false) : oneL l s = [s] := if_neg (by rw [h]; decide)
theorem vis_no {n : Nat} (h : upB l s = false) : visN l n s = [] := by
  cases n with
  | zero => rfl
  | succ n => rw [visN, if_neg (by rw [h]; decide)]
theorem vis_go {n : Nat} (h : upB l s = true) : visN l (n + 1) s = s :: (conL l s).flatMap (visN l n) := by rw [visN, if_pos h]
theorem vis_stay (T : Tree l) : ∀ (n m : Nat) (s : Int), rkL l s < n → rkL l s < m → visN l n s = visN l m s
  | 0, _, _, h, _ => absurd h (Nat.not_lt_zero _)
  | _ + 1, 0, _, _, h => absurd h (Nat.not_lt_zero _)
  | n + 1, m + 1, s, hn, hm => by
    cases hu : upB l s with
    | false => rw [vis_no hu, vis_no hu]
    | true =>
      rw [vis_go hu, vis_go hu]
      congr 1
      refine flatMap_same _ fun c hc => ?_
      have := con_rk T hc
      exact vis_stay T n m c (by omega) (by omega)
theorem visL_no (h : upB l s = false) : visL l s = [] := vis_no h
theorem visL_step (T : Tree l) (h : upB l s = true) : visL l s = s :: (conL l s).flatMap (visL l) := by
  unfold visL
  rw [vis_go h]
  congr 1
  refine flatMap_same _ fun c hc => ?_
  have := con_rk T hc
  exact vis_stay T _ _ c (by omega) (by omega)
theorem vis_up : ∀ (n : Nat) (s x : Int), x ∈ visN l n s → upB l x = true
  | 0, _, _, h => by cases h
  | n + 1, s, x, h => by
    cases hu : upB l s with
    | false => rw [vis_no hu] at h; cases h
    | true =>
      rw [vis_go hu] at h
      rcases List.mem_cons.1 h with rfl | h
      · exact hu
      · obtain ⟨c, -, hx⟩ := List.mem_flatMap.1 h
        exact vis_up n c x hx
theorem vis_rk (T : Tree l) : ∀ (n : Nat) (s x : Int), x ∈ visN l n s → rkL l x ≤ rkL l s
  | 0, _, _, h => by cases h
  | n + 1, s, x, h => by
    cases hu : upB l s with
    | false => rw [vis_no hu] at h; cases h
    | true =>
      rw [vis_go hu] at h
      rcases List.mem_cons.1 h with rfl | h
      · exact Nat.le_refl _
      · obtain ⟨c, hc, hx⟩ := List.mem_flatMap.1 h
        have h1 := vis_rk T n c x hx
        have h2 := con_rk T hc
        omega
theorem vis_ar (T : Tree l) : ∀ (n : Nat) (s x : Int), x ∈ visN l n s → (arL l x).length ≤ (arL l s).length
  | 0, _, _, h => by cases h
  | n + 1, s, x, h => by
    cases hu : upB l s with
    | false => rw [vis_no hu] at h; cases h
    | true =>
      rw [vis_go hu] at h
      rcases List.mem_cons.1 h with rfl | h
      · exact Nat.le_refl _
      · obtain ⟨c, hc, hx⟩ := List.mem_flatMap.1 h
        have h1 := vis_ar T n c x hx
        rcases con_mem hc with hc | ⟨q1, q2, -⟩
        · have := asg_ar T hc
          omega
        · rw [kid_ar T q1 q2] at h1
          exact h1
/-- What is opened up on the way from a slot lies below it, or is reached from a child of its host. -/
theorem vis_ways (T : Tree l) : ∀ (n : Nat) (s x : Int), x ∈ visN l n s → s ∈ parL l x ∨ ∃ k m, thereB l (hostL l s) = true ∧ k ∈ (nd l (hostL l s)).kids ∧ s ∈ parL l (ofL l k) ∧ x ∈ visN l m k
  | 0, _, _, h => by cases h
  | n + 1, s, x, h => by
    cases hu : upB l s with
    | false => rw [vis_no hu] at h; cases h
    | true =>
      rw [vis_go hu] at h
      rcases List.mem_cons.1 h with rfl | h
      · exact .inl (parL_self T (upB_what hu).1)
      · obtain ⟨c, hc, hx⟩ := List.mem_flatMap.1 h
        rcases con_mem hc with hc | ⟨q1, q2, -⟩
        · obtain ⟨h1, h2, h3, h4⟩ := asg_what hc
          exact .inr ⟨c, n, h2, h3, by rw [h4]; exact parL_self T h1, hx⟩
        · have up : ∀ y, c ∈ parL l y → s ∈ parL l y := fun y hy => parL_trans T hy (by rw [parL_kid T q1 q2]; exact List.mem_cons_of_mem _ (parL_self T q1))
          rcases vis_ways T n c x hx with h | ⟨k, m, h1, h2, h3, h4⟩
          · exact .inl (up x h)
          · rw [kid_host T q1 q2] at h1 h2
            exact .inr ⟨k, m, h1, h2, up _ h3, h4⟩
theorem par_cmp (T : Tree l) (ha : a ∈ parL l x) (hb : b ∈ parL l x) : a ∈ parL l b ∨ b ∈ parL l a := by
  rcases List.suffix_or_suffix_of_suffix (parL_suffix T ha) (parL_suffix T hb) with h | h
  · exact .inl (h.subset (parL_self T (parL_there ha)))
  · exact .inr (h.subset (parL_self T (parL_there hb)))
theorem kid_apart (T : Tree l) (hp : thereB l p = true) (ha : a ∈ (nd l p).kids) (hb : b ∈ (nd l p).kids) (hab : a ≠ b) : a ∉ parL l b := by
  intro h
  rw [parL_kid T hp hb] at h
  rcases List.mem_cons.1 h with h | h
  · exact hab h
  · have := parL_once T a
    rw [parL_kid T hp ha] at this
    exact (List.nodup_cons.1 this).1 h
/-- From two of which neither is above the other one nothing is reached from both. -/
theorem vis_apart (T : Tree l) : ∀ i, ∀ a b n m x, thereB l a = true → thereB l b = true → rootL l a = rootL l i → rootL l b = rootL l i → thereB l i = true → a ∉ parL l b → b ∉ parL l a → x ∈ visN l n a → x ∈ visN l m b → False :=
  trees T (fun i h a b n m x _ _ _ _ hi => by rw [h] at hi; cases hi) fun i hi ih a b n m x ta tb ra rb _ hab hba hxa hxb => by
    have ea : hostL l a = hostL l i := by rw [hostL_at ta, hostL_at hi, ra]
    have eb : hostL l b = hostL l i := by rw [hostL_at tb, hostL_at hi, rb]
    have la : (arL l a).length = (arL l b).length := by rw [arL_step T ta, arL_step T tb, ea, eb]; rfl
    rcases vis_ways T n a x hxa with h1 | ⟨k, m1, p1, p2, p3, p4⟩
    · rcases vis_ways T m b x hxb with h2 | ⟨k', m2, q1, q2, q3, q4⟩
      · rcases par_cmp T h1 h2 with h | h
        · exact hab h
        · exact hba h
      · have h3 := vis_ar T m2 k' x q4
        rw [kid_ar T q1 q2] at h3
        have hx : rootL l x = rootL l a := rootL_of T ta (parL_trans T h1 (rootL_mem T ta))
        have tx : thereB l x = true := (upB_what (vis_up _ _ _ hxa)).1
        have h4 : (arL l x).length = (arL l b).length := by
          rw [arL_step T tx, arL_step T tb, hostL_at tx, hx, ← hostL_at ta, ea, eb]
          rfl
        have h5 : (arL l b).length = (arL l (hostL l b)).length + 1 := by rw [arL_step T tb]; rfl
        omega
    · rcases vis_ways T m b x hxb with h2 | ⟨k', m2, q1, q2, q3, q4⟩
      · have h3 := vis_ar T m1 k x p4
        rw [kid_ar T p1 p2] at h3
        have hx : rootL l x = rootL l b := rootL_of T tb (parL_trans T h2 (rootL_mem T tb))
        have tx : thereB l x = true := (upB_what (vis_up _ _ _ hxa)).1
        have h4 : (arL l x).length = (arL l a).length := by
          rw [arL_step T tx, arL_step T ta, hostL_at tx, hx, ← hostL_at tb, ea, eb]
          rfl
        have h5 : (arL l a).length = (arL l (hostL l a)).length + 1 := by rw [arL_step T ta]; rfl
        omega
      · rw [ea] at p1 p2
        rw [eb] at q1 q2
        by_cases hk : k = k'
        · subst hk
          rcases par_cmp T p3 q3 with h | h
          · exact hab h
          · exact hba h
        · exact ih k k' m1 m2 x (T.kid _ p1 k p2).1 (T.kid _ p1 k' q2).1 (kid_root T p1 p2) (kid_root T p1 q2) p1 (kid_apart T p1 p2 q2 hk) (kid_apart T p1 q2 p2 (Ne.symm hk)) p4 q4
theorem vis_once (T : Tree l) : ∀ (n : Nat) (s : Int), (visN l n s).Nodup
  | 0, _ => List.nodup_nil
  | n + 1, s => by
    cases hu : upB l s with
    | false => rw [vis_no hu]; exact List.nodup_nil
    | true =>
      rw [vis_go hu, List.nodup_cons]
      refine ⟨fun h => ?_, flatMap_nodup _ (con_once T s) (fun k _ => vis_once T n k) fun a ha b hb x hxa hxb => ?_⟩
      · obtain ⟨c, hc, hx⟩ := List.mem_flatMap.1 h
        have h1 := vis_rk T n c s hx
        have h2 := con_rk T hc
        omega
      · refine Decidable.byContradiction fun hab => ?_
        obtain ⟨p, hp, pa, pb⟩ := con_kids ha hb
        exact vis_apart T p a b n n x (T.kid p hp a pa).1 (T.kid p hp b pb).1 (kid_root T hp pa) (kid_root T hp pb) hp (kid_apart T hp pa pb hab) (kid_apart T hp pb pa (Ne.symm hab)) hxa hxb
theorem visL_len (T : Tree l) (s : Int) : (visL l s).length ≤ l.length := by
  have h := pigeon l.length ((visL l s).map fun x => (x - 1).toNat) (by
    refine List.pairwise_map.2 ((vis_once T _ s).imp_of_mem fun {a b} ha hb hab e => hab ?_)
    have h1 := thereB_iff.1 (upB_what (vis_up _ _ _ ha)).1
    have h2 := thereB_iff.1 (upB_what (vis_up _ _ _ hb)).1
    omega) fun y hy => by
      obtain ⟨x, hx, rfl⟩ := List.mem_map.1 hy
      exact there_lt (upB_what (vis_up _ _ _ hx)).1
  simpa using h
theorem few_kids {K : Nat} (h : Few K l) (i : Int) : (nd l i).kids.length ≤ K := by
  unfold nd
  rw [List.getD_eq_getElem?_getD]
  cases e : l[(i - 1).toNat]? with
  | none => exact Nat.zero_le _
  | some d => exact h d (List.mem_of_getElem? e)
theorem kidsOf_len {K : Nat} (h : Few K l) (i : Int) : (kidsOf l i).length ≤ K := by
  unfold kidsOf
  split
  · exact few_kids h i
  · exact Nat.zero_le _
theorem con_len {K : Nat} (h : Few K l) (s : Int) : (conL l s).length ≤ K := by
  unfold conL
  split
  · exact Nat.le_trans (List.length_filter_le _ _) (kidsOf_len h _)
  · exact Nat.le_trans (List.length_filter_le _ _) (kidsOf_len h _)
theorem flat_sum {f g : Int → List Int} {K : Nat} : ∀ (xs : List Int), (∀ x ∈ xs, (f x).length ≤ 1 + K * (g x).length) → (xs.flatMap f).length ≤ xs.length + K * (xs.flatMap g).length
  | [], _ => by simp
  | x :: r, h => by
    have h1 := h x (by simp)
    have h2 := flat_sum r fun y hy => h y (by simp [hy])
    simp only [List.flatMap_cons, List.length_append, List.length_cons, Nat.mul_add]
    omega
theorem flat_vis {K : Nat} (hf : Few K l) : ∀ (n : Nat) (s : Int), (flatN l n s).length ≤ K * (visN l n s).length
  | 0, _ => Nat.zero_le _
  | n + 1, s => by
    cases hu : upB l s with
    | false => rw [flat_no hu]; exact Nat.zero_le _
    | true =>
      rw [flat_go hu, vis_go hu]
      have h1 := flat_sum (f := fun c => if upB l c = true then flatN l n c else [c]) (g := visN l n) (K := K) (conL l s) fun x _ => by
        split
        · have := flat_vis hf n x
          omega
        · simp
      have h2 := con_len hf s
      simp only [List.length_cons, Nat.mul_add]
      omega
theorem flatL_len (T : Tree l) (hl : l.length ≤ 128) (hf : Few 200 l) (s : Int) : (flatL l s).length ≤ 25600 := by
  have h1 := flat_vis hf (rkL l s + 1) s
  have h2 := visL_len T s
  unfold visL at h2
  unfold flatL
  omega
/-- What is shown at last. -/
theorem flat_what (T : Tree l) : ∀ (n : Nat) (s x : Int), x ∈ flatN l n s → thereB l x = true ∧ (nd l x).kind = 2 ∧ upB l x = false
  | 0, _, _, h => by cases h
  | n + 1, s, x, h => by
    cases hu : upB l s with
    | false => rw [flat_no hu] at h; cases h
    | true =>
      rw [flat_go hu] at h
      obtain ⟨c, hc, hx⟩ := List.mem_flatMap.1 h
      cases hc' : upB l c with
      | true =>
        rw [hc', if_pos rfl] at hx
        exact flat_what T n c x hx
      | false =>
        rw [hc', if_neg (by decide)] at hx
        obtain rfl := List.mem_singleton.1 hx
        obtain ⟨h1, h2⟩ := con_kind T (there_pos (upB_what hu).1) hc
        exact ⟨h1, h2, hc'⟩
theorem flatL_what (T : Tree l) (h : x ∈ flatL l s) : thereB l x = true ∧ (nd l x).kind = 2 ∧ upB l x = false := flat_what T _ s x h
theorem slots_len (T : Tree l) (r : Int) : (slotsL l r).length ≤ l.length := Nat.le_trans (List.length_filter_le _ _) (ordL_len T r)
end
end Go.Proofs.Ytekmgaigppenlaa

namespace Go.Proofs.Ytekmgaigppenlaa
open Go

section
variable {l : List Nd} {i j x y a b : Int}
/-- What stands in the place of a, seen from b: out of each tree that does not hold b. -/
def aimN (l : List Nd) (b : Int) : Nat → Int → Int
  | 0, a => a
  | n + 1, a => if hostL l a = 0 ∨ hasB (over l b) (rootL l a) = true then a else aimN l b n (hostL l a)
def aimL (l : List Nd) (a b : Int) : Int := if thereB l a = true then aimN l b l.length a else 0
/-- Is the way at its end here? -/
def aimB (l : List Nd) (a b : Int) : Bool := decide (hostL l a = 0) || hasB (over l b) (rootL l a)
theorem aimB_end (h : hostL l a = 0) : aimB l a b = true := by unfold aimB; rw [decide_eq_true h]; rfl
theorem aimB_held (h : hasB (over l b) (rootL l a) = true) : aimB l a b = true := by unfold aimB; rw [h]; exact Bool.or_true _
theorem aimB_go (h : hostL l a ≠ 0) (h' : hasB (over l b) (rootL l a) = false) : aimB l a b = false := by unfold aimB; rw [h', decide_eq_false h]; rfl
theorem aimB_yes (h : aimB l a b = true) : hostL l a = 0 ∨ hasB (over l b) (rootL l a) = true := by
  unfold aimB at h
  rcases Bool.or_eq_true _ _ ▸ h with h | h
  · exact .inl (of_decide_eq_true h)
  · exact .inr h
theorem aimB_not (h : aimB l a b = false) : hostL l a ≠ 0 ∧ hasB (over l b) (rootL l a) = false := by
  unfold aimB at h
  rw [Bool.or_eq_false_iff] at h
  exact ⟨of_decide_eq_false h.1, h.2⟩
theorem aim_stop {n : Nat} (h : aimB l a b = true) : aimN l b n a = a := by
  cases n with
  | zero => rfl
  | succ n => rw [aimN, if_pos (aimB_yes h)]
theorem aim_up {n : Nat} (h : aimB l a b = false) : aimN l b (n + 1) a = aimN l b n (hostL l a) := by
  have h' := aimB_not h
  rw [aimN, if_neg]
  rintro (h0 | h0)
  · exact h'.1 h0
  · rw [h'.2] at h0
    cases h0
theorem host_from (h : hostL l a ≠ 0) : thereB l a = true := by
  cases ht : thereB l a with
  | true => rfl
  | false => exact absurd (hostL_no ht) h
/-- How many steps are let in does not matter, if there are enough. -/
theorem aim_stay (T : Tree l) : ∀ (n m : Nat) (a : Int), (over l a).length ≤ n → (over l a).length ≤ m → aimN l b n a = aimN l b m a
  | n, m, a, hn, hm => by
    cases hB : aimB l a b with
    | true => rw [aim_stop hB, aim_stop hB]
    | false =>
      have h1 := host_less T (host_from (aimB_not hB).1)
      obtain ⟨n, rfl⟩ : ∃ k, n = k + 1 := ⟨n - 1, by omega⟩
      obtain ⟨m, rfl⟩ : ∃ k, m = k + 1 := ⟨m - 1, by omega⟩
      rw [aim_up hB, aim_up hB, aim_stay T n m (hostL l a) (by omega) (by omega)]
termination_by n => n
theorem aimL_no (h : thereB l a = false) : aimL l a b = 0 := if_neg (by rw [h]; decide)
theorem aimL_at (h : thereB l a = true) : aimL l a b = aimN l b l.length a := if_pos h
theorem aimL_stop (h : thereB l a = true) (hB : aimB l a b = true) : aimL l a b = a := by rw [aimL_at h, aim_stop hB]
theorem aimL_up (T : Tree l) (hB : aimB l a b = false) : aimL l a b = aimL l (hostL l a) b := by
  have h0 := (aimB_not hB).1
  have ht := host_from h0
  have h1 := host_less T ht
  have h2 := over_short T a
  rw [aimL_at ht, aimL_at (hostL_there T h0)]
  obtain ⟨n, hn⟩ : ∃ k, l.length = k + 1 := ⟨l.length - 1, by omega⟩
  rw [hn, aim_up hB, aim_stay T n (n + 1) (hostL l a) (by omega) (by omega)]
/-- Behind at most as many steps as there are nodes, one more, the way is at its end. -/
theorem aim_ends (T : Tree l) : ∀ (n : Nat) (a : Int), (over l a).length ≤ n → thereB l a = true → aimB l (aimN l b n a) b = true
  | 0, a, hn, ht => absurd (List.length_eq_zero_iff.1 (Nat.le_zero.1 hn)) (over_ne T ht)
  | n + 1, a, hn, ht => by
    cases hB : aimB l a b with
    | true => rw [aim_stop hB]; exact hB
    | false =>
      have h0 := (aimB_not hB).1
      have h1 := host_less T ht
      rw [aim_up hB]
      exact aim_ends T n _ (by omega) (hostL_there T h0)
theorem aimL_ends (T : Tree l) (h : thereB l a = true) : aimB l (aimL l a b) b = true := by
  rw [aimL_at h]
  exact aim_ends T _ a (over_short T a) h
/-- It is there, and above. -/
theorem aimL_over (T : Tree l) : ∀ a, thereB l a = true → aimL l a b ∈ over l a :=
  trees T (fun a h h' => by rw [h] at h'; cases h') fun a h ih _ => by
    cases hB : aimB l a b with
    | true => rw [aimL_stop h hB]; exact over_self T h
    | false =>
      have h0 := (aimB_not hB).1
      rw [aimL_up T hB, over_host T h]
      exact List.mem_append_right _ (ih (hostL_there T h0))
theorem aimL_there (T : Tree l) (h : thereB l a = true) : thereB l (aimL l a b) = true := over_in (aimL_over T a h)
theorem aimL_zero (T : Tree l) (h : aimL l a b = 0) : thereB l a = false := by
  cases ht : thereB l a with
  | false => rfl
  | true =>
    have := aimL_there (b := b) T ht
    rw [h, there_zero] at this
    cases this
/-- Aimed again it stays. -/
theorem aimL_again (T : Tree l) (h : thereB l a = true) : aimL l (aimL l a b) b = aimL l a b := aimL_stop (aimL_there T h) (aimL_ends T h)
/-- Aimed at itself it is itself. -/
theorem aimL_self (T : Tree l) (h : thereB l a = true) : aimL l a a = a := aimL_stop h (aimB_held (hasB_yes (root_over T h)))
/-- What is told isn't hidden. -/
theorem aimL_hides (T : Tree l) (h : thereB l a = true) : hidL l (aimL l a b) b = false := by
  rcases aimB_yes (aimL_ends (b := b) T h) with h0 | h0
  · exact hid_end T h0
  · exact hid_held T (hasB_mem h0)
end

/-- Who is a host has a shadow root. -/
def Hosts (l : List Nd) : Prop := ∀ i, thereB l i = true → (nd l i).host ≠ 0 → thereB l (nd l i).host = true ∧ (nd l (nd l i).host).shadow ≠ 0
theorem hosts_like {l l' : List Nd} (H : Hosts l) (hlen : l'.length = l.length) (h : ∀ i, thereB l i = true → (nd l' i).host = (nd l i).host ∧ (nd l' i).shadow = (nd l i).shadow) : Hosts l' := fun i hi h0 => by
  rw [there_len hlen] at hi
  obtain ⟨h1, _⟩ := h i hi
  rw [h1] at h0 ⊢
  obtain ⟨h3, h4⟩ := H i hi h0
  rw [there_len hlen, (h _ h3).2]
  exact ⟨h3, h4⟩
theorem hosts_mod {l : List Nd} {id : Int} {f : Nd → Nd} (H : Hosts l) (hi : thereB l id = true) (hf : ∀ d, (f d).host = d.host ∧ (f d).shadow = d.shadow) : Hosts (modN l id f) :=
  hosts_like H (modN_length l id f) fun i hk => by
    rw [nd_mod hi hk]
    by_cases e : i = id
    · subst e
      rw [if_pos rfl]
      exact hf _
    · rw [if_neg e]
      exact ⟨rfl, rfl⟩
theorem hosts_put {l : List Nd} {p : Int} {ks : List Int} (H : Hosts l) : Hosts (putL l p ks) := by
  by_cases h0 : putErr l p ks = 0
  case neg =>
    unfold putL
    rw [if_neg h0]
    exact H
  obtain ⟨hp, hk, _⟩ := put_zero h0
  refine hosts_like H ?_ fun i hi => ?_
  · unfold putL
    rw [if_pos h0, modN_length, toPar_length, clr_length]
  · rw [put_nd h0 hp (kids_there hk) hi]
    exact ⟨rfl, rfl⟩
theorem hosts_tie {l : List Nd} {h r : Int} (H : Hosts l) : Hosts (tieL l h r) := by
  by_cases h0 : tieErr l h r = 0
  case neg =>
    unfold tieL
    rw [if_neg h0]
    exact H
  have hz : thereB l h = true ∧ thereB l r = true := by
    unfold tieErr at h0
    split at h0
    · cases h0
    · rename_i h1
      simpa using h1
  obtain ⟨hh, hr⟩ := hz
  have hth : ∀ x, thereB (tieL l h r) x = thereB l x := fun x => there_len (tieL_length l h r)
  have hho : ∀ k, thereB l k = true → (nd (tieL l h r) k).host = if k = r then h else (nd l k).host := fun k hk => by
    unfold tieL
    rw [if_pos h0, nd_mod (by rw [there_mod]; exact hr) (by rw [there_mod]; exact hk), nd_mod hh hr, nd_mod hh hk]
    by_cases e : k = r
    · rw [if_pos e, if_pos e]
    · rw [if_neg e, if_neg e]
      split
      · rename_i e2
        rw [e2]
      · rfl
  have hsh : ∀ k, thereB l k = true → (nd (tieL l h r) k).shadow = if k = h then r else (nd l k).shadow := fun k hk => by
    unfold tieL
    rw [if_pos h0, nd_mod (by rw [there_mod]; exact hr) (by rw [there_mod]; exact hk), nd_mod hh hr, nd_mod hh hk]
    by_cases e : k = r
    · rw [if_pos e, e]
      by_cases e2 : r = h
      · rw [if_pos e2, if_pos e2]
      · rw [if_neg e2, if_neg e2]
    · rw [if_neg e]
      by_cases e2 : k = h
      · rw [if_pos e2, if_pos e2]
      · rw [if_neg e2, if_neg e2]
  intro i hi hn
  rw [hth] at hi ⊢
  rw [hho i hi] at hn ⊢
  have hx : thereB l (if i = r then h else (nd l i).host) = true := by
    by_cases e : i = r
    · rw [if_pos e]
      exact hh
    · rw [if_neg e] at hn ⊢
      exact (H i hi hn).1
  refine ⟨hx, ?_⟩
  rw [hsh _ hx]
  by_cases e2 : (if i = r then h else (nd l i).host) = h
  · rw [if_pos e2]
    exact there_pos hr
  · rw [if_neg e2]
    by_cases e : i = r
    · rw [if_pos e] at e2
      exact absurd rfl e2
    · rw [if_neg e] at hn ⊢
      exact (H i hi hn).2
theorem hosts_make {l : List Nd} {d : Nd} (H : Hosts l) : Hosts (mkL l d) := by
  unfold mkL
  split
  case isFalse => exact H
  have old : ∀ i, thereB l i = true → thereB (l ++ [bare d]) i = true ∧ nd (l ++ [bare d]) i = nd l i := fun i hi => by
    have h1 := thereB_iff.1 hi
    refine ⟨thereB_iff.2 ⟨h1.1, by simp; omega⟩, ?_⟩
    rw [nd, nd, List.getD_eq_getElem?_getD, List.getD_eq_getElem?_getD, List.getElem?_append_left (there_lt hi)]
  intro i hi h0
  cases ht : thereB l i with
  | true =>
    rw [(old i ht).2] at h0 ⊢
    obtain ⟨h3, h4⟩ := H i ht h0
    rw [(old _ h3).2]
    exact ⟨(old _ h3).1, h4⟩
  | false =>
    refine absurd ?_ h0
    have h1 := thereB_iff.1 hi
    have h2 : ¬ i ≤ (l.length : Int) := fun h2 => by
      rw [thereB_iff.2 ⟨h1.1, h2⟩] at ht
      cases ht
    rw [List.length_append] at h1
    simp only [List.length_cons, List.length_nil] at h1
    rw [nd, List.getD_eq_getElem?_getD, List.getElem?_append_right (by omega), show (i - 1).toNat - l.length = 0 by omega]
    rfl
theorem hosts_act {l : List Nd} {x : Ac} (H : Hosts l) : Hosts (actL l x) := by
  unfold actL
  split
  · exact hosts_make H
  · split
    · exact hosts_put H
    · split
      · exact hosts_tie H
      · split
        · unfold nameL
          split
          · rename_i h0
            refine hosts_mod H ?_ fun _ => ⟨rfl, rfl⟩
            unfold nameErr at h0
            split at h0
            · cases h0
            · rename_i h1
              simp only [not_or, Bool.not_eq_false] at h1
              exact h1.1
          · exact H
        · split
          · unfold wantL
            split
            · rename_i h0
              refine hosts_mod H ?_ fun _ => ⟨rfl, rfl⟩
              unfold wantErr at h0
              split at h0
              · cases h0
              · rename_i h1
                simp only [not_or, Bool.not_eq_false] at h1
                exact h1.1
            · exact H
          · exact H
theorem hosts_forest (acts : List Ac) : Hosts (forest acts) := by
  have : ∀ (acts : List Ac) (l : List Nd), Hosts l → Hosts (acts.foldl actL l) := by
    intro acts
    induction acts with
    | nil => intro l H; exact H
    | cons x r ih => intro l H; exact ih _ (hosts_act H)
  refine this acts [] fun i hi _ => ?_
  have h1 := thereB_iff.1 hi
  simp only [List.length_nil] at h1
  omega
/-- What is told is the node itself, or a host. -/
theorem aimL_host {l : List Nd} {b : Int} (T : Tree l) (H : Hosts l) : ∀ a, thereB l a = true → aimL l a b = a ∨ (nd l (aimL l a b)).shadow ≠ 0 :=
  trees T (fun a h h' => by rw [h] at h'; cases h') fun a h ih _ => by
    cases hB : aimB l a b with
    | true => exact .inl (aimL_stop h hB)
    | false =>
      have h0 := (aimB_not hB).1
      rw [aimL_up T hB]
      rcases ih (hostL_there T h0) with e | e
      · right
        rw [e]
        rw [hostL_at h] at h0 ⊢
        exact (H _ (rootL_there T h) h0).2
      · exact .inr e
end Go.Proofs.Ytekmgaigppenlaa

namespace Go.Proofs.Ytekmgaigppenlaa
open Go

/-- A node's parent for an event that is sent to first. -/
def parE (l : List Nd) (first : Int) (comp : Bool) (i : Int) : Int :=
  if thereB l i = true then
    if ofL l i ≠ 0 then ofL l i
    else if (nd l i).kind = 3 then (if comp = false ∧ rootL l first = i then 0 else (nd l i).host)
    else (nd l i).parent
  else 0

section
variable {l : List Nd} {i p x first : Int} {comp : Bool}
theorem parE_no (h : thereB l i = false) : parE l first comp i = 0 := if_neg (by rw [h]; decide)
/-- The parent is there. -/
theorem parE_there (T : Tree l) (h : parE l first comp i ≠ 0) : thereB l i = true ∧ thereB l (parE l first comp i) = true := by
  unfold parE at h ⊢
  split
  case isFalse hn =>
    rw [if_neg hn] at h
    exact absurd rfl h
  rename_i ht
  rw [if_pos ht] at h
  refine ⟨ht, ?_⟩
  split
  case isTrue ho => exact (of_what T ho).2.2.2.2.1
  rename_i ho
  rw [if_neg ho] at h
  split
  case isTrue hk =>
    rw [if_pos hk] at h
    split
    case isTrue hc => rw [if_pos hc] at h; exact absurd rfl h
    rename_i hc
    rw [if_neg hc] at h
    exact (T.host i ht h).2
  rename_i hk
  rw [if_neg hk] at h
  exact (T.par i ht h).1
theorem over_kid (T : Tree l) (hp : thereB l p = true) (hk : i ∈ (nd l p).kids) : over l i = i :: over l p := by
  have hi := (T.kid p hp i hk).1
  rw [over_host T hi, over_host T hp, parL_kid T hp hk, kid_host T hp hk]
  rfl
theorem over_shadow (T : Tree l) (hi : thereB l i = true) (h3 : (nd l i).kind = 3) : over l i = i :: over l (nd l i).host := by
  have hb := T.bare i hi (.inr h3)
  have hr := rootL_own T hi hb
  have := over_root T hi
  rw [hr] at this
  rw [this, hostL_at hi, hr]
end

/-- A Shadow weighs less than what is below its host. -/
def dig (l : List Nd) (x : Int) : Nat := if (nd l x).kind = 3 then 1 else 2
/-- What a way up weighs: the upper, the more. -/
def wgt (l : List Nd) (N : Nat) : List Int → Nat
  | [] => 0
  | x :: r => wgt l N r + dig l x * 3 ^ (N - r.length)
def mu (l : List Nd) (i : Int) : Nat := wgt l (l.length + 1) (over l i)
section
variable {l : List Nd} {N : Nat} {i p x s first : Int} {r xs ys : List Int} {comp : Bool}
theorem dig_le : dig l x ≤ 2 := by unfold dig; split <;> omega
theorem dig_pos : 1 ≤ dig l x := by unfold dig; split <;> omega
theorem wgt_cons : wgt l N r < wgt l N (x :: r) := by
  rw [wgt]
  have h1 : 0 < 3 ^ (N - r.length) := Nat.pow_pos (by decide)
  have h2 := Nat.mul_le_mul_right (3 ^ (N - r.length)) (dig_pos (l := l) (x := x))
  omega
theorem wgt_suffix : ∀ (ys : List Int), xs <:+ ys → wgt l N xs ≤ wgt l N ys
  | [], h => by rw [List.suffix_nil.1 h]; exact Nat.le_refl _
  | y :: t, h => by
    rcases List.suffix_cons_iff.1 h with rfl | h
    · exact Nat.le_refl _
    · exact Nat.le_trans (wgt_suffix t h) (Nat.le_of_lt wgt_cons)
/-- Whatever stands on s: it weighs less than the next weight at s's place would. -/
theorem wgt_below : ∀ (ys : List Int), (s :: r) <:+ ys → ys.length ≤ N → wgt l N ys + 3 ^ (N + 1 - ys.length) ≤ wgt l N r + (dig l s + 1) * 3 ^ (N - r.length)
  | [], h, _ => by cases List.suffix_nil.1 h
  | y :: t, h, hl => by
    rcases List.suffix_cons_iff.1 h with e | h
    · injection e with e1 e2
      subst e1 e2
      rw [wgt, List.length_cons, show N + 1 - (r.length + 1) = N - r.length by omega, Nat.add_mul, Nat.one_mul]
      omega
    · rw [List.length_cons] at hl
      have ih := wgt_below t h (by omega)
      rw [wgt, List.length_cons, show N + 1 - (t.length + 1) = N - t.length by omega]
      rw [show N + 1 - t.length = (N - t.length) + 1 by omega, Nat.pow_succ] at ih
      have := Nat.mul_le_mul_right (3 ^ (N - t.length)) (dig_le (l := l) (x := y))
      omega
/-- The way up by parents for an event goes down in weight. -/
theorem mu_less (T : Tree l) (h : parE l first comp i ≠ 0) : mu l (parE l first comp i) < mu l i := by
  obtain ⟨hi, ht⟩ := parE_there T h
  have hN : ∀ j, (over l j).length ≤ l.length + 1 := fun j => Nat.le_trans (over_short T j) (Nat.le_succ _)
  unfold parE at h ht ⊢
  rw [if_pos hi] at h ht ⊢
  by_cases ho : ofL l i ≠ 0
  · rw [if_pos ho] at h ht ⊢
    obtain ⟨-, k2, hp, hk, hq, -, r3, hh⟩ := of_what T ho
    have e1 := over_kid T hp hk
    have e2 : over l (rootL l (ofL l i)) = rootL l (ofL l i) :: over l (nd l i).parent := by rw [over_root T hq, hh]
    have hs : (rootL l (ofL l i) :: over l (nd l i).parent) <:+ over l (ofL l i) := by
      rw [← e2]
      exact over_suffix T (root_over T hq)
    have hb := wgt_below (l := l) (N := l.length + 1) _ hs (hN _)
    have d1 : dig l (rootL l (ofL l i)) = 1 := if_pos r3
    have d2 : dig l i = 2 := if_neg (by rw [k2]; decide)
    have hpw : 0 < 3 ^ (l.length + 1 + 1 - (over l (ofL l i)).length) := Nat.pow_pos (by decide)
    unfold mu
    rw [e1, wgt, d2]
    rw [d1] at hb
    omega
  · rw [if_neg ho] at h ht ⊢
    by_cases h3 : (nd l i).kind = 3
    · rw [if_pos h3] at h ht ⊢
      by_cases hc : comp = false ∧ rootL l first = i
      · rw [if_pos hc] at h
        exact absurd rfl h
      · rw [if_neg hc] at h ht ⊢
        unfold mu
        rw [over_shadow T hi h3]
        exact wgt_cons
    · rw [if_neg h3] at h ht ⊢
      obtain ⟨q1, q2⟩ := T.par i hi h
      unfold mu
      rw [over_kid T q1 q2]
      exact wgt_cons
end

/-- A node, its parent for the event, and so on, n at most. -/
def upE (l : List Nd) (first : Int) (comp : Bool) : Nat → Int → List Int
  | 0, _ => []
  | n + 1, i => if thereB l i = true then i :: upE l first comp n (parE l first comp i) else []
def wayE (l : List Nd) (first : Int) (comp : Bool) : List Int := upE l first comp (l.length + 1) first
section
variable {l : List Nd} {i x first : Int} {comp : Bool} {n m : Nat}
theorem upE_no (h : thereB l i = false) : upE l first comp n i = [] := by
  cases n with
  | zero => rfl
  | succ n => exact if_neg (by rw [h]; decide)
theorem upE_go (h : thereB l i = true) : upE l first comp (n + 1) i = i :: upE l first comp n (parE l first comp i) := if_pos h
theorem thereB_zero : thereB l 0 = false := by
  unfold thereB
  simp
theorem upE_there : ∀ (n : Nat) (i : Int), ∀ x ∈ upE l first comp n i, thereB l x = true
  | 0, i, x, h => by cases h
  | n + 1, i, x, h => by
    cases ht : thereB l i with
    | false => rw [upE_no ht] at h; cases h
    | true =>
      rw [upE_go ht] at h
      rcases List.mem_cons.1 h with rfl | h
      · exact ht
      · exact upE_there n _ x h
theorem upE_mu (T : Tree l) : ∀ (n : Nat) (i : Int), ∀ x ∈ upE l first comp n i, mu l x ≤ mu l i
  | 0, i, x, h => by cases h
  | n + 1, i, x, h => by
    cases ht : thereB l i with
    | false => rw [upE_no ht] at h; cases h
    | true =>
      rw [upE_go ht] at h
      rcases List.mem_cons.1 h with rfl | h
      · exact Nat.le_refl _
      · by_cases h0 : parE l first comp i = 0
        · rw [h0, upE_no thereB_zero] at h
          cases h
        · exact Nat.le_trans (upE_mu T n _ x h) (Nat.le_of_lt (mu_less T h0))
/-- None comes twice. -/
theorem upE_once (T : Tree l) : ∀ (n : Nat) (i : Int), (upE l first comp n i).Nodup
  | 0, i => List.nodup_nil
  | n + 1, i => by
    cases ht : thereB l i with
    | false => rw [upE_no ht]; exact List.nodup_nil
    | true =>
      rw [upE_go ht, List.nodup_cons]
      refine ⟨fun h => ?_, upE_once T n _⟩
      by_cases h0 : parE l first comp i = 0
      · rw [h0, upE_no thereB_zero] at h
        cases h
      · have := upE_mu T n _ i h
        have := mu_less T h0
        omega
theorem upE_len (T : Tree l) (n : Nat) (i : Int) : (upE l first comp n i).length ≤ l.length := by
  have hn : ((upE l first comp n i).map fun x => (x - 1).toNat).Nodup := by
    refine List.pairwise_map.2 ((upE_once T n i).imp_of_mem fun hx hy hne e => hne ?_)
    have h1 := thereB_iff.1 (upE_there n i _ hx)
    have h2 := thereB_iff.1 (upE_there n i _ hy)
    omega
  have := pigeon l.length _ hn fun x hx => by
    obtain ⟨y, hy, rfl⟩ := List.mem_map.1 hx
    have := thereB_iff.1 (upE_there n i y hy)
    omega
  simpa using this
/-- More steps change nothing, once the way is at its end. -/
theorem upE_stay : ∀ (n m : Nat) (i : Int), (upE l first comp n i).length < n → n ≤ m → upE l first comp m i = upE l first comp n i
  | 0, m, i, h, _ => absurd h (Nat.not_lt_zero _)
  | n + 1, 0, i, _, h => absurd h (Nat.not_succ_le_zero _)
  | n + 1, m + 1, i, h, hm => by
    cases ht : thereB l i with
    | false => rw [upE_no ht, upE_no ht]
    | true =>
      rw [upE_go ht, List.length_cons] at h
      rw [upE_go ht, upE_go ht, upE_stay n m _ (by omega) (by omega)]
/-- The way of an event, one step. -/
theorem wayE_all (T : Tree l) (hn : l.length < n) (i : Int) : upE l first comp n i = upE l first comp (l.length + 1) i :=
  upE_stay (l.length + 1) n i (Nat.lt_succ_of_le (upE_len T _ i)) hn
theorem wayE_step (T : Tree l) (h : thereB l i = true) : upE l first comp (l.length + 1) i = i :: upE l first comp (l.length + 1) (parE l first comp i) := by
  rw [← wayE_all T (n := l.length + 1 + 1) (by omega) i, upE_go h]
/-- Each one's parent for the event is the next one. -/
theorem upE_next : ∀ (n : Nat) (i : Int) (k : Nat) (x y : Int), (upE l first comp n i)[k]? = some x → (upE l first comp n i)[k + 1]? = some y → y = parE l first comp x
  | 0, i, k, x, y, h, _ => by cases h
  | n + 1, i, k, x, y, h, h' => by
    cases ht : thereB l i with
    | false => rw [upE_no ht] at h; cases h
    | true =>
      rw [upE_go ht] at h h'
      cases k with
      | zero =>
        obtain rfl : i = x := by simpa using h
        rw [List.getElem?_cons_succ] at h'
        cases n with
        | zero => cases h'
        | succ n =>
          cases hp : thereB l (parE l first comp i) with
          | false => rw [upE_no hp] at h'; cases h'
          | true =>
            rw [upE_go hp] at h'
            simpa using h'.symm
      | succ k => exact upE_next n _ k x y (by simpa using h) (by simpa using h')
/-- Of an event that isn't composed none lies outside of what the first one's root holds. -/
theorem parE_held (T : Tree l) (h : rootL l first ∈ over l i) (h0 : parE l first false i ≠ 0) : rootL l first ∈ over l (parE l first false i) := by
  obtain ⟨hi, ht⟩ := parE_there T h0
  have hrt := over_in h
  unfold parE at h0 ht ⊢
  rw [if_pos hi] at h0 ht ⊢
  by_cases ho : ofL l i ≠ 0
  · rw [if_pos ho] at h0 ht ⊢
    obtain ⟨-, k2, hp, hk, hq, -, r3, hh⟩ := of_what T ho
    rw [over_kid T hp hk] at h
    have hin : rootL l first ∈ over l (nd l i).parent := by
      rcases List.mem_cons.1 h with e | h
      · exfalso
        have hft : thereB l first = true := by
          cases hf : thereB l first with
          | true => rfl
          | false =>
            rw [rootL_no hf] at hrt
            rw [thereB_zero] at hrt
            cases hrt
        have hb := rootL_bare T hft
        rw [e, (T.kid _ hp i hk).2] at hb
        rw [hb, thereB_zero] at hp
        cases hp
      · exact h
    rw [over_host T hq, hh]
    exact List.mem_append_right _ hin
  · rw [if_neg ho] at h0 ht ⊢
    by_cases h3 : (nd l i).kind = 3
    · rw [if_pos h3] at h0 ht ⊢
      by_cases hc : (false : Bool) = false ∧ rootL l first = i
      · rw [if_pos hc] at h0
        exact absurd rfl h0
      · rw [if_neg hc] at h0 ht ⊢
        rw [over_shadow T hi h3] at h
        rcases List.mem_cons.1 h with e | h
        · exact absurd ⟨rfl, e⟩ hc
        · exact h
    · rw [if_neg h3] at h0 ht ⊢
      obtain ⟨q1, q2⟩ := T.par i hi h0
      rw [over_kid T q1 q2] at h
      rcases List.mem_cons.1 h with e | h
      · exfalso
        have hft : thereB l first = true := by
          cases hf : thereB l first with
          | true => rfl
          | false =>
            rw [rootL_no hf] at hrt
            rw [thereB_zero] at hrt
            cases hrt
        have hb := rootL_bare T hft
        rw [e] at hb
        exact h0 hb
      · exact h
theorem upE_held (T : Tree l) : ∀ (n : Nat) (i : Int), rootL l first ∈ over l i → ∀ x ∈ upE l first false n i, rootL l first ∈ over l x
  | 0, i, _, x, hx => by cases hx
  | n + 1, i, h, x, hx => by
    cases ht : thereB l i with
    | false => rw [upE_no ht] at hx; cases hx
    | true =>
      rw [upE_go ht] at hx
      rcases List.mem_cons.1 hx with rfl | hx
      · exact h
      · by_cases h0 : parE l first false i = 0
        · rw [h0, upE_no thereB_zero] at hx
          cases hx
        · exact upE_held T n _ (parE_held T h h0) x hx
end
end Go.Proofs.Ytekmgaigppenlaa
