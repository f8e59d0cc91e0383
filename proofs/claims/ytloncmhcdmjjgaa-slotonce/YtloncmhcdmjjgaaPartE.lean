/-
  Lists of numbers that a call builds: put behind, cut off at the end, read. Only towncrier's types are named here, and slices.Index, slices.Contains.
  What package kin's Up, Root, Above do with an arena that keeps its promises.
  What package kin's Root, Above, row, Index and Next do with an arena that keeps its promises.
  What towncrierref04.Nodes and Up, towncrierref05.Root and Above do.
  What package kin's Count and Order do with an arena that keeps its promises.
  What towncrierref05.Index, Next and Count do.
  A forest and the document's list of the same nodes, side by side.
  A forest that a law changes.
  Forests, plain: host-including ancestors, and what the document says of Check. No program is named here.
  Forests, plain: trees around trees, closed roots, what is hidden. No program is named here.
  Forests, plain: slots, what is assigned to them, what is shown there at last. No program is named here.
  What package kin's Order does with an arena that keeps its promises.
-/
import Derived.Test.YtloncmhcdmjjgaaPartD
import Derived.Laws.EntriesVeiled

namespace Go.Proofs.Ytloncmhcdmjjgaa
open Go Go.RowKit

/-- A list of numbers of the call's own, its block from base on; what lies behind its end may be written over only where nobody else can see it. -/
def Pile (base : Nat) (w : World) (v : Value) (xs : List Int) : Prop :=
  (v = .slice none 0 0 ∧ xs = []) ∨
  ∃ g cap cur, v = .slice (some ⟨g, 0, none⟩) xs.length cap ∧ base ≤ g ∧ Has w g (.cells cur 3 (0, 0)) ∧ xs.length ≤ cap ∧ cap ≤ maxLen ∧ (cur.size = cap ∨ cap = xs.length) ∧ cur.toList.take xs.length = xs.map (Value.int .i64)

section
variable {base base' : Nat} {w w' : World} {v : Value} {xs : List Int} {F : Nat → Prop}
theorem Pile.nil (base : Nat) (w : World) : Pile base w (.slice none 0 0) [] := .inl ⟨rfl, rfl⟩
theorem Pile.lt (h : Pile base w v xs) : ∀ g, v.ownBlock = some g → base ≤ g ∧ g < w.heap.size := by
  intro k hk
  rcases h with ⟨rfl, _⟩ | ⟨g, cap, cur, rfl, hb, hg, _⟩
  · cases hk
  · obtain rfl : g = k := by simpa [Value.ownBlock] using hk
    exact ⟨hb, hg.inside⟩
theorem Pile.kept (h : Pile base w v xs) (k : Keeps F w w') (hF : ∀ g, v.ownBlock = some g → ¬ F g) : Pile base w' v xs := by
  rcases h with h | ⟨g, cap, cur, rfl, hb, hg, rest⟩
  · exact .inl h
  · exact .inr ⟨g, cap, cur, rfl, hb, hg.kept k (hF g rfl), rest⟩
theorem Pile.below (h : Pile base w v xs) (k : Below w.heap.size w w') : Pile base w' v xs :=
  h.kept (Keeps.of_below (F := fun i => w.heap.size ≤ i) k fun _ _ h => h) fun g hg => Nat.not_le.2 (h.lt g hg).2
theorem Pile.from_ (h : Pile base w v xs) (hb : base' ≤ base) : Pile base' w v xs := by
  rcases h with h | ⟨g, cap, cur, rfl, h1, rest⟩
  · exact .inl h
  · exact .inr ⟨g, cap, cur, rfl, Nat.le_trans hb h1, rest⟩
theorem Pile.since (h : Pile base w v xs) (hb : ∀ g, v.ownBlock = some g → base' ≤ g) : Pile base' w v xs := by
  rcases h with h | ⟨g, cap, cur, rfl, h1, rest⟩
  · exact .inl h
  · exact .inr ⟨g, cap, cur, rfl, hb g rfl, rest⟩
theorem Pile.alloc (h : Pile base w v xs) (o : Obj) : Pile base (w.alloc o) v xs := h.below ((Below.refl _ w).alloc (Nat.le_refl _) o)
theorem Pile.drew (h : Pile base w v xs) : Pile base w.drew v xs := h
theorem Pile.drewN (h : Pile base w v xs) (n : Nat) : Pile base (w.drewN n) v xs := h
/-- Its shape, and that it may be read. -/
theorem Pile.form (h : Pile base w v xs) : ∃ A c, v = .slice A xs.length c ∧ ListIn w A c xs := by
  rcases h with ⟨rfl, rfl⟩ | ⟨g, cap, cur, rfl, hb, hg, hl, hm, hc, ht⟩
  · exact ⟨none, 0, rfl, Nat.le_refl _, fun _ => rfl, fun i hi => absurd hi (Nat.not_lt_zero i)⟩
  · refine ⟨_, cap, rfl, hl, (fun e => by cases e), fun i hi => ⟨g, 0, rfl, hg.inside, ?_⟩⟩
    have e := congrArg (fun z => z[i]?) ht
    simp only [List.getElem?_take, if_pos hi, List.getElem?_map, List.getElem?_eq_getElem hi] at e
    rw [Nat.zero_add, hg.cell i, ← Array.getElem?_toList, e]
    rfl
theorem Pile.of_kids {G : Nat → Prop} (h : Kids G w v xs) (hb : ∀ g, G g → g < w.heap.size → base ≤ g) : Pile base w v xs := by
  rcases h.1.2 with ⟨hv, h0⟩ | ⟨g, cap, cur, hv, _, hg, h1, h2, h3, h4⟩
  · exact .inl ⟨hv, List.length_eq_zero_iff.1 h0⟩
  · exact .inr ⟨g, cap, cur, hv, hb g (h.2 g (by rw [hv]; rfl)) (Has.inside hg), hg, h1, h2, .inl (by omega), by rw [Nat.mul_one] at h4; exact h4⟩
/-- A literal. -/
theorem Pile.lit (w : World) (xs : List Int) (n : Nat) (hn : n = xs.length) (hm : n ≤ maxLen) (hb : base ≤ w.heap.size) : Pile base (w.alloc (.cells (xs.map (Value.int .i64)).toArray 3)) (.slice (some ⟨w.heap.size, 0, none⟩) n n) xs := by
  subst hn
  refine .inr ⟨w.heap.size, xs.length, _, rfl, hb, Has.fresh _ _, Nat.le_refl _, hm, .inr rfl, ?_⟩
  simp only
  rw [List.take_of_length_le (by simp)]
/-- The last one is cut off. -/
theorem Pile.clip {A : Option Addr} {n c : Nat} {y : Int} (h : Pile base w (.slice A (n + 1) c) (xs ++ [y])) (hn : n = xs.length) : ∃ g, A = some ⟨g, 0, none⟩ ∧ Pile base w (.slice A n n) xs := by
  subst hn
  rcases h with ⟨hv, _⟩ | ⟨g, cap, cur, hv, hb, hg, hl, hm, hc, ht⟩
  · cases hv
  · obtain ⟨rfl, -, rfl⟩ : A = some ⟨g, 0, none⟩ ∧ xs.length + 1 = (xs ++ [y]).length ∧ c = cap := by injection hv with e1 e2 e3; exact ⟨e1, e2, e3⟩
    refine ⟨g, rfl, .inr ⟨g, xs.length, cur, rfl, hb, hg, Nat.le_refl _, ?_, .inr rfl, ?_⟩⟩
    · rw [List.length_append] at hl
      omega
    · have e := congrArg (List.take xs.length) ht
      rw [List.take_take, List.length_append, List.map_append, List.take_append_of_le_length (by simp), Nat.min_eq_left (by omega)] at e
      have e2 : List.take xs.length (xs.map (Value.int .i64)) = xs.map (Value.int .i64) := List.take_of_length_le (by simp)
      rw [e2] at e
      exact e
end

section
variable {base : Nat} {w : World} {v : Value} {xs : List Int}
/-- One number is put behind: in the old row or a new one. -/
theorem run_push (t ty : TypeId) (i : TypeInfo) (z : Value) {P : Program} (ht : P.underlying t = some (.slice 3)) (hi : P.info? 3 = some i) (hz : i.zero = some z) (hsize : i.size = 1) (hby : i.bytes = 8) (hzs : z.cells.size = 1)
    (hP : Pile base w v xs) {b c : Nat} {y : Int} {fr : Nat × Nat} (hb : Has w b (.cells #[.int .i64 y] 3 fr)) (hl : xs.length ≤ 1000000) (hbase : base ≤ w.heap.size) :
    ∃ g cap w', (Builtin.append_ #[t, t] ty #[v, .slice (some ⟨b, 0, none⟩) 1 c]).run P w = .ok (.slice (some ⟨g, 0, none⟩) (xs.length + 1) cap) w' ∧
      Pile base w' (.slice (some ⟨g, 0, none⟩) (xs.length + 1) cap) (xs ++ [y]) ∧ Keeps (fun i => v.ownBlock = some i) w w' ∧ (v.ownBlock = some g ∨ w.heap.size ≤ g) ∧ g < w'.heap.size := by
  have hnews : ∀ j u, [Value.int .i64 y][j]? = some u → w.cell? ((⟨b, 0, none⟩ : Addr).add j) = some u := World.news_of_block hb
  have h1 : ∀ u ∈ [Value.int .i64 y], u.oneCell' = true := fun u hu => by obtain rfl := List.mem_singleton.1 hu; rfl
  have owned : ∀ {vo : Value}, w.ownsRow base 3 1 vo xs.length (xs.map (Value.int .i64)) → ∃ g cap w', (Builtin.append_ #[t, t] ty #[vo, .slice (some ⟨b, 0, none⟩) 1 c]).run P w = .ok (.slice (some ⟨g, 0, none⟩) (xs.length + 1) cap) w' ∧
      Pile base w' (.slice (some ⟨g, 0, none⟩) (xs.length + 1) cap) (xs ++ [y]) ∧ Keeps (fun i => vo.ownBlock = some i) w w' ∧ (vo.ownBlock = some g ∨ w.heap.size ≤ g) ∧ g < w'.heap.size := by
    intro vo hown
    obtain ⟨g, cap, w', hr, h2, h3, h4, h5⟩ := run_append_lies (P := P) w t ty base 3 i z 1 8 ht hi hz hsize hby hzs (by decide) vo xs.length (xs.map (Value.int .i64)) hown ⟨b, 0, none⟩ 1 c [.int .i64 y] rfl hnews h1 (by decide) (by unfold maxLen; omega) (by omega) hbase _ rfl
    refine ⟨g, cap, w', hr, ?_, Keeps.of_grown h3, h4.imp id fun e => by omega, h5⟩
    rcases h2.2 with ⟨hv, _⟩ | ⟨g', cap', cur, hv, hb', hg, q1, q2, q3, q4⟩
    · cases hv
    · obtain ⟨rfl, rfl⟩ : g = g' ∧ cap = cap' := by injection hv with e1 _ e3; exact ⟨by simpa using e1, e3⟩
      refine .inr ⟨g, cap, cur, by simp, hb', hg, by simpa using q1, q2, .inl (by omega), ?_⟩
      rw [Nat.mul_one] at q4
      simpa using q4
  rcases hP with ⟨rfl, rfl⟩ | ⟨g, cap, cur, rfl, hb', hg, hlc, hm, hc, htk⟩
  · exact owned (World.ownsRow_nil w base 3 1)
  · by_cases hfull : cap = xs.length
    · subst hfull
      have hle : xs.length ≤ cur.size := by
        have := congrArg List.length htk
        rw [List.length_take, List.length_map] at this
        have h2 : cur.toList.length = cur.size := Array.length_toList
        omega
      have holds : ∀ j u, (xs.map (Value.int .i64))[j]? = some u → w.cell? ((⟨g, 0, none⟩ : Addr).add j) = some u := by
        intro j u hu
        have hj : j < xs.length := by
          have := (List.getElem?_eq_some_iff.1 hu).1
          simpa using this
        rw [Addr.add_lit, Nat.zero_add, hg.cell j]
        rw [← htk, List.getElem?_take, if_pos hj, Array.getElem?_toList] at hu
        exact hu
      have hr := run_append_grow (P := P) w t ty 3 i z ht hi hz ⟨g, 0, none⟩ xs.length xs.length (xs.map (Value.int .i64)) (by rw [hsize]; simp) holds ⟨b, 0, none⟩ 1 c [.int .i64 y] (by rw [hsize]; rfl) hnews (by omega) (by omega) (growslice_fits (by omega) (by rw [hby]; omega))
      have hge := grownCap_ge w (xs.length + 1) xs.length 3
      refine ⟨w.heap.size, grownCap w (xs.length + 1) xs.length 3, _, hr, .inr ⟨w.heap.size, grownCap w (xs.length + 1) xs.length 3, _, by simp, hbase, Has.fresh w.drew _, by simpa using hge, grownCap_le_maxLen w _ _ _ (by unfold maxLen; omega), .inl ?_, ?_⟩, ⟨⟨rfl, rfl, rfl⟩, by simp, fun k hk _ => Below.heap_alloc w.drew _ k hk⟩, .inr (Nat.le_refl _), by simp⟩
      · simp only [Array.size_append, List.size_toArray, size_zeroCells, hzs, List.length_map, List.length_cons, List.length_nil]
        omega
      · simp only [Array.toList_append, List.map_append, List.map_cons, List.map_nil, List.length_append, List.length_cons, List.length_nil]
        rw [List.take_append_of_le_length (by simp), List.take_of_length_le (by simp)]
    · have hcs : cur.size = cap := hc.resolve_right hfull
      exact owned ⟨by simp, .inr ⟨g, cap, cur, rfl, hb', hg, hlc, hm, by omega, by rw [Nat.mul_one]; exact htk⟩⟩
/-- At a plain region. -/
theorem wpList_push {ops : Array Oper} {rest : List Oper} {o : Oper} {a : Act} {Q : Exit → Act → World → Prop} (hgd : o.guard = none) (s x : Operand)
    (ho : o.op = .call { callee := .builtin .append, args := #[s, x], argTypes := #[32, 32] }) (hs : a.eval s = v) (hP : Pile base w v xs) {b c : Nat} {y : Int} {fr : Nat × Nat} (hx : a.eval x = .slice (some ⟨b, 0, none⟩) 1 c)
    (hb : Has w b (.cells #[.int .i64 y] 3 fr)) (hl : xs.length ≤ 1000000) (hbase : base ≤ w.heap.size)
    (h : ∀ g cap w', Pile base w' (.slice (some ⟨g, 0, none⟩) (xs.length + 1) cap) (xs ++ [y]) → Keeps (fun i => v.ownBlock = some i) w w' → (v.ownBlock = some g ∨ w.heap.size ≤ g) → g < w'.heap.size → wpList Try.prog ops Q rest (a.put o.dst (.slice (some ⟨g, 0, none⟩) (xs.length + 1) cap)) w') : wpList Try.prog ops Q (o :: rest) a w := by
  obtain ⟨i0, hi, hz0, hz1, hz2⟩ := info_parts Try.infoInt
  obtain ⟨g, cap, w', hr, h2, h3, h4, h5⟩ := run_push (c := c) 32 o.type i0 _ Try.underlying32 hi hz0 hz1 hz2 rfl hP hb hl hbase
  refine wpList_plain hgd fun _ hK => ?_
  unfold Oper.wp execOp
  simp only [ho, resolve, invoke, builtin, Sem.run_bind, Sem.run_pure, Result.andThen_ok, List.map_toArray, List.map_cons, List.map_nil, hs, hx, hr]
  exact hK _ _ (h g cap w' h2 h3 h4 h5)
end

/-- The place of a number; -1: it isn't there. -/
def idxL (xs : List Int) (x : Int) : Int := if x ∈ xs then (xs.idxOf x : Int) else -1
theorem idxL_at {xs : List Int} {x : Int} {k : Nat} (hk : k < xs.length) (hx : xs[k] = x) (hno : x ∉ xs.take k) : idxL xs x = (k : Int) := by
  have hm : x ∈ xs := hx ▸ List.getElem_mem hk
  unfold idxL
  rw [if_pos hm]
  have e : xs = xs.take k ++ x :: xs.drop (k + 1) := by
    rw [← hx, List.getElem_cons_drop, List.take_append_drop]
  have : xs.idxOf x = k := by
    conv => lhs; rw [e]
    rw [List.idxOf_append, if_neg hno, List.idxOf_cons_self]
    simp
    omega
  rw [this]
theorem idxL_no {xs : List Int} {x : Int} (h : x ∉ xs) : idxL xs x = -1 := if_neg h
theorem not_take {xs : List Int} {x : Int} {k : Nat} (h : x ∉ xs.take k) (hk : k < xs.length) (hx : xs[k] ≠ x) : x ∉ xs.take (k + 1) := by
  rw [List.take_add_one, List.getElem?_eq_getElem hk]
  intro hm
  rcases List.mem_append.1 hm with h' | h'
  · exact h h'
  · have e : x = xs[k] := by simpa using h'
    exact hx e.symm
theorem idxL_nonneg {xs : List Int} {x : Int} : decide (0 ≤ idxL xs x) = hasB xs x := by
  unfold idxL hasB
  by_cases h : x ∈ xs
  · rw [if_pos h, decide_eq_true h]
    exact decide_eq_true (by omega)
  · rw [if_neg h, decide_eq_false h]
    rfl

set_option maxHeartbeats 1000000 in
theorem index_any (xs : List Int) (A : Option Addr) (n c : Nat) (x : Int) (w : World) {B : Nat} (hn : n = xs.length) (hl : n ≤ 1000000) (h : Nums w B A .i64 xs) :
    Calls Try.prog 46 #[.slice A n c, .int .i64 x] w fun e w' => e = .returned (.int .i64 (idxL xs x)) ∧ w = w' := by
  have Hn := Lib.hid hn
  have H := Lib.hid h
  clear hn h
  go_enter Try.func46, Try.ntmps46
  go_wp2
  go_loop [8] (fun i => ∃ k : Nat, i = .int .i64 k ∧ k ≤ n ∧ x ∉ xs.take k) (fun i => n - (intOf i).toNat)
  case atStart => exact ⟨0, rfl, Nat.zero_le _, by simp⟩
  case round =>
    obtain ⟨k, rfl, hk, hc⟩ := hrel
    have Hc := Lib.hid hc
    clear hc
    by_cases hlt : (k : Int) < n
    · have hkl : k < xs.length := by rw [← Hn.out]; omega
      obtain ⟨b, off, rfl, hb, hcell⟩ := H.out k hkl
      obtain ⟨y, hy⟩ : ∃ y, y = xs[k] := ⟨_, rfl⟩
      rw [← hy] at hcell
      have Hy := Lib.hid hy
      clear hy hb
      by_cases hxy : y = x
      · have e1 : idxL xs x = (k : Int) := idxL_at hkl (by rw [← Hy.out]; exact hxy) Hc.out
        have E1 := Lib.hid e1
        clear e1
        subst hxy
        go_wp2
        go_ret
        rw [E1.out]
        exact ⟨rfl, rfl⟩
      · have hxy' : (x == y) = false := by simpa using fun e => hxy e.symm
        have e2 := not_take Hc.out hkl (by rw [← Hy.out]; exact hxy)
        have E2 := Lib.hid e2
        clear e2
        go_wp2
        go_round
        case rel => exact ⟨k + 1, by go_num, by omega, E2.out⟩
        case measure => simp [intOf]; omega
    · have e1 : idxL xs x = -1 := by
        have := Hc.out
        rw [List.take_of_length_le (by rw [← Hn.out]; omega)] at this
        exact idxL_no this
      have E1 := Lib.hid e1
      clear e1
      go_wp2
      go_ret
      rw [E1.out]
      exact ⟨rfl, rfl⟩
end Go.Proofs.Ytloncmhcdmjjgaa

namespace Go.Proofs.Ytloncmhcdmjjgaa
open Go Go.RowKit

section
variable {Rep : (Nat → Prop) → World → Nat → List Nd → Prop} {S : Nat → Prop} {w : World} {b : Nat} {l : List Nd}
/-- Node of one that is there, and of one that isn't. -/
theorem nodeYes (M : ForestMore Rep) {id : Int} (h : Rep S w b l) (hg : Good l) (ht : thereB l id = true) :
    Calls Try.prog 21 #[at_ b, .int .i64 id] w fun e w' => ∃ A1 c1, e = .returned (.tuple #[.agg #[.int .i64 (nd l id).kind, .int .i64 (nd l id).parent, .int .i64 (nd l id).host, .int .i64 (nd l id).shadow, .int .i64 (nd l id).mode, .bool (nd l id).slot, .string (nd l id).name, .string (nd l id).want, .slice A1 (nd l id).kids.length c1], .bool true]) ∧ Kids (fun i => w.heap.size ≤ i) w' (.slice A1 (nd l id).kids.length c1) (nd l id).kids ∧ Below w.heap.size w w' := by
  refine (M.node S w b l id h hg).mono ?_
  rintro e w' ⟨d, A, c, rfl, hd, hk, hb⟩
  rw [if_pos ht] at hd
  subst hd
  rw [ht]
  exact ⟨A, c, rfl, hk, hb⟩
theorem nodeNo (M : ForestMore Rep) {id : Int} (h : Rep S w b l) (hg : Good l) (ht : thereB l id = false) :
    Calls Try.prog 21 #[at_ b, .int .i64 id] w fun e w' => ∃ A1 c1, e = .returned (.tuple #[.agg #[.int .i64 0, .int .i64 0, .int .i64 0, .int .i64 0, .int .i64 0, .bool false, .string ⟨#[]⟩, .string ⟨#[]⟩, .slice A1 0 c1], .bool false]) ∧ Kids (fun i => w.heap.size ≤ i) w' (.slice A1 0 c1) [] ∧ Below w.heap.size w w' := by
  refine (M.node S w b l id h hg).mono ?_
  rintro e w' ⟨d, A, c, rfl, hd, hk, hb⟩
  rw [if_neg (by rw [ht]; decide)] at hd
  subst hd
  rw [ht]
  exact ⟨A, c, rfl, hk, hb⟩
theorem app_len {xs ys : List Int} {R : List Int} (h : xs ++ ys = R) : xs.length ≤ R.length := by rw [← h]; simp

set_option maxHeartbeats 4000000 in
set_option maxRecDepth 100000 in
theorem kinUp (O : ForestOk Rep) (M : ForestMore Rep) (id : Int) (h : Rep S w b l) (hg : Good l) :
    Calls Try.prog 45 #[at_ b, .int .i64 id] w fun e w' => ∃ v, e = .returned v ∧ Pile w.heap.size w' v (parL l id) ∧ Below w.heap.size w w' := by
  have H := Lib.hid h
  have Hg := Lib.hid hg
  have hnot : ∀ (x : Bool) (w : World), (Op.unary .not (.bool x)).run Try.prog w = .ok (.bool (!x)) w := fun _ _ => rfl
  have hRl : (parL l id).length ≤ 128 := Nat.le_trans (parL_len hg.tree id) hg.len
  obtain ⟨R, hR⟩ : ∃ R, R = parL l id := ⟨_, rfl⟩
  rw [← hR] at hRl
  rw [← hR]
  have hR0 : ([] : List Int) ++ parL l id = R := by rw [hR]; rfl
  have HR0 := Lib.hid hR0
  clear h hg hR hR0
  go_enter Try.func45, Try.ntmps45
  go_wp2_with fail
  go_loopw [1, 5] (fun a o wr => ∃ (i : Int) (xs : List Int), a = .int .i64 i ∧ xs ++ parL l i = R ∧ Pile w.heap.size wr o xs ∧ Below w.heap.size w wr) (fun a _ _ => (parL l (intOf a)).length)
  case atStart => exact ⟨id, [], rfl, HR0.out, Pile.nil _ _, Below.refl _ _⟩
  case round =>
    obtain ⟨i, xs, rfl, hxs, hP, hb⟩ := hrel
    have hRw : Rep S wr b l := O.keep H.out (Keeps.of_below (F := fun i => w.heap.size ≤ i) hb fun _ _ h => h) fun _ _ hi => Nat.not_le.2 hi
    have Hxs := Lib.hid hxs
    have hxl : xs.length ≤ 1000000 := by have := app_len hxs; omega
    clear HR0 hxs
    obtain ⟨Ao, co, rfl, -⟩ := hP.form
    cases ht : thereB l i with
    | false =>
      have Ht := Lib.hid ht
      have HP := Lib.hid hP
      clear ht hP
      go_wp2_with fail
      refine (nodeNo M hRw Hg.out Ht.out).mono ?_
      rintro e w1 ⟨A1, c1, rfl, -, hb1⟩
      have HF : Hid (Pile w.heap.size (w1.alloc (.cells #[.int .i64 0, .int .i64 0, .int .i64 0, .int .i64 0, .int .i64 0, .bool false, .string ⟨#[]⟩, .string ⟨#[]⟩, .slice A1 0 c1] 39)) (.slice Ao xs.length co) xs ∧ Below w.heap.size w (w1.alloc (.cells #[.int .i64 0, .int .i64 0, .int .i64 0, .int .i64 0, .int .i64 0, .bool false, .string ⟨#[]⟩, .string ⟨#[]⟩, .slice A1 0 c1] 39))) := Lib.hid ⟨(HP.out.below hb1).alloc _, (hb.trans (hb1.mono hb.size)).alloc (Nat.le_trans hb.size hb1.size) _⟩
      clear hb1 HP
      go_wp2
      go_ret
      refine ⟨_, rfl, ?_, HF.out.2⟩
      have := Hxs.out
      rw [parL_no Ht.out, List.append_nil] at this
      rw [← this]
      exact HF.out.1
    | true =>
      have Ht := Lib.hid ht
      have HP := Lib.hid hP
      have hfin : (xs ++ [i]) ++ parL l (nd l i).parent = R := by
        rw [List.append_assoc, List.singleton_append, ← parL_step Hg.out.tree ht]
        exact Hxs.out
      have Hfin := Lib.hid hfin
      clear ht hP hfin Hxs
      go_wp2_with fail
      refine (nodeYes M hRw Hg.out Ht.out).mono ?_
      rintro e w1 ⟨A1, c1, rfl, -, hb1⟩
      obtain ⟨d, hd⟩ : ∃ d, d = nd l i := ⟨_, rfl⟩
      rw [← hd] at Hfin
      rw [← hd]
      have hB1 : Below w.heap.size w w1 := hb.trans (hb1.mono hb.size)
      have hP1 : Pile w.heap.size w1 (.slice Ao xs.length co) xs := HP.out.below hb1
      have hown : ∀ g, (Value.slice Ao xs.length co).ownBlock = some g → w.heap.size ≤ g ∧ g < w1.heap.size := hP1.lt
      have HC : Hid (∀ w2, Keeps (fun i => (Value.slice Ao xs.length co).ownBlock = some i) ((w1.alloc (.cells #[.int .i64 d.kind, .int .i64 d.parent, .int .i64 d.host, .int .i64 d.shadow, .int .i64 d.mode, .bool d.slot, .string d.name, .string d.want, .slice A1 d.kids.length c1] 39)).alloc (.cells #[.int .i64 i] 3)) w2 → w2.cell? ⟨w1.heap.size, 1, none⟩ = some (.int .i64 d.parent)) := Lib.hid fun w2 hk2 => by
        have hh : Has ((w1.alloc (.cells #[.int .i64 d.kind, .int .i64 d.parent, .int .i64 d.host, .int .i64 d.shadow, .int .i64 d.mode, .bool d.slot, .string d.name, .string d.want, .slice A1 d.kids.length c1] 39)).alloc (.cells #[.int .i64 i] 3)) w1.heap.size (.cells #[.int .i64 d.kind, .int .i64 d.parent, .int .i64 d.host, .int .i64 d.shadow, .int .i64 d.mode, .bool d.slot, .string d.name, .string d.want, .slice A1 d.kids.length c1] 39 (0, 0)) := (Has.fresh _ _).more _
        exact (hh.kept hk2 fun e => by have := (hown _ e).2; omega).cell 1
      have HP2 : Hid (Pile w.heap.size ((w1.alloc (.cells #[.int .i64 d.kind, .int .i64 d.parent, .int .i64 d.host, .int .i64 d.shadow, .int .i64 d.mode, .bool d.slot, .string d.name, .string d.want, .slice A1 d.kids.length c1] 39)).alloc (.cells #[.int .i64 i] 3)) (.slice Ao xs.length co) xs) := Lib.hid ((hP1.alloc _).alloc _)
      have HB2 : Hid (Has ((w1.alloc (.cells #[.int .i64 d.kind, .int .i64 d.parent, .int .i64 d.host, .int .i64 d.shadow, .int .i64 d.mode, .bool d.slot, .string d.name, .string d.want, .slice A1 d.kids.length c1] 39)).alloc (.cells #[.int .i64 i] 3)) (w1.heap.size + 1) (.cells #[.int .i64 i] 3 (0, 0))) := Lib.hid (by
        have := Has.fresh (w1.alloc (.cells #[.int .i64 d.kind, .int .i64 d.parent, .int .i64 d.host, .int .i64 d.shadow, .int .i64 d.mode, .bool d.slot, .string d.name, .string d.want, .slice A1 d.kids.length c1] 39)) (.cells #[.int .i64 i] 3)
        simpa using this)
      have HS2 : Hid (w.heap.size ≤ ((w1.alloc (.cells #[.int .i64 d.kind, .int .i64 d.parent, .int .i64 d.host, .int .i64 d.shadow, .int .i64 d.mode, .bool d.slot, .string d.name, .string d.want, .slice A1 d.kids.length c1] 39)).alloc (.cells #[.int .i64 i] 3)).heap.size) := Lib.hid (by have := hB1.size; simp; omega)
      have HE : Hid (∀ w2, Keeps (fun i => (Value.slice Ao xs.length co).ownBlock = some i) ((w1.alloc (.cells #[.int .i64 d.kind, .int .i64 d.parent, .int .i64 d.host, .int .i64 d.shadow, .int .i64 d.mode, .bool d.slot, .string d.name, .string d.want, .slice A1 d.kids.length c1] 39)).alloc (.cells #[.int .i64 i] 3)) w2 → Below w.heap.size w w2) := Lib.hid fun w2 hk2 =>
        below_then ((hB1.alloc hB1.size _).alloc (by have := hB1.size; simp; omega) _) hk2 (by have := hB1.size; simp; omega) fun i hi e => by have := (hown _ e).1; omega
      have Hd := Lib.hid hd
      clear hd hb1 hB1 hP1 hown HP hb hRw
      go_wp2_with (at_builtin; refine wpList_push rfl (.tmp 17) (.tmp 19) rfl rfl HP2.out rfl HB2.out hxl HS2.out ?_; intro g cap w2 hp2 hk2 _ _; have c1 := HC.out w2 hk2)
      go_roundw
      case rel => exact ⟨_, xs ++ [i], rfl, Hfin.out, by simpa using hp2, HE.out w2 hk2⟩
      case measure =>
        simp only [intOf]
        rw [Hd.out, parL_step Hg.out.tree Ht.out]
        simp
end
end Go.Proofs.Ytloncmhcdmjjgaa

namespace Go.Proofs.Ytloncmhcdmjjgaa
open Go Go.RowKit

theorem lastL_at {xs : List Int} {m : Nat} (h : xs.length = m + 1) : lastL xs = xs[m]'(by omega) := by
  unfold lastL
  have e : xs.length - 1 = m := by omega
  rw [List.getLastD_eq_getLast?, List.getLast?_eq_getElem?, e, List.getElem?_eq_getElem (by omega)]
  rfl
/-- The children among which a node stands. -/
def rowL (l : List Nd) (id : Int) : List Int := if thereB l id = true then if thereB l (nd l id).parent = true then (nd l (nd l id).parent).kids else [] else []
/-- The one behind. -/
def nextL (xs : List Int) (x : Int) : Int := if idxL xs x < 0 then 0 else xs.getD ((idxL xs x).toNat + 1) 0
theorem few_nd {l : List Nd} {K : Nat} (h : Few K l) (i : Int) : (nd l i).kids.length ≤ K := by
  unfold nd
  rw [List.getD_eq_getElem?_getD]
  cases e : l[(i - 1).toNat]? with
  | none => exact Nat.zero_le _
  | some d => exact h d (List.mem_of_getElem? e)
theorem rowL_len {l : List Nd} (h : Few 200 l) (i : Int) : (rowL l i).length ≤ 200 := by
  unfold rowL
  split
  · split
    · exact few_nd h _
    · exact Nat.zero_le _
  · exact Nat.zero_le _
theorem idxL_range (xs : List Int) (x : Int) : idxL xs x = -1 ∨ ∃ k : Nat, idxL xs x = (k : Int) ∧ k < xs.length := by
  unfold idxL
  by_cases h : x ∈ xs
  · rw [if_pos h]
    exact .inr ⟨_, rfl, List.idxOf_lt_length_of_mem h⟩
  · rw [if_neg h]
    exact .inl rfl

section
variable {Rep : (Nat → Prop) → World → Nat → List Nd → Prop} {S : Nat → Prop} {w : World} {b : Nat} {l : List Nd}
set_option maxHeartbeats 1000000 in
theorem kinRoot (O : ForestOk Rep) (M : ForestMore Rep) (id : Int) (h : Rep S w b l) (hg : Good l) :
    Calls Try.prog 22 #[at_ b, .int .i64 id] w fun e w' => e = .returned (.int .i64 (rootL l id)) ∧ Below w.heap.size w w' := by
  have C := Lib.hid (kinUp O M id h hg)
  have hRl : (parL l id).length ≤ 128 := Nat.le_trans (parL_len hg.tree id) hg.len
  have hroot : rootL l id = lastL (parL l id) := rfl
  rw [hroot]
  obtain ⟨R, hR⟩ : ∃ R, R = parL l id := ⟨_, rfl⟩
  rw [← hR] at hRl C
  rw [← hR]
  clear h hg hR hroot
  go_enter Try.func22, Try.ntmps22
  go_wp2_with fail
  refine C.out.mono ?_
  rintro e w1 ⟨v, rfl, hP, hb⟩
  obtain ⟨A, c, rfl, hL⟩ := hP.form
  clear C hP
  cases hm : R.length with
  | zero =>
    have e0 : lastL R = 0 := by rw [List.length_eq_zero_iff.1 hm]; rfl
    have E0 := Lib.hid e0
    have Hm := Lib.hid hm
    clear e0 hm
    go_wp2
    go_ret
    rw [E0.out]
    exact ⟨rfl, hb⟩
  | succ m =>
    have e0 := lastL_at hm
    obtain ⟨b', off, rfl, -, hc⟩ := hL.nums m (by omega)
    obtain ⟨y, hy⟩ : ∃ y, y = R[m]'(by omega) := ⟨_, rfl⟩
    rw [← hy] at hc e0
    have E0 := Lib.hid e0
    clear e0
    have hm' : m ≤ 128 := by omega
    have z1 : (((m : Int) + 1) == 0) = false := by rw [beq_eq_false_iff_ne]; omega
    clear hm hy hL hRl
    go_wp2
    go_ret
    rw [E0.out]
    exact ⟨rfl, hb⟩
set_option maxHeartbeats 2000000 in
theorem kinRow (O : ForestOk Rep) (M : ForestMore Rep) (id : Int) (h : Rep S w b l) (hg : Good l) :
    Calls Try.prog 47 #[at_ b, .int .i64 id] w fun e w' => ∃ v, e = .returned v ∧ Pile w.heap.size w' v (rowL l id) ∧ Below w.heap.size w w' := by
  have H := Lib.hid h
  have Hg := Lib.hid hg
  obtain ⟨R, hR⟩ : ∃ R, R = rowL l id := ⟨_, rfl⟩
  rw [← hR]
  unfold rowL at hR
  cases ht : thereB l id with
  | false =>
    rw [ht, if_neg (by decide)] at hR
    subst hR
    have Ht := Lib.hid ht
    clear ht h hg
    go_enter Try.func47, Try.ntmps47
    go_wp2_with fail
    refine (nodeNo M H.out Hg.out Ht.out).mono ?_
    rintro e w1 ⟨A1, c1, rfl, -, hb1⟩
    have hb2 : Below w.heap.size w (w1.alloc (.cells #[.int .i64 0, .int .i64 0, .int .i64 0, .int .i64 0, .int .i64 0, .bool false, .string ⟨#[]⟩, .string ⟨#[]⟩, .slice A1 0 c1] 39)) := hb1.alloc hb1.size _
    have hR2 := O.keep H.out (Keeps.of_below (F := fun i => w.heap.size ≤ i) hb2 fun _ _ h => h) fun _ _ hi => Nat.not_le.2 hi
    have HR2 := Lib.hid hR2
    have Hb2 := Lib.hid hb2
    clear hR2 hb1 hb2
    go_wp2_with fail
    refine (nodeNo M HR2.out Hg.out (there_zero l)).mono ?_
    rintro e w3 ⟨A3, c3, rfl, hk3, hb3⟩
    have hs3 := Hb2.out.size
    have HF : Hid (Pile w.heap.size (w3.alloc (.cells #[.int .i64 0, .int .i64 0, .int .i64 0, .int .i64 0, .int .i64 0, .bool false, .string ⟨#[]⟩, .string ⟨#[]⟩, .slice A3 0 c3] 39)) (.slice A3 0 c3) [] ∧ Below w.heap.size w (w3.alloc (.cells #[.int .i64 0, .int .i64 0, .int .i64 0, .int .i64 0, .int .i64 0, .bool false, .string ⟨#[]⟩, .string ⟨#[]⟩, .slice A3 0 c3] 39))) := Lib.hid ⟨(Pile.of_kids hk3 fun g hg _ => Nat.le_trans hs3 hg).alloc _, (Hb2.out.trans (hb3.mono hs3)).alloc (Nat.le_trans hs3 hb3.size) _⟩
    clear hb3 hk3 HR2 Hb2 hs3
    go_wp2
    go_ret
    exact ⟨_, rfl, HF.out.1, HF.out.2⟩
  | true =>
    rw [ht, if_pos rfl] at hR
    have Ht := Lib.hid ht
    clear ht h hg
    go_enter Try.func47, Try.ntmps47
    go_wp2_with fail
    refine (nodeYes M H.out Hg.out Ht.out).mono ?_
    rintro e w1 ⟨A1, c1, rfl, -, hb1⟩
    obtain ⟨d, hd⟩ : ∃ d, d = nd l id := ⟨_, rfl⟩
    rw [← hd] at hR
    rw [← hd]
    have hb2 : Below w.heap.size w (w1.alloc (.cells #[.int .i64 d.kind, .int .i64 d.parent, .int .i64 d.host, .int .i64 d.shadow, .int .i64 d.mode, .bool d.slot, .string d.name, .string d.want, .slice A1 d.kids.length c1] 39)) := hb1.alloc hb1.size _
    have hR2 := O.keep H.out (Keeps.of_below (F := fun i => w.heap.size ≤ i) hb2 fun _ _ h => h) fun _ _ hi => Nat.not_le.2 hi
    have HR2 := Lib.hid hR2
    have Hb2 := Lib.hid hb2
    clear hR2 hb1 hb2 hd
    cases hp : thereB l d.parent with
    | false =>
      rw [hp, if_neg (by decide)] at hR
      subst hR
      have Hp := Lib.hid hp
      clear hp
      go_wp2_with fail
      refine (nodeNo M HR2.out Hg.out Hp.out).mono ?_
      rintro e w3 ⟨A3, c3, rfl, hk3, hb3⟩
      have hs3 := Hb2.out.size
      have HF : Hid (Pile w.heap.size (w3.alloc (.cells #[.int .i64 0, .int .i64 0, .int .i64 0, .int .i64 0, .int .i64 0, .bool false, .string ⟨#[]⟩, .string ⟨#[]⟩, .slice A3 0 c3] 39)) (.slice A3 0 c3) [] ∧ Below w.heap.size w (w3.alloc (.cells #[.int .i64 0, .int .i64 0, .int .i64 0, .int .i64 0, .int .i64 0, .bool false, .string ⟨#[]⟩, .string ⟨#[]⟩, .slice A3 0 c3] 39))) := Lib.hid ⟨(Pile.of_kids hk3 fun g hg _ => Nat.le_trans hs3 hg).alloc _, (Hb2.out.trans (hb3.mono hs3)).alloc (Nat.le_trans hs3 hb3.size) _⟩
      clear hb3 hk3 HR2 Hb2 hs3
      go_wp2
      go_ret
      exact ⟨_, rfl, HF.out.1, HF.out.2⟩
    | true =>
      rw [hp, if_pos rfl] at hR
      have Hp := Lib.hid hp
      clear hp
      go_wp2_with fail
      refine (nodeYes M HR2.out Hg.out Hp.out).mono ?_
      rintro e w3 ⟨A3, c3, rfl, hk3, hb3⟩
      obtain ⟨d3, hd3⟩ : ∃ d3, d3 = nd l d.parent := ⟨_, rfl⟩
      rw [← hd3] at hR hk3
      rw [← hd3]
      subst hR
      have hs3 := Hb2.out.size
      have HF : Hid (Pile w.heap.size (w3.alloc (.cells #[.int .i64 d3.kind, .int .i64 d3.parent, .int .i64 d3.host, .int .i64 d3.shadow, .int .i64 d3.mode, .bool d3.slot, .string d3.name, .string d3.want, .slice A3 d3.kids.length c3] 39)) (.slice A3 d3.kids.length c3) d3.kids ∧ Below w.heap.size w (w3.alloc (.cells #[.int .i64 d3.kind, .int .i64 d3.parent, .int .i64 d3.host, .int .i64 d3.shadow, .int .i64 d3.mode, .bool d3.slot, .string d3.name, .string d3.want, .slice A3 d3.kids.length c3] 39))) := Lib.hid ⟨(Pile.of_kids hk3 fun g hg _ => Nat.le_trans hs3 hg).alloc _, (Hb2.out.trans (hb3.mono hs3)).alloc (Nat.le_trans hs3 hb3.size) _⟩
      clear hb3 hk3 HR2 Hb2 hs3 hd3
      go_wp2
      go_ret
      exact ⟨_, rfl, HF.out.1, HF.out.2⟩
theorem kinIndex (O : ForestOk Rep) (M : ForestMore Rep) (id : Int) (h : Rep S w b l) (hg : Good l) :
    Calls Try.prog 23 #[at_ b, .int .i64 id] w fun e w' => e = .returned (.int .i64 (idxL (rowL l id) id)) ∧ Below w.heap.size w w' := by
  have C := Lib.hid (kinRow O M id h hg)
  have hRl : (rowL l id).length ≤ 1000000 := Nat.le_trans (rowL_len hg.few id) (by decide)
  obtain ⟨R, hR⟩ : ∃ R, R = rowL l id := ⟨_, rfl⟩
  rw [← hR] at hRl C
  rw [← hR]
  clear h hg hR
  go_enter Try.func23, Try.ntmps23
  go_wp2_with fail
  refine C.out.mono ?_
  rintro e w1 ⟨v, rfl, hP, hb⟩
  obtain ⟨A, c, rfl, hL⟩ := hP.form
  clear C hP
  go_wp2_with fail
  refine (index_any R A R.length c id w1 rfl hRl hL.nums).mono ?_
  rintro e w2 ⟨rfl, rfl⟩
  go_wp2
  go_ret
  exact ⟨rfl, hb⟩
end
end Go.Proofs.Ytloncmhcdmjjgaa

namespace Go.Proofs.Ytloncmhcdmjjgaa
open Go Go.RowKit

set_option maxHeartbeats 4000000 in
set_option maxRecDepth 100000 in
theorem refNodes (A : Option Addr) (n c : Nat) (xs : List Ac) (w : World) (hn : xs.length = n) (h : Acts w A xs) (hs : Small xs) :
    Calls Try.prog 9 #[.slice A n c] w fun e w' => ∃ A' c', e = .returned (.slice A' (forest xs).length c') ∧ Nodes (fun i => w.heap.size ≤ i) w' 0 A' c' (forest xs) ∧ Below w.heap.size w w' := by
  have H := Lib.hid h
  have Hn := Lib.hid hn
  have Hs := Lib.hid hs
  have hnb : n ≤ 300 := by rw [← hn]; exact hs.1
  clear h hn hs
  go_enter Try.func9, Try.ntmps9
  go_wp2_with fail
  go_loopw [3, 4] (fun v i wr => ∃ (j : Nat) (A' : Option Addr) (c' : Nat), v = .slice A' (forest (xs.take j)).length c' ∧ i = .int .i64 j ∧ j ≤ n ∧ Nodes (fun i => w.heap.size ≤ i) wr 0 A' c' (forest (xs.take j)) ∧ Below w.heap.size w wr) (fun _ i _ => n - (intOf i).toNat)
  case atStart => exact ⟨0, none, 0, rfl, rfl, Nat.zero_le _, Nodes.nil _ _, Below.refl _ _⟩
  case round =>
    obtain ⟨j, A', c', rfl, rfl, hj, hN, hb⟩ := hrel
    by_cases hjn : (j : Int) < n
    · have hjx : j < xs.length := by rw [Hn.out]; omega
      obtain ⟨b', off, A1, c1, A2, c2, rfl, hB, hc, hL, hA⟩ := H.out j hjx
      have hsn : forest (xs.take (j + 1)) = actL (forest (xs.take j)) xs[j] := by
        rw [List.take_add_one, List.getElem?_eq_getElem hjx]
        exact forest_snoc _ _
      have hxl : xs[j].l.length ≤ 200 := Hs.out.2 _ (List.getElem_mem hjx)
      have hg : Good (forest (xs.take j)) := good_take Hs.out j
      obtain ⟨l, hl⟩ : ∃ l, l = forest (xs.take j) := ⟨_, rfl⟩
      rw [← hl] at hsn hg hN
      rw [← hl]
      obtain ⟨x, hx⟩ : ∃ x, x = xs[j] := ⟨_, rfl⟩
      rw [← hx] at hc hA hsn hxl
      clear hl hx hL
      have hc' : ∀ f, f < 14 → wr.cell? ⟨b', off + j * 14 + f, none⟩ = (actCells x (.slice A1 x.n.kids.length c1) (.slice A2 x.l.length c2))[f]? := fun f hf => by
        rw [hb.cell (p := ⟨b', off + j * 14 + f, none⟩) hB, Nat.add_assoc]
        exact hc f hf
      have g0 : wr.cell? ⟨b', off + j * 14, none⟩ = some (.int .i64 x.kind) := hc' 0 (by omega)
      have g1 : wr.cell? ⟨b', off + j * 14 + 1, none⟩ = some (.int .i64 x.a) := hc' 1 (by omega)
      have g2 : wr.cell? ⟨b', off + j * 14 + 2, none⟩ = some (.int .i64 x.b) := hc' 2 (by omega)
      have g3 : wr.cell? ⟨b', off + j * 14 + 3, none⟩ = some (.string x.s) := hc' 3 (by omega)
      have g4 : wr.cell? ⟨b', off + j * 14 + 4, none⟩ = some (.int .i64 x.n.kind) := hc' 4 (by omega)
      have g5 : wr.cell? ⟨b', off + j * 14 + 5, none⟩ = some (.int .i64 x.n.parent) := hc' 5 (by omega)
      have g6 : wr.cell? ⟨b', off + j * 14 + 6, none⟩ = some (.int .i64 x.n.host) := hc' 6 (by omega)
      have g7 : wr.cell? ⟨b', off + j * 14 + 7, none⟩ = some (.int .i64 x.n.shadow) := hc' 7 (by omega)
      have g8 : wr.cell? ⟨b', off + j * 14 + 8, none⟩ = some (.int .i64 x.n.mode) := hc' 8 (by omega)
      have g9 : wr.cell? ⟨b', off + j * 14 + 9, none⟩ = some (.bool x.n.slot) := hc' 9 (by omega)
      have g10 : wr.cell? ⟨b', off + j * 14 + 10, none⟩ = some (.string x.n.name) := hc' 10 (by omega)
      have g11 : wr.cell? ⟨b', off + j * 14 + 11, none⟩ = some (.string x.n.want) := hc' 11 (by omega)
      have g12 : wr.cell? ⟨b', off + j * 14 + 12, none⟩ = some (.slice A1 x.n.kids.length c1) := hc' 12 (by omega)
      have g13 : wr.cell? ⟨b', off + j * 14 + 13, none⟩ = some (.slice A2 x.l.length c2) := hc' 13 (by omega)
      have C := do_any l A' c' x (.slice A1 x.n.kids.length c1) A2 c2 wr (Nat.le_trans hg.len (by decide)) (fun d hd => Nat.le_trans (hg.few d hd) (by decide)) (G := fun i => w.heap.size ≤ i) (fun i hi => Nat.le_trans hb.size hi) (Nat.le_trans hxl (by decide)) hN (hA.below hb)
      unfold actVal at C
      have HC := Lib.hid C
      have Hsn := Lib.hid hsn
      clear C hc hc' hsn hA hN hg
      go_wp2_with fail
      refine HC.out.mono ?_
      rintro e w2 ⟨A3, c3, rfl, hN3, hb3⟩
      go_wp2
      go_roundw
      case rel => exact ⟨j + 1, A3, c3, by rw [Hsn.out], by go_num, by omega, by rw [Hsn.out]; exact hN3, hb.trans (hb3.mono hb.size)⟩
      case measure => simp [intOf]; omega
    · rw [List.take_of_length_le (by rw [Hn.out]; omega)] at hN
      have e0 : (forest (xs.take j)).length = (forest xs).length := by rw [List.take_of_length_le (by rw [Hn.out]; omega)]
      rw [e0]
      clear e0
      go_wp2
      go_ret
      exact ⟨A', c', rfl, hN, hb⟩
section
variable {G : Nat → Prop}
set_option maxHeartbeats 4000000 in
set_option maxRecDepth 100000 in
theorem refUp (l : List Nd) (A : Option Addr) (c : Nat) (id : Int) (w : World) (hl : l.length ≤ 1000) (h : Nodes G w 0 A c l) :
    Calls Try.prog 59 #[.slice A l.length c, .int .i64 id] w fun e w' => ∃ v, e = .returned v ∧ Pile w.heap.size w' v (parL l id) ∧ Below w.heap.size w w' := by
  have H := Lib.hid h
  obtain ⟨R, hR⟩ : ∃ R, R = parL l id := ⟨_, rfl⟩
  rw [← hR]
  have hR0 : ([] : List Int) ++ parN l (l.length + 1 - 0) id = R := by rw [hR]; rfl
  have HR0 := Lib.hid hR0
  clear h hR hR0
  go_enter Try.func59, Try.ntmps59
  go_wp2_with fail
  go_loopw [1, 5, 6] (fun a o i wr => ∃ (j : Nat) (id : Int) (xs : List Int), a = .int .i64 id ∧ i = .int .i64 j ∧ j ≤ l.length + 1 ∧ xs.length = j ∧ xs ++ parN l (l.length + 1 - j) id = R ∧ Pile w.heap.size wr o xs ∧ Below w.heap.size w wr) (fun _ _ i _ => l.length + 1 - (intOf i).toNat)
  case atStart => exact ⟨0, id, [], rfl, rfl, Nat.zero_le _, rfl, HR0.out, Pile.nil _ _, Below.refl _ _⟩
  case round =>
    obtain ⟨j, id, xs, rfl, rfl, hj, hxl, hxs, hP, hb⟩ := hrel
    have Hxs := Lib.hid hxs
    have Hxl := Lib.hid hxl
    clear HR0 hxs hxl
    obtain ⟨Ao, co, rfl, -⟩ := hP.form
    by_cases hjl : (j : Int) ≤ l.length
    · cases hth : thereB l id with
      | true =>
        have hgo : parN l (l.length + 1 - j) id = id :: parN l (l.length + 1 - (j + 1)) (nd l id).parent := by
          rw [show l.length + 1 - j = (l.length + 1 - (j + 1)) + 1 by omega]
          exact par_go hth
        obtain ⟨m, rfl, hml⟩ := there_at hth
        obtain ⟨g, k, rfl, -, hgw, -, -, -, c1, -⟩ := H.out.nine hml
        have hfin : (xs ++ [(m : Int) + 1]) ++ parN l (l.length + 1 - (j + 1)) (nd l ((m : Int) + 1)).parent = R := by
          rw [List.append_assoc, List.singleton_append, ← hgo]
          exact Hxs.out
        obtain ⟨pa, hpa⟩ : ∃ pa, pa = (nd l ((m : Int) + 1)).parent := ⟨_, rfl⟩
        rw [← hpa] at c1 hfin
        have Hfin := Lib.hid hfin
        have hxb : xs.length ≤ 1000000 := by rw [Hxl.out]; omega
        have Hth := Lib.hid hth
        have hown := hP.lt
        have HP2 : Hid (Pile w.heap.size (wr.alloc (.cells #[.int .i64 ((m : Int) + 1)] 3)) (.slice Ao xs.length co) xs) := Lib.hid (hP.alloc _)
        have HB2 : Hid (Has (wr.alloc (.cells #[.int .i64 ((m : Int) + 1)] 3)) wr.heap.size (.cells #[.int .i64 ((m : Int) + 1)] 3 (0, 0))) := Lib.hid (Has.fresh _ _)
        have HS2 : Hid (w.heap.size ≤ (wr.alloc (.cells #[.int .i64 ((m : Int) + 1)] 3)).heap.size) := Lib.hid (by have := hb.size; simp; omega)
        have HE : Hid (∀ w2, Keeps (fun i => (Value.slice Ao xs.length co).ownBlock = some i) (wr.alloc (.cells #[.int .i64 ((m : Int) + 1)] 3)) w2 → Below w.heap.size w w2) := Lib.hid fun w2 hk2 =>
          below_then (hb.alloc hb.size _) hk2 (by have := hb.size; simp; omega) fun i hi e => by have := (hown _ e).1; omega
        have C1 := Lib.hid c1
        clear hgo hth hpa c1 hfin Hxs hP hown hb
        go_wp2_with fail
        refine (there_any l _ c _ wr).mono ?_
        rintro e w1 ⟨rfl, rfl⟩
        rw [Hth.out]
        go_wp2_with (at_builtin; refine wpList_push rfl (.tmp 18) (.tmp 20) rfl rfl HP2.out rfl HB2.out hxb HS2.out ?_; intro g2 cap w2 hp2 hk2 _ _; have hb2 := HE.out w2 hk2; have d1 := (hb2.cell (p := ⟨g, m * 9 + 1, none⟩) hgw).trans C1.out)
        go_roundw
        case rel => exact ⟨j + 1, _, xs ++ [(m : Int) + 1], rfl, by go_num, by omega, by simp [Hxl.out], Hfin.out, by simpa using hp2, hb2⟩
        case measure => simp [intOf]; omega
      | false =>
        go_wp2_with fail
        refine (there_any l A c id wr).mono ?_
        rintro e w1 ⟨rfl, rfl⟩
        rw [hth]
        go_wp2
        go_ret
        refine ⟨_, rfl, ?_, hb⟩
        have := Hxs.out
        rw [par_no hth, List.append_nil] at this
        rw [← this]
        exact hP
    · go_wp2
      go_ret
      refine ⟨_, rfl, ?_, hb⟩
      have := Hxs.out
      rw [show l.length + 1 - j = 0 by omega] at this
      rw [← this, parN, List.append_nil]
      exact hP
set_option maxHeartbeats 1000000 in
theorem refRoot (l : List Nd) (A : Option Addr) (c : Nat) (id : Int) (w : World) (hg : Good l) (h : Nodes G w 0 A c l) :
    Calls Try.prog 35 #[.slice A l.length c, .int .i64 id] w fun e w' => e = .returned (.int .i64 (rootL l id)) ∧ Below w.heap.size w w' := by
  have C := Lib.hid (refUp l A c id w (Nat.le_trans hg.len (by decide)) h)
  have hRl : (parL l id).length ≤ 128 := Nat.le_trans (parL_len hg.tree id) hg.len
  have hroot : rootL l id = lastL (parL l id) := rfl
  rw [hroot]
  obtain ⟨R, hR⟩ : ∃ R, R = parL l id := ⟨_, rfl⟩
  rw [← hR] at hRl C
  rw [← hR]
  clear h hg hR hroot
  go_enter Try.func35, Try.ntmps35
  go_wp2_with fail
  refine C.out.mono ?_
  rintro e w1 ⟨v, rfl, hP, hb⟩
  obtain ⟨A, c, rfl, hL⟩ := hP.form
  clear C hP
  cases hm : R.length with
  | zero =>
    have e0 : lastL R = 0 := by rw [List.length_eq_zero_iff.1 hm]; rfl
    have E0 := Lib.hid e0
    have Hm := Lib.hid hm
    clear e0 hm
    go_wp2
    go_ret
    rw [E0.out]
    exact ⟨rfl, hb⟩
  | succ m =>
    have e0 := lastL_at hm
    obtain ⟨b', off, rfl, -, hc⟩ := hL.nums m (by omega)
    obtain ⟨y, hy⟩ : ∃ y, y = R[m]'(by omega) := ⟨_, rfl⟩
    rw [← hy] at hc e0
    have E0 := Lib.hid e0
    clear e0
    have hm' : m ≤ 128 := by omega
    have z1 : (((m : Int) + 1) == 0) = false := by rw [beq_eq_false_iff_ne]; omega
    clear hm hy hL hRl
    go_wp2
    go_ret
    rw [E0.out]
    exact ⟨rfl, hb⟩
end
end Go.Proofs.Ytloncmhcdmjjgaa

namespace Go.Proofs.Ytloncmhcdmjjgaa
open Go Go.RowKit

/-- How many of a list are of a kind. -/
def cntL (l : List Nd) (kind : Int) (ks : List Int) : Nat := (ks.filter fun k => decide ((nd l k).kind = kind)).length
def kidsL (l : List Nd) (id : Int) : List Int := if thereB l id = true then (nd l id).kids else []
theorem cntL_step {l : List Nd} {kind : Int} {ks : List Int} {j : Nat} (hj : j < ks.length) : cntL l kind (ks.take (j + 1)) = cntL l kind (ks.take j) + if (nd l ks[j]).kind = kind then 1 else 0 := by
  unfold cntL
  rw [List.take_add_one, List.getElem?_eq_getElem hj, Option.toList_some, List.filter_append, List.length_append]
  congr 1
  by_cases h : (nd l ks[j]).kind = kind
  · rw [if_pos h, List.filter_cons_of_pos (by simpa using h)]
    rfl
  · rw [if_neg h, List.filter_cons_of_neg (by simpa using h)]
    rfl
theorem cntL_le (l : List Nd) (kind : Int) (ks : List Int) : cntL l kind ks ≤ ks.length := List.length_filter_le _ _

section
variable {Rep : (Nat → Prop) → World → Nat → List Nd → Prop} {S : Nat → Prop} {w : World} {b : Nat} {l : List Nd}
theorem ForestOk.since (O : ForestOk Rep) {w' : World} (h : Rep S w b l) (hb : Below w.heap.size w w') : Rep S w' b l := O.keep h (Keeps.of_below (F := fun i => w.heap.size ≤ i) hb fun _ _ h => h) fun _ _ hi => Nat.not_le.2 hi
end
end Go.Proofs.Ytloncmhcdmjjgaa

namespace Go.Proofs.Ytloncmhcdmjjgaa
open Go Go.RowKit

/-- How many nodes ahead of number j have that parent and that kind. -/
def cntP (l : List Nd) (id kind : Int) (j : Nat) : Nat := ((List.range j).filter fun i : Nat => decide ((nd l ((i : Int) + 1)).parent = id ∧ (nd l ((i : Int) + 1)).kind = kind)).length
theorem cntP_step {l : List Nd} {id kind : Int} {j : Nat} : cntP l id kind (j + 1) = cntP l id kind j + if (nd l ((j : Int) + 1)).parent = id ∧ (nd l ((j : Int) + 1)).kind = kind then 1 else 0 := by
  unfold cntP
  rw [List.range_succ, List.filter_append, List.length_append]
  congr 1
  by_cases h : (nd l ((j : Int) + 1)).parent = id ∧ (nd l ((j : Int) + 1)).kind = kind
  · rw [if_pos h, List.filter_cons_of_pos (by simpa using h)]
    rfl
  · rw [if_neg h, List.filter_cons_of_neg (by simpa using h)]
    rfl
theorem cntP_le (l : List Nd) (id kind : Int) (j : Nat) : cntP l id kind j ≤ j := by
  have := List.length_filter_le (fun i : Nat => decide ((nd l ((i : Int) + 1)).parent = id ∧ (nd l ((i : Int) + 1)).kind = kind)) (List.range j)
  rw [List.length_range] at this
  exact this
/-- Those of a parent are its children. -/
theorem cntP_all {l : List Nd} (T : Tree l) {id kind : Int} (ht : thereB l id = true) : cntP l id kind l.length = cntL l kind (kidsL l id) := by
  unfold kidsL
  rw [if_pos ht]
  unfold cntP cntL
  have hp : List.Perm (((List.range l.length).filter fun i : Nat => decide ((nd l ((i : Int) + 1)).parent = id ∧ (nd l ((i : Int) + 1)).kind = kind)).map fun i : Nat => (i : Int) + 1) ((nd l id).kids.filter fun k => decide ((nd l k).kind = kind)) := by
    refine (List.perm_ext_iff_of_nodup ?_ ?_).2 fun k => ?_
    · exact List.pairwise_map.2 ((List.nodup_range.filter _).imp fun h e => h (by omega))
    · exact (T.once id ht).filter _
    · rw [List.mem_map, List.mem_filter]
      constructor
      · rintro ⟨i, hi, rfl⟩
        rw [List.mem_filter, List.mem_range] at hi
        obtain ⟨hlt, hq⟩ := hi
        obtain ⟨h1, h2⟩ := of_decide_eq_true hq
        have hth : thereB l ((i : Int) + 1) = true := thereB_iff.2 ⟨by omega, by omega⟩
        have hne : (nd l ((i : Int) + 1)).parent ≠ 0 := by rw [h1]; exact there_pos ht
        have := (T.par _ hth hne).2
        rw [h1] at this
        exact ⟨this, decide_eq_true h2⟩
      · rintro ⟨hk, hq⟩
        obtain ⟨h1, h2⟩ := T.kid id ht k hk
        obtain ⟨m, rfl, hm⟩ := there_at h1
        exact ⟨m, List.mem_filter.2 ⟨List.mem_range.2 hm, decide_eq_true ⟨h2, of_decide_eq_true hq⟩⟩, rfl⟩
  have := hp.length_eq
  rw [List.length_map] at this
  exact this

section
variable {G : Nat → Prop} {l : List Nd} {A : Option Addr} {c : Nat} {w : World}
/-- The children of a node, as the list holds them. -/
theorem Nodes.row (h : Nodes G w 0 A c l) {m : Nat} (hm : m < l.length) : ∃ g A1 c1, A = some ⟨g, 0, none⟩ ∧ g < w.heap.size ∧ w.cell? ⟨g, m * 9 + 8, none⟩ = some (.slice A1 (nd l ((m : Int) + 1)).kids.length c1) ∧ ListIn w A1 c1 (nd l ((m : Int) + 1)).kids ∧ w.cell? ⟨g, m * 9 + 1, none⟩ = some (.int .i64 (nd l ((m : Int) + 1)).parent) ∧ w.cell? ⟨g, m * 9, none⟩ = some (.int .i64 (nd l ((m : Int) + 1)).kind) := by
  obtain ⟨g, k, rfl, -, hg, hk, -, c0, c1, -, -, -, -, -, -, c8⟩ := h.nine hm
  obtain ⟨A1, n1, rfl, hL⟩ := (Pile.of_kids (base := 0) hk fun _ _ _ => Nat.zero_le _).form
  exact ⟨g, A1, n1, rfl, hg, c8, hL, c1, c0⟩
theorem rowL_no {id : Int} (h : thereB l id = false) : rowL l id = [] := by unfold rowL; rw [if_neg (by rw [h]; decide)]
end
end Go.Proofs.Ytloncmhcdmjjgaa

namespace Go.Proofs.Ytloncmhcdmjjgaa
open Go Go.RowKit

/-- A forest and a list of the same nodes. -/
structure Two (Rep : (Nat → Prop) → World → Nat → List Nd → Prop) (w : World) (b : Nat) (A : Option Addr) (c : Nat) (l : List Nd) (v : World) : Prop where
  rep : Rep (fun _ => True) v b l
  nodes : Nodes (fun _ => True) v 0 A c l
  below : Below w.heap.size w v
section
variable {Rep : (Nat → Prop) → World → Nat → List Nd → Prop} {w v v' : World} {b : Nat} {A : Option Addr} {c : Nat} {l : List Nd}
theorem Two.next (O : ForestOk Rep) (h : Two Rep w b A c l v) (hb : Below v.heap.size v v') : Two Rep w b A c l v' := ⟨O.since h.rep hb, h.nodes.below hb, h.below.trans (hb.mono h.below.size)⟩
theorem sameInts_self (xs : List Int) : sameInts xs xs = true := decide_eq_true rfl
/-- A forest, and what is below it. -/
structure One (Rep : (Nat → Prop) → World → Nat → List Nd → Prop) (w : World) (b : Nat) (l : List Nd) (v : World) : Prop where
  rep : Rep (fun _ => True) v b l
  below : Below w.heap.size w v
theorem One.next (O : ForestOk Rep) {w v v' : World} {b : Nat} {l : List Nd} (h : One Rep w b l v) (hb : Below v.heap.size v v') : One Rep w b l v' := ⟨O.since h.rep hb, h.below.trans (hb.mono h.below.size)⟩
end
end Go.Proofs.Ytloncmhcdmjjgaa

namespace Go.Proofs.Ytloncmhcdmjjgaa
open Go Go.RowKit

section
variable {Rep : (Nat → Prop) → World → Nat → List Nd → Prop}
/-- A forest in blocks that S names, all of them made since w. -/
structure Live (Rep : (Nat → Prop) → World → Nat → List Nd → Prop) (w : World) (S : Nat → Prop) (b : Nat) (l : List Nd) (v : World) : Prop where
  rep : Rep S v b l
  low : ∀ i, S i → w.heap.size ≤ i ∧ i < v.heap.size
  below : Below w.heap.size w v
section
variable {w v v' : World} {S : Nat → Prop} {b : Nat} {l : List Nd}
theorem Live.next (O : ForestOk Rep) (h : Live Rep w S b l v) (hb : Below v.heap.size v v') : Live Rep w S b l v' :=
  ⟨O.since h.rep hb, fun i hi => ⟨(h.low i hi).1, Nat.lt_of_lt_of_le (h.low i hi).2 hb.size⟩, h.below.trans (hb.mono h.below.size)⟩
theorem Live.keep (O : ForestOk Rep) {F : Nat → Prop} (h : Live Rep w S b l v) (k : Keeps F v v') (hF : ∀ i, S i → ¬ F i) (hw : ∀ i, i < w.heap.size → ¬ F i) : Live Rep w S b l v' :=
  ⟨O.keep h.rep k fun i hi _ => hF i hi, fun i hi => ⟨(h.low i hi).1, Nat.lt_of_lt_of_le (h.low i hi).2 k.grows⟩, below_then h.below k h.below.size hw⟩
theorem keepsBox (w : World) (g : Nat) (u0 u1 u2 u3 u4 u5 u6 u7 u8 : Value) : Keeps (fun i => i = g) w (((((((((w.setCell ⟨g, 0, none⟩ u0).setCell ⟨g, 1, none⟩ u1).setCell ⟨g, 2, none⟩ u2).setCell ⟨g, 3, none⟩ u3).setCell ⟨g, 4, none⟩ u4).setCell ⟨g, 5, none⟩ u5).setCell ⟨g, 6, none⟩ u6).setCell ⟨g, 7, none⟩ u7).setCell ⟨g, 8, none⟩ u8) :=
  (((((((((Keeps.refl (fun i => i = g) w).store (p := ⟨g, 0, none⟩) (.inl rfl) _).store (p := ⟨g, 1, none⟩) (.inl rfl) _).store (p := ⟨g, 2, none⟩) (.inl rfl) _).store (p := ⟨g, 3, none⟩) (.inl rfl) _).store (p := ⟨g, 4, none⟩) (.inl rfl) _).store (p := ⟨g, 5, none⟩) (.inl rfl) _).store (p := ⟨g, 6, none⟩) (.inl rfl) _).store (p := ⟨g, 7, none⟩) (.inl rfl) _).store (p := ⟨g, 8, none⟩) (.inl rfl) _
theorem live_new (O : ForestOk Rep) {w1 : World} (h : Rep (fun i => w1.heap.size ≤ i) v b l) (hw : Below w.heap.size w w1) (hb : Below w1.heap.size w1 v) : ∃ S, Live Rep w S b l v :=
  ⟨fun i => w1.heap.size ≤ i ∧ i < v.heap.size, O.wide h fun _ hi hlt => ⟨hi, hlt⟩, fun _ hi => ⟨Nat.le_trans hw.size hi.1, hi.2⟩, hw.trans (hb.mono hw.size)⟩
/-- A change. -/
theorem Live.turned (O : ForestOk Rep) {l' : List Nd} (h : Live Rep w S b l v) (hR : Rep (fun i => S i ∨ v.heap.size ≤ i) v' b l') (hk : Keeps (fun i => S i ∨ v.heap.size ≤ i) v v') :
    (∃ S', Live Rep w S' b l' v' ∧ ∀ i, i < v.heap.size → ¬ S i → ¬ S' i) ∧ Keeps S v v' := by
  have hk' : Keeps S v v' := hk.wide fun i hi hh => hh.resolve_right (Nat.not_le.2 hi)
  refine ⟨⟨fun i => (S i ∨ v.heap.size ≤ i) ∧ i < v'.heap.size, ⟨O.wide hR fun _ hi hlt => ⟨hi, hlt⟩, fun i hi => ⟨?_, hi.2⟩, below_then h.below hk' h.below.size fun i hi hS => ?_⟩, fun i hi hn hh => ?_⟩, hk'⟩
  · rcases hi.1 with h1 | h1
    · exact (h.low i h1).1
    · exact Nat.le_trans h.below.size h1
  · have := (h.low i hS).1
    omega
  · rcases hh.1 with h1 | h1
    · exact hn h1
    · omega
/-- Put, with a list that lies apart. -/
theorem livePut (O : ForestOk Rep) (p : Int) (ks : List Int) (A : Option Addr) (c : Nat) (h : Live Rep w S b l v) (hg : Good l) (hk : ks.length ≤ 200) (hL : ListIn v A c ks) (hap : ∀ b' off s, A = some ⟨b', off, s⟩ → ¬ S b') :
    Calls Try.prog 26 #[at_ b, .int .i64 p, .slice A ks.length c] v fun e v' => e = .returned (.int .i64 (putErr l p ks)) ∧ (∃ S', Live Rep w S' b (putL l p ks) v' ∧ ∀ i, i < v.heap.size → ¬ S i → ¬ S' i) ∧ Keeps S v v' :=
  (O.put (fun i => S i ∨ v.heap.size ≤ i) v b l p ks A c (O.wide h.rep fun _ hi _ => .inl hi) hg (fun _ hi => .inr hi) hk hL fun _ b' off s e hlt hh => hh.elim (hap b' off s e) (Nat.not_le.2 hlt)).mono fun _ _ ⟨he, hR, hk⟩ => ⟨he, h.turned O hR hk⟩
end
end
theorem box_stored {w : World} {g : Nat} {t : TypeId} {z0 z1 z2 z3 z4 z5 z6 z7 z8 : Value} (h : Has w g (.cells #[z0, z1, z2, z3, z4, z5, z6, z7, z8] t (0, 0))) (u0 u1 u2 u3 u4 u5 u6 u7 u8 : Value) :
    Has (((((((((w.setCell ⟨g, 0, none⟩ u0).setCell ⟨g, 1, none⟩ u1).setCell ⟨g, 2, none⟩ u2).setCell ⟨g, 3, none⟩ u3).setCell ⟨g, 4, none⟩ u4).setCell ⟨g, 5, none⟩ u5).setCell ⟨g, 6, none⟩ u6).setCell ⟨g, 7, none⟩ u7).setCell ⟨g, 8, none⟩ u8) g (.cells #[u0, u1, u2, u3, u4, u5, u6, u7, u8] t (0, 0)) := by
  have h0 := h.stored 0 u0
  have h1 := h0.stored 1 u1
  have h2 := h1.stored 2 u2
  have h3 := h2.stored 3 u3
  have h4 := h3.stored 4 u4
  have h5 := h4.stored 5 u5
  have h6 := h5.stored 6 u6
  have h7 := h6.stored 7 u7
  have h8 := h7.stored 8 u8
  simpa using h8
/-- Nine cells may be written. -/
theorem box_nine {w : World} {g : Nat} {t : TypeId} {z0 z1 z2 z3 z4 z5 z6 z7 z8 : Value} (h : Has w g (.cells #[z0, z1, z2, z3, z4, z5, z6, z7, z8] t (0, 0))) :
    (w.cell? ⟨g, 0, none⟩ = some z0 ∧ w.cell? ⟨g, 1, none⟩ = some z1 ∧ w.cell? ⟨g, 2, none⟩ = some z2 ∧ w.cell? ⟨g, 3, none⟩ = some z3 ∧ w.cell? ⟨g, 4, none⟩ = some z4 ∧ w.cell? ⟨g, 5, none⟩ = some z5 ∧ w.cell? ⟨g, 6, none⟩ = some z6 ∧ w.cell? ⟨g, 7, none⟩ = some z7 ∧ w.cell? ⟨g, 8, none⟩ = some z8) ∧
    (w.frozen? ⟨g, 0, none⟩ = false ∧ w.frozen? ⟨g, 1, none⟩ = false ∧ w.frozen? ⟨g, 2, none⟩ = false ∧ w.frozen? ⟨g, 3, none⟩ = false ∧ w.frozen? ⟨g, 4, none⟩ = false ∧ w.frozen? ⟨g, 5, none⟩ = false ∧ w.frozen? ⟨g, 6, none⟩ = false ∧ w.frozen? ⟨g, 7, none⟩ = false ∧ w.frozen? ⟨g, 8, none⟩ = false) :=
  ⟨⟨h.cell 0, h.cell 1, h.cell 2, h.cell 3, h.cell 4, h.cell 5, h.cell 6, h.cell 7, h.cell 8⟩, h.free 0, h.free 1, h.free 2, h.free 3, h.free 4, h.free 5, h.free 6, h.free 7, h.free 8⟩
end Go.Proofs.Ytloncmhcdmjjgaa

namespace Go.Proofs.Ytloncmhcdmjjgaa
open Go

section
variable {l : List Nd} {b x : Int}
theorem rootL_par (T : Tree l) (h : thereB l b = true) (hp : (nd l b).parent ≠ 0) : rootL l b = rootL l (nd l b).parent := by
  have hpt := (T.par _ h hp).1
  unfold rootL
  rw [parL_step T h]
  exact lastL_suffix (List.suffix_cons _ _) (parL_ne T hpt)
theorem rootL_own (T : Tree l) (h : thereB l b = true) (hp : (nd l b).parent = 0) : rootL l b = b := by
  unfold rootL
  rw [parL_step T h, hp, parL_no (there_zero l)]
  rfl
/-- The way up is the way to the root, and then that of its host. -/
theorem over_split (T : Tree l) : ∀ (n : Nat) (b : Int), (parL l b).length ≤ n → thereB l b = true → over l b = parL l b ++ over l (nd l (rootL l b)).host
  | 0, b, hn, h => by
    rw [parL_step T h] at hn
    simp at hn
  | n + 1, b, hn, h => by
    by_cases hp : (nd l b).parent = 0
    · rw [rootL_own T h hp, over_step T h, parL_step T h, hp, parL_no (there_zero l)]
      have e : upOf l b = (nd l b).host := if_pos hp
      rw [e]
      rfl
    · have hpt := (T.par _ h hp).1
      rw [parL_step T h] at hn
      have ih := over_split T n (nd l b).parent (by simpa using hn) hpt
      have e : upOf l b = (nd l b).parent := if_neg hp
      rw [over_step T h, e, ih, ← rootL_par T h hp, parL_step T h, List.cons_append]
theorem over_whole (T : Tree l) (h : thereB l b = true) : over l b = parL l b ++ over l (nd l (rootL l b)).host := over_split T _ b (Nat.le_refl _) h
theorem over_none (h : thereB l b = false) : over l b = [] := over_end h
theorem over_short (T : Tree l) (b : Int) : (over l b).length ≤ l.length := up_short T.ends (l.length + 1) b
theorem over_less (T : Tree l) (h : thereB l b = true) : (over l (nd l (rootL l b)).host).length + 1 ≤ (over l b).length := by
  rw [over_whole T h, List.length_append, parL_step T h, List.length_cons]
  omega
theorem over_self (T : Tree l) (h : thereB l b = true) : b ∈ over l b := by
  rw [over_step T h]
  exact List.mem_cons_self
theorem hasB_yes {xs : List Int} (h : x ∈ xs) : hasB xs x = true := decide_eq_true h
theorem hasB_no {xs : List Int} (h : x ∉ xs) : hasB xs x = false := decide_eq_false h
theorem hasB_mem {xs : List Int} (h : hasB xs x = true) : x ∈ xs := of_decide_eq_true h
theorem hasB_not {xs : List Int} (h : hasB xs x = false) : x ∉ xs := of_decide_eq_false h
theorem over_hit (T : Tree l) (h : hasB (parL l b) x = true) : hasB (over l b) x = true := by
  have hm := hasB_mem h
  have ht : thereB l b = true := by
    cases hq : thereB l b with
    | true => rfl
    | false => rw [parL_no hq] at hm; cases hm
  rw [over_whole T ht]
  exact hasB_yes (List.mem_append_left _ hm)
theorem over_miss (T : Tree l) (ht : thereB l b = true) (h : hasB (parL l b) x = false) : hasB (over l b) x = hasB (over l (nd l (rootL l b)).host) x := by
  have hm := hasB_not h
  rw [over_whole T ht]
  unfold hasB
  simp [hm]

/-- How many Elements come with a node. -/
def moreL (l : List Nd) (n : Int) : Nat := if (nd l n).kind = 4 then cntL l 2 (kidsL l n) else 1
/-- One Element too many. -/
def crowdB (l : List Nd) (n p : Int) : Bool := decide (1 < moreL l n ∨ (moreL l n = 1 ∧ 0 < cntL l 2 (kidsL l p)))
/-- Check: the error's number. -/
def chkErr (l : List Nd) (n p c : Int) : Int :=
  if thereB l n = false ∨ thereB l p = false ∨ (c ≠ 0 ∧ thereB l c = false) then 1
  else if hasB (over l p) n = true then 3
  else if c ≠ 0 ∧ (nd l c).parent ≠ p then 4
  else if (nd l n).kind = 1 ∨ (nd l n).kind = 3 then 3
  else if (nd l p).kind = 1 ∧ crowdB l n p = true then 3
  else 0
theorem cntL_few {l : List Nd} (h : Few 200 l) (kind id : Int) : cntL l kind (kidsL l id) ≤ 200 := by
  refine Nat.le_trans (cntL_le _ _ _) ?_
  unfold kidsL
  split
  · exact few_nd h id
  · exact Nat.zero_le _
end
end Go.Proofs.Ytloncmhcdmjjgaa

namespace Go.Proofs.Ytloncmhcdmjjgaa
open Go

section
variable {l : List Nd} {i j x y a b : Int}
/-- The way up from one on a way up is its end. -/
theorem over_tail (T : Tree l) : ∀ (m : Nat) (i : Int), (over l i).length ≤ m → ∀ x, x ∈ over l i → over l x <:+ over l i
  | 0, i, hm, x, h => by
    have : over l i = [] := List.length_eq_zero_iff.1 (by omega)
    rw [this] at h
    cases h
  | m + 1, i, hm, x, h => by
    cases ht : thereB l i with
    | false => rw [over_none ht] at h; cases h
    | true =>
      have e := over_step T ht
      rw [e] at h
      rcases List.mem_cons.1 h with rfl | h
      · exact List.suffix_refl _
      · rw [e] at hm
        rw [e]
        exact (over_tail T m _ (by simpa using hm) x h).trans (List.suffix_cons _ _)
theorem over_suffix (T : Tree l) (h : x ∈ over l i) : over l x <:+ over l i := over_tail T _ i (Nat.le_refl _) x h
theorem over_trans (T : Tree l) (h : x ∈ over l i) (h' : y ∈ over l x) : y ∈ over l i := (over_suffix T h).subset h'
theorem over_in (h : x ∈ over l i) : thereB l x = true := up_there _ i x h
theorem over_from (h : x ∈ over l i) : thereB l i = true := by
  cases ht : thereB l i with
  | true => rfl
  | false => rw [over_none ht] at h; cases h
/-- Two that are above one another are one. -/
theorem over_both (T : Tree l) (h : x ∈ over l y) (h' : y ∈ over l x) : x = y := by
  have h1 := over_suffix T h
  have h2 := over_suffix T h'
  have e : over l x = over l y := h1.eq_of_length (Nat.le_antisymm h1.length_le h2.length_le)
  rw [over_step T (over_in h), over_step T (over_in h')] at e
  exact (List.cons.inj e).1
theorem over_ne (T : Tree l) (h : thereB l i = true) : over l i ≠ [] := by
  rw [over_step T h]
  simp

/-- The host of the tree that a node is in; 0: none. -/
def hostL (l : List Nd) (i : Int) : Int := if thereB l i = true then (nd l (rootL l i)).host else 0
theorem hostL_at (h : thereB l i = true) : hostL l i = (nd l (rootL l i)).host := if_pos h
theorem hostL_no (h : thereB l i = false) : hostL l i = 0 := if_neg (by rw [h]; decide)
theorem hostL_there (T : Tree l) (h : hostL l i ≠ 0) : thereB l (hostL l i) = true := by
  cases ht : thereB l i with
  | false => exact absurd (hostL_no ht) h
  | true =>
    rw [hostL_at ht] at h ⊢
    exact (T.host _ (rootL_there T ht) h).2
theorem over_host (T : Tree l) (h : thereB l i = true) : over l i = parL l i ++ over l (hostL l i) := by
  rw [hostL_at h]
  exact over_whole T h
theorem host_less (T : Tree l) (h : thereB l i = true) : (over l (hostL l i)).length + 1 ≤ (over l i).length := by
  rw [hostL_at h]
  exact over_less T h
theorem root_self (T : Tree l) (h : thereB l i = true) : rootL l (rootL l i) = rootL l i := rootL_own T (rootL_there T h) (rootL_bare T h)
theorem over_root (T : Tree l) (h : thereB l i = true) : over l (rootL l i) = rootL l i :: over l (hostL l i) := by
  have hr := rootL_there T h
  rw [over_host T hr, parL_root T h, hostL_at hr, root_self T h, hostL_at h]
  rfl
theorem root_over (T : Tree l) (h : thereB l i = true) : rootL l i ∈ over l i := by
  rw [over_host T h]
  exact List.mem_append_left _ (rootL_mem T h)

/-- What stands for a node in each of the trees around it. -/
def arN (l : List Nd) : Nat → Int → List Int
  | 0, _ => []
  | n + 1, i => if thereB l i then i :: arN l n (hostL l i) else []
def arL (l : List Nd) (i : Int) : List Int := arN l l.length i
theorem ar_go {n : Nat} (h : thereB l i = true) : arN l (n + 1) i = i :: arN l n (hostL l i) := by rw [arN, if_pos h]
theorem ar_no {n : Nat} (h : thereB l i = false) : arN l n i = [] := by
  cases n with
  | zero => rfl
  | succ n => rw [arN, if_neg (by rw [h]; decide)]
theorem ar_len : ∀ (n : Nat) (i : Int), (arN l n i).length ≤ n
  | 0, _ => Nat.le_refl 0
  | n + 1, i => by
    cases ht : thereB l i with
    | false => rw [ar_no ht]; exact Nat.zero_le _
    | true =>
      rw [ar_go ht]
      have := ar_len n (hostL l i)
      simpa using this
theorem ar_stay (T : Tree l) : ∀ (n m : Nat) (i : Int), (over l i).length ≤ n → (over l i).length ≤ m → arN l n i = arN l m i
  | n, m, i, hn, hm => by
    cases ht : thereB l i with
    | false => rw [ar_no ht, ar_no ht]
    | true =>
      have h1 := host_less T ht
      obtain ⟨n, rfl⟩ : ∃ k, n = k + 1 := ⟨n - 1, by omega⟩
      obtain ⟨m, rfl⟩ : ∃ k, m = k + 1 := ⟨m - 1, by omega⟩
      rw [ar_go ht, ar_go ht, ar_stay T n m (hostL l i) (by omega) (by omega)]
termination_by n => n
theorem arL_no (h : thereB l i = false) : arL l i = [] := ar_no h
theorem arL_step (T : Tree l) (h : thereB l i = true) : arL l i = i :: arL l (hostL l i) := by
  have h1 := host_less T h
  have h2 := over_short T i
  unfold arL
  obtain ⟨n, hn⟩ : ∃ k, l.length = k + 1 := ⟨l.length - 1, by omega⟩
  rw [hn, ar_go h, ar_stay T n (n + 1) (hostL l i) (by omega) (by omega)]
theorem arL_len (l : List Nd) (i : Int) : (arL l i).length ≤ l.length := ar_len _ _
/-- Going from tree to tree. -/
theorem trees (T : Tree l) {P : Int → Prop} (no : ∀ i, thereB l i = false → P i) (go : ∀ i, thereB l i = true → P (hostL l i) → P i) : ∀ i, P i := by
  have : ∀ (n : Nat) (i : Int), (over l i).length ≤ n → P i := by
    intro n
    induction n with
    | zero =>
      intro i hn
      refine no i ?_
      cases ht : thereB l i with
      | false => rfl
      | true => exact absurd (List.length_eq_zero_iff.1 (Nat.le_zero.1 hn)) (over_ne T ht)
    | succ n ih =>
      intro i hn
      cases ht : thereB l i with
      | false => exact no i ht
      | true =>
        have := host_less T ht
        exact go i ht (ih _ (by omega))
  exact fun i => this _ i (Nat.le_refl _)
theorem arL_there (T : Tree l) : ∀ i, ∀ x ∈ arL l i, thereB l x = true :=
  trees T (fun i h x hx => by rw [arL_no h] at hx; cases hx) fun i h ih x hx => by
    rw [arL_step T h] at hx
    rcases List.mem_cons.1 hx with rfl | hx
    · exact h
    · exact ih x hx

/-- The shadow-including root. -/
def wholeL (l : List Nd) (i : Int) : Int := lastL (over l i)
theorem whole_no (h : thereB l i = false) : wholeL l i = 0 := by
  unfold wholeL
  rw [over_none h]
  rfl
theorem whole_end (T : Tree l) (h : thereB l i = true) (h0 : hostL l i = 0) : wholeL l i = rootL l i := by
  unfold wholeL
  rw [over_host T h, h0, over_zero, List.append_nil]
  rfl
theorem whole_go (T : Tree l) (h0 : hostL l i ≠ 0) : wholeL l i = wholeL l (hostL l i) := by
  have ht : thereB l i = true := by
    cases ht : thereB l i with
    | true => rfl
    | false => exact absurd (hostL_no ht) h0
  unfold wholeL
  rw [over_host T ht]
  exact lastL_suffix (List.suffix_append _ _) (over_ne T (hostL_there T h0))
theorem whole_mem (T : Tree l) (h : thereB l i = true) : wholeL l i ∈ over l i := lastL_mem (over_ne T h)
theorem whole_own (T : Tree l) (h : thereB l i = true) : wholeL l (wholeL l i) = wholeL l i := by
  have hm := whole_mem T h
  have := lastL_suffix (over_suffix T hm) (over_ne T (over_in hm))
  exact this.symm
/-- The last of those around tells it. -/
theorem whole_ar (T : Tree l) : ∀ i, rootL l (lastL (arL l i)) = wholeL l i :=
  trees T (fun i h => by rw [arL_no h, whole_no h]; exact rootL_no (there_zero l)) fun i h ih => by
    rw [arL_step T h]
    by_cases h0 : hostL l i = 0
    · rw [whole_end T h h0, h0, arL_no (there_zero l)]
      rfl
    · rw [whole_go T h0, ← ih]
      have hne : arL l (hostL l i) ≠ [] := by rw [arL_step T (hostL_there T h0)]; simp
      rw [lastL_suffix (List.suffix_cons _ _) hne]

/-- Some one of those around has it above. -/
def anyUp (l : List Nd) (a : Int) (xs : List Int) : Bool := xs.any fun i => hasB (parL l i) a
theorem any_ar (T : Tree l) (a : Int) : ∀ i, anyUp l a (arL l i) = hasB (over l i) a :=
  trees T (fun i h => by rw [arL_no h, over_none h]; rfl) fun i h ih => by
    unfold anyUp at ih ⊢
    rw [arL_step T h, List.any_cons, ih]
    cases hp : hasB (parL l i) a with
    | true => rw [over_hit T hp]; rfl
    | false => rw [over_miss T h hp, hostL_at h]; rfl

/-- The closed roots around. -/
def shut (l : List Nd) (i : Int) : Bool := decide ((nd l (rootL l i)).mode = 2)
def clsOf (l : List Nd) (xs : List Int) : List Int := (xs.filter (shut l)).map (rootL l)
def clsL (l : List Nd) (i : Int) : List Int := clsOf l (arL l i)
theorem cls_yes {xs : List Int} (h : (nd l (rootL l i)).mode = 2) : clsOf l (i :: xs) = rootL l i :: clsOf l xs := by
  unfold clsOf
  rw [List.filter_cons_of_pos (by simpa [shut] using h), List.map_cons]
theorem cls_not {xs : List Int} (h : (nd l (rootL l i)).mode ≠ 2) : clsOf l (i :: xs) = clsOf l xs := by
  unfold clsOf
  rw [List.filter_cons_of_neg (by simpa [shut] using h)]
theorem cls_append (xs ys : List Int) : clsOf l (xs ++ ys) = clsOf l xs ++ clsOf l ys := by
  unfold clsOf
  rw [List.filter_append, List.map_append]
theorem cls_le (xs : List Int) : (clsOf l xs).length ≤ xs.length := by
  unfold clsOf
  rw [List.length_map]
  exact List.length_filter_le _ _
theorem clsL_no (h : thereB l i = false) : clsL l i = [] := by
  unfold clsL
  rw [arL_no h]
  rfl
theorem clsL_yes (T : Tree l) (h : thereB l i = true) (hm : (nd l (rootL l i)).mode = 2) : clsL l i = rootL l i :: clsL l (hostL l i) := by
  unfold clsL
  rw [arL_step T h, cls_yes hm]
theorem clsL_not (T : Tree l) (h : thereB l i = true) (hm : (nd l (rootL l i)).mode ≠ 2) : clsL l i = clsL l (hostL l i) := by
  unfold clsL
  rw [arL_step T h, cls_not hm]
theorem clsL_len (l : List Nd) (i : Int) : (clsL l i).length ≤ l.length := Nat.le_trans (cls_le _) (arL_len l i)
/-- A closed root around holds the node's root. -/
theorem cls_root (T : Tree l) : ∀ i, ∀ c ∈ clsL l i, c ∈ over l (rootL l i) :=
  trees T (fun i h c hc => by rw [clsL_no h] at hc; cases hc) fun i h ih c hc => by
    have up : c ∈ clsL l (hostL l i) → c ∈ over l (rootL l i) := fun hc => by
      have h1 := ih c hc
      have hh : thereB l (hostL l i) = true := by
        cases ht : thereB l (hostL l i) with
        | true => rfl
        | false => rw [clsL_no ht] at hc; cases hc
      rw [over_root T h]
      exact List.mem_cons_of_mem _ (over_trans T (root_over T hh) h1)
    by_cases hm : (nd l (rootL l i)).mode = 2
    · rw [clsL_yes T h hm] at hc
      rcases List.mem_cons.1 hc with rfl | hc
      · exact over_self T (rootL_there T h)
      · exact up hc
    · rw [clsL_not T h hm] at hc
      exact up hc
theorem cls_from {c : Int} (h : c ∈ clsL l i) : thereB l i = true := by
  cases ht : thereB l i with
  | true => rfl
  | false => rw [clsL_no ht] at h; cases h
theorem cls_over (T : Tree l) {c : Int} (h : c ∈ clsL l i) : c ∈ over l i := over_trans T (root_over T (cls_from h)) (cls_root T i c h)
theorem cls_there (T : Tree l) {c : Int} (h : c ∈ clsL l i) : thereB l c = true := over_in (cls_over T h)

/-- Is a hidden from b? The innermost closed root tells it. -/
def hidOf (l : List Nd) (cs : List Int) (b : Int) : Bool :=
  match cs with
  | [] => false
  | c :: _ => decide ((nd l c).host ≠ 0) && !hasB (over l b) c
def hidL (l : List Nd) (a b : Int) : Bool := thereB l b && hidOf l (clsL l a) b
theorem hid_noB (h : thereB l b = false) : hidL l a b = false := by unfold hidL; rw [h]; rfl
theorem hid_noA (h : thereB l a = false) : hidL l a b = false := by
  unfold hidL
  rw [clsL_no h]
  exact Bool.and_false _
theorem hid_none (h : clsL l a = []) : hidL l a b = false := by
  unfold hidL
  rw [h]
  exact Bool.and_false _
/-- What holds b hides nothing of what is in its tree. -/
theorem hid_held (T : Tree l) (h : rootL l a ∈ over l b) : hidL l a b = false := by
  unfold hidL
  cases hc : clsL l a with
  | nil => exact Bool.and_false _
  | cons c r =>
    have h1 := over_trans T h (cls_root T a c (by rw [hc]; exact List.mem_cons_self))
    show (_ && (_ && !hasB (over l b) c)) = false
    rw [hasB_yes h1]
    simp
theorem hid_end (T : Tree l) (h : hostL l a = 0) : hidL l a b = false := by
  cases ht : thereB l a with
  | false => exact hid_noA ht
  | true =>
    by_cases hm : (nd l (rootL l a)).mode = 2
    · unfold hidL
      rw [clsL_yes T ht hm]
      rw [hostL_at ht] at h
      show (_ && (decide ((nd l (rootL l a)).host ≠ 0) && _)) = false
      rw [h]
      simp
    · refine hid_none ?_
      rw [clsL_not T ht hm, h, clsL_no (there_zero l)]
theorem hid_shut (T : Tree l) (hb : thereB l b = true) (h : hostL l a ≠ 0) (hn : rootL l a ∉ over l b) (hm : (nd l (rootL l a)).mode = 2) : hidL l a b = true := by
  have ht : thereB l a = true := by
    cases ht : thereB l a with
    | true => rfl
    | false => exact absurd (hostL_no ht) h
  unfold hidL
  rw [clsL_yes T ht hm, hb]
  rw [hostL_at ht] at h
  show (true && (decide ((nd l (rootL l a)).host ≠ 0) && !hasB (over l b) (rootL l a))) = true
  rw [hasB_no hn, decide_eq_true h]
  rfl
theorem hid_next (T : Tree l) (h : hostL l a ≠ 0) (hm : (nd l (rootL l a)).mode ≠ 2) : hidL l a b = hidL l (hostL l a) b := by
  have ht : thereB l a = true := by
    cases ht : thereB l a with
    | true => rfl
    | false => exact absurd (hostL_no ht) h
  unfold hidL
  rw [clsL_not T ht hm]
theorem hid_self (T : Tree l) : hidL l a a = false := by
  cases ht : thereB l a with
  | false => exact hid_noA ht
  | true => exact hid_held T (root_over T ht)
/-- What is hidden lies in a closed tree that doesn't hold the other one. -/
def someOut (l : List Nd) (b : Int) (cs : List Int) : Bool := cs.any fun c => !hasB (over l b) c
theorem hid_some (h : hidL l a b = true) : someOut l b (clsL l a) = true := by
  unfold hidL at h
  unfold someOut
  cases hc : clsL l a with
  | nil => rw [hc] at h; simp [hidOf] at h
  | cons c r =>
    rw [hc] at h
    simp only [hidOf, Bool.and_eq_true] at h
    rw [List.any_cons, h.2.2]
    rfl
theorem someOut_step {b : Int} {cs : List Int} {k : Nat} (hk : k < cs.length) : someOut l b (cs.take (k + 1)) = (someOut l b (cs.take k) || !hasB (over l b) cs[k]) := by
  unfold someOut
  rw [List.take_add_one, List.getElem?_eq_getElem hk, Option.toList_some, List.any_append, List.any_cons, List.any_nil, Bool.or_false]
end

/-- Only shadow roots have a mode. -/
def Moded (l : List Nd) : Prop := ∀ d ∈ l, d.mode ≠ 0 → d.kind = 3
theorem moded_mod {l : List Nd} {id : Int} {f : Nd → Nd} (h : Moded l) (hf : ∀ d, (f d).mode = d.mode ∧ (f d).kind = d.kind) : Moded (modN l id f) := by
  intro d hd
  rcases List.mem_or_eq_of_mem_set hd with hd | rfl
  · exact h d hd
  · rw [(hf _).1, (hf _).2]
    unfold nd
    rw [List.getD_eq_getElem?_getD]
    cases e : l[(id - 1).toNat]? with
    | none => exact fun h0 => absurd rfl h0
    | some d => exact h d (List.mem_of_getElem? e)
theorem moded_toPar {p : Int} : ∀ (kids : List Int) {l : List Nd}, Moded l → Moded (toPar l p kids)
  | [], _, h => h
  | k :: r, l, h => by
    show Moded (toPar (modN l k _) p r)
    exact moded_toPar r (moded_mod h fun _ => ⟨rfl, rfl⟩)
theorem moded_clr {l : List Nd} {p : Int} (h : Moded l) : Moded (clr l p) := by
  intro d hd
  obtain ⟨d', hd', rfl⟩ := List.mem_map.1 hd
  split <;> exact h d' hd'
theorem mkErr_moded {n : Nat} {d : Nd} (h : mkErr n d = 0) : d.mode ≠ 0 → d.kind = 3 := by
  unfold mkErr at h
  split at h
  · cases h
  · split at h
    · cases h
    · rename_i h2
      intro hm
      refine Decidable.byContradiction fun hk => h2 (.inr ⟨hk, hm⟩)
theorem moded_mk {l : List Nd} {d : Nd} (h : Moded l) : Moded (mkL l d) := by
  unfold mkL
  split
  · rename_i h0
    intro x hx
    rcases List.mem_append.1 hx with hx | hx
    · exact h x hx
    · obtain rfl := List.mem_singleton.1 hx
      exact mkErr_moded h0
  · exact h
theorem moded_act {l : List Nd} {x : Ac} (h : Moded l) : Moded (actL l x) := by
  unfold actL
  split
  · exact moded_mk h
  · split
    · unfold putL
      split
      · exact moded_mod (moded_toPar _ (moded_clr h)) fun _ => ⟨rfl, rfl⟩
      · exact h
    · split
      · unfold tieL
        split
        · exact moded_mod (moded_mod h fun _ => ⟨rfl, rfl⟩) fun _ => ⟨rfl, rfl⟩
        · exact h
      · split
        · unfold nameL
          split
          · exact moded_mod h fun _ => ⟨rfl, rfl⟩
          · exact h
        · split
          · unfold wantL
            split
            · exact moded_mod h fun _ => ⟨rfl, rfl⟩
            · exact h
          · exact h
theorem moded_forest (acts : List Ac) : Moded (forest acts) := by
  have : ∀ (acts : List Ac) (l : List Nd), Moded l → Moded (acts.foldl actL l) := by
    intro acts
    induction acts with
    | nil => intro l T; exact T
    | cons x r ih => intro l T; exact ih _ (moded_act T)
  exact this acts [] fun d hd => absurd hd (by simp)
theorem moded_nd {l : List Nd} {i : Int} (h : Moded l) (hm : (nd l i).mode = 2) : (nd l i).kind = 3 := by
  unfold nd at hm ⊢
  rw [List.getD_eq_getElem?_getD] at hm ⊢
  cases e : l[(i - 1).toNat]? with
  | none => rw [e] at hm; cases hm
  | some d =>
    rw [e] at hm
    exact h d (List.mem_of_getElem? e) (by rw [show d.mode = 2 from hm]; decide)

/-- Attach: the node that is made, the error's number, the number, and the nodes. -/
def shadeNd (m : Int) : Nd := ⟨3, 0, 0, 0, m, false, ⟨#[]⟩, ⟨#[]⟩, []⟩
def attNo (l : List Nd) (h m : Int) : Int :=
  if thereB l h = false ∨ (m ≠ 1 ∧ m ≠ 2) then 0 else if (nd l h).kind ≠ 2 ∨ (nd l h).shadow ≠ 0 then 0 else mkNo l (shadeNd m)
def attErr (l : List Nd) (h m : Int) : Int :=
  if thereB l h = false ∨ (m ≠ 1 ∧ m ≠ 2) then 1 else if (nd l h).kind ≠ 2 ∨ (nd l h).shadow ≠ 0 then 5
  else if mkErr l.length (shadeNd m) = 0 then tieErr (mkL l (shadeNd m)) h (mkNo l (shadeNd m)) else mkErr l.length (shadeNd m)
def attL (l : List Nd) (h m : Int) : List Nd :=
  if thereB l h = false ∨ (m ≠ 1 ∧ m ≠ 2) then l else if (nd l h).kind ≠ 2 ∨ (nd l h).shadow ≠ 0 then l
  else if mkErr l.length (shadeNd m) = 0 then tieL (mkL l (shadeNd m)) h (mkNo l (shadeNd m)) else l
end Go.Proofs.Ytloncmhcdmjjgaa

namespace Go.Proofs.Ytloncmhcdmjjgaa
open Go

/-- The children, and the shadow root, of what is there; else none. -/
def kidsOf (l : List Nd) (i : Int) : List Int := if thereB l i = true then (nd l i).kids else []
def shOf (l : List Nd) (i : Int) : Int := if thereB l i = true then (nd l i).shadow else 0
/-- Slots in tree order. -/
def slotsL (l : List Nd) (r : Int) : List Int := (ordL l r).filter fun x => (nd l x).slot
def namedL (l : List Nd) (n : ByteArray) (xs : List Int) : List Int := xs.filter fun s => (nd l s).name.toList == n.toList
/-- The first one of a list; 0: there is none. -/
def headL (xs : List Int) : Int := xs.headD 0
/-- The slot of a node. -/
def ofL (l : List Nd) (i : Int) : Int := if thereB l i = true ∧ (nd l i).kind = 2 then headL (namedL l (nd l i).want (slotsL l (shOf l (nd l i).parent))) else 0
def asgOf (l : List Nd) (s : Int) (xs : List Int) : List Int := xs.filter fun k => decide (ofL l k = s)
def asgL (l : List Nd) (s : Int) : List Int := asgOf l s (kidsOf l (hostL l s))
/-- A slot in a shadow tree. -/
def upB (l : List Nd) (i : Int) : Bool := thereB l i && ((nd l i).slot && decide ((nd l (rootL l i)).kind = 3))
def elsOf (l : List Nd) (xs : List Int) : List Int := xs.filter fun k => decide ((nd l k).kind = 2)
/-- What a slot shows. -/
def conL (l : List Nd) (s : Int) : List Int := if asgL l s = [] then elsOf l (kidsOf l s) else asgL l s
/-- How far it is to the outermost tree, and down. -/
def rkL (l : List Nd) (s : Int) : Nat := (arL l s).length * (l.length + 1) + (l.length - (parL l s).length)
def flatN (l : List Nd) : Nat → Int → List Int
  | 0, _ => []
  | n + 1, s => if upB l s = true then (conL l s).flatMap fun c => if upB l c = true then flatN l n c else [c] else []
def flatL (l : List Nd) (s : Int) : List Int := flatN l (rkL l s + 1) s
def oneL (l : List Nd) (c : Int) : List Int := if upB l c = true then flatL l c else [c]
/-- The slots that are opened up on the way. -/
def visN (l : List Nd) : Nat → Int → List Int
  | 0, _ => []
  | n + 1, s => if upB l s = true then s :: (conL l s).flatMap (visN l n) else []
def visL (l : List Nd) (s : Int) : List Int := visN l (rkL l s + 1) s

theorem headL_mem {xs : List Int} (h : headL xs ≠ 0) : headL xs ∈ xs := by
  cases xs with
  | nil => exact absurd rfl h
  | cons x r => exact List.mem_cons_self
section
variable {l : List Nd} {i j x y a b s k p : Int}
theorem kidsOf_at (h : thereB l i = true) : kidsOf l i = (nd l i).kids := if_pos h
theorem kidsOf_no (h : thereB l i = false) : kidsOf l i = [] := if_neg (by rw [h]; decide)
theorem kidsOf_mem (h : k ∈ kidsOf l i) : thereB l i = true ∧ k ∈ (nd l i).kids := by
  cases ht : thereB l i with
  | false => rw [kidsOf_no ht] at h; cases h
  | true => rw [kidsOf_at ht] at h; exact ⟨rfl, h⟩
theorem shOf_at (h : thereB l i = true) : shOf l i = (nd l i).shadow := if_pos h
theorem shOf_no (h : thereB l i = false) : shOf l i = 0 := if_neg (by rw [h]; decide)
theorem slotsL_no (h : thereB l i = false) : slotsL l i = [] := by unfold slotsL; rw [ordL_no h]; rfl
theorem ofL_no (h : thereB l i = false) : ofL l i = 0 := if_neg (by rw [h]; simp)
theorem ofL_kind (h : (nd l i).kind ≠ 2) : ofL l i = 0 := if_neg (by simp [h])
theorem ofL_at (h : thereB l i = true) (hk : (nd l i).kind = 2) : ofL l i = headL (namedL l (nd l i).want (slotsL l (shOf l (nd l i).parent))) := if_pos ⟨h, hk⟩
/-- Whose slot there is. -/
theorem of_what (T : Tree l) (h : ofL l i ≠ 0) : thereB l i = true ∧ (nd l i).kind = 2 ∧ thereB l (nd l i).parent = true ∧ i ∈ (nd l (nd l i).parent).kids ∧ thereB l (ofL l i) = true ∧ (nd l (ofL l i)).slot = true ∧ (nd l (rootL l (ofL l i))).kind = 3 ∧ hostL l (ofL l i) = (nd l i).parent := by
  have ht : thereB l i = true := by
    cases ht : thereB l i with
    | true => rfl
    | false => exact absurd (ofL_no ht) h
  have hk : (nd l i).kind = 2 := Decidable.byContradiction fun hk => h (ofL_kind hk)
  have hm : ofL l i ∈ namedL l (nd l i).want (slotsL l (shOf l (nd l i).parent)) := by
    rw [ofL_at ht hk] at h ⊢
    exact headL_mem h
  obtain ⟨hm, -⟩ := List.mem_filter.1 hm
  obtain ⟨hm, hsl⟩ := List.mem_filter.1 hm
  generalize ofL l i = s at *
  have hst := ordL_there T hm
  have hp : thereB l (nd l i).parent = true := by
    cases hp : thereB l (nd l i).parent with
    | true => rfl
    | false => rw [shOf_no hp, ordL_no (there_zero l)] at hm; cases hm
  rw [shOf_at hp] at hm
  have h0 : (nd l (nd l i).parent).shadow ≠ 0 := fun e => by rw [e, ordL_no (there_zero l)] at hm; cases hm
  obtain ⟨q1, q2, q3⟩ := T.shade _ hp h0
  have hb := T.bare _ q1 (.inr q3)
  have hr := rootL_own T q1 hb
  have hx : rootL l s = (nd l (nd l i).parent).shadow := by
    rw [rootL_of T q1 (by rw [hr]; exact (ordL_mem T).1 hm), hr]
  exact ⟨ht, hk, hp, (T.par i ht (there_pos hp)).2, hst, hsl, by rw [hx]; exact q3, by rw [hostL_at hst, hx]; exact q2⟩
theorem asg_mem : k ∈ asgL l s ↔ k ∈ kidsOf l (hostL l s) ∧ ofL l k = s := by
  unfold asgL asgOf
  rw [List.mem_filter, decide_eq_true_iff]
theorem asg_iff (T : Tree l) (hs : s ≠ 0) : i ∈ asgL l s ↔ ofL l i = s := by
  rw [asg_mem]
  refine ⟨fun h => h.2, fun h => ⟨?_, h⟩⟩
  subst h
  obtain ⟨_, _, h3, h4, _, _, _, h8⟩ := of_what T hs
  rw [h8, kidsOf_at h3]
  exact h4
theorem asg_what (h : k ∈ asgL l s) : thereB l s = true ∧ thereB l (hostL l s) = true ∧ k ∈ (nd l (hostL l s)).kids ∧ ofL l k = s := by
  obtain ⟨h1, h2⟩ := asg_mem.1 h
  obtain ⟨h3, h4⟩ := kidsOf_mem h1
  refine ⟨?_, h3, h4, h2⟩
  cases ht : thereB l s with
  | true => rfl
  | false => rw [hostL_no ht, there_zero] at h3; cases h3
theorem upB_what (h : upB l s = true) : thereB l s = true ∧ (nd l s).slot = true ∧ (nd l (rootL l s)).kind = 3 := by
  unfold upB at h
  simp only [Bool.and_eq_true, decide_eq_true_iff] at h
  exact h
theorem con_mem (h : k ∈ conL l s) : k ∈ asgL l s ∨ (thereB l s = true ∧ k ∈ (nd l s).kids ∧ (nd l k).kind = 2) := by
  unfold conL at h
  split at h
  · obtain ⟨h1, h2⟩ := List.mem_filter.1 h
    obtain ⟨h3, h4⟩ := kidsOf_mem h1
    exact .inr ⟨h3, h4, of_decide_eq_true h2⟩
  · exact .inl h
theorem con_kind (T : Tree l) (hs : s ≠ 0) (h : k ∈ conL l s) : thereB l k = true ∧ (nd l k).kind = 2 := by
  rcases con_mem h with h | ⟨h1, h2, h3⟩
  · have e := (asg_iff T hs).1 h
    have := of_what T (by rw [e]; exact hs)
    exact ⟨this.1, this.2.1⟩
  · exact ⟨(T.kid s h1 k h2).1, h3⟩
theorem kidsOf_once (T : Tree l) (i : Int) : (kidsOf l i).Nodup := by
  cases ht : thereB l i with
  | false => rw [kidsOf_no ht]; exact List.nodup_nil
  | true => rw [kidsOf_at ht]; exact T.once i ht
theorem con_once (T : Tree l) (s : Int) : (conL l s).Nodup := by
  unfold conL asgL
  split
  · exact (kidsOf_once T _).sublist List.filter_sublist
  · exact (kidsOf_once T _).sublist List.filter_sublist
/-- Those that are shown side by side are children of one node. -/
theorem con_kids (h : a ∈ conL l s) (h' : b ∈ conL l s) : ∃ p, thereB l p = true ∧ a ∈ (nd l p).kids ∧ b ∈ (nd l p).kids := by
  unfold conL at h h'
  split at h
  · rename_i e
    rw [if_pos e] at h'
    obtain ⟨q1, q2⟩ := kidsOf_mem (List.mem_filter.1 h).1
    obtain ⟨_, q3⟩ := kidsOf_mem (List.mem_filter.1 h').1
    exact ⟨_, q1, q2, q3⟩
  · rename_i e
    rw [if_neg e] at h'
    obtain ⟨q1, q2⟩ := kidsOf_mem (List.mem_filter.1 h).1
    obtain ⟨_, q3⟩ := kidsOf_mem (List.mem_filter.1 h').1
    exact ⟨_, q1, q2, q3⟩
theorem kid_root (T : Tree l) (h : thereB l p = true) (hk : k ∈ (nd l p).kids) : rootL l k = rootL l p := by
  refine rootL_of T h ?_
  rw [parL_kid T h hk]
  exact List.mem_cons_of_mem _ (rootL_mem T h)
theorem kid_host (T : Tree l) (h : thereB l p = true) (hk : k ∈ (nd l p).kids) : hostL l k = hostL l p := by
  rw [hostL_at (T.kid p h k hk).1, hostL_at h, kid_root T h hk]
theorem kid_ar (T : Tree l) (h : thereB l p = true) (hk : k ∈ (nd l p).kids) : (arL l k).length = (arL l p).length := by
  rw [arL_step T (T.kid p h k hk).1, arL_step T h, kid_host T h hk]
  rfl
theorem asg_ar (T : Tree l) (h : k ∈ asgL l s) : (arL l k).length + 1 = (arL l s).length := by
  obtain ⟨h1, h2, h3, _⟩ := asg_what h
  rw [kid_ar T h2 h3, arL_step T h1]
  rfl
theorem con_rk (T : Tree l) (h : k ∈ conL l s) : rkL l k < rkL l s := by
  unfold rkL
  rcases con_mem h with h | ⟨h1, h2, -⟩
  · rw [← asg_ar T h, Nat.add_mul]
    omega
  · have h3 := parL_len T k
    rw [kid_ar T h1 h2]
    rw [parL_kid T h1 h2] at h3 ⊢
    simp only [List.length_cons] at h3 ⊢
    omega
theorem flat_no {n : Nat} (h : upB l s = false) : flatN l n s = [] := by
  cases n with
  | zero => rfl
  | succ n => rw [flatN, if_neg (by rw [h]; decide)]
theorem flat_go {n : Nat} (h : upB l s = true) : flatN l (n + 1) s = (conL l s).flatMap fun c => if upB l c = true then flatN l n c else [c] := by rw [flatN, if_pos h]
theorem flat_stay (T : Tree l) : ∀ (n m : Nat) (s : Int), rkL l s < n → rkL l s < m → flatN l n s = flatN l m s
  | 0, _, _, h, _ => absurd h (Nat.not_lt_zero _)
  | _ + 1, 0, _, _, h => absurd h (Nat.not_lt_zero _)
  | n + 1, m + 1, s, hn, hm => by
    cases hu : upB l s with
    | false => rw [flat_no hu, flat_no hu]
    | true =>
      rw [flat_go hu, flat_go hu]
      refine flatMap_same _ fun c hc => ?_
      have := con_rk T hc
      split
      · exact flat_stay T n m c (by omega) (by omega)
      · rfl
theorem flatL_no (h : upB l s = false) : flatL l s = [] := flat_no h
theorem flatL_step (T : Tree l) (h : upB l s = true) : flatL l s = (conL l s).flatMap (oneL l) := by
  unfold flatL
  rw [flat_go h]
  refine flatMap_same _ fun c hc => ?_
  have := con_rk T hc
  unfold oneL flatL
  split
  · exact flat_stay T _ _ c (by omega) (by omega)
  · rfl
theorem oneL_up (h : upB l s = true) : oneL l s = flatL l s := if_pos h
theorem oneL_not (h : upB l s = false) : oneL l s = [s] := if_neg (by rw [h]; decide)
theorem vis_no {n : Nat} (h : upB l s = false) : visN l n s = [] := by
  cases n with
  | zero => rfl
  | succ n => rw [visN, if_neg (by rw [h]; decide)]
theorem vis_go {n : Nat} (h : upB l s = true) : visN l (n + 1) s = s :: (conL l s).flatMap (visN l n) := by rw [visN, if_pos h]
theorem vis_stay (T : Tree l) : ∀ (n m : Nat) (s : Int), rkL l s < n → rkL l s < m → visN l n s = visN l m s
  | 0, _, _, h, _ => absurd h (Nat.not_lt_zero _)
  | _ + 1, 0, _, _, h => absurd h (Nat.not_lt_zero _)
  | n + 1, m + 1, s, hn, hm => by
    cases hu : upB l s with
    | false => rw [vis_no hu, vis_no hu]
    | true =>
      rw [vis_go hu, vis_go hu]
      congr 1
      refine flatMap_same _ fun c hc => ?_
      have := con_rk T hc
      exact vis_stay T n m c (by omega) (by omega)
theorem visL_no (h : upB l s = false) : visL l s = [] := vis_no h
theorem visL_step (T : Tree l) (h : upB l s = true) : visL l s = s :: (conL l s).flatMap (visL l) := by
  unfold visL
  rw [vis_go h]
  congr 1
  refine flatMap_same _ fun c hc => ?_
  have := con_rk T hc
  exact vis_stay T _ _ c (by omega) (by omega)
theorem vis_up : ∀ (n : Nat) (s x : Int), x ∈ visN l n s → upB l x = true
  | 0, _, _, h => by cases h
  | n + 1, s, x, h => by
    cases hu : upB l s with
    | false => rw [vis_no hu] at h; cases h
    | true =>
      rw [vis_go hu] at h
      rcases List.mem_cons.1 h with rfl | h
      · exact hu
      · obtain ⟨c, -, hx⟩ := List.mem_flatMap.1 h
        exact vis_up n c x hx
theorem vis_rk (T : Tree l) : ∀ (n : Nat) (s x : Int), x ∈ visN l n s → rkL l x ≤ rkL l s
  | 0, _, _, h => by cases h
  | n + 1, s, x, h => by
    cases hu : upB l s with
    | false => rw [vis_no hu] at h; cases h
    | true =>
      rw [vis_go hu] at h
      rcases List.mem_cons.1 h with rfl | h
      · exact Nat.le_refl _
      · obtain ⟨c, hc, hx⟩ := List.mem_flatMap.1 h
        have h1 := vis_rk T n c x hx
        have h2 := con_rk T hc
        omega
theorem vis_ar (T : Tree l) : ∀ (n : Nat) (s x : Int), x ∈ visN l n s → (arL l x).length ≤ (arL l s).length
  | 0, _, _, h => by cases h
  | n + 1, s, x, h => by
    cases hu : upB l s with
    | false => rw [vis_no hu] at h; cases h
    | true =>
      rw [vis_go hu] at h
      rcases List.mem_cons.1 h with rfl | h
      · exact Nat.le_refl _
      · obtain ⟨c, hc, hx⟩ := List.mem_flatMap.1 h
        have h1 := vis_ar T n c x hx
        rcases con_mem hc with hc | ⟨q1, q2, -⟩
        · have := asg_ar T hc
          omega
        · rw [kid_ar T q1 q2] at h1
          exact h1
/-- What is opened up on the way from a slot lies below it, or is reached from a child of its host. -/
theorem vis_ways (T : Tree l) : ∀ (n : Nat) (s x : Int), x ∈ visN l n s → s ∈ parL l x ∨ ∃ k m, thereB l (hostL l s) = true ∧ k ∈ (nd l (hostL l s)).kids ∧ s ∈ parL l (ofL l k) ∧ x ∈ visN l m k
  | 0, _, _, h => by cases h
  | n + 1, s, x, h => by
    cases hu : upB l s with
    | false => rw [vis_no hu] at h; cases h
    | true =>
      rw [vis_go hu] at h
      rcases List.mem_cons.1 h with rfl | h
      · exact .inl (parL_self T (upB_what hu).1)
      · obtain ⟨c, hc, hx⟩ := List.mem_flatMap.1 h
        rcases con_mem hc with hc | ⟨q1, q2, -⟩
        · obtain ⟨h1, h2, h3, h4⟩ := asg_what hc
          exact .inr ⟨c, n, h2, h3, by rw [h4]; exact parL_self T h1, hx⟩
        · have up : ∀ y, c ∈ parL l y → s ∈ parL l y := fun y hy => parL_trans T hy (by rw [parL_kid T q1 q2]; exact List.mem_cons_of_mem _ (parL_self T q1))
          rcases vis_ways T n c x hx with h | ⟨k, m, h1, h2, h3, h4⟩
          · exact .inl (up x h)
          · rw [kid_host T q1 q2] at h1 h2
            exact .inr ⟨k, m, h1, h2, up _ h3, h4⟩
theorem par_cmp (T : Tree l) (ha : a ∈ parL l x) (hb : b ∈ parL l x) : a ∈ parL l b ∨ b ∈ parL l a := by
  rcases List.suffix_or_suffix_of_suffix (parL_suffix T ha) (parL_suffix T hb) with h | h
  · exact .inl (h.subset (parL_self T (parL_there ha)))
  · exact .inr (h.subset (parL_self T (parL_there hb)))
theorem kid_apart (T : Tree l) (hp : thereB l p = true) (ha : a ∈ (nd l p).kids) (hb : b ∈ (nd l p).kids) (hab : a ≠ b) : a ∉ parL l b := by
  intro h
  rw [parL_kid T hp hb] at h
  rcases List.mem_cons.1 h with h | h
  · exact hab h
  · have := parL_once T a
    rw [parL_kid T hp ha] at this
    exact (List.nodup_cons.1 this).1 h
/-- From two of which neither is above the other one nothing is reached from both. -/
theorem vis_apart (T : Tree l) : ∀ i, ∀ a b n m x, thereB l a = true → thereB l b = true → rootL l a = rootL l i → rootL l b = rootL l i → thereB l i = true → a ∉ parL l b → b ∉ parL l a → x ∈ visN l n a → x ∈ visN l m b → False :=
  trees T (fun i h a b n m x _ _ _ _ hi => by rw [h] at hi; cases hi) fun i hi ih a b n m x ta tb ra rb _ hab hba hxa hxb => by
    have ea : hostL l a = hostL l i := by rw [hostL_at ta, hostL_at hi, ra]
    have eb : hostL l b = hostL l i := by rw [hostL_at tb, hostL_at hi, rb]
    have la : (arL l a).length = (arL l b).length := by rw [arL_step T ta, arL_step T tb, ea, eb]; rfl
    rcases vis_ways T n a x hxa with h1 | ⟨k, m1, p1, p2, p3, p4⟩
    · rcases vis_ways T m b x hxb with h2 | ⟨k', m2, q1, q2, q3, q4⟩
      · rcases par_cmp T h1 h2 with h | h
        · exact hab h
        · exact hba h
      · have h3 := vis_ar T m2 k' x q4
        rw [kid_ar T q1 q2] at h3
        have hx : rootL l x = rootL l a := rootL_of T ta (parL_trans T h1 (rootL_mem T ta))
        have tx : thereB l x = true := (upB_what (vis_up _ _ _ hxa)).1
        have h4 : (arL l x).length = (arL l b).length := by
          rw [arL_step T tx, arL_step T tb, hostL_at tx, hx, ← hostL_at ta, ea, eb]
          rfl
        have h5 : (arL l b).length = (arL l (hostL l b)).length + 1 := by rw [arL_step T tb]; rfl
        omega
    · rcases vis_ways T m b x hxb with h2 | ⟨k', m2, q1, q2, q3, q4⟩
      · have h3 := vis_ar T m1 k x p4
        rw [kid_ar T p1 p2] at h3
        have hx : rootL l x = rootL l b := rootL_of T tb (parL_trans T h2 (rootL_mem T tb))
        have tx : thereB l x = true := (upB_what (vis_up _ _ _ hxa)).1
        have h4 : (arL l x).length = (arL l a).length := by
          rw [arL_step T tx, arL_step T ta, hostL_at tx, hx, ← hostL_at tb, ea, eb]
          rfl
        have h5 : (arL l a).length = (arL l (hostL l a)).length + 1 := by rw [arL_step T ta]; rfl
        omega
      · rw [ea] at p1 p2
        rw [eb] at q1 q2
        by_cases hk : k = k'
        · subst hk
          rcases par_cmp T p3 q3 with h | h
          · exact hab h
          · exact hba h
        · exact ih k k' m1 m2 x (T.kid _ p1 k p2).1 (T.kid _ p1 k' q2).1 (kid_root T p1 p2) (kid_root T p1 q2) p1 (kid_apart T p1 p2 q2 hk) (kid_apart T p1 q2 p2 (Ne.symm hk)) p4 q4
theorem vis_once (T : Tree l) : ∀ (n : Nat) (s : Int), (visN l n s).Nodup
  | 0, _ => List.nodup_nil
  | n + 1, s => by
    cases hu : upB l s with
    | false => rw [vis_no hu]; exact List.nodup_nil
    | true =>
      rw [vis_go hu, List.nodup_cons]
      refine ⟨fun h => ?_, flatMap_nodup _ (con_once T s) (fun k _ => vis_once T n k) fun a ha b hb x hxa hxb => ?_⟩
      · obtain ⟨c, hc, hx⟩ := List.mem_flatMap.1 h
        have h1 := vis_rk T n c s hx
        have h2 := con_rk T hc
        omega
      · refine Decidable.byContradiction fun hab => ?_
        obtain ⟨p, hp, pa, pb⟩ := con_kids ha hb
        exact vis_apart T p a b n n x (T.kid p hp a pa).1 (T.kid p hp b pb).1 (kid_root T hp pa) (kid_root T hp pb) hp (kid_apart T hp pa pb hab) (kid_apart T hp pb pa (Ne.symm hab)) hxa hxb
theorem visL_len (T : Tree l) (s : Int) : (visL l s).length ≤ l.length := by
  have h := pigeon l.length ((visL l s).map fun x => (x - 1).toNat) (by
    refine List.pairwise_map.2 ((vis_once T _ s).imp_of_mem fun {a b} ha hb hab e => hab ?_)
    have h1 := thereB_iff.1 (upB_what (vis_up _ _ _ ha)).1
    have h2 := thereB_iff.1 (upB_what (vis_up _ _ _ hb)).1
    omega) fun y hy => by
      obtain ⟨x, hx, rfl⟩ := List.mem_map.1 hy
      exact there_lt (upB_what (vis_up _ _ _ hx)).1
  simpa using h
theorem few_kids {K : Nat} (h : Few K l) (i : Int) : (nd l i).kids.length ≤ K := by
  unfold nd
  rw [List.getD_eq_getElem?_getD]
  cases e : l[(i - 1).toNat]? with
  | none => exact Nat.zero_le _
  | some d => exact h d (List.mem_of_getElem? e)
theorem kidsOf_len {K : Nat} (h : Few K l) (i : Int) : (kidsOf l i).length ≤ K := by
  unfold kidsOf
  split
  · exact few_kids h i
  · exact Nat.zero_le _
theorem con_len {K : Nat} (h : Few K l) (s : Int) : (conL l s).length ≤ K := by
  unfold conL
  split
  · exact Nat.le_trans (List.length_filter_le _ _) (kidsOf_len h _)
  · exact Nat.le_trans (List.length_filter_le _ _) (kidsOf_len h _)
theorem flat_sum {f g : Int → List Int} {K : Nat} : ∀ (xs : List Int), (∀ x ∈ xs, (f x).length ≤ 1 + K * (g x).length) → (xs.flatMap f).length ≤ xs.length + K * (xs.flatMap g).length
  | [], _ => by simp
  | x :: r, h => by
    have h1 := h x (by simp)
    have h2 := flat_sum r fun y hy => h y (by simp [hy])
    simp only [List.flatMap_cons, List.length_append, List.length_cons, Nat.mul_add]
    omega
theorem flat_vis {K : Nat} (hf : Few K l) : ∀ (n : Nat) (s : Int), (flatN l n s).length ≤ K * (visN l n s).length
  | 0, _ => Nat.zero_le _
  | n + 1, s => by
    cases hu : upB l s with
    | false => rw [flat_no hu]; exact Nat.zero_le _
    | true =>
      rw [flat_go hu, vis_go hu]
      have h1 := flat_sum (f := fun c => if upB l c = true then flatN l n c else [c]) (g := visN l n) (K := K) (conL l s) fun x _ => by
        split
        · have := flat_vis hf n x
          omega
        · simp
      have h2 := con_len hf s
      simp only [List.length_cons, Nat.mul_add]
      omega
theorem flatL_len (T : Tree l) (hl : l.length ≤ 128) (hf : Few 200 l) (s : Int) : (flatL l s).length ≤ 25600 := by
  have h1 := flat_vis hf (rkL l s + 1) s
  have h2 := visL_len T s
  unfold visL at h2
  unfold flatL
  omega
/-- What is shown at last. -/
theorem flat_what (T : Tree l) : ∀ (n : Nat) (s x : Int), x ∈ flatN l n s → thereB l x = true ∧ (nd l x).kind = 2 ∧ upB l x = false
  | 0, _, _, h => by cases h
  | n + 1, s, x, h => by
    cases hu : upB l s with
    | false => rw [flat_no hu] at h; cases h
    | true =>
      rw [flat_go hu] at h
      obtain ⟨c, hc, hx⟩ := List.mem_flatMap.1 h
      cases hc' : upB l c with
      | true =>
        rw [hc', if_pos rfl] at hx
        exact flat_what T n c x hx
      | false =>
        rw [hc', if_neg (by decide)] at hx
        obtain rfl := List.mem_singleton.1 hx
        obtain ⟨h1, h2⟩ := con_kind T (there_pos (upB_what hu).1) hc
        exact ⟨h1, h2, hc'⟩
theorem flatL_what (T : Tree l) (h : x ∈ flatL l s) : thereB l x = true ∧ (nd l x).kind = 2 ∧ upB l x = false := flat_what T _ s x h
theorem slots_len (T : Tree l) (r : Int) : (slotsL l r).length ≤ l.length := Nat.le_trans (List.length_filter_le _ _) (ordL_len T r)
end
end Go.Proofs.Ytloncmhcdmjjgaa

namespace Go.Proofs.Ytloncmhcdmjjgaa
open Go Go.RowKit

theorem flat_room {f : Int → List Int} {ks : List Int} {j : Nat} (hj : j < ks.length) : ((ks.take j).flatMap f).length + (f ks[j]).length ≤ (ks.flatMap f).length := by
  have e : ks = ks.take j ++ ks[j] :: ks.drop (j + 1) := by rw [List.getElem_cons_drop, List.take_append_drop]
  have e2 : (ks.flatMap f).length = ((ks.take j ++ ks[j] :: ks.drop (j + 1)).flatMap f).length := congrArg (fun z => (List.flatMap f z).length) e
  rw [e2, List.flatMap_append, List.flatMap_cons, List.length_append, List.length_append]
  omega
theorem flat_step {f : Int → List Int} {ks : List Int} {j : Nat} (hj : j < ks.length) : (ks.take (j + 1)).flatMap f = (ks.take j).flatMap f ++ f ks[j] := by
  rw [List.take_add_one, List.getElem?_eq_getElem hj, Option.toList_some, List.flatMap_append, List.flatMap_cons, List.flatMap_nil, List.append_nil]

/-- The forest's pointer, the list so far, and the function itself, in their three blocks. -/
structure Gath (Rep : (Nat → Prop) → World → Nat → List Nd → Prop) (S : Nat → Prop) (b : Nat) (l : List Nd) (B : Nat) (w : World) (v : Value) (xs : List Int) : Prop where
  rep : Rep (fun i => S i ∧ i < B) w b l
  hp : Has w B (.cells #[at_ b] 25 (0, 0))
  hq : Has w (B + 1) (.cells #[v] 32 (0, 0))
  hr : Has w (B + 2) (.cells #[.func (.func 60) #[] #[.pointer (some ⟨B, 0, none⟩), .pointer (some ⟨B + 1, 0, none⟩), .pointer (some ⟨B + 2, 0, none⟩)]] 72 (0, 0))
  pile : Pile (B + 3) w v xs
/-- What gather leaves. -/
def Gathd (Rep : (Nat → Prop) → World → Nat → List Nd → Prop) (S : Nat → Prop) (b : Nat) (l : List Nd) (B : Nat) (w : World) (v : Value) (xs : List Int) (w' : World) : Prop :=
  ∃ v', Gath Rep S b l B w' v' xs ∧ Keeps (fun i => i = B + 1 ∨ v.ownBlock = some i) w w' ∧ ∀ g, v'.ownBlock = some g → v.ownBlock = some g ∨ w.heap.size ≤ g

section
variable {Rep : (Nat → Prop) → World → Nat → List Nd → Prop} {S : Nat → Prop} {w w' : World} {b B : Nat} {l : List Nd} {v : Value} {xs : List Int}
theorem Gath.below (O : ForestOk Rep) (h : Gath Rep S b l B w v xs) (k : Below w.heap.size w w') : Gath Rep S b l B w' v xs :=
  ⟨O.since h.rep k, h.hp.below k h.hp.inside, h.hq.below k h.hq.inside, h.hr.below k h.hr.inside, h.pile.below k⟩
/-- The list is another one, in the old row or a new one. -/
theorem Gath.put (O : ForestOk Rep) (h : Gath Rep S b l B w v xs) {v' : Value} {xs' : List Int} (k : Keeps (fun i => v.ownBlock = some i) w w') (hp' : Pile (B + 3) w' v' xs') : Gath Rep S b l B (w'.setCell ⟨B + 1, 0, none⟩ v') v' xs' := by
  have hlt := h.pile.lt
  have hb := h.hp.inside
  have k2 : Keeps (fun i => v.ownBlock = some i ∨ i = B + 1) w (w'.setCell ⟨B + 1, 0, none⟩ v') := (k.wide fun _ _ hF => .inl hF).store (.inl (.inr rfl)) _
  have k3 : Keeps (fun i => i = B + 1) w' (w'.setCell ⟨B + 1, 0, none⟩ v') := Keeps.store (F := fun i => i = B + 1) (p := ⟨B + 1, 0, none⟩) (Keeps.refl _ _) (.inl rfl) _
  have hq' : Has w' (B + 1) (.cells #[v] 32 (0, 0)) := h.hq.kept k fun e => by have := (hlt _ e).1; omega
  refine ⟨O.keep h.rep k2 fun i hi _ hF => ?_, h.hp.kept k2 fun hF => ?_, ?_, h.hr.kept k2 fun hF => ?_, hp'.kept k3 fun g hg e => ?_⟩
  · rcases hF with hF | hF
    · have := (hlt _ hF).1; omega
    · omega
  · rcases hF with hF | hF
    · have := (hlt _ hF).1; omega
    · omega
  · have := hq'.stored 0 v'
    simpa using this
  · rcases hF with hF | hF
    · have := (hlt _ hF).1; omega
    · omega
  · have := (hp'.lt g hg).1; omega

set_option maxHeartbeats 8000000 in
set_option maxRecDepth 100000 in
theorem gather_any (O : ForestOk Rep) (M : ForestMore Rep) (hg : Good l) : ∀ (m : Nat) (w : World) (v : Value) (id : Int) (xs : List Int), l.length + 1 ≤ m + (parL l id).length → Gath Rep S b l B w v xs → xs.length + (ordL l id).length ≤ 1000 →
    Calls Try.prog 60 #[.int .i64 id, .pointer (some ⟨B, 0, none⟩), .pointer (some ⟨B + 1, 0, none⟩), .pointer (some ⟨B + 2, 0, none⟩)] w fun e w' => e = .returned (.tuple #[]) ∧ Gathd Rep S b l B w v (xs ++ ordL l id) w' := by
  intro m
  induction m with
  | zero =>
    intro w v id xs hm
    have := parL_len hg.tree id
    omega
  | succ m ih =>
    intro w v id xs hm h hlen
    have H := Lib.hid h
    have Hg := Lib.hid hg
    have IH := Lib.hid ih
    have hnot : ∀ (x : Bool) (w : World), (Op.unary .not (.bool x)).run Try.prog w = .ok (.bool (!x)) w := fun _ _ => rfl
    have p0 := h.hp.cell 0
    cases ht : thereB l id with
    | false =>
      have e0 : xs ++ ordL l id = xs := by rw [ordL_no ht, List.append_nil]
      have E0 := Lib.hid e0
      have Ht := Lib.hid ht
      clear ht h hg ih hm hlen e0
      go_enter Try.func60, Try.ntmps60
      go_wp2_with fail
      refine (nodeNo M H.out.rep Hg.out Ht.out).mono ?_
      rintro e w1 ⟨A1, c1, rfl, -, hb1⟩
      have hb2 : Below w.heap.size w (w1.alloc (.cells #[.int .i64 0, .int .i64 0, .int .i64 0, .int .i64 0, .int .i64 0, .bool false, .string ⟨#[]⟩, .string ⟨#[]⟩, .slice A1 0 c1] 39)) := hb1.alloc hb1.size _
      have Hb2 := Lib.hid hb2
      clear hb1 hb2
      go_wp2
      first | go_end0 | (simp only [Exit.inBlock, Exit.then]; refine bodyPost_ret (results_none rfl _ _ _) rfl ?_) | refine bodyPost_ret (results_none rfl _ _ _) rfl ?_
      rw [E0.out]
      exact ⟨rfl, v, H.out.below O Hb2.out, Keeps.of_below Hb2.out fun i hi hle => by omega, fun g hg => .inl hg⟩
    | true =>
      have hst := ordL_step hg.tree ht
      have hkid : ∀ k ∈ (nd l id).kids, l.length + 1 ≤ m + (parL l k).length := fun k hk => by
        rw [parL_kid hg.tree ht hk]
        simp only [List.length_cons]
        omega
      have hkl : (nd l id).kids.length ≤ 200 := few_nd hg.few id
      have Ht := Lib.hid ht
      have Hst := Lib.hid hst
      have Hkid := Lib.hid hkid
      have Hlen := Lib.hid hlen
      clear ht hg ih hm hst hkid hlen h
      go_enter Try.func60, Try.ntmps60
      go_wp2_with fail
      refine (nodeYes M H.out.rep Hg.out Ht.out).mono ?_
      rintro e w1 ⟨A1, c1, rfl, hk1, hb1⟩
      obtain ⟨d, hd⟩ : ∃ d, d = nd l id := ⟨_, rfl⟩
      rw [← hd] at hk1 hkl Hst Hkid
      rw [← hd]
      have hG1 := H.out.below O hb1
      obtain ⟨W2, hW2⟩ : ∃ W2, W2 = (w1.alloc (.cells #[.int .i64 d.kind, .int .i64 d.parent, .int .i64 d.host, .int .i64 d.shadow, .int .i64 d.mode, .bool d.slot, .string d.name, .string d.want, .slice A1 d.kids.length c1] 39)).alloc (.cells #[.int .i64 id] 3) := ⟨_, rfl⟩
      have hb12 : Below w1.heap.size w1 W2 := by
        rw [hW2]
        exact ((Below.refl _ w1).alloc (Nat.le_refl _) _).alloc (by simp) _
      have hG2 := hG1.below O hb12
      have hboxW : Has W2 w1.heap.size (.cells #[.int .i64 d.kind, .int .i64 d.parent, .int .i64 d.host, .int .i64 d.shadow, .int .i64 d.mode, .bool d.slot, .string d.name, .string d.want, .slice A1 d.kids.length c1] 39 (0, 0)) := by
        rw [hW2]
        exact (Has.fresh _ _).more _
      have hlitW : Has W2 (w1.heap.size + 1) (.cells #[.int .i64 id] 3 (0, 0)) := by
        rw [hW2]
        have := Has.fresh (w1.alloc (.cells #[.int .i64 d.kind, .int .i64 d.parent, .int .i64 d.host, .int .i64 d.shadow, .int .i64 d.mode, .bool d.slot, .string d.name, .string d.want, .slice A1 d.kids.length c1] 39)) (.cells #[.int .i64 id] 3)
        simpa using this
      have hs2 : W2.heap.size = w1.heap.size + 2 := by rw [hW2]; simp
      have hkP : Pile w.heap.size W2 (.slice A1 d.kids.length c1) d.kids := (Pile.of_kids hk1 fun g hg _ => hg).below hb12
      have hkin : ∀ g, (Value.slice A1 d.kids.length c1).ownBlock = some g → w.heap.size ≤ g ∧ g < w1.heap.size := (Pile.of_kids (base := w.heap.size) hk1 fun g hg _ => hg).lt
      have hvl : ∀ g, v.ownBlock = some g → B + 3 ≤ g ∧ g < w.heap.size := H.out.pile.lt
      have hBw : B + 2 < w.heap.size := H.out.hr.inside
      have hw1 := hb1.size
      have hxl : xs.length ≤ 1000000 := by have := Hlen.out; omega
      have q0 : W2.cell? ⟨B + 1, 0, none⟩ = some v := hG2.hq.cell 0
      have q1 : (w1.alloc (.cells #[.int .i64 d.kind, .int .i64 d.parent, .int .i64 d.host, .int .i64 d.shadow, .int .i64 d.mode, .bool d.slot, .string d.name, .string d.want, .slice A1 d.kids.length c1] 39)).cell? ⟨B + 1, 0, none⟩ = some v := (hG1.below O ((Below.refl _ w1).alloc (Nat.le_refl _) _)).hq.cell 0
      -- what is so behind the append and the store
      have HC : Hid (∀ g cap w3, Pile (B + 3) w3 (.slice (some ⟨g, 0, none⟩) (xs.length + 1) cap) (xs ++ [id]) → Keeps (fun i => v.ownBlock = some i) W2 w3 → (v.ownBlock = some g ∨ W2.heap.size ≤ g) →
          w3.cell? ⟨B + 1, 0, none⟩ = some v ∧ w3.frozen? ⟨B + 1, 0, none⟩ = false ∧ (w3.setCell ⟨B + 1, 0, none⟩ (.slice (some ⟨g, 0, none⟩) (xs.length + 1) cap)).cell? ⟨w1.heap.size, 8, none⟩ = some (.slice A1 d.kids.length c1) ∧
          Hid (Gath Rep S b l B (w3.setCell ⟨B + 1, 0, none⟩ (.slice (some ⟨g, 0, none⟩) (xs.length + 1) cap)) (.slice (some ⟨g, 0, none⟩) (xs.length + 1) cap) (xs ++ [id]) ∧ Keeps (fun i => i = B + 1 ∨ v.ownBlock = some i) w (w3.setCell ⟨B + 1, 0, none⟩ (.slice (some ⟨g, 0, none⟩) (xs.length + 1) cap)) ∧
            (v.ownBlock = some g ∨ w1.heap.size ≤ g) ∧ Pile w.heap.size (w3.setCell ⟨B + 1, 0, none⟩ (.slice (some ⟨g, 0, none⟩) (xs.length + 1) cap)) (.slice A1 d.kids.length c1) d.kids)) := Lib.hid fun g cap w3 hp3 hk3 hat => by
        have hq3 : Has w3 (B + 1) (.cells #[v] 32 (0, 0)) := hG2.hq.kept hk3 fun e => by have := (hvl _ e).1; omega
        have hbox3 : Has w3 w1.heap.size (.cells #[.int .i64 d.kind, .int .i64 d.parent, .int .i64 d.host, .int .i64 d.shadow, .int .i64 d.mode, .bool d.slot, .string d.name, .string d.want, .slice A1 d.kids.length c1] 39 (0, 0)) := hboxW.kept hk3 fun e => by have := (hvl _ e).2; omega
        refine ⟨hq3.cell 0, hq3.free 0, (hbox3.aside (p := ⟨B + 1, 0, none⟩) (show w1.heap.size ≠ B + 1 by omega) _).cell 8, Lib.hid ⟨hG2.put O hk3 hp3, ?_, ?_, ?_⟩⟩
        · have kk : Keeps (fun i => i = B + 1 ∨ v.ownBlock = some i) w W2 := Keeps.of_below (hb1.trans (hb12.mono hb1.size)) fun i hi hle => by omega
          exact (kk.also (hk3.wide fun _ _ h => .inr h)).store (.inl (.inl rfl)) _
        · exact hat.imp (fun h => h) fun h => by omega
        · refine (hkP.kept hk3 fun g' hg' e => ?_).kept (Keeps.store (F := fun i => i = B + 1) (p := ⟨B + 1, 0, none⟩) (Keeps.refl _ _) (.inl rfl) _) fun g' hg' e => ?_
          · have h1 := (hkin g' hg').1
            have h2 := (hvl _ e).2
            omega
          · have h1 := (hkin g' hg').1
            omega
      have HS2 : Hid (B + 3 ≤ W2.heap.size) := Lib.hid (by omega)
      have HP2 := Lib.hid hG2.pile
      have HL2 := Lib.hid hlitW
      have Hkin := Lib.hid hkin
      have Hvl := Lib.hid hvl
      obtain ⟨Ao, co, ev, -⟩ := hG2.pile.form
      have HW2 := Lib.hid hW2
      rw [HW2.out] at q0 HC HP2 HL2 HS2
      clear hd hb12 hG1 hG2 hboxW hlitW hs2 hkP hk1 hkin hvl hW2 HW2 hb1
      subst ev
      go_wp2_with (at_builtin; refine wpList_push rfl (.tmp 17) (.tmp 19) rfl rfl HP2.out rfl HL2.out hxl HS2.out ?_; intro g cap w3 hp3 hk3 hat _; obtain ⟨r0, r1, r2, HGK⟩ := HC.out g cap w3 hp3 hk3 hat)
      obtain ⟨w4, hw4⟩ : ∃ w4, w4 = w3.setCell ⟨B + 1, 0, none⟩ (.slice (some ⟨g, 0, none⟩) (xs.length + 1) cap) := ⟨_, rfl⟩
      rw [← hw4] at HGK
      rw [← hw4]
      obtain ⟨n, hn⟩ : ∃ n, n = d.kids.length := ⟨_, rfl⟩
      rw [← hn] at HGK hkl Hkin
      rw [← hn]
      have Hn := Lib.hid hn
      clear hw4 hn r0 r1 r2 hp3 hk3 hat HC HP2 HL2 HS2 q0 q1
      go_loopw [8, 24] (fun _ i wr => ∃ (j : Nat) (v' : Value), i = .int .i64 j ∧ j ≤ n ∧ Gath Rep S b l B wr v' ((xs ++ [id]) ++ (d.kids.take j).flatMap (ordL l)) ∧ Keeps (fun i => i = B + 1 ∨ (Value.slice Ao xs.length co).ownBlock = some i) w wr ∧ (∀ g, v'.ownBlock = some g → (Value.slice Ao xs.length co).ownBlock = some g ∨ w.heap.size ≤ g) ∧ (∀ g, (Value.slice A1 n c1).ownBlock = some g → v'.ownBlock ≠ some g) ∧ Pile w.heap.size wr (.slice A1 n c1) d.kids) (fun _ i _ => n - (intOf i).toNat)
      case atStart =>
        obtain ⟨h1, h2, h3, h4⟩ := HGK.out
        refine ⟨0, _, rfl, Nat.zero_le _, by simpa using h1, h2, fun g' hg' => ?_, fun g' hg' e => ?_, h4⟩
        · obtain rfl : g = g' := by simpa [Value.ownBlock] using hg'
          exact h3.imp (fun h => h) fun h => by omega
        · obtain rfl : g = g' := by simpa [Value.ownBlock] using e
          have q := Hkin.out g hg'
          rcases h3 with h3 | h3
          · have := (Hvl.out g h3).2
            omega
          · omega
      case round =>
        obtain ⟨j, v', rfl, hj, hG, hK, hat, hap, hPk⟩ := hrel
        by_cases hjn : (j : Int) < n
        · have hjk : j < d.kids.length := by rw [← Hn.out]; omega
          obtain ⟨A, c, eA, hL⟩ := hPk.form
          obtain ⟨rfl, rfl⟩ : A1 = A ∧ c1 = c := by injection eA with e1 _ e3; exact ⟨e1, e3⟩
          obtain ⟨b', off, rfl, hB, hc⟩ := hL.nums j hjk
          have hdeep := Hkid.out d.kids[j] (List.getElem_mem hjk)
          have hlen' : ((xs ++ [id]) ++ (d.kids.take j).flatMap (ordL l)).length + (ordL l d.kids[j]).length ≤ 1000 := by
            have h1 := Hlen.out
            rw [Hst.out] at h1
            have h2 := flat_room (f := ordL l) hjk
            simp only [List.length_append, List.length_cons, List.length_nil] at h1 ⊢
            omega
          have hstep := flat_step (f := ordL l) hjk
          obtain ⟨y, hy⟩ : ∃ y, y = d.kids[j] := ⟨_, rfl⟩
          rw [← hy] at hc hdeep hlen' hstep
          have C := Lib.hid (IH.out wr v' y _ hdeep hG hlen')
          have f0 := hG.hr.cell 0
          have Hstep := Lib.hid hstep
          have Hhap := Lib.hid hap
          have Hhat := Lib.hid hat
          have HPk := Lib.hid hPk
          have hBr := hG.hr.inside
          clear hdeep hlen' hstep hy hL eA hG hap hat hPk HGK hB
          go_wp2_with fail
          refine C.out.mono ?_
          rintro e w5 ⟨rfl, v5, hG5, hK5, hat5⟩
          go_wp2
          go_roundw
          case rel =>
            have hPl := HPk.out.lt
            refine ⟨j + 1, v5, by go_num, by omega, ?_, hK.trans hK5 fun i hi hF => ?_, fun g' hg' => ?_, fun g' hg' e => ?_, HPk.out.kept hK5 fun g' hg' e => ?_⟩
            · rw [Hstep.out, ← List.append_assoc]
              exact hG5
            · rcases hF with hF | hF
              · exact .inl hF
              · rcases Hhat.out i hF with h | h
                · exact .inr h
                · omega
            · rcases hat5 g' hg' with h | h
              · exact Hhat.out g' h
              · exact .inr (Nat.le_trans hK.grows h)
            · rcases hat5 g' e with h | h
              · exact Hhap.out g' hg' h
              · have := (hPl g' hg').2
                omega
            · rcases e with e | e
              · have := (hPl g' hg').1
                omega
              · exact Hhap.out g' hg' e
          case measure => simp [intOf]; omega
        · have he : (xs ++ [id]) ++ (d.kids.take j).flatMap (ordL l) = xs ++ ordL l id := by
            rw [List.take_of_length_le (by rw [← Hn.out]; omega), Hst.out, List.append_assoc, List.singleton_append]
          rw [he] at hG
          clear he
          go_wp2
          first | go_end0 | (simp only [Exit.inBlock, Exit.then]; refine bodyPost_ret (results_none rfl _ _ _) rfl ?_) | refine bodyPost_ret (results_none rfl _ _ _) rfl ?_
          exact ⟨rfl, v', hG, hK, hat⟩

set_option maxHeartbeats 2000000 in
theorem kinOrder (O : ForestOk Rep) (M : ForestMore Rep) (id : Int) (h : Rep S w b l) (hg : Good l) :
    Calls Try.prog 36 #[at_ b, .int .i64 id] w fun e w' => ∃ v, e = .returned v ∧ Pile w.heap.size w' v (ordL l id) ∧ Below w.heap.size w w' := by
  have hmf : ∀ (fn : Fn) (first cap : Array Value) (w : World), (Instr.makeFunc fn first cap).run Try.prog w = .ok (.func fn first cap) w := fun _ _ _ _ => rfl
  have hlen : ([] : List Int).length + (ordL l id).length ≤ 1000 := by
    have := ordL_len hg.tree id
    have := hg.len
    simp
    omega
  obtain ⟨W, hW⟩ : ∃ W, W = ((w.alloc (.cells #[at_ b] 25)).alloc (.cells #[.slice none 0 0] 32)).alloc (.cells #[.func (.func 60) #[] #[.pointer (some ⟨w.heap.size, 0, none⟩), .pointer (some ⟨w.heap.size + 1, 0, none⟩), .pointer (some ⟨w.heap.size + 1 + 1, 0, none⟩)]] 72) := ⟨_, rfl⟩
  have hb : Below w.heap.size w W := by
    rw [hW]
    exact (((Below.refl _ w).alloc (Nat.le_refl _) _).alloc (by simp) _).alloc (by simp; omega) _
  have hG : Gath Rep S b l w.heap.size W (.slice none 0 0) [] := by
    refine ⟨O.since (O.wide h fun i hi hlt => ⟨hi, hlt⟩) hb, ?_, ?_, ?_, Pile.nil _ _⟩
    · rw [hW]
      exact ((Has.fresh _ _).more _).more _
    · rw [hW]
      have := Has.fresh (w.alloc (.cells #[at_ b] 25)) (.cells #[.slice none 0 0] 32)
      rw [show (w.alloc (.cells #[at_ b] 25)).heap.size = w.heap.size + 1 by simp] at this
      exact this.more _
    · rw [hW]
      have := Has.fresh ((w.alloc (.cells #[at_ b] 25)).alloc (.cells #[.slice none 0 0] 32)) (.cells #[.func (.func 60) #[] #[.pointer (some ⟨w.heap.size, 0, none⟩), .pointer (some ⟨w.heap.size + 1, 0, none⟩), .pointer (some ⟨w.heap.size + 1 + 1, 0, none⟩)]] 72)
      rw [show ((w.alloc (.cells #[at_ b] 25)).alloc (.cells #[.slice none 0 0] 32)).heap.size = w.heap.size + 2 by simp] at this
      exact this
  have hs : w.heap.size ≤ W.heap.size := hb.size
  have C := Lib.hid (gather_any O M hg (l.length + 1) W (.slice none 0 0) id [] (by omega) hG hlen)
  have Hb := Lib.hid hb
  have HW := Lib.hid hW
  clear h hg hlen hb hG hW
  go_enter Try.func36, Try.ntmps36
  go_wp2_with fail
  rw [← HW.out]
  refine C.out.mono ?_
  rintro e w1 ⟨rfl, v, hG, hK, -⟩
  have c0 : w1.cell? ⟨w.heap.size + 1, 0, none⟩ = some v := hG.hq.cell 0
  have HF : Hid (Pile w.heap.size w1 v (ordL l id) ∧ Below w.heap.size w w1) := Lib.hid ⟨hG.pile.from_ (by omega), below_then Hb.out hK hs fun i hi hF => by
    rcases hF with hF | hF
    · omega
    · cases hF⟩
  clear hG hK C HW Hb hs
  go_wp2
  go_ret
  exact ⟨v, rfl, HF.out.1, HF.out.2⟩
end
end Go.Proofs.Ytloncmhcdmjjgaa
