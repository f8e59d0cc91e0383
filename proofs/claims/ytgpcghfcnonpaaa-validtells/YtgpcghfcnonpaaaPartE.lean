/-
  Lists of numbers that a call builds: put behind, cut off at the end, read. Only towncrier's types are named here, and slices.Index, slices.Contains.
  What package kin's Up, Root, Above do with an arena that keeps its promises.
  What package kin's Root, Above, row, Index and Next do with an arena that keeps its promises.
  What package kin's Count and Order do with an arena that keeps its promises.
  Forests, plain: host-including ancestors, and what the document says of Check. No program is named here.
  What towncrierref04.Nodes and Up, towncrierref05.Root and Above do.
  What towncrierref05.Index, Next and Count do.
  What towncrierref06.Host does.
  What package valid's Host does with an arena that keeps its promises.
  What package valid's elements, crowds and Check do with an arena that keeps its promises.
  What package valid's Check does with an arena that keeps its promises.
  What towncrierref06.Check does.
  What the law's own made does with an arena that keeps its promises (stages 5 and later: a list is handed on as it came in).
  Calls on a forest that a law writes out: a literal, read as a list of calls.
  What towncrierlaw04.awake does with an arena that keeps its promises: it answers true.
-/
import Derived.Test.YtgpcghfcnonpaaaPartD

namespace Go.Proofs.Ytgpcghfcnonpaaa
open Go Go.RowKit

/-- A list of numbers of the call's own, its block from base on; what lies behind its end may be written over only where nobody else can see it. -/
def Pile (base : Nat) (w : World) (v : Value) (xs : List Int) : Prop :=
  (v = .slice none 0 0 ∧ xs = []) ∨
  ∃ g cap cur, v = .slice (some ⟨g, 0, none⟩) xs.length cap ∧ base ≤ g ∧ Has w g (.cells cur 3 (0, 0)) ∧ xs.length ≤ cap ∧ cap ≤ maxLen ∧ (cur.size = cap ∨ cap = xs.length) ∧ cur.toList.take xs.length = xs.map (Value.int .i64)

section
variable {base base' : Nat} {w w' : World} {v : Value} {xs : List Int} {F : Nat → Prop}
theorem Pile.nil (base : Nat) (w : World) : Pile base w (.slice none 0 0) [] := .inl ⟨rfl, rfl⟩
theorem Pile.lt (h : Pile base w v xs) : ∀ g, v.ownBlock = some g → base ≤ g ∧ g < w.heap.size := by
  intro k hk
  rcases h with ⟨rfl, _⟩ | ⟨g, cap, cur, rfl, hb, hg, _⟩
  · cases hk
  · obtain rfl : g = k := by simpa [Value.ownBlock] using hk
    exact ⟨hb, hg.inside⟩
theorem Pile.kept (h : Pile base w v xs) (k : Keeps F w w') (hF : ∀ g, v.ownBlock = some g → ¬ F g) : Pile base w' v xs := by
  rcases h with h | ⟨g, cap, cur, rfl, hb, hg, rest⟩
  · exact .inl h
  · exact .inr ⟨g, cap, cur, rfl, hb, hg.kept k (hF g rfl), rest⟩
theorem Pile.below (h : Pile base w v xs) (k : Below w.heap.size w w') : Pile base w' v xs :=
  h.kept (Keeps.of_below (F := fun i => w.heap.size ≤ i) k fun _ _ h => h) fun g hg => Nat.not_le.2 (h.lt g hg).2
theorem Pile.from_ (h : Pile base w v xs) (hb : base' ≤ base) : Pile base' w v xs := by
  rcases h with h | ⟨g, cap, cur, rfl, h1, rest⟩
  · exact .inl h
  · exact .inr ⟨g, cap, cur, rfl, Nat.le_trans hb h1, rest⟩
theorem Pile.since (h : Pile base w v xs) (hb : ∀ g, v.ownBlock = some g → base' ≤ g) : Pile base' w v xs := by
  rcases h with h | ⟨g, cap, cur, rfl, h1, rest⟩
  · exact .inl h
  · exact .inr ⟨g, cap, cur, rfl, hb g rfl, rest⟩
theorem Pile.alloc (h : Pile base w v xs) (o : Obj) : Pile base (w.alloc o) v xs := h.below ((Below.refl _ w).alloc (Nat.le_refl _) o)
theorem Pile.drew (h : Pile base w v xs) : Pile base w.drew v xs := h
theorem Pile.drewN (h : Pile base w v xs) (n : Nat) : Pile base (w.drewN n) v xs := h
/-- Its shape, and that it may be read. -/
theorem Pile.form (h : Pile base w v xs) : ∃ A c, v = .slice A xs.length c ∧ ListIn w A c xs := by
  rcases h with ⟨rfl, rfl⟩ | ⟨g, cap, cur, rfl, hb, hg, hl, hm, hc, ht⟩
  · exact ⟨none, 0, rfl, Nat.le_refl _, fun _ => rfl, fun i hi => absurd hi (Nat.not_lt_zero i)⟩
  · refine ⟨_, cap, rfl, hl, (fun e => by cases e), fun i hi => ⟨g, 0, rfl, hg.inside, ?_⟩⟩
    have e := congrArg (fun z => z[i]?) ht
    simp only [List.getElem?_take, if_pos hi, List.getElem?_map, List.getElem?_eq_getElem hi] at e
    rw [Nat.zero_add, hg.cell i, ← Array.getElem?_toList, e]
    rfl
theorem Pile.of_kids {G : Nat → Prop} (h : Kids G w v xs) (hb : ∀ g, G g → g < w.heap.size → base ≤ g) : Pile base w v xs := by
  rcases h.1.2 with ⟨hv, h0⟩ | ⟨g, cap, cur, hv, _, hg, h1, h2, h3, h4⟩
  · exact .inl ⟨hv, List.length_eq_zero_iff.1 h0⟩
  · exact .inr ⟨g, cap, cur, hv, hb g (h.2 g (by rw [hv]; rfl)) (Has.inside hg), hg, h1, h2, .inl (by omega), by rw [Nat.mul_one] at h4; exact h4⟩
/-- A literal. -/
theorem Pile.lit (w : World) (xs : List Int) (n : Nat) (hn : n = xs.length) (hm : n ≤ maxLen) (hb : base ≤ w.heap.size) : Pile base (w.alloc (.cells (xs.map (Value.int .i64)).toArray 3)) (.slice (some ⟨w.heap.size, 0, none⟩) n n) xs := by
  subst hn
  refine .inr ⟨w.heap.size, xs.length, _, rfl, hb, Has.fresh _ _, Nat.le_refl _, hm, .inr rfl, ?_⟩
  simp only
  rw [List.take_of_length_le (by simp)]
/-- The last one is cut off. -/
theorem Pile.clip {A : Option Addr} {n c : Nat} {y : Int} (h : Pile base w (.slice A (n + 1) c) (xs ++ [y])) (hn : n = xs.length) : ∃ g, A = some ⟨g, 0, none⟩ ∧ Pile base w (.slice A n n) xs := by
  subst hn
  rcases h with ⟨hv, _⟩ | ⟨g, cap, cur, hv, hb, hg, hl, hm, hc, ht⟩
  · cases hv
  · obtain ⟨rfl, -, rfl⟩ : A = some ⟨g, 0, none⟩ ∧ xs.length + 1 = (xs ++ [y]).length ∧ c = cap := by injection hv with e1 e2 e3; exact ⟨e1, e2, e3⟩
    refine ⟨g, rfl, .inr ⟨g, xs.length, cur, rfl, hb, hg, Nat.le_refl _, ?_, .inr rfl, ?_⟩⟩
    · rw [List.length_append] at hl
      omega
    · have e := congrArg (List.take xs.length) ht
      rw [List.take_take, List.length_append, List.map_append, List.take_append_of_le_length (by simp), Nat.min_eq_left (by omega)] at e
      have e2 : List.take xs.length (xs.map (Value.int .i64)) = xs.map (Value.int .i64) := List.take_of_length_le (by simp)
      rw [e2] at e
      exact e
end

section
variable {base : Nat} {w : World} {v : Value} {xs : List Int}
/-- One number is put behind: in the old row or a new one. -/
theorem run_push (t ty : TypeId) (i : TypeInfo) (z : Value) {P : Program} (ht : P.underlying t = some (.slice 3)) (hi : P.info? 3 = some i) (hz : i.zero = some z) (hsize : i.size = 1) (hby : i.bytes = 8) (hzs : z.cells.size = 1)
    (hP : Pile base w v xs) {b c : Nat} {y : Int} {fr : Nat × Nat} (hb : Has w b (.cells #[.int .i64 y] 3 fr)) (hl : xs.length ≤ 1000000) (hbase : base ≤ w.heap.size) :
    ∃ g cap w', (Builtin.append_ #[t, t] ty #[v, .slice (some ⟨b, 0, none⟩) 1 c]).run P w = .ok (.slice (some ⟨g, 0, none⟩) (xs.length + 1) cap) w' ∧
      Pile base w' (.slice (some ⟨g, 0, none⟩) (xs.length + 1) cap) (xs ++ [y]) ∧ Keeps (fun i => v.ownBlock = some i) w w' ∧ (v.ownBlock = some g ∨ w.heap.size ≤ g) ∧ g < w'.heap.size := by
  have hnews : ∀ j u, [Value.int .i64 y][j]? = some u → w.cell? ((⟨b, 0, none⟩ : Addr).add j) = some u := World.news_of_block hb
  have h1 : ∀ u ∈ [Value.int .i64 y], u.oneCell' = true := fun u hu => by obtain rfl := List.mem_singleton.1 hu; rfl
  have owned : ∀ {vo : Value}, w.ownsRow base 3 1 vo xs.length (xs.map (Value.int .i64)) → ∃ g cap w', (Builtin.append_ #[t, t] ty #[vo, .slice (some ⟨b, 0, none⟩) 1 c]).run P w = .ok (.slice (some ⟨g, 0, none⟩) (xs.length + 1) cap) w' ∧
      Pile base w' (.slice (some ⟨g, 0, none⟩) (xs.length + 1) cap) (xs ++ [y]) ∧ Keeps (fun i => vo.ownBlock = some i) w w' ∧ (vo.ownBlock = some g ∨ w.heap.size ≤ g) ∧ g < w'.heap.size := by
    intro vo hown
    obtain ⟨g, cap, w', hr, h2, h3, h4, h5⟩ := run_append_lies (P := P) w t ty base 3 i z 1 8 ht hi hz hsize hby hzs (by decide) vo xs.length (xs.map (Value.int .i64)) hown ⟨b, 0, none⟩ 1 c [.int .i64 y] rfl hnews h1 (by decide) (by unfold maxLen; omega) (by omega) hbase _ rfl
    refine ⟨g, cap, w', hr, ?_, Keeps.of_grown h3, h4.imp id fun e => by omega, h5⟩
    rcases h2.2 with ⟨hv, _⟩ | ⟨g', cap', cur, hv, hb', hg, q1, q2, q3, q4⟩
    · cases hv
    · obtain ⟨rfl, rfl⟩ : g = g' ∧ cap = cap' := by injection hv with e1 _ e3; exact ⟨by simpa using e1, e3⟩
      refine .inr ⟨g, cap, cur, by simp, hb', hg, by simpa using q1, q2, .inl (by omega), ?_⟩
      rw [Nat.mul_one] at q4
      simpa using q4
  rcases hP with ⟨rfl, rfl⟩ | ⟨g, cap, cur, rfl, hb', hg, hlc, hm, hc, htk⟩
  · exact owned (World.ownsRow_nil w base 3 1)
  · by_cases hfull : cap = xs.length
    · subst hfull
      have hle : xs.length ≤ cur.size := by
        have := congrArg List.length htk
        rw [List.length_take, List.length_map] at this
        have h2 : cur.toList.length = cur.size := Array.length_toList
        omega
      have holds : ∀ j u, (xs.map (Value.int .i64))[j]? = some u → w.cell? ((⟨g, 0, none⟩ : Addr).add j) = some u := by
        intro j u hu
        have hj : j < xs.length := by
          have := (List.getElem?_eq_some_iff.1 hu).1
          simpa using this
        rw [Addr.add_lit, Nat.zero_add, hg.cell j]
        rw [← htk, List.getElem?_take, if_pos hj, Array.getElem?_toList] at hu
        exact hu
      have hr := run_append_grow (P := P) w t ty 3 i z ht hi hz ⟨g, 0, none⟩ xs.length xs.length (xs.map (Value.int .i64)) (by rw [hsize]; simp) holds ⟨b, 0, none⟩ 1 c [.int .i64 y] (by rw [hsize]; rfl) hnews (by omega) (by omega) (growslice_fits (by omega) (by rw [hby]; omega))
      have hge := grownCap_ge w (xs.length + 1) xs.length 3
      refine ⟨w.heap.size, grownCap w (xs.length + 1) xs.length 3, _, hr, .inr ⟨w.heap.size, grownCap w (xs.length + 1) xs.length 3, _, by simp, hbase, Has.fresh w.drew _, by simpa using hge, grownCap_le_maxLen w _ _ _ (by unfold maxLen; omega), .inl ?_, ?_⟩, ⟨⟨rfl, rfl, rfl⟩, by simp, fun k hk _ => Below.heap_alloc w.drew _ k hk⟩, .inr (Nat.le_refl _), by simp⟩
      · simp only [Array.size_append, List.size_toArray, size_zeroCells, hzs, List.length_map, List.length_cons, List.length_nil]
        omega
      · simp only [Array.toList_append, List.map_append, List.map_cons, List.map_nil, List.length_append, List.length_cons, List.length_nil]
        rw [List.take_append_of_le_length (by simp), List.take_of_length_le (by simp)]
    · have hcs : cur.size = cap := hc.resolve_right hfull
      exact owned ⟨by simp, .inr ⟨g, cap, cur, rfl, hb', hg, hlc, hm, by omega, by rw [Nat.mul_one]; exact htk⟩⟩
/-- At a plain region. -/
theorem wpList_push {ops : Array Oper} {rest : List Oper} {o : Oper} {a : Act} {Q : Exit → Act → World → Prop} (hgd : o.guard = none) (s x : Operand)
    (ho : o.op = .call { callee := .builtin .append, args := #[s, x], argTypes := #[37, 37] }) (hs : a.eval s = v) (hP : Pile base w v xs) {b c : Nat} {y : Int} {fr : Nat × Nat} (hx : a.eval x = .slice (some ⟨b, 0, none⟩) 1 c)
    (hb : Has w b (.cells #[.int .i64 y] 3 fr)) (hl : xs.length ≤ 1000000) (hbase : base ≤ w.heap.size)
    (h : ∀ g cap w', Pile base w' (.slice (some ⟨g, 0, none⟩) (xs.length + 1) cap) (xs ++ [y]) → Keeps (fun i => v.ownBlock = some i) w w' → (v.ownBlock = some g ∨ w.heap.size ≤ g) → g < w'.heap.size → wpList Try.prog ops Q rest (a.put o.dst (.slice (some ⟨g, 0, none⟩) (xs.length + 1) cap)) w') : wpList Try.prog ops Q (o :: rest) a w := by
  obtain ⟨i0, hi, hz0, hz1, hz2⟩ := info_parts Try.infoInt
  obtain ⟨g, cap, w', hr, h2, h3, h4, h5⟩ := run_push (c := c) 37 o.type i0 _ Try.underlying37 hi hz0 hz1 hz2 rfl hP hb hl hbase
  refine wpList_plain hgd fun _ hK => ?_
  unfold Oper.wp execOp
  simp only [ho, resolve, invoke, builtin, Sem.run_bind, Sem.run_pure, Result.andThen_ok, List.map_toArray, List.map_cons, List.map_nil, hs, hx, hr]
  exact hK _ _ (h g cap w' h2 h3 h4 h5)
end

/-- The place of a number; -1: it isn't there. -/
def idxL (xs : List Int) (x : Int) : Int := if x ∈ xs then (xs.idxOf x : Int) else -1
theorem idxL_at {xs : List Int} {x : Int} {k : Nat} (hk : k < xs.length) (hx : xs[k] = x) (hno : x ∉ xs.take k) : idxL xs x = (k : Int) := by
  have hm : x ∈ xs := hx ▸ List.getElem_mem hk
  unfold idxL
  rw [if_pos hm]
  have e : xs = xs.take k ++ x :: xs.drop (k + 1) := by
    rw [← hx, List.getElem_cons_drop, List.take_append_drop]
  have : xs.idxOf x = k := by
    conv => lhs; rw [e]
    rw [List.idxOf_append, if_neg hno, List.idxOf_cons_self]
    simp
    omega
  rw [this]
theorem idxL_no {xs : List Int} {x : Int} (h : x ∉ xs) : idxL xs x = -1 := if_neg h
theorem not_take {xs : List Int} {x : Int} {k : Nat} (h : x ∉ xs.take k) (hk : k < xs.length) (hx : xs[k] ≠ x) : x ∉ xs.take (k + 1) := by
  rw [List.take_add_one, List.getElem?_eq_getElem hk]
  intro hm
  rcases List.mem_append.1 hm with h' | h'
  · exact h h'
  · have e : x = xs[k] := by simpa using h'
    exact hx e.symm
theorem idxL_nonneg {xs : List Int} {x : Int} : decide (0 ≤ idxL xs x) = hasB xs x := by
  unfold idxL hasB
  by_cases h : x ∈ xs
  · rw [if_pos h, decide_eq_true h]
    exact decide_eq_true (by omega)
  · rw [if_neg h, decide_eq_false h]
    rfl

set_option maxHeartbeats 1000000 in
theorem index_any (xs : List Int) (A : Option Addr) (n c : Nat) (x : Int) (w : World) {B : Nat} (hn : n = xs.length) (hl : n ≤ 1000000) (h : Nums w B A .i64 xs) :
    Calls Try.prog 57 #[.slice A n c, .int .i64 x] w fun e w' => e = .returned (.int .i64 (idxL xs x)) ∧ w = w' := by
  have Hn := Lib.hid hn
  have H := Lib.hid h
  clear hn h
  go_enter Try.func57, Try.ntmps57
  go_wp2
  go_loop [8] (fun i => ∃ k : Nat, i = .int .i64 k ∧ k ≤ n ∧ x ∉ xs.take k) (fun i => n - (intOf i).toNat)
  case atStart => exact ⟨0, rfl, Nat.zero_le _, by simp⟩
  case round =>
    obtain ⟨k, rfl, hk, hc⟩ := hrel
    have Hc := Lib.hid hc
    clear hc
    by_cases hlt : (k : Int) < n
    · have hkl : k < xs.length := by rw [← Hn.out]; omega
      obtain ⟨b, off, rfl, hb, hcell⟩ := H.out k hkl
      obtain ⟨y, hy⟩ : ∃ y, y = xs[k] := ⟨_, rfl⟩
      rw [← hy] at hcell
      have Hy := Lib.hid hy
      clear hy hb
      by_cases hxy : y = x
      · have e1 : idxL xs x = (k : Int) := idxL_at hkl (by rw [← Hy.out]; exact hxy) Hc.out
        have E1 := Lib.hid e1
        clear e1
        subst hxy
        go_wp2
        go_ret
        rw [E1.out]
        exact ⟨rfl, rfl⟩
      · have hxy' : (x == y) = false := by simpa using fun e => hxy e.symm
        have e2 := not_take Hc.out hkl (by rw [← Hy.out]; exact hxy)
        have E2 := Lib.hid e2
        clear e2
        go_wp2
        go_round
        case rel => exact ⟨k + 1, by go_num, by omega, E2.out⟩
        case measure => simp [intOf]; omega
    · have e1 : idxL xs x = -1 := by
        have := Hc.out
        rw [List.take_of_length_le (by rw [← Hn.out]; omega)] at this
        exact idxL_no this
      have E1 := Lib.hid e1
      clear e1
      go_wp2
      go_ret
      rw [E1.out]
      exact ⟨rfl, rfl⟩
theorem contains_any (xs : List Int) (A : Option Addr) (n c : Nat) (x : Int) (w : World) {B : Nat} (hn : n = xs.length) (hl : n ≤ 1000000) (h : Nums w B A .i64 xs) :
    Calls Try.prog 45 #[.slice A n c, .int .i64 x] w fun e w' => e = .returned (.bool (hasB xs x)) ∧ w = w' := by
  have Hn := Lib.hid hn
  have H := Lib.hid h
  have E := Lib.hid (@idxL_nonneg xs x)
  clear hn h
  go_enter Try.func45, Try.ntmps45
  go_wp2_with fail
  refine (index_any xs A n c x w Hn.out hl H.out).mono ?_
  rintro e w1 ⟨rfl, rfl⟩
  go_wp2
  go_ret
  rw [← E.out]
  exact ⟨rfl, rfl⟩
end Go.Proofs.Ytgpcghfcnonpaaa

namespace Go.Proofs.Ytgpcghfcnonpaaa
open Go Go.RowKit

section
variable {Rep : (Nat → Prop) → World → Nat → List Nd → Prop} {S : Nat → Prop} {w : World} {b : Nat} {l : List Nd}
/-- Node of one that is there, and of one that isn't. -/
theorem nodeYes (M : ForestMore Rep) {id : Int} (h : Rep S w b l) (hg : Good l) (ht : thereB l id = true) :
    Calls Try.prog 15 #[at_ b, .int .i64 id] w fun e w' => ∃ A1 c1, e = .returned (.tuple #[.agg #[.int .i64 (nd l id).kind, .int .i64 (nd l id).parent, .int .i64 (nd l id).host, .int .i64 (nd l id).shadow, .int .i64 (nd l id).mode, .bool (nd l id).slot, .string (nd l id).name, .string (nd l id).want, .slice A1 (nd l id).kids.length c1], .bool true]) ∧ Kids (fun i => w.heap.size ≤ i) w' (.slice A1 (nd l id).kids.length c1) (nd l id).kids ∧ Below w.heap.size w w' := by
  refine (M.node S w b l id h hg).mono ?_
  rintro e w' ⟨d, A, c, rfl, hd, hk, hb⟩
  rw [if_pos ht] at hd
  subst hd
  rw [ht]
  exact ⟨A, c, rfl, hk, hb⟩
theorem nodeNo (M : ForestMore Rep) {id : Int} (h : Rep S w b l) (hg : Good l) (ht : thereB l id = false) :
    Calls Try.prog 15 #[at_ b, .int .i64 id] w fun e w' => ∃ A1 c1, e = .returned (.tuple #[.agg #[.int .i64 0, .int .i64 0, .int .i64 0, .int .i64 0, .int .i64 0, .bool false, .string ⟨#[]⟩, .string ⟨#[]⟩, .slice A1 0 c1], .bool false]) ∧ Kids (fun i => w.heap.size ≤ i) w' (.slice A1 0 c1) [] ∧ Below w.heap.size w w' := by
  refine (M.node S w b l id h hg).mono ?_
  rintro e w' ⟨d, A, c, rfl, hd, hk, hb⟩
  rw [if_neg (by rw [ht]; decide)] at hd
  subst hd
  rw [ht]
  exact ⟨A, c, rfl, hk, hb⟩
theorem app_len {xs ys : List Int} {R : List Int} (h : xs ++ ys = R) : xs.length ≤ R.length := by rw [← h]; simp

set_option maxHeartbeats 4000000 in
set_option maxRecDepth 100000 in
theorem kinUp (O : ForestOk Rep) (M : ForestMore Rep) (id : Int) (h : Rep S w b l) (hg : Good l) :
    Calls Try.prog 46 #[at_ b, .int .i64 id] w fun e w' => ∃ v, e = .returned v ∧ Pile w.heap.size w' v (parL l id) ∧ Below w.heap.size w w' := by
  have H := Lib.hid h
  have Hg := Lib.hid hg
  have hnot : ∀ (x : Bool) (w : World), (Op.unary .not (.bool x)).run Try.prog w = .ok (.bool (!x)) w := fun _ _ => rfl
  have hRl : (parL l id).length ≤ 128 := Nat.le_trans (parL_len hg.tree id) hg.len
  obtain ⟨R, hR⟩ : ∃ R, R = parL l id := ⟨_, rfl⟩
  rw [← hR] at hRl
  rw [← hR]
  have hR0 : ([] : List Int) ++ parL l id = R := by rw [hR]; rfl
  have HR0 := Lib.hid hR0
  clear h hg hR hR0
  go_enter Try.func46, Try.ntmps46
  go_wp2_with fail
  go_loopw [1, 5] (fun a o wr => ∃ (i : Int) (xs : List Int), a = .int .i64 i ∧ xs ++ parL l i = R ∧ Pile w.heap.size wr o xs ∧ Below w.heap.size w wr) (fun a _ _ => (parL l (intOf a)).length)
  case atStart => exact ⟨id, [], rfl, HR0.out, Pile.nil _ _, Below.refl _ _⟩
  case round =>
    obtain ⟨i, xs, rfl, hxs, hP, hb⟩ := hrel
    have hRw : Rep S wr b l := O.keep H.out (Keeps.of_below (F := fun i => w.heap.size ≤ i) hb fun _ _ h => h) fun _ _ hi => Nat.not_le.2 hi
    have Hxs := Lib.hid hxs
    have hxl : xs.length ≤ 1000000 := by have := app_len hxs; omega
    clear HR0 hxs
    obtain ⟨Ao, co, rfl, -⟩ := hP.form
    cases ht : thereB l i with
    | false =>
      have Ht := Lib.hid ht
      have HP := Lib.hid hP
      clear ht hP
      go_wp2_with fail
      refine (nodeNo M hRw Hg.out Ht.out).mono ?_
      rintro e w1 ⟨A1, c1, rfl, -, hb1⟩
      have HF : Hid (Pile w.heap.size (w1.alloc (.cells #[.int .i64 0, .int .i64 0, .int .i64 0, .int .i64 0, .int .i64 0, .bool false, .string ⟨#[]⟩, .string ⟨#[]⟩, .slice A1 0 c1] 39)) (.slice Ao xs.length co) xs ∧ Below w.heap.size w (w1.alloc (.cells #[.int .i64 0, .int .i64 0, .int .i64 0, .int .i64 0, .int .i64 0, .bool false, .string ⟨#[]⟩, .string ⟨#[]⟩, .slice A1 0 c1] 39))) := Lib.hid ⟨(HP.out.below hb1).alloc _, (hb.trans (hb1.mono hb.size)).alloc (Nat.le_trans hb.size hb1.size) _⟩
      clear hb1 HP
      go_wp2
      go_ret
      refine ⟨_, rfl, ?_, HF.out.2⟩
      have := Hxs.out
      rw [parL_no Ht.out, List.append_nil] at this
      rw [← this]
      exact HF.out.1
    | true =>
      have Ht := Lib.hid ht
      have HP := Lib.hid hP
      have hfin : (xs ++ [i]) ++ parL l (nd l i).parent = R := by
        rw [List.append_assoc, List.singleton_append, ← parL_step Hg.out.tree ht]
        exact Hxs.out
      have Hfin := Lib.hid hfin
      clear ht hP hfin Hxs
      go_wp2_with fail
      refine (nodeYes M hRw Hg.out Ht.out).mono ?_
      rintro e w1 ⟨A1, c1, rfl, -, hb1⟩
      obtain ⟨d, hd⟩ : ∃ d, d = nd l i := ⟨_, rfl⟩
      rw [← hd] at Hfin
      rw [← hd]
      have hB1 : Below w.heap.size w w1 := hb.trans (hb1.mono hb.size)
      have hP1 : Pile w.heap.size w1 (.slice Ao xs.length co) xs := HP.out.below hb1
      have hown : ∀ g, (Value.slice Ao xs.length co).ownBlock = some g → w.heap.size ≤ g ∧ g < w1.heap.size := hP1.lt
      have HC : Hid (∀ w2, Keeps (fun i => (Value.slice Ao xs.length co).ownBlock = some i) ((w1.alloc (.cells #[.int .i64 d.kind, .int .i64 d.parent, .int .i64 d.host, .int .i64 d.shadow, .int .i64 d.mode, .bool d.slot, .string d.name, .string d.want, .slice A1 d.kids.length c1] 39)).alloc (.cells #[.int .i64 i] 3)) w2 → w2.cell? ⟨w1.heap.size, 1, none⟩ = some (.int .i64 d.parent)) := Lib.hid fun w2 hk2 => by
        have hh : Has ((w1.alloc (.cells #[.int .i64 d.kind, .int .i64 d.parent, .int .i64 d.host, .int .i64 d.shadow, .int .i64 d.mode, .bool d.slot, .string d.name, .string d.want, .slice A1 d.kids.length c1] 39)).alloc (.cells #[.int .i64 i] 3)) w1.heap.size (.cells #[.int .i64 d.kind, .int .i64 d.parent, .int .i64 d.host, .int .i64 d.shadow, .int .i64 d.mode, .bool d.slot, .string d.name, .string d.want, .slice A1 d.kids.length c1] 39 (0, 0)) := (Has.fresh _ _).more _
        exact (hh.kept hk2 fun e => by have := (hown _ e).2; omega).cell 1
      have HP2 : Hid (Pile w.heap.size ((w1.alloc (.cells #[.int .i64 d.kind, .int .i64 d.parent, .int .i64 d.host, .int .i64 d.shadow, .int .i64 d.mode, .bool d.slot, .string d.name, .string d.want, .slice A1 d.kids.length c1] 39)).alloc (.cells #[.int .i64 i] 3)) (.slice Ao xs.length co) xs) := Lib.hid ((hP1.alloc _).alloc _)
      have HB2 : Hid (Has ((w1.alloc (.cells #[.int .i64 d.kind, .int .i64 d.parent, .int .i64 d.host, .int .i64 d.shadow, .int .i64 d.mode, .bool d.slot, .string d.name, .string d.want, .slice A1 d.kids.length c1] 39)).alloc (.cells #[.int .i64 i] 3)) (w1.heap.size + 1) (.cells #[.int .i64 i] 3 (0, 0))) := Lib.hid (by
        have := Has.fresh (w1.alloc (.cells #[.int .i64 d.kind, .int .i64 d.parent, .int .i64 d.host, .int .i64 d.shadow, .int .i64 d.mode, .bool d.slot, .string d.name, .string d.want, .slice A1 d.kids.length c1] 39)) (.cells #[.int .i64 i] 3)
        simpa using this)
      have HS2 : Hid (w.heap.size ≤ ((w1.alloc (.cells #[.int .i64 d.kind, .int .i64 d.parent, .int .i64 d.host, .int .i64 d.shadow, .int .i64 d.mode, .bool d.slot, .string d.name, .string d.want, .slice A1 d.kids.length c1] 39)).alloc (.cells #[.int .i64 i] 3)).heap.size) := Lib.hid (by have := hB1.size; simp; omega)
      have HE : Hid (∀ w2, Keeps (fun i => (Value.slice Ao xs.length co).ownBlock = some i) ((w1.alloc (.cells #[.int .i64 d.kind, .int .i64 d.parent, .int .i64 d.host, .int .i64 d.shadow, .int .i64 d.mode, .bool d.slot, .string d.name, .string d.want, .slice A1 d.kids.length c1] 39)).alloc (.cells #[.int .i64 i] 3)) w2 → Below w.heap.size w w2) := Lib.hid fun w2 hk2 =>
        below_then ((hB1.alloc hB1.size _).alloc (by have := hB1.size; simp; omega) _) hk2 (by have := hB1.size; simp; omega) fun i hi e => by have := (hown _ e).1; omega
      have Hd := Lib.hid hd
      clear hd hb1 hB1 hP1 hown HP hb hRw
      go_wp2_with (at_builtin; refine wpList_push rfl (.tmp 17) (.tmp 19) rfl rfl HP2.out rfl HB2.out hxl HS2.out ?_; intro g cap w2 hp2 hk2 _ _; have c1 := HC.out w2 hk2)
      go_roundw
      case rel => exact ⟨_, xs ++ [i], rfl, Hfin.out, by simpa using hp2, HE.out w2 hk2⟩
      case measure =>
        simp only [intOf]
        rw [Hd.out, parL_step Hg.out.tree Ht.out]
        simp
end
end Go.Proofs.Ytgpcghfcnonpaaa

namespace Go.Proofs.Ytgpcghfcnonpaaa
open Go Go.RowKit

theorem lastL_at {xs : List Int} {m : Nat} (h : xs.length = m + 1) : lastL xs = xs[m]'(by omega) := by
  unfold lastL
  have e : xs.length - 1 = m := by omega
  rw [List.getLastD_eq_getLast?, List.getLast?_eq_getElem?, e, List.getElem?_eq_getElem (by omega)]
  rfl
/-- The children among which a node stands. -/
def rowL (l : List Nd) (id : Int) : List Int := if thereB l id = true then if thereB l (nd l id).parent = true then (nd l (nd l id).parent).kids else [] else []
/-- The one behind. -/
def nextL (xs : List Int) (x : Int) : Int := if idxL xs x < 0 then 0 else xs.getD ((idxL xs x).toNat + 1) 0
theorem few_nd {l : List Nd} {K : Nat} (h : Few K l) (i : Int) : (nd l i).kids.length ≤ K := by
  unfold nd
  rw [List.getD_eq_getElem?_getD]
  cases e : l[(i - 1).toNat]? with
  | none => exact Nat.zero_le _
  | some d => exact h d (List.mem_of_getElem? e)
theorem rowL_len {l : List Nd} (h : Few 200 l) (i : Int) : (rowL l i).length ≤ 200 := by
  unfold rowL
  split
  · split
    · exact few_nd h _
    · exact Nat.zero_le _
  · exact Nat.zero_le _
theorem idxL_range (xs : List Int) (x : Int) : idxL xs x = -1 ∨ ∃ k : Nat, idxL xs x = (k : Int) ∧ k < xs.length := by
  unfold idxL
  by_cases h : x ∈ xs
  · rw [if_pos h]
    exact .inr ⟨_, rfl, List.idxOf_lt_length_of_mem h⟩
  · rw [if_neg h]
    exact .inl rfl

section
variable {Rep : (Nat → Prop) → World → Nat → List Nd → Prop} {S : Nat → Prop} {w : World} {b : Nat} {l : List Nd}
set_option maxHeartbeats 1000000 in
theorem kinRoot (O : ForestOk Rep) (M : ForestMore Rep) (id : Int) (h : Rep S w b l) (hg : Good l) :
    Calls Try.prog 24 #[at_ b, .int .i64 id] w fun e w' => e = .returned (.int .i64 (rootL l id)) ∧ Below w.heap.size w w' := by
  have C := Lib.hid (kinUp O M id h hg)
  have hRl : (parL l id).length ≤ 128 := Nat.le_trans (parL_len hg.tree id) hg.len
  have hroot : rootL l id = lastL (parL l id) := rfl
  rw [hroot]
  obtain ⟨R, hR⟩ : ∃ R, R = parL l id := ⟨_, rfl⟩
  rw [← hR] at hRl C
  rw [← hR]
  clear h hg hR hroot
  go_enter Try.func24, Try.ntmps24
  go_wp2_with fail
  refine C.out.mono ?_
  rintro e w1 ⟨v, rfl, hP, hb⟩
  obtain ⟨A, c, rfl, hL⟩ := hP.form
  clear C hP
  cases hm : R.length with
  | zero =>
    have e0 : lastL R = 0 := by rw [List.length_eq_zero_iff.1 hm]; rfl
    have E0 := Lib.hid e0
    have Hm := Lib.hid hm
    clear e0 hm
    go_wp2
    go_ret
    rw [E0.out]
    exact ⟨rfl, hb⟩
  | succ m =>
    have e0 := lastL_at hm
    obtain ⟨b', off, rfl, -, hc⟩ := hL.nums m (by omega)
    obtain ⟨y, hy⟩ : ∃ y, y = R[m]'(by omega) := ⟨_, rfl⟩
    rw [← hy] at hc e0
    have E0 := Lib.hid e0
    clear e0
    have hm' : m ≤ 128 := by omega
    have z1 : (((m : Int) + 1) == 0) = false := by rw [beq_eq_false_iff_ne]; omega
    clear hm hy hL hRl
    go_wp2
    go_ret
    rw [E0.out]
    exact ⟨rfl, hb⟩
theorem kinAbove (O : ForestOk Rep) (M : ForestMore Rep) (x id : Int) (h : Rep S w b l) (hg : Good l) :
    Calls Try.prog 23 #[at_ b, .int .i64 x, .int .i64 id] w fun e w' => e = .returned (.bool (hasB (parL l id) x)) ∧ Below w.heap.size w w' := by
  have C := Lib.hid (kinUp O M id h hg)
  have hRl : (parL l id).length ≤ 1000000 := Nat.le_trans (Nat.le_trans (parL_len hg.tree id) hg.len) (by decide)
  obtain ⟨R, hR⟩ : ∃ R, R = parL l id := ⟨_, rfl⟩
  rw [← hR] at hRl C
  rw [← hR]
  clear h hg hR
  go_enter Try.func23, Try.ntmps23
  go_wp2_with fail
  refine C.out.mono ?_
  rintro e w1 ⟨v, rfl, hP, hb⟩
  obtain ⟨A, c, rfl, hL⟩ := hP.form
  clear C hP
  go_wp2_with fail
  refine (contains_any R A R.length c x w1 rfl hRl hL.nums).mono ?_
  rintro e w2 ⟨rfl, rfl⟩
  go_wp2
  go_ret
  exact ⟨rfl, hb⟩
end
end Go.Proofs.Ytgpcghfcnonpaaa

namespace Go.Proofs.Ytgpcghfcnonpaaa
open Go Go.RowKit

/-- How many of a list are of a kind. -/
def cntL (l : List Nd) (kind : Int) (ks : List Int) : Nat := (ks.filter fun k => decide ((nd l k).kind = kind)).length
def kidsL (l : List Nd) (id : Int) : List Int := if thereB l id = true then (nd l id).kids else []
theorem cntL_step {l : List Nd} {kind : Int} {ks : List Int} {j : Nat} (hj : j < ks.length) : cntL l kind (ks.take (j + 1)) = cntL l kind (ks.take j) + if (nd l ks[j]).kind = kind then 1 else 0 := by
  unfold cntL
  rw [List.take_add_one, List.getElem?_eq_getElem hj, Option.toList_some, List.filter_append, List.length_append]
  congr 1
  by_cases h : (nd l ks[j]).kind = kind
  · rw [if_pos h, List.filter_cons_of_pos (by simpa using h)]
    rfl
  · rw [if_neg h, List.filter_cons_of_neg (by simpa using h)]
    rfl
theorem cntL_le (l : List Nd) (kind : Int) (ks : List Int) : cntL l kind ks ≤ ks.length := List.length_filter_le _ _

section
variable {Rep : (Nat → Prop) → World → Nat → List Nd → Prop} {S : Nat → Prop} {w : World} {b : Nat} {l : List Nd}
theorem ForestOk.since (O : ForestOk Rep) {w' : World} (h : Rep S w b l) (hb : Below w.heap.size w w') : Rep S w' b l := O.keep h (Keeps.of_below (F := fun i => w.heap.size ≤ i) hb fun _ _ h => h) fun _ _ hi => Nat.not_le.2 hi
set_option maxHeartbeats 4000000 in
set_option maxRecDepth 100000 in
theorem kinCount (O : ForestOk Rep) (M : ForestMore Rep) (id kind : Int) (h : Rep S w b l) (hg : Good l) :
    Calls Try.prog 50 #[at_ b, .int .i64 id, .int .i64 kind] w fun e w' => e = .returned (.int .i64 (cntL l kind (kidsL l id))) ∧ Below w.heap.size w w' := by
  have H := Lib.hid h
  have Hg := Lib.hid hg
  cases ht : thereB l id with
  | false =>
    have e0 : cntL l kind (kidsL l id) = 0 := by unfold kidsL; rw [if_neg (by rw [ht]; decide)]; rfl
    have E0 := Lib.hid e0
    have Ht := Lib.hid ht
    clear ht h hg e0
    go_enter Try.func50, Try.ntmps50
    go_wp2_with fail
    refine (nodeNo M H.out Hg.out Ht.out).mono ?_
    rintro e w1 ⟨A1, c1, rfl, -, hb1⟩
    have hb2 : Below w.heap.size w (w1.alloc (.cells #[.int .i64 0, .int .i64 0, .int .i64 0, .int .i64 0, .int .i64 0, .bool false, .string ⟨#[]⟩, .string ⟨#[]⟩, .slice A1 0 c1] 39)) := hb1.alloc hb1.size _
    have Hb2 := Lib.hid hb2
    clear hb1 hb2
    go_wp2_with fail
    go_loop [9, 23] (fun c i => c = .int .i64 0 ∧ i = .int .i64 0) (fun _ _ => 0)
    case atStart => exact ⟨rfl, rfl⟩
    case round =>
      obtain ⟨rfl, rfl⟩ := hrel
      go_wp2
      go_ret
      rw [E0.out]
      exact ⟨rfl, Hb2.out⟩
  | true =>
    have e0 : kidsL l id = (nd l id).kids := by unfold kidsL; rw [if_pos ht]
    have hall : ∀ k ∈ kidsL l id, thereB l k = true := fun k hk => by
      rw [e0] at hk
      exact (hg.tree.kid id ht k hk).1
    have hkl : (kidsL l id).length ≤ 200 := by rw [e0]; exact few_nd hg.few id
    have Ht := Lib.hid ht
    have E0 := Lib.hid e0
    have Hall := Lib.hid hall
    obtain ⟨ks, hks⟩ : ∃ ks, ks = kidsL l id := ⟨_, rfl⟩
    rw [← hks] at E0 Hall hkl
    rw [← hks]
    clear ht h hg e0 hks hall
    go_enter Try.func50, Try.ntmps50
    go_wp2_with fail
    refine (nodeYes M H.out Hg.out Ht.out).mono ?_
    rintro e w1 ⟨A1, c1, rfl, hk1, hb1⟩
    obtain ⟨d, hd⟩ : ∃ d, d = nd l id := ⟨_, rfl⟩
    rw [← hd] at hk1 E0
    rw [← hd]
    obtain rfl : ks = d.kids := E0.out
    have hbox : Below w1.heap.size w1 (w1.alloc (.cells #[.int .i64 d.kind, .int .i64 d.parent, .int .i64 d.host, .int .i64 d.shadow, .int .i64 d.mode, .bool d.slot, .string d.name, .string d.want, .slice A1 d.kids.length c1] 39)) := (Below.refl _ w1).alloc (Nat.le_refl _) _
    have hb2 : Below w.heap.size w (w1.alloc (.cells #[.int .i64 d.kind, .int .i64 d.parent, .int .i64 d.host, .int .i64 d.shadow, .int .i64 d.mode, .bool d.slot, .string d.name, .string d.want, .slice A1 d.kids.length c1] 39)) := hb1.alloc hb1.size _
    obtain ⟨A, c, eA, hL⟩ := (Pile.of_kids (base := w.heap.size) (hk1.below hbox) fun g hg _ => hg).form
    obtain ⟨rfl, rfl⟩ : A1 = A ∧ c1 = c := by injection eA with e1 _ e3; exact ⟨e1, e3⟩
    have Hb2 := Lib.hid hb2
    have HL := Lib.hid hL
    have HR2 := Lib.hid (O.since H.out hb2)
    obtain ⟨n, hn⟩ : ∃ n, n = d.kids.length := ⟨_, rfl⟩
    rw [← hn] at Hb2 HL HR2
    rw [← hn]
    rw [← hn] at hkl
    have Hnk := Lib.hid hn
    clear hd hb1 hb2 hbox hk1 eA E0 Ht hL hn
    go_wp2_with fail
    obtain ⟨W, hW⟩ : ∃ W, W = w1.alloc (.cells #[.int .i64 d.kind, .int .i64 d.parent, .int .i64 d.host, .int .i64 d.shadow, .int .i64 d.mode, .bool d.slot, .string d.name, .string d.want, .slice A1 n c1] 39) := ⟨_, rfl⟩
    rw [← hW] at Hb2 HL HR2
    rw [← hW]
    clear hW
    go_loopw [9, 23] (fun cnt i wr => ∃ j : Nat, i = .int .i64 j ∧ j ≤ n ∧ cnt = .int .i64 (cntL l kind (d.kids.take j) : Nat) ∧ Below W.heap.size W wr) (fun _ i _ => n - (intOf i).toNat)
    case atStart => exact ⟨0, rfl, Nat.zero_le _, rfl, Below.refl _ _⟩
    case round =>
      obtain ⟨j, rfl, hj, rfl, hb⟩ := hrel
      by_cases hjn : (j : Int) < n
      · have hjk : j < d.kids.length := by rw [← Hnk.out]; omega
        obtain ⟨b', off, rfl, hB, hc0⟩ := HL.out.nums j hjk
        have hc : wr.cell? ⟨b', off + j, none⟩ = some (.int .i64 d.kids[j]) := (hb.cell (p := ⟨b', off + j, none⟩) hB).trans hc0
        have hth := Hall.out d.kids[j] (List.getElem_mem hjk)
        have hst := cntL_step (l := l) (kind := kind) hjk
        have hle := cntL_le l kind (d.kids.take j)
        rw [List.length_take] at hle
        obtain ⟨y, hy⟩ : ∃ y, y = d.kids[j] := ⟨_, rfl⟩
        rw [← hy] at hc hth hst
        obtain ⟨q, hq⟩ : ∃ q, q = cntL l kind (d.kids.take j) := ⟨_, rfl⟩
        rw [← hq] at hst hle
        rw [← hq]
        have hqb : q ≤ 200 := by omega
        have Hth := Lib.hid hth
        have Hst := Lib.hid hst
        have HRr := Lib.hid (O.since HR2.out hb)
        clear hth hst hc0 hy hq hle hjk
        go_wp2_with fail
        refine (nodeYes M HRr.out Hg.out Hth.out).mono ?_
        rintro e w2 ⟨A2, c2, rfl, -, hb2⟩
        obtain ⟨d2, hd2⟩ : ∃ d2, d2 = nd l y := ⟨_, rfl⟩
        rw [← hd2] at Hst
        rw [← hd2]
        have HB3 : Hid (Below W.heap.size W (w2.alloc (.cells #[.int .i64 d2.kind, .int .i64 d2.parent, .int .i64 d2.host, .int .i64 d2.shadow, .int .i64 d2.mode, .bool d2.slot, .string d2.name, .string d2.want, .slice A2 d2.kids.length c2] 39))) := Lib.hid ((hb.trans (hb2.mono hb.size)).alloc (Nat.le_trans hb.size hb2.size) _)
        clear hd2 hb2 hb HRr Hth
        by_cases hkd : d2.kind = kind
        · have hs1 : cntL l kind (d.kids.take (j + 1)) = q + 1 := by rw [Hst.out, if_pos hkd]
          have Hs1 := Lib.hid hs1
          clear hs1
          subst hkd
          go_wp2
          go_roundw
          case rel => exact ⟨j + 1, by go_num, by omega, by rw [Hs1.out]; go_num, HB3.out⟩
          case measure => simp [intOf]; omega
        · have hs1 : cntL l kind (d.kids.take (j + 1)) = q := by rw [Hst.out, if_neg hkd]; rfl
          have Hs1 := Lib.hid hs1
          have z1 : (d2.kind == kind) = false := by simpa using hkd
          clear hs1
          go_wp2
          go_roundw
          case rel => exact ⟨j + 1, by go_num, by omega, by rw [Hs1.out], HB3.out⟩
          case measure => simp [intOf]; omega
      · have he : cntL l kind (d.kids.take j) = cntL l kind d.kids := by rw [List.take_of_length_le (by rw [← Hnk.out]; omega)]
        rw [he]
        clear he
        go_wp2
        go_ret
        exact ⟨rfl, Hb2.out.trans (hb.mono Hb2.out.size)⟩
end
end Go.Proofs.Ytgpcghfcnonpaaa

namespace Go.Proofs.Ytgpcghfcnonpaaa
open Go

section
variable {l : List Nd} {b x : Int}
theorem rootL_par (T : Tree l) (h : thereB l b = true) (hp : (nd l b).parent ≠ 0) : rootL l b = rootL l (nd l b).parent := by
  have hpt := (T.par _ h hp).1
  unfold rootL
  rw [parL_step T h]
  exact lastL_suffix (List.suffix_cons _ _) (parL_ne T hpt)
theorem rootL_own (T : Tree l) (h : thereB l b = true) (hp : (nd l b).parent = 0) : rootL l b = b := by
  unfold rootL
  rw [parL_step T h, hp, parL_no (there_zero l)]
  rfl
/-- The way up is the way to the root, and then that of its host. -/
theorem over_split (T : Tree l) : ∀ (n : Nat) (b : Int), (parL l b).length ≤ n → thereB l b = true → over l b = parL l b ++ over l (nd l (rootL l b)).host
  | 0, b, hn, h => by
    rw [parL_step T h] at hn
    simp at hn
  | n + 1, b, hn, h => by
    by_cases hp : (nd l b).parent = 0
    · rw [rootL_own T h hp, over_step T h, parL_step T h, hp, parL_no (there_zero l)]
      have e : upOf l b = (nd l b).host := if_pos hp
      rw [e]
      rfl
    · have hpt := (T.par _ h hp).1
      rw [parL_step T h] at hn
      have ih := over_split T n (nd l b).parent (by simpa using hn) hpt
      have e : upOf l b = (nd l b).parent := if_neg hp
      rw [over_step T h, e, ih, ← rootL_par T h hp, parL_step T h, List.cons_append]
theorem over_whole (T : Tree l) (h : thereB l b = true) : over l b = parL l b ++ over l (nd l (rootL l b)).host := over_split T _ b (Nat.le_refl _) h
theorem over_none (h : thereB l b = false) : over l b = [] := over_end h
theorem over_short (T : Tree l) (b : Int) : (over l b).length ≤ l.length := up_short T.ends (l.length + 1) b
theorem over_less (T : Tree l) (h : thereB l b = true) : (over l (nd l (rootL l b)).host).length + 1 ≤ (over l b).length := by
  rw [over_whole T h, List.length_append, parL_step T h, List.length_cons]
  omega
theorem over_self (T : Tree l) (h : thereB l b = true) : b ∈ over l b := by
  rw [over_step T h]
  exact List.mem_cons_self
theorem hasB_yes {xs : List Int} (h : x ∈ xs) : hasB xs x = true := decide_eq_true h
theorem hasB_no {xs : List Int} (h : x ∉ xs) : hasB xs x = false := decide_eq_false h
theorem hasB_mem {xs : List Int} (h : hasB xs x = true) : x ∈ xs := of_decide_eq_true h
theorem hasB_not {xs : List Int} (h : hasB xs x = false) : x ∉ xs := of_decide_eq_false h
theorem over_hit (T : Tree l) (h : hasB (parL l b) x = true) : hasB (over l b) x = true := by
  have hm := hasB_mem h
  have ht : thereB l b = true := by
    cases hq : thereB l b with
    | true => rfl
    | false => rw [parL_no hq] at hm; cases hm
  rw [over_whole T ht]
  exact hasB_yes (List.mem_append_left _ hm)
theorem over_miss (T : Tree l) (ht : thereB l b = true) (h : hasB (parL l b) x = false) : hasB (over l b) x = hasB (over l (nd l (rootL l b)).host) x := by
  have hm := hasB_not h
  rw [over_whole T ht]
  unfold hasB
  simp [hm]

/-- How many Elements come with a node. -/
def moreL (l : List Nd) (n : Int) : Nat := if (nd l n).kind = 4 then cntL l 2 (kidsL l n) else 1
/-- One Element too many. -/
def crowdB (l : List Nd) (n p : Int) : Bool := decide (1 < moreL l n ∨ (moreL l n = 1 ∧ 0 < cntL l 2 (kidsL l p)))
/-- Check: the error's number. -/
def chkErr (l : List Nd) (n p c : Int) : Int :=
  if thereB l n = false ∨ thereB l p = false ∨ (c ≠ 0 ∧ thereB l c = false) then 1
  else if hasB (over l p) n = true then 3
  else if c ≠ 0 ∧ (nd l c).parent ≠ p then 4
  else if (nd l n).kind = 1 ∨ (nd l n).kind = 3 then 3
  else if (nd l p).kind = 1 ∧ crowdB l n p = true then 3
  else 0
theorem cntL_few {l : List Nd} (h : Few 200 l) (kind id : Int) : cntL l kind (kidsL l id) ≤ 200 := by
  refine Nat.le_trans (cntL_le _ _ _) ?_
  unfold kidsL
  split
  · exact few_nd h id
  · exact Nat.zero_le _
end
end Go.Proofs.Ytgpcghfcnonpaaa

namespace Go.Proofs.Ytgpcghfcnonpaaa
open Go Go.RowKit

set_option maxHeartbeats 4000000 in
set_option maxRecDepth 100000 in
theorem refNodes (A : Option Addr) (n c : Nat) (xs : List Ac) (w : World) (hn : xs.length = n) (h : Acts w A xs) (hs : Small xs) :
    Calls Try.prog 8 #[.slice A n c] w fun e w' => ∃ A' c', e = .returned (.slice A' (forest xs).length c') ∧ Nodes (fun i => w.heap.size ≤ i) w' 0 A' c' (forest xs) ∧ Below w.heap.size w w' := by
  have H := Lib.hid h
  have Hn := Lib.hid hn
  have Hs := Lib.hid hs
  have hnb : n ≤ 300 := by rw [← hn]; exact hs.1
  clear h hn hs
  go_enter Try.func8, Try.ntmps8
  go_wp2_with fail
  go_loopw [3, 4] (fun v i wr => ∃ (j : Nat) (A' : Option Addr) (c' : Nat), v = .slice A' (forest (xs.take j)).length c' ∧ i = .int .i64 j ∧ j ≤ n ∧ Nodes (fun i => w.heap.size ≤ i) wr 0 A' c' (forest (xs.take j)) ∧ Below w.heap.size w wr) (fun _ i _ => n - (intOf i).toNat)
  case atStart => exact ⟨0, none, 0, rfl, rfl, Nat.zero_le _, Nodes.nil _ _, Below.refl _ _⟩
  case round =>
    obtain ⟨j, A', c', rfl, rfl, hj, hN, hb⟩ := hrel
    by_cases hjn : (j : Int) < n
    · have hjx : j < xs.length := by rw [Hn.out]; omega
      obtain ⟨b', off, A1, c1, A2, c2, rfl, hB, hc, hL, hA⟩ := H.out j hjx
      have hsn : forest (xs.take (j + 1)) = actL (forest (xs.take j)) xs[j] := by
        rw [List.take_add_one, List.getElem?_eq_getElem hjx]
        exact forest_snoc _ _
      have hxl : xs[j].l.length ≤ 200 := Hs.out.2 _ (List.getElem_mem hjx)
      have hg : Good (forest (xs.take j)) := good_take Hs.out j
      obtain ⟨l, hl⟩ : ∃ l, l = forest (xs.take j) := ⟨_, rfl⟩
      rw [← hl] at hsn hg hN
      rw [← hl]
      obtain ⟨x, hx⟩ : ∃ x, x = xs[j] := ⟨_, rfl⟩
      rw [← hx] at hc hA hsn hxl
      clear hl hx hL
      have hc' : ∀ f, f < 14 → wr.cell? ⟨b', off + j * 14 + f, none⟩ = (actCells x (.slice A1 x.n.kids.length c1) (.slice A2 x.l.length c2))[f]? := fun f hf => by
        rw [hb.cell (p := ⟨b', off + j * 14 + f, none⟩) hB, Nat.add_assoc]
        exact hc f hf
      have g0 : wr.cell? ⟨b', off + j * 14, none⟩ = some (.int .i64 x.kind) := hc' 0 (by omega)
      have g1 : wr.cell? ⟨b', off + j * 14 + 1, none⟩ = some (.int .i64 x.a) := hc' 1 (by omega)
      have g2 : wr.cell? ⟨b', off + j * 14 + 2, none⟩ = some (.int .i64 x.b) := hc' 2 (by omega)
      have g3 : wr.cell? ⟨b', off + j * 14 + 3, none⟩ = some (.string x.s) := hc' 3 (by omega)
      have g4 : wr.cell? ⟨b', off + j * 14 + 4, none⟩ = some (.int .i64 x.n.kind) := hc' 4 (by omega)
      have g5 : wr.cell? ⟨b', off + j * 14 + 5, none⟩ = some (.int .i64 x.n.parent) := hc' 5 (by omega)
      have g6 : wr.cell? ⟨b', off + j * 14 + 6, none⟩ = some (.int .i64 x.n.host) := hc' 6 (by omega)
      have g7 : wr.cell? ⟨b', off + j * 14 + 7, none⟩ = some (.int .i64 x.n.shadow) := hc' 7 (by omega)
      have g8 : wr.cell? ⟨b', off + j * 14 + 8, none⟩ = some (.int .i64 x.n.mode) := hc' 8 (by omega)
      have g9 : wr.cell? ⟨b', off + j * 14 + 9, none⟩ = some (.bool x.n.slot) := hc' 9 (by omega)
      have g10 : wr.cell? ⟨b', off + j * 14 + 10, none⟩ = some (.string x.n.name) := hc' 10 (by omega)
      have g11 : wr.cell? ⟨b', off + j * 14 + 11, none⟩ = some (.string x.n.want) := hc' 11 (by omega)
      have g12 : wr.cell? ⟨b', off + j * 14 + 12, none⟩ = some (.slice A1 x.n.kids.length c1) := hc' 12 (by omega)
      have g13 : wr.cell? ⟨b', off + j * 14 + 13, none⟩ = some (.slice A2 x.l.length c2) := hc' 13 (by omega)
      have C := do_any l A' c' x (.slice A1 x.n.kids.length c1) A2 c2 wr (Nat.le_trans hg.len (by decide)) (fun d hd => Nat.le_trans (hg.few d hd) (by decide)) (G := fun i => w.heap.size ≤ i) (fun i hi => Nat.le_trans hb.size hi) (Nat.le_trans hxl (by decide)) hN (hA.below hb)
      unfold actVal at C
      have HC := Lib.hid C
      have Hsn := Lib.hid hsn
      clear C hc hc' hsn hA hN hg
      go_wp2_with fail
      refine HC.out.mono ?_
      rintro e w2 ⟨A3, c3, rfl, hN3, hb3⟩
      go_wp2
      go_roundw
      case rel => exact ⟨j + 1, A3, c3, by rw [Hsn.out], by go_num, by omega, by rw [Hsn.out]; exact hN3, hb.trans (hb3.mono hb.size)⟩
      case measure => simp [intOf]; omega
    · rw [List.take_of_length_le (by rw [Hn.out]; omega)] at hN
      have e0 : (forest (xs.take j)).length = (forest xs).length := by rw [List.take_of_length_le (by rw [Hn.out]; omega)]
      rw [e0]
      clear e0
      go_wp2
      go_ret
      exact ⟨A', c', rfl, hN, hb⟩
section
variable {G : Nat → Prop}
set_option maxHeartbeats 4000000 in
set_option maxRecDepth 100000 in
theorem refUp (l : List Nd) (A : Option Addr) (c : Nat) (id : Int) (w : World) (hl : l.length ≤ 1000) (h : Nodes G w 0 A c l) :
    Calls Try.prog 48 #[.slice A l.length c, .int .i64 id] w fun e w' => ∃ v, e = .returned v ∧ Pile w.heap.size w' v (parL l id) ∧ Below w.heap.size w w' := by
  have H := Lib.hid h
  obtain ⟨R, hR⟩ : ∃ R, R = parL l id := ⟨_, rfl⟩
  rw [← hR]
  have hR0 : ([] : List Int) ++ parN l (l.length + 1 - 0) id = R := by rw [hR]; rfl
  have HR0 := Lib.hid hR0
  clear h hR hR0
  go_enter Try.func48, Try.ntmps48
  go_wp2_with fail
  go_loopw [1, 5, 6] (fun a o i wr => ∃ (j : Nat) (id : Int) (xs : List Int), a = .int .i64 id ∧ i = .int .i64 j ∧ j ≤ l.length + 1 ∧ xs.length = j ∧ xs ++ parN l (l.length + 1 - j) id = R ∧ Pile w.heap.size wr o xs ∧ Below w.heap.size w wr) (fun _ _ i _ => l.length + 1 - (intOf i).toNat)
  case atStart => exact ⟨0, id, [], rfl, rfl, Nat.zero_le _, rfl, HR0.out, Pile.nil _ _, Below.refl _ _⟩
  case round =>
    obtain ⟨j, id, xs, rfl, rfl, hj, hxl, hxs, hP, hb⟩ := hrel
    have Hxs := Lib.hid hxs
    have Hxl := Lib.hid hxl
    clear HR0 hxs hxl
    obtain ⟨Ao, co, rfl, -⟩ := hP.form
    by_cases hjl : (j : Int) ≤ l.length
    · cases hth : thereB l id with
      | true =>
        have hgo : parN l (l.length + 1 - j) id = id :: parN l (l.length + 1 - (j + 1)) (nd l id).parent := by
          rw [show l.length + 1 - j = (l.length + 1 - (j + 1)) + 1 by omega]
          exact par_go hth
        obtain ⟨m, rfl, hml⟩ := there_at hth
        obtain ⟨g, k, rfl, -, hgw, -, -, -, c1, -⟩ := H.out.nine hml
        have hfin : (xs ++ [(m : Int) + 1]) ++ parN l (l.length + 1 - (j + 1)) (nd l ((m : Int) + 1)).parent = R := by
          rw [List.append_assoc, List.singleton_append, ← hgo]
          exact Hxs.out
        obtain ⟨pa, hpa⟩ : ∃ pa, pa = (nd l ((m : Int) + 1)).parent := ⟨_, rfl⟩
        rw [← hpa] at c1 hfin
        have Hfin := Lib.hid hfin
        have hxb : xs.length ≤ 1000000 := by rw [Hxl.out]; omega
        have Hth := Lib.hid hth
        have hown := hP.lt
        have HP2 : Hid (Pile w.heap.size (wr.alloc (.cells #[.int .i64 ((m : Int) + 1)] 3)) (.slice Ao xs.length co) xs) := Lib.hid (hP.alloc _)
        have HB2 : Hid (Has (wr.alloc (.cells #[.int .i64 ((m : Int) + 1)] 3)) wr.heap.size (.cells #[.int .i64 ((m : Int) + 1)] 3 (0, 0))) := Lib.hid (Has.fresh _ _)
        have HS2 : Hid (w.heap.size ≤ (wr.alloc (.cells #[.int .i64 ((m : Int) + 1)] 3)).heap.size) := Lib.hid (by have := hb.size; simp; omega)
        have HE : Hid (∀ w2, Keeps (fun i => (Value.slice Ao xs.length co).ownBlock = some i) (wr.alloc (.cells #[.int .i64 ((m : Int) + 1)] 3)) w2 → Below w.heap.size w w2) := Lib.hid fun w2 hk2 =>
          below_then (hb.alloc hb.size _) hk2 (by have := hb.size; simp; omega) fun i hi e => by have := (hown _ e).1; omega
        have C1 := Lib.hid c1
        clear hgo hth hpa c1 hfin Hxs hP hown hb
        go_wp2_with fail
        refine (there_any l _ c _ wr).mono ?_
        rintro e w1 ⟨rfl, rfl⟩
        rw [Hth.out]
        go_wp2_with (at_builtin; refine wpList_push rfl (.tmp 18) (.tmp 20) rfl rfl HP2.out rfl HB2.out hxb HS2.out ?_; intro g2 cap w2 hp2 hk2 _ _; have hb2 := HE.out w2 hk2; have d1 := (hb2.cell (p := ⟨g, m * 9 + 1, none⟩) hgw).trans C1.out)
        go_roundw
        case rel => exact ⟨j + 1, _, xs ++ [(m : Int) + 1], rfl, by go_num, by omega, by simp [Hxl.out], Hfin.out, by simpa using hp2, hb2⟩
        case measure => simp [intOf]; omega
      | false =>
        go_wp2_with fail
        refine (there_any l A c id wr).mono ?_
        rintro e w1 ⟨rfl, rfl⟩
        rw [hth]
        go_wp2
        go_ret
        refine ⟨_, rfl, ?_, hb⟩
        have := Hxs.out
        rw [par_no hth, List.append_nil] at this
        rw [← this]
        exact hP
    · go_wp2
      go_ret
      refine ⟨_, rfl, ?_, hb⟩
      have := Hxs.out
      rw [show l.length + 1 - j = 0 by omega] at this
      rw [← this, parN, List.append_nil]
      exact hP
set_option maxHeartbeats 1000000 in
theorem refRoot (l : List Nd) (A : Option Addr) (c : Nat) (id : Int) (w : World) (hg : Good l) (h : Nodes G w 0 A c l) :
    Calls Try.prog 26 #[.slice A l.length c, .int .i64 id] w fun e w' => e = .returned (.int .i64 (rootL l id)) ∧ Below w.heap.size w w' := by
  have C := Lib.hid (refUp l A c id w (Nat.le_trans hg.len (by decide)) h)
  have hRl : (parL l id).length ≤ 128 := Nat.le_trans (parL_len hg.tree id) hg.len
  have hroot : rootL l id = lastL (parL l id) := rfl
  rw [hroot]
  obtain ⟨R, hR⟩ : ∃ R, R = parL l id := ⟨_, rfl⟩
  rw [← hR] at hRl C
  rw [← hR]
  clear h hg hR hroot
  go_enter Try.func26, Try.ntmps26
  go_wp2_with fail
  refine C.out.mono ?_
  rintro e w1 ⟨v, rfl, hP, hb⟩
  obtain ⟨A, c, rfl, hL⟩ := hP.form
  clear C hP
  cases hm : R.length with
  | zero =>
    have e0 : lastL R = 0 := by rw [List.length_eq_zero_iff.1 hm]; rfl
    have E0 := Lib.hid e0
    have Hm := Lib.hid hm
    clear e0 hm
    go_wp2
    go_ret
    rw [E0.out]
    exact ⟨rfl, hb⟩
  | succ m =>
    have e0 := lastL_at hm
    obtain ⟨b', off, rfl, -, hc⟩ := hL.nums m (by omega)
    obtain ⟨y, hy⟩ : ∃ y, y = R[m]'(by omega) := ⟨_, rfl⟩
    rw [← hy] at hc e0
    have E0 := Lib.hid e0
    clear e0
    have hm' : m ≤ 128 := by omega
    have z1 : (((m : Int) + 1) == 0) = false := by rw [beq_eq_false_iff_ne]; omega
    clear hm hy hL hRl
    go_wp2
    go_ret
    rw [E0.out]
    exact ⟨rfl, hb⟩
theorem refAbove (l : List Nd) (A : Option Addr) (c : Nat) (x id : Int) (w : World) (hg : Good l) (h : Nodes G w 0 A c l) :
    Calls Try.prog 25 #[.slice A l.length c, .int .i64 x, .int .i64 id] w fun e w' => e = .returned (.bool (hasB (parL l id) x)) ∧ Below w.heap.size w w' := by
  have C := Lib.hid (refUp l A c id w (Nat.le_trans hg.len (by decide)) h)
  have hRl : (parL l id).length ≤ 1000000 := Nat.le_trans (Nat.le_trans (parL_len hg.tree id) hg.len) (by decide)
  obtain ⟨R, hR⟩ : ∃ R, R = parL l id := ⟨_, rfl⟩
  rw [← hR] at hRl C
  rw [← hR]
  clear h hg hR
  go_enter Try.func25, Try.ntmps25
  go_wp2_with fail
  refine C.out.mono ?_
  rintro e w1 ⟨v, rfl, hP, hb⟩
  obtain ⟨A2, c2, rfl, hL⟩ := hP.form
  clear C hP
  go_wp2_with fail
  refine (has_any R A2 R.length c2 x w1 rfl hRl hL.nums).mono ?_
  rintro e w2 ⟨rfl, rfl⟩
  go_wp2
  go_ret
  exact ⟨rfl, hb⟩
end
end Go.Proofs.Ytgpcghfcnonpaaa

namespace Go.Proofs.Ytgpcghfcnonpaaa
open Go Go.RowKit

/-- How many nodes ahead of number j have that parent and that kind. -/
def cntP (l : List Nd) (id kind : Int) (j : Nat) : Nat := ((List.range j).filter fun i : Nat => decide ((nd l ((i : Int) + 1)).parent = id ∧ (nd l ((i : Int) + 1)).kind = kind)).length
theorem cntP_step {l : List Nd} {id kind : Int} {j : Nat} : cntP l id kind (j + 1) = cntP l id kind j + if (nd l ((j : Int) + 1)).parent = id ∧ (nd l ((j : Int) + 1)).kind = kind then 1 else 0 := by
  unfold cntP
  rw [List.range_succ, List.filter_append, List.length_append]
  congr 1
  by_cases h : (nd l ((j : Int) + 1)).parent = id ∧ (nd l ((j : Int) + 1)).kind = kind
  · rw [if_pos h, List.filter_cons_of_pos (by simpa using h)]
    rfl
  · rw [if_neg h, List.filter_cons_of_neg (by simpa using h)]
    rfl
theorem cntP_le (l : List Nd) (id kind : Int) (j : Nat) : cntP l id kind j ≤ j := by
  have := List.length_filter_le (fun i : Nat => decide ((nd l ((i : Int) + 1)).parent = id ∧ (nd l ((i : Int) + 1)).kind = kind)) (List.range j)
  rw [List.length_range] at this
  exact this
/-- Those of a parent are its children. -/
theorem cntP_all {l : List Nd} (T : Tree l) {id kind : Int} (ht : thereB l id = true) : cntP l id kind l.length = cntL l kind (kidsL l id) := by
  unfold kidsL
  rw [if_pos ht]
  unfold cntP cntL
  have hp : List.Perm (((List.range l.length).filter fun i : Nat => decide ((nd l ((i : Int) + 1)).parent = id ∧ (nd l ((i : Int) + 1)).kind = kind)).map fun i : Nat => (i : Int) + 1) ((nd l id).kids.filter fun k => decide ((nd l k).kind = kind)) := by
    refine (List.perm_ext_iff_of_nodup ?_ ?_).2 fun k => ?_
    · exact List.pairwise_map.2 ((List.nodup_range.filter _).imp fun h e => h (by omega))
    · exact (T.once id ht).filter _
    · rw [List.mem_map, List.mem_filter]
      constructor
      · rintro ⟨i, hi, rfl⟩
        rw [List.mem_filter, List.mem_range] at hi
        obtain ⟨hlt, hq⟩ := hi
        obtain ⟨h1, h2⟩ := of_decide_eq_true hq
        have hth : thereB l ((i : Int) + 1) = true := thereB_iff.2 ⟨by omega, by omega⟩
        have hne : (nd l ((i : Int) + 1)).parent ≠ 0 := by rw [h1]; exact there_pos ht
        have := (T.par _ hth hne).2
        rw [h1] at this
        exact ⟨this, decide_eq_true h2⟩
      · rintro ⟨hk, hq⟩
        obtain ⟨h1, h2⟩ := T.kid id ht k hk
        obtain ⟨m, rfl, hm⟩ := there_at h1
        exact ⟨m, List.mem_filter.2 ⟨List.mem_range.2 hm, decide_eq_true ⟨h2, of_decide_eq_true hq⟩⟩, rfl⟩
  have := hp.length_eq
  rw [List.length_map] at this
  exact this

section
variable {G : Nat → Prop} {l : List Nd} {A : Option Addr} {c : Nat} {w : World}
/-- The children of a node, as the list holds them. -/
theorem Nodes.row (h : Nodes G w 0 A c l) {m : Nat} (hm : m < l.length) : ∃ g A1 c1, A = some ⟨g, 0, none⟩ ∧ g < w.heap.size ∧ w.cell? ⟨g, m * 9 + 8, none⟩ = some (.slice A1 (nd l ((m : Int) + 1)).kids.length c1) ∧ ListIn w A1 c1 (nd l ((m : Int) + 1)).kids ∧ w.cell? ⟨g, m * 9 + 1, none⟩ = some (.int .i64 (nd l ((m : Int) + 1)).parent) ∧ w.cell? ⟨g, m * 9, none⟩ = some (.int .i64 (nd l ((m : Int) + 1)).kind) := by
  obtain ⟨g, k, rfl, -, hg, hk, -, c0, c1, -, -, -, -, -, -, c8⟩ := h.nine hm
  obtain ⟨A1, n1, rfl, hL⟩ := (Pile.of_kids (base := 0) hk fun _ _ _ => Nat.zero_le _).form
  exact ⟨g, A1, n1, rfl, hg, c8, hL, c1, c0⟩
theorem rowL_no {id : Int} (h : thereB l id = false) : rowL l id = [] := by unfold rowL; rw [if_neg (by rw [h]; decide)]
set_option maxHeartbeats 4000000 in
theorem refCount (id kind : Int) (hg : Good l) (h : Nodes G w 0 A c l) :
    Calls Try.prog 29 #[.slice A l.length c, .int .i64 id, .int .i64 kind] w fun e w' => e = .returned (.int .i64 (cntL l kind (kidsL l id))) ∧ w = w' := by
  have H := Lib.hid h
  have hll := hg.len
  cases ht : thereB l id with
  | false =>
    have e0 : cntL l kind (kidsL l id) = 0 := by unfold kidsL; rw [if_neg (by rw [ht]; decide)]; rfl
    have E0 := Lib.hid e0
    have Ht := Lib.hid ht
    clear e0 ht h hg
    go_enter Try.func29, Try.ntmps29
    go_wp2
    go_loop [7, 8] (fun q i => ∃ k : Nat, i = .int .i64 k ∧ k ≤ l.length ∧ q = .int .i64 0) (fun _ i => l.length - (intOf i).toNat)
    case atStart => exact ⟨0, rfl, Nat.zero_le _, rfl⟩
    case round =>
      obtain ⟨k, rfl, hk, rfl⟩ := hrel
      by_cases hlt : (k : Int) < l.length
      · go_wp2_with fail
        refine (there_any l A c id w).mono ?_
        rintro e w1 ⟨rfl, rfl⟩
        rw [Ht.out]
        go_wp2
        go_round
        case rel => exact ⟨k + 1, by go_num, by omega, rfl⟩
        case measure => simp [intOf]; omega
      · go_wp2
        go_ret
        rw [E0.out]
        exact ⟨rfl, rfl⟩
  | true =>
    have e0 := cntP_all hg.tree (kind := kind) ht
    have E0 := Lib.hid e0
    have Ht := Lib.hid ht
    clear e0 ht h hg
    go_enter Try.func29, Try.ntmps29
    go_wp2
    go_loop [7, 8] (fun q i => ∃ k : Nat, i = .int .i64 k ∧ k ≤ l.length ∧ q = .int .i64 (cntP l id kind k : Nat)) (fun _ i => l.length - (intOf i).toNat)
    case atStart => exact ⟨0, rfl, Nat.zero_le _, rfl⟩
    case round =>
      obtain ⟨k, rfl, hk, rfl⟩ := hrel
      by_cases hlt : (k : Int) < l.length
      · have hkm : k < l.length := by omega
        obtain ⟨g, A1, c1, rfl, -, -, -, cp, ck⟩ := H.out.row hkm
        have hst := cntP_step (l := l) (id := id) (kind := kind) (j := k)
        have hle := cntP_le l id kind k
        obtain ⟨q, hq⟩ : ∃ q, q = cntP l id kind k := ⟨_, rfl⟩
        rw [← hq] at hst hle
        rw [← hq]
        obtain ⟨pa, hpa⟩ : ∃ pa, pa = (nd l ((k : Int) + 1)).parent := ⟨_, rfl⟩
        obtain ⟨kd, hkd⟩ : ∃ kd, kd = (nd l ((k : Int) + 1)).kind := ⟨_, rfl⟩
        rw [← hpa] at cp hst
        rw [← hkd] at ck hst
        have Hst := Lib.hid hst
        clear hst hq hpa hkd
        by_cases h1 : pa = id
        · subst h1
          by_cases h2 : kd = kind
          · subst h2
            have hs1 := Lib.hid (Hst.out.trans (by rw [if_pos ⟨rfl, rfl⟩]))
            clear Hst
            go_wp2_with fail
            refine (there_any l _ c _ w).mono ?_
            rintro e w1 ⟨rfl, rfl⟩
            rw [Ht.out]
            go_wp2
            go_round
            case rel => exact ⟨k + 1, by go_num, by omega, by rw [hs1.out]; go_num⟩
            case measure => simp [intOf]; omega
          · have z2 : (kd == kind) = false := by simpa using h2
            have hs1 := Lib.hid (Hst.out.trans (by rw [if_neg (fun hh => h2 hh.2)]))
            clear Hst
            go_wp2_with fail
            refine (there_any l _ c _ w).mono ?_
            rintro e w1 ⟨rfl, rfl⟩
            rw [Ht.out]
            go_wp2
            go_round
            case rel => exact ⟨k + 1, by go_num, by omega, by rw [hs1.out]; rfl⟩
            case measure => simp [intOf]; omega
        · have z1 : (pa == id) = false := by simpa using h1
          have hs1 := Lib.hid (Hst.out.trans (by rw [if_neg (fun hh => h1 hh.1)]))
          clear Hst
          go_wp2_with fail
          refine (there_any l _ c _ w).mono ?_
          rintro e w1 ⟨rfl, rfl⟩
          rw [Ht.out]
          go_wp2
          go_round
          case rel => exact ⟨k + 1, by go_num, by omega, by rw [hs1.out]; rfl⟩
          case measure => simp [intOf]; omega
      · obtain rfl : k = l.length := by omega
        rw [E0.out]
        go_wp2
        go_ret
        exact ⟨rfl, rfl⟩
end
end Go.Proofs.Ytgpcghfcnonpaaa

namespace Go.Proofs.Ytgpcghfcnonpaaa
open Go Go.RowKit

section
variable {G : Nat → Prop} {w : World} {A : Option Addr} {c : Nat} {l : List Nd}
set_option maxHeartbeats 4000000 in
set_option maxRecDepth 100000 in
theorem rfHost (x id : Int) (hg : Good l) (h : Nodes G w 0 A c l) :
    Calls Try.prog 10 #[.slice A l.length c, .int .i64 x, .int .i64 id] w fun e w' => e = .returned (.bool (hasB (over l id) x)) ∧ Below w.heap.size w w' := by
  have H := Lib.hid h
  have Hg := Lib.hid hg
  have hll := hg.len
  obtain ⟨R, hR⟩ : ∃ R, R = hasB (over l id) x := ⟨_, rfl⟩
  rw [← hR]
  have HR := Lib.hid hR.symm
  have H0 := Lib.hid (over_short hg.tree id)
  clear h hg hR
  go_enter Try.func10, Try.ntmps10
  go_wp2_with fail
  go_loopw [2, 7] (fun a k wr => ∃ (i : Int) (j : Nat), a = .int .i64 i ∧ k = .int .i64 j ∧ hasB (over l i) x = R ∧ j + (over l i).length ≤ l.length ∧ Below w.heap.size w wr) (fun _ k _ => l.length + 1 - (intOf k).toNat)
  case atStart => exact ⟨id, 0, rfl, rfl, HR.out, by have := H0.out; omega, Below.refl _ _⟩
  case round =>
    obtain ⟨i, j, rfl, rfl, hi, hj, hb⟩ := hrel
    have Hi := Lib.hid hi
    have Hj := Lib.hid hj
    have Hb := Lib.hid hb
    have Hn := Lib.hid (H.out.kept (Keeps.of_below (F := fun i => w.heap.size ≤ i) hb fun _ _ h => h) fun _ hi => Nat.not_le.2 hi)
    have hjl : (j : Int) ≤ l.length := by omega
    clear hi hj hb HR H0
    go_wp2_with fail
    refine (refAbove l A c x i wr Hg.out Hn.out).mono ?_
    rintro e w1 ⟨rfl, hb1⟩
    have Hb1 := Lib.hid (Hb.out.trans (hb1.mono Hb.out.size))
    have Hn1 := Lib.hid (Hn.out.below hb1)
    clear hb1
    cases ha : hasB (parL l i) x with
    | true =>
      have e0 : R = true := by
        rw [← Hi.out]
        exact over_hit Hg.out.tree ha
      subst e0
      clear ha
      go_wp2
      go_ret
      exact ⟨rfl, Hb1.out⟩
    | false =>
      have Ha := Lib.hid ha
      clear ha
      go_wp2_with fail
      refine (refRoot l A c i w1 Hg.out Hn1.out).mono ?_
      rintro e w2 ⟨rfl, hb2⟩
      have Hb2 := Lib.hid (Hb1.out.trans (hb2.mono Hb1.out.size))
      have Hn2 := Lib.hid (Hn1.out.below hb2)
      clear hb2
      cases ht : thereB l i with
      | true =>
        have hrt := rootL_there Hg.out.tree ht
        have e1 := over_miss Hg.out.tree ht Ha.out
        have e2 := over_less Hg.out.tree ht
        obtain ⟨m, hr, hm⟩ := there_at hrt
        rw [hr] at e1 e2
        rw [hr]
        obtain ⟨g, k, rfl, -, hgw, -, -, -, -, c2, -⟩ := Hn2.out.nine hm
        obtain ⟨ho, hho⟩ : ∃ ho, ho = (nd l ((m : Int) + 1)).host := ⟨_, rfl⟩
        rw [← hho] at c2 e1 e2
        have E1 := Lib.hid (e1.symm.trans Hi.out)
        have E2 := Lib.hid e2
        have z1 : (((m : Int) + 1) == 0) = false := by rw [beq_eq_false_iff_ne]; omega
        clear hr hrt e1 e2 ht hho
        by_cases h0 : ho = 0
        · subst h0
          have e0 : R = false := by
            rw [← E1.out, over_zero]
            rfl
          subst e0
          go_wp2
          go_ret
          exact ⟨rfl, Hb2.out⟩
        · have z0 : (ho == 0) = false := by simpa using h0
          go_wp2
          go_roundw
          case rel => exact ⟨_, j + 1, rfl, by go_num, E1.out, by have := E2.out; have := Hj.out; omega, Hb2.out⟩
          case measure => simp [intOf]; omega
      | false =>
        have e1 := rootL_no ht
        have e2 : R = false := by rw [← Hi.out, over_none ht]; rfl
        rw [e1]
        subst e2
        clear e1 ht
        go_wp2
        go_ret
        exact ⟨rfl, Hb2.out⟩
end
end Go.Proofs.Ytgpcghfcnonpaaa

namespace Go.Proofs.Ytgpcghfcnonpaaa
open Go Go.RowKit

/-- One more to go. -/
def oneIf (i : Int) : Nat := if i = 0 then 0 else 1
theorem oneIf_ne {i : Int} (h : i ≠ 0) : oneIf i = 1 := if_neg h
theorem oneIf_le (i : Int) : oneIf i ≤ 1 := by unfold oneIf; split <;> omega
section
variable {Rep : (Nat → Prop) → World → Nat → List Nd → Prop} {S : Nat → Prop} {w : World} {b : Nat} {l : List Nd}
set_option maxHeartbeats 4000000 in
set_option maxRecDepth 100000 in
theorem vaHost (O : ForestOk Rep) (M : ForestMore Rep) (x id : Int) (h : Rep S w b l) (hg : Good l) :
    Calls Try.prog 9 #[at_ b, .int .i64 x, .int .i64 id] w fun e w' => e = .returned (.bool (hasB (over l id) x)) ∧ Below w.heap.size w w' := by
  have H := Lib.hid h
  have Hg := Lib.hid hg
  obtain ⟨R, hR⟩ : ∃ R, R = hasB (over l id) x := ⟨_, rfl⟩
  rw [← hR]
  have HR := Lib.hid hR.symm
  clear h hg hR
  go_enter Try.func9, Try.ntmps9
  go_wp2_with fail
  go_loopw [2] (fun a wr => ∃ i : Int, a = .int .i64 i ∧ hasB (over l i) x = R ∧ Below w.heap.size w wr) (fun a _ => (over l (intOf a)).length + oneIf (intOf a))
  case atStart => exact ⟨id, rfl, HR.out, Below.refl _ _⟩
  case round =>
    obtain ⟨i, rfl, hi, hb⟩ := hrel
    have Hi := Lib.hid hi
    have Hb := Lib.hid hb
    have Hrep := Lib.hid (O.since H.out hb)
    clear hi hb HR
    by_cases h0 : i = 0
    · subst h0
      have e0 : R = false := by
        rw [← Hi.out, over_zero]
        rfl
      subst e0
      go_wp2
      go_ret
      exact ⟨rfl, Hb.out⟩
    · have z0 : (i != 0) = true := by simpa using h0
      go_wp2_with fail
      refine (kinAbove O M x i Hrep.out Hg.out).mono ?_
      rintro e w1 ⟨rfl, hb1⟩
      have Hb1 := Lib.hid (Hb.out.trans (hb1.mono Hb.out.size))
      have Hrep1 := Lib.hid (O.since Hrep.out hb1)
      clear hb1 Hrep
      cases ha : hasB (parL l i) x with
      | true =>
        have e0 : R = true := by
          rw [← Hi.out]
          exact over_hit Hg.out.tree ha
        subst e0
        clear ha
        go_wp2
        go_ret
        exact ⟨rfl, Hb1.out⟩
      | false =>
        have Ha := Lib.hid ha
        clear ha
        go_wp2_with fail
        refine (kinRoot O M i Hrep1.out Hg.out).mono ?_
        rintro e w2 ⟨rfl, hb2⟩
        have Hb2 := Lib.hid (Hb1.out.trans (hb2.mono Hb1.out.size))
        have Hrep2 := Lib.hid (O.since Hrep1.out hb2)
        clear hb2 Hrep1 Hb1
        cases ht : thereB l i with
        | true =>
          have hrt := rootL_there Hg.out.tree ht
          have e1 := over_miss Hg.out.tree ht Ha.out
          have e2 := over_less Hg.out.tree ht
          obtain ⟨r, hr⟩ : ∃ r, r = rootL l i := ⟨_, rfl⟩
          rw [← hr] at hrt e1 e2
          rw [← hr]
          have E1 := Lib.hid (e1.symm.trans Hi.out)
          have E2 := Lib.hid e2
          have Hrt := Lib.hid hrt
          clear hr hrt e1 e2 ht
          go_wp2_with fail
          refine (nodeYes M Hrep2.out Hg.out Hrt.out).mono ?_
          rintro e w3 ⟨A3, c3, rfl, -, hb3⟩
          obtain ⟨d, hd⟩ : ∃ d, d = nd l r := ⟨_, rfl⟩
          rw [← hd] at E1 E2
          rw [← hd]
          have HB3 : Hid (Below w.heap.size w (w3.alloc (.cells #[.int .i64 d.kind, .int .i64 d.parent, .int .i64 d.host, .int .i64 d.shadow, .int .i64 d.mode, .bool d.slot, .string d.name, .string d.want, .slice A3 d.kids.length c3] 39))) := Lib.hid ((Hb2.out.trans (hb3.mono Hb2.out.size)).alloc (Nat.le_trans Hb2.out.size hb3.size) _)
          clear hd hb3
          go_wp2
          go_roundw
          case rel => exact ⟨_, rfl, E1.out, HB3.out⟩
          case measure =>
            simp only [intOf]
            have := E2.out
            have := oneIf_le d.host
            rw [oneIf_ne h0]
            omega
        | false =>
          have e1 := rootL_no ht
          have e2 : R = false := by rw [← Hi.out, over_none ht]; rfl
          rw [e1]
          have E2 := Lib.hid e2
          clear e1 e2 ht
          go_wp2_with fail
          refine (nodeNo M Hrep2.out Hg.out (there_zero l)).mono ?_
          rintro e w3 ⟨A3, c3, rfl, -, hb3⟩
          have HB3 : Hid (Below w.heap.size w (w3.alloc (.cells #[.int .i64 0, .int .i64 0, .int .i64 0, .int .i64 0, .int .i64 0, .bool false, .string ⟨#[]⟩, .string ⟨#[]⟩, .slice A3 0 c3] 39))) := Lib.hid ((Hb2.out.trans (hb3.mono Hb2.out.size)).alloc (Nat.le_trans Hb2.out.size hb3.size) _)
          clear hb3
          go_wp2
          go_roundw
          case rel => exact ⟨0, rfl, by rw [over_zero, E2.out]; rfl, HB3.out⟩
          case measure =>
            simp only [intOf]
            rw [over_zero, oneIf_ne h0, show oneIf 0 = 0 from rfl]
            exact Nat.succ_pos _
end
end Go.Proofs.Ytgpcghfcnonpaaa

namespace Go.Proofs.Ytgpcghfcnonpaaa
open Go Go.RowKit

section
variable {Rep : (Nat → Prop) → World → Nat → List Nd → Prop} {S : Nat → Prop} {w : World} {b : Nat} {l : List Nd}
set_option maxHeartbeats 2000000 in
theorem vaElements (O : ForestOk Rep) (M : ForestMore Rep) (n : Int) (h : Rep S w b l) (hg : Good l) (ht : thereB l n = true) :
    Calls Try.prog 49 #[at_ b, .int .i64 n] w fun e w' => e = .returned (.int .i64 (moreL l n)) ∧ Below w.heap.size w w' := by
  have H := Lib.hid h
  have Hg := Lib.hid hg
  have Ht := Lib.hid ht
  obtain ⟨R, hR⟩ : ∃ R, R = moreL l n := ⟨_, rfl⟩
  rw [← hR]
  unfold moreL at hR
  obtain ⟨d, hd⟩ : ∃ d, d = nd l n := ⟨_, rfl⟩
  rw [← hd] at hR
  have Hd := Lib.hid hd
  clear h hg ht hd
  go_enter Try.func49, Try.ntmps49
  go_wp2_with fail
  refine (nodeYes M H.out Hg.out Ht.out).mono ?_
  rintro e w1 ⟨A1, c1, rfl, -, hb1⟩
  rw [← Hd.out]
  have hb2 : Below w.heap.size w (w1.alloc (.cells #[.int .i64 d.kind, .int .i64 d.parent, .int .i64 d.host, .int .i64 d.shadow, .int .i64 d.mode, .bool d.slot, .string d.name, .string d.want, .slice A1 d.kids.length c1] 39)) := hb1.alloc hb1.size _
  have Hb2 := Lib.hid hb2
  have HR2 := Lib.hid (O.since H.out hb2)
  clear hb1 hb2
  by_cases hk : d.kind = 4
  · rw [if_pos hk] at hR
    have HR := Lib.hid hR
    have z1 : (d.kind == 4) = true := by simpa using hk
    clear hR hk
    go_wp2_with fail
    refine (kinCount O M n 2 HR2.out Hg.out).mono ?_
    rintro e w3 ⟨rfl, hb3⟩
    have Hb3 := Lib.hid (Hb2.out.trans (hb3.mono Hb2.out.size))
    clear hb3
    go_wp2
    go_ret
    rw [HR.out]
    exact ⟨rfl, Hb3.out⟩
  · rw [if_neg hk] at hR
    have z1 : (d.kind == 4) = false := by simpa using hk
    subst hR
    clear hk
    go_wp2
    go_ret
    exact ⟨rfl, Hb2.out⟩
set_option maxHeartbeats 2000000 in
theorem vaCrowds (O : ForestOk Rep) (M : ForestMore Rep) (n p : Int) (h : Rep S w b l) (hg : Good l) (ht : thereB l n = true) :
    Calls Try.prog 27 #[at_ b, .int .i64 n, .int .i64 p] w fun e w' => e = .returned (.bool (crowdB l n p)) ∧ Below w.heap.size w w' := by
  have H := Lib.hid h
  have Hg := Lib.hid hg
  have Ht := Lib.hid ht
  obtain ⟨R, hR⟩ : ∃ R, R = crowdB l n p := ⟨_, rfl⟩
  rw [← hR]
  unfold crowdB at hR
  have hm1 : moreL l n ≤ 200 := by
    unfold moreL
    split
    · exact cntL_few hg.few _ _
    · omega
  have hm2 : cntL l 2 (kidsL l p) ≤ 200 := cntL_few hg.few _ _
  have C1 := Lib.hid (vaElements O M n h hg ht)
  have C2 := Lib.hid (fun (w1 : World) (hb : Below w.heap.size w w1) => kinCount O M p 2 (O.since h hb) hg)
  obtain ⟨k, hk⟩ : ∃ k, k = moreL l n := ⟨_, rfl⟩
  obtain ⟨m, hm⟩ : ∃ m, m = cntL l 2 (kidsL l p) := ⟨_, rfl⟩
  rw [← hk] at hm1 hR C1
  rw [← hm] at hm2 hR C2
  clear h hg ht hk hm
  go_enter Try.func27, Try.ntmps27
  go_wp2_with fail
  refine C1.out.mono ?_
  rintro e w1 ⟨rfl, hb1⟩
  have Hb1 := Lib.hid hb1
  clear hb1
  by_cases h0 : k = 0
  · subst h0
    have e0 : R = false := by rw [hR]; exact decide_eq_false (by omega)
    subst e0
    clear hR
    go_wp2
    go_ret
    exact ⟨rfl, Hb1.out⟩
  · have e0 : R = decide ((1 : Int) < (k : Int) + m) := by
      rw [hR, decide_eq_decide]
      omega
    have E0 := Lib.hid e0
    have z1 : (0 : Int) < k := by omega
    clear hR h0 e0
    go_wp2_with fail
    refine (C2.out w1 Hb1.out).mono ?_
    rintro e w2 ⟨rfl, hb2⟩
    have Hb2 := Lib.hid (Hb1.out.trans (hb2.mono Hb1.out.size))
    clear hb2
    go_wp2
    go_ret
    rw [E0.out]
    exact ⟨rfl, Hb2.out⟩
end
end Go.Proofs.Ytgpcghfcnonpaaa

namespace Go.Proofs.Ytgpcghfcnonpaaa
open Go Go.RowKit

theorem chk_arg {l : List Nd} {n p c : Int} (h : thereB l n = false ∨ thereB l p = false ∨ (c ≠ 0 ∧ thereB l c = false)) : chkErr l n p c = 1 := if_pos h
theorem chk_on {l : List Nd} {n p c : Int} (h : ¬ (thereB l n = false ∨ thereB l p = false ∨ (c ≠ 0 ∧ thereB l c = false))) : chkErr l n p c = if hasB (over l p) n = true then 3 else if c ≠ 0 ∧ (nd l c).parent ≠ p then 4 else if (nd l n).kind = 1 ∨ (nd l n).kind = 3 then 3 else if (nd l p).kind = 1 ∧ crowdB l n p = true then 3 else 0 := if_neg h

section
variable {Rep : (Nat → Prop) → World → Nat → List Nd → Prop} {S : Nat → Prop} {w : World} {b : Nat} {l : List Nd}
set_option maxHeartbeats 4000000 in
set_option maxRecDepth 100000 in
theorem vaCheck (O : ForestOk Rep) (M : ForestMore Rep) (n p c : Int) (h : Rep S w b l) (hg : Good l) :
    Calls Try.prog 11 #[at_ b, .int .i64 n, .int .i64 p, .int .i64 c] w fun e w' => e = .returned (.int .i64 (chkErr l n p c)) ∧ Below w.heap.size w w' := by
  have H := Lib.hid h
  have Hg := Lib.hid hg
  have hnot : ∀ (x : Bool) (w : World), (Op.unary .not (.bool x)).run Try.prog w = .ok (.bool (!x)) w := fun _ _ => rfl
  obtain ⟨R, hR⟩ : ∃ R, R = chkErr l n p c := ⟨_, rfl⟩
  rw [← hR]
  have HR := Lib.hid hR
  clear h hg hR
  go_enter Try.func11, Try.ntmps11
  go_wp2_with fail
  refine (M.node S w b l n H.out Hg.out).mono ?_
  rintro e w1 ⟨d1, A1, k1, rfl, hd1, -, hb1⟩
  have hB1 : Below w.heap.size w (w1.alloc (.cells #[.int .i64 d1.kind, .int .i64 d1.parent, .int .i64 d1.host, .int .i64 d1.shadow, .int .i64 d1.mode, .bool d1.slot, .string d1.name, .string d1.want, .slice A1 d1.kids.length k1] 39)) := hb1.alloc hb1.size _
  have hX1 : Has (w1.alloc (.cells #[.int .i64 d1.kind, .int .i64 d1.parent, .int .i64 d1.host, .int .i64 d1.shadow, .int .i64 d1.mode, .bool d1.slot, .string d1.name, .string d1.want, .slice A1 d1.kids.length k1] 39)) w1.heap.size (.cells #[.int .i64 d1.kind, .int .i64 d1.parent, .int .i64 d1.host, .int .i64 d1.shadow, .int .i64 d1.mode, .bool d1.slot, .string d1.name, .string d1.want, .slice A1 d1.kids.length k1] 39 (0, 0)) := Has.fresh _ _
  have B1 := Lib.hid hB1
  have X1 := Lib.hid hX1
  have D1 := Lib.hid hd1
  clear hb1 hB1 hX1 hd1
  go_wp2_with fail
  obtain ⟨W1, hW1⟩ : ∃ W, W = w1.alloc (.cells #[.int .i64 d1.kind, .int .i64 d1.parent, .int .i64 d1.host, .int .i64 d1.shadow, .int .i64 d1.mode, .bool d1.slot, .string d1.name, .string d1.want, .slice A1 d1.kids.length k1] 39) := ⟨_, rfl⟩
  rw [← hW1] at B1 X1
  rw [← hW1]
  clear hW1
  obtain ⟨g1, hg1⟩ : ∃ g, g = w1.heap.size := ⟨_, rfl⟩
  rw [← hg1] at X1
  rw [← hg1]
  clear hg1
  refine (M.node S W1 b l p (O.since H.out B1.out) Hg.out).mono ?_
  rintro e w2 ⟨d2, A2, k2, rfl, hd2, -, hb2⟩
  have hbb2 := B1.out.trans (hb2.mono B1.out.size)
  have hB2 : Below w.heap.size w (w2.alloc (.cells #[.int .i64 d2.kind, .int .i64 d2.parent, .int .i64 d2.host, .int .i64 d2.shadow, .int .i64 d2.mode, .bool d2.slot, .string d2.name, .string d2.want, .slice A2 d2.kids.length k2] 39)) := hbb2.alloc hbb2.size _
  have hX2 : Has (w2.alloc (.cells #[.int .i64 d2.kind, .int .i64 d2.parent, .int .i64 d2.host, .int .i64 d2.shadow, .int .i64 d2.mode, .bool d2.slot, .string d2.name, .string d2.want, .slice A2 d2.kids.length k2] 39)) w2.heap.size (.cells #[.int .i64 d2.kind, .int .i64 d2.parent, .int .i64 d2.host, .int .i64 d2.shadow, .int .i64 d2.mode, .bool d2.slot, .string d2.name, .string d2.want, .slice A2 d2.kids.length k2] 39 (0, 0)) := Has.fresh _ _
  have hX1 : Has (w2.alloc (.cells #[.int .i64 d2.kind, .int .i64 d2.parent, .int .i64 d2.host, .int .i64 d2.shadow, .int .i64 d2.mode, .bool d2.slot, .string d2.name, .string d2.want, .slice A2 d2.kids.length k2] 39)) g1 (.cells #[.int .i64 d1.kind, .int .i64 d1.parent, .int .i64 d1.host, .int .i64 d1.shadow, .int .i64 d1.mode, .bool d1.slot, .string d1.name, .string d1.want, .slice A1 d1.kids.length k1] 39 (0, 0)) := (X1.out.below hb2 X1.out.inside).more _
  have B2 := Lib.hid hB2
  have X2 := Lib.hid hX2
  have D2 := Lib.hid hd2
  clear X1
  have X1 := Lib.hid hX1
  clear hb2 hB2 hX2 hd2 hX1 hbb2 B1
  go_wp2_with fail
  obtain ⟨W2, hW2⟩ : ∃ W, W = w2.alloc (.cells #[.int .i64 d2.kind, .int .i64 d2.parent, .int .i64 d2.host, .int .i64 d2.shadow, .int .i64 d2.mode, .bool d2.slot, .string d2.name, .string d2.want, .slice A2 d2.kids.length k2] 39) := ⟨_, rfl⟩
  rw [← hW2] at B2 X1 X2
  rw [← hW2]
  clear hW2
  obtain ⟨g2, hg2⟩ : ∃ g, g = w2.heap.size := ⟨_, rfl⟩
  rw [← hg2] at X2
  rw [← hg2]
  clear hg2
  refine (M.node S W2 b l c (O.since H.out B2.out) Hg.out).mono ?_
  rintro e w3 ⟨d3, A3, k3, rfl, hd3, -, hb3⟩
  have hbb3 := B2.out.trans (hb3.mono B2.out.size)
  have hB3 : Below w.heap.size w (w3.alloc (.cells #[.int .i64 d3.kind, .int .i64 d3.parent, .int .i64 d3.host, .int .i64 d3.shadow, .int .i64 d3.mode, .bool d3.slot, .string d3.name, .string d3.want, .slice A3 d3.kids.length k3] 39)) := hbb3.alloc hbb3.size _
  have hX3 : Has (w3.alloc (.cells #[.int .i64 d3.kind, .int .i64 d3.parent, .int .i64 d3.host, .int .i64 d3.shadow, .int .i64 d3.mode, .bool d3.slot, .string d3.name, .string d3.want, .slice A3 d3.kids.length k3] 39)) w3.heap.size (.cells #[.int .i64 d3.kind, .int .i64 d3.parent, .int .i64 d3.host, .int .i64 d3.shadow, .int .i64 d3.mode, .bool d3.slot, .string d3.name, .string d3.want, .slice A3 d3.kids.length k3] 39 (0, 0)) := Has.fresh _ _
  have hX2 : Has (w3.alloc (.cells #[.int .i64 d3.kind, .int .i64 d3.parent, .int .i64 d3.host, .int .i64 d3.shadow, .int .i64 d3.mode, .bool d3.slot, .string d3.name, .string d3.want, .slice A3 d3.kids.length k3] 39)) g2 (.cells #[.int .i64 d2.kind, .int .i64 d2.parent, .int .i64 d2.host, .int .i64 d2.shadow, .int .i64 d2.mode, .bool d2.slot, .string d2.name, .string d2.want, .slice A2 d2.kids.length k2] 39 (0, 0)) := (X2.out.below hb3 X2.out.inside).more _
  have hX1 : Has (w3.alloc (.cells #[.int .i64 d3.kind, .int .i64 d3.parent, .int .i64 d3.host, .int .i64 d3.shadow, .int .i64 d3.mode, .bool d3.slot, .string d3.name, .string d3.want, .slice A3 d3.kids.length k3] 39)) g1 (.cells #[.int .i64 d1.kind, .int .i64 d1.parent, .int .i64 d1.host, .int .i64 d1.shadow, .int .i64 d1.mode, .bool d1.slot, .string d1.name, .string d1.want, .slice A1 d1.kids.length k1] 39 (0, 0)) := (X1.out.below hb3 X1.out.inside).more _
  have B3 := Lib.hid hB3
  have X3 := Lib.hid hX3
  have D3 := Lib.hid hd3
  clear X1 X2
  have X1 := Lib.hid hX1
  have X2 := Lib.hid hX2
  clear hb3 hB3 hX3 hd3 hX2 hX1 hbb3 B2
  have HR3 := Lib.hid (O.since H.out B3.out)
  cases t1 : thereB l n with
  | false =>
    have e0 := HR.out.trans (chk_arg (.inl t1))
    subst e0
    go_wp2
    go_ret
    exact ⟨rfl, B3.out⟩
  | true =>
    cases t2 : thereB l p with
    | false =>
      have e0 := HR.out.trans (chk_arg (.inr (.inl t2)))
      subst e0
      go_wp2
      go_ret
      exact ⟨rfl, B3.out⟩
    | true =>
      cases zc : (c != 0) with
      | true =>
        have hc0 : c ≠ 0 := by simpa using zc
        cases t3 : thereB l c with
        | false =>
          have e0 := HR.out.trans (chk_arg (.inr (.inr ⟨hc0, t3⟩)))
          subst e0
          clear hc0
          go_wp2
          go_ret
          exact ⟨rfl, B3.out⟩
        | true =>
          have ed1 : d1 = nd l n := D1.out.trans (if_pos t1)
          have ed2 : d2 = nd l p := D2.out.trans (if_pos t2)
          have ed3 : d3 = nd l c := D3.out.trans (if_pos t3)
          have e0 := HR.out.trans (chk_on (by rw [t1, t2, t3]; simp))
          rw [← ed1, ← ed2, ← ed3] at e0
          have HT1 := Lib.hid t1
          have E0 := Lib.hid e0
          clear e0 ed1 ed2 ed3 t3 t1 t2
          go_wp2_with fail
          refine (vaHost O M n p HR3.out Hg.out).mono ?_
          rintro e w4 ⟨rfl, hb4⟩
          have B4 := Lib.hid (B3.out.trans (hb4.mono B3.out.size))
          have HR4 := Lib.hid (O.since HR3.out hb4)
          have x1 : w4.cell? ⟨g1, 0, none⟩ = some (.int .i64 d1.kind) := (X1.out.below hb4 X1.out.inside).cell 0
          have x2 : w4.cell? ⟨g2, 0, none⟩ = some (.int .i64 d2.kind) := (X2.out.below hb4 X2.out.inside).cell 0
          have x3 : w4.cell? ⟨w3.heap.size, 1, none⟩ = some (.int .i64 d3.parent) := (X3.out.below hb4 X3.out.inside).cell 1
          clear hb4
          cases hh : hasB (over l p) n with
          | true =>
            have e1 := E0.out
            rw [if_pos hh] at e1
            subst e1
            clear x1 x2 x3
            go_wp2
            go_ret
            exact ⟨rfl, B4.out⟩
          | false =>
            have e0 := E0.out
            rw [if_neg (by rw [hh]; decide)] at e0
            clear E0 hh
            by_cases qp : d3.parent = p
            · have zp : (d3.parent != p) = false := by simpa using qp
              rw [if_neg (fun h => h.2 qp)] at e0
              clear qp hc0
              obtain ⟨Y, hY⟩ : ∃ Y, Y = crowdB l n p := ⟨_, rfl⟩
              have HY := Lib.hid hY
              rw [← hY] at e0
              have E0 := Lib.hid e0
              clear e0 hY
              by_cases q1 : d1.kind = 1
              · have e1 := E0.out
                rw [if_pos (.inl q1)] at e1
                subst e1
                have z1 : (d1.kind == 1) = true := by simpa using q1
                clear q1 x2
                go_wp2
                go_ret
                exact ⟨rfl, B4.out⟩
              · have z1 : (d1.kind == 1) = false := by simpa using q1
                by_cases q3 : d1.kind = 3
                · have e1 := E0.out
                  rw [if_pos (.inr q3)] at e1
                  subst e1
                  have z3 : (d1.kind == 3) = true := by simpa using q3
                  clear q1 q3 x2
                  go_wp2
                  go_ret
                  exact ⟨rfl, B4.out⟩
                · have z3 : (d1.kind == 3) = false := by simpa using q3
                  have e1 := E0.out
                  rw [if_neg (fun h => h.elim q1 q3)] at e1
                  clear q1 q3 E0
                  by_cases q2 : d2.kind = 1
                  · have z2 : (d2.kind == 1) = true := by simpa using q2
                    have E1 := Lib.hid e1
                    have Q2 := Lib.hid q2
                    clear e1 q2
                    go_wp2_with fail
                    refine (vaCrowds O M n p HR4.out Hg.out HT1.out).mono ?_
                    rintro e w5 ⟨rfl, hb5⟩
                    rw [← HY.out]
                    have B5 := Lib.hid (B4.out.trans (hb5.mono B4.out.size))
                    clear hb5
                    cases Y with
                    | true =>
                      have e1 := E1.out
                      rw [if_pos ⟨Q2.out, rfl⟩] at e1
                      subst e1
                      go_wp2
                      go_ret
                      exact ⟨rfl, B5.out⟩
                    | false =>
                      have e1 := E1.out
                      rw [if_neg (fun h => absurd h.2 (by decide))] at e1
                      subst e1
                      go_wp2
                      go_ret
                      exact ⟨rfl, B5.out⟩
                  · have z2 : (d2.kind == 1) = false := by simpa using q2
                    rw [if_neg (fun h => q2 h.1)] at e1
                    subst e1
                    clear q2
                    go_wp2
                    go_ret
                    exact ⟨rfl, B4.out⟩
            · have zp : (d3.parent != p) = true := by simpa using qp
              rw [if_pos ⟨hc0, qp⟩] at e0
              subst e0
              clear qp hc0 x1 x2
              go_wp2
              go_ret
              exact ⟨rfl, B4.out⟩
      | false =>
        have hc0 : c = 0 := by simpa using zc
        have ed1 : d1 = nd l n := D1.out.trans (if_pos t1)
        have ed2 : d2 = nd l p := D2.out.trans (if_pos t2)
        have e0 := HR.out.trans (chk_on (by rw [t1, t2]; simp [hc0]))
        rw [← ed1, ← ed2] at e0
        have HT1 := Lib.hid t1
        have E0 := Lib.hid e0
        clear e0 ed1 ed2 t1 t2
        go_wp2_with fail
        refine (vaHost O M n p HR3.out Hg.out).mono ?_
        rintro e w4 ⟨rfl, hb4⟩
        have B4 := Lib.hid (B3.out.trans (hb4.mono B3.out.size))
        have HR4 := Lib.hid (O.since HR3.out hb4)
        have x1 : w4.cell? ⟨g1, 0, none⟩ = some (.int .i64 d1.kind) := (X1.out.below hb4 X1.out.inside).cell 0
        have x2 : w4.cell? ⟨g2, 0, none⟩ = some (.int .i64 d2.kind) := (X2.out.below hb4 X2.out.inside).cell 0
        have x3 : w4.cell? ⟨w3.heap.size, 1, none⟩ = some (.int .i64 d3.parent) := (X3.out.below hb4 X3.out.inside).cell 1
        clear hb4
        cases hh : hasB (over l p) n with
        | true =>
          have e1 := E0.out
          rw [if_pos hh] at e1
          subst e1
          clear x1 x2 x3
          go_wp2
          go_ret
          exact ⟨rfl, B4.out⟩
        | false =>
          have e0 := E0.out
          rw [if_neg (by rw [hh]; decide)] at e0
          clear E0 hh
          rw [if_neg (fun h => h.1 hc0)] at e0
          clear hc0 x3
          obtain ⟨Y, hY⟩ : ∃ Y, Y = crowdB l n p := ⟨_, rfl⟩
          have HY := Lib.hid hY
          rw [← hY] at e0
          have E0 := Lib.hid e0
          clear e0 hY
          by_cases q1 : d1.kind = 1
          · have e1 := E0.out
            rw [if_pos (.inl q1)] at e1
            subst e1
            have z1 : (d1.kind == 1) = true := by simpa using q1
            clear q1 x2
            go_wp2
            go_ret
            exact ⟨rfl, B4.out⟩
          · have z1 : (d1.kind == 1) = false := by simpa using q1
            by_cases q3 : d1.kind = 3
            · have e1 := E0.out
              rw [if_pos (.inr q3)] at e1
              subst e1
              have z3 : (d1.kind == 3) = true := by simpa using q3
              clear q1 q3 x2
              go_wp2
              go_ret
              exact ⟨rfl, B4.out⟩
            · have z3 : (d1.kind == 3) = false := by simpa using q3
              have e1 := E0.out
              rw [if_neg (fun h => h.elim q1 q3)] at e1
              clear q1 q3 E0
              by_cases q2 : d2.kind = 1
              · have z2 : (d2.kind == 1) = true := by simpa using q2
                have E1 := Lib.hid e1
                have Q2 := Lib.hid q2
                clear e1 q2
                go_wp2_with fail
                refine (vaCrowds O M n p HR4.out Hg.out HT1.out).mono ?_
                rintro e w5 ⟨rfl, hb5⟩
                rw [← HY.out]
                have B5 := Lib.hid (B4.out.trans (hb5.mono B4.out.size))
                clear hb5
                cases Y with
                | true =>
                  have e1 := E1.out
                  rw [if_pos ⟨Q2.out, rfl⟩] at e1
                  subst e1
                  go_wp2
                  go_ret
                  exact ⟨rfl, B5.out⟩
                | false =>
                  have e1 := E1.out
                  rw [if_neg (fun h => absurd h.2 (by decide))] at e1
                  subst e1
                  go_wp2
                  go_ret
                  exact ⟨rfl, B5.out⟩
              · have z2 : (d2.kind == 1) = false := by simpa using q2
                rw [if_neg (fun h => q2 h.1)] at e1
                subst e1
                clear q2
                go_wp2
                go_ret
                exact ⟨rfl, B4.out⟩
end
end Go.Proofs.Ytgpcghfcnonpaaa

namespace Go.Proofs.Ytgpcghfcnonpaaa
open Go Go.RowKit

section
variable {G : Nat → Prop} {w : World} {A : Option Addr} {k : Nat} {l : List Nd}
set_option maxHeartbeats 4000000 in
set_option maxRecDepth 100000 in
theorem rfCheck (n p c : Int) (hg : Good l) (h : Nodes G w 0 A k l) :
    Calls Try.prog 12 #[.slice A l.length k, .int .i64 n, .int .i64 p, .int .i64 c] w fun e w' => e = .returned (.int .i64 (chkErr l n p c)) ∧ Below w.heap.size w w' := by
  have H := Lib.hid h
  have Hg := Lib.hid hg
  have hll := hg.len
  have hnot : ∀ (x : Bool) (w : World), (Op.unary .not (.bool x)).run Try.prog w = .ok (.bool (!x)) w := fun _ _ => rfl
  obtain ⟨R, hR⟩ : ∃ R, R = chkErr l n p c := ⟨_, rfl⟩
  rw [← hR]
  have HR := Lib.hid hR
  clear h hg hR
  cases t1 : thereB l n with
  | false =>
    have e0 := HR.out.trans (chk_arg (.inl t1))
    subst e0
    have T1 := Lib.hid t1
    clear t1
    go_enter Try.func12, Try.ntmps12
    go_wp2_with fail
    refine (there_any l A k n w).mono ?_
    rintro e w1 ⟨rfl, rfl⟩
    rw [T1.out]
    go_wp2
    go_ret
    exact ⟨rfl, Below.refl _ _⟩
  | true =>
    cases t2 : thereB l p with
    | false =>
      have e0 := HR.out.trans (chk_arg (.inr (.inl t2)))
      subst e0
      have T1 := Lib.hid t1
      have T2 := Lib.hid t2
      clear t1 t2
      go_enter Try.func12, Try.ntmps12
      go_wp2_with fail
      refine (there_any l A k n w).mono ?_
      rintro e w1 ⟨rfl, rfl⟩
      rw [T1.out]
      go_wp2_with fail
      refine (there_any l A k p w).mono ?_
      rintro e w1 ⟨rfl, rfl⟩
      rw [T2.out]
      go_wp2
      go_ret
      exact ⟨rfl, Below.refl _ _⟩
    | true =>
      obtain ⟨m1, hm1, hl1⟩ := there_at t1
      obtain ⟨m2, hm2, hl2⟩ := there_at t2
      subst hm1
      subst hm2
      cases zc : (c != 0) with
      | true =>
        have hc0 : c ≠ 0 := by simpa using zc
        cases t3 : thereB l c with
        | false =>
          have e0 := HR.out.trans (chk_arg (.inr (.inr ⟨hc0, t3⟩)))
          subst e0
          have T1 := Lib.hid t1
          have T2 := Lib.hid t2
          have T3 := Lib.hid t3
          clear t1 t2 t3 hc0
          go_enter Try.func12, Try.ntmps12
          go_wp2_with fail
          refine (there_any l A k _ w).mono ?_
          rintro e w1 ⟨rfl, rfl⟩
          rw [T1.out]
          go_wp2_with fail
          refine (there_any l A k _ w).mono ?_
          rintro e w1 ⟨rfl, rfl⟩
          rw [T2.out]
          go_wp2_with fail
          refine (there_any l A k c w).mono ?_
          rintro e w1 ⟨rfl, rfl⟩
          rw [T3.out]
          go_wp2
          go_ret
          exact ⟨rfl, Below.refl _ _⟩
        | true =>
          obtain ⟨m3, hm3, hl3⟩ := there_at t3
          subst hm3
          have e0 := HR.out.trans (chk_on (by rw [t1, t2, t3]; simp))
          have T1 := Lib.hid t1
          have T2 := Lib.hid t2
          have T3 := Lib.hid t3
          obtain ⟨d1, hd1⟩ : ∃ d, d = nd l ((m1 : Int) + 1) := ⟨_, rfl⟩
          obtain ⟨d2, hd2⟩ : ∃ d, d = nd l ((m2 : Int) + 1) := ⟨_, rfl⟩
          rw [← hd1, ← hd2] at e0
          have E0 := Lib.hid e0
          clear e0 t1 t2 t3
          go_enter Try.func12, Try.ntmps12
          go_wp2_with fail
          refine (there_any l A k _ w).mono ?_
          rintro e w1 ⟨rfl, rfl⟩
          rw [T1.out]
          go_wp2_with fail
          refine (there_any l A k _ w).mono ?_
          rintro e w1 ⟨rfl, rfl⟩
          rw [T2.out]
          go_wp2_with fail
          refine (there_any l A k _ w).mono ?_
          rintro e w1 ⟨rfl, rfl⟩
          rw [T3.out]
          go_wp2_with fail
          refine (rfHost _ _ Hg.out H.out).mono ?_
          rintro e w4 ⟨rfl, hb4⟩
          have B4 := Lib.hid hb4
          have hN4 := H.out.below hb4
          obtain ⟨g, K1, eA, -, -, -, -, x1, -⟩ := hN4.nine hl1
          obtain ⟨g', K2, eA2, -, -, -, -, x2, -⟩ := hN4.nine hl2
          subst eA
          obtain rfl : g = g' := by simpa using eA2
          rw [← hd1] at x1
          rw [← hd2] at x2
          have HN4 := Lib.hid hN4
          clear hb4 hN4 eA2
          cases hh : hasB (over l ((m2 : Int) + 1)) ((m1 : Int) + 1) with
          | true =>
            have e1 := E0.out
            rw [if_pos hh] at e1
            subst e1
            clear hd1 hd2
            go_wp2
            go_ret
            exact ⟨rfl, B4.out⟩
          | false =>
            have e0 := E0.out
            rw [if_neg (by rw [hh]; decide)] at e0
            clear E0 hh
            obtain ⟨g', K3, eA3, -, -, -, -, -, x3, -⟩ := HN4.out.nine hl3
            obtain rfl : g = g' := by simpa using eA3
            obtain ⟨P3, hP3⟩ : ∃ P3, P3 = (nd l ((m3 : Int) + 1)).parent := ⟨_, rfl⟩
            rw [← hP3] at e0 x3
            clear eA3 hP3
            by_cases qp : P3 = (m2 : Int) + 1
            · have zp : (P3 != (m2 : Int) + 1) = false := by simpa using qp
              rw [if_neg (fun h => h.2 qp)] at e0
              clear qp hc0
              obtain ⟨X, hX⟩ : ∃ X, X = moreL l ((m1 : Int) + 1) := ⟨_, rfl⟩
              obtain ⟨Z, hZ⟩ : ∃ Z, Z = cntL l 2 (kidsL l ((m2 : Int) + 1)) := ⟨_, rfl⟩
              have hcr : crowdB l ((m1 : Int) + 1) ((m2 : Int) + 1) = decide (1 < X ∨ (X = 1 ∧ 0 < Z)) := by
                unfold crowdB
                rw [← hX, ← hZ]
              rw [hcr] at e0
              have hXb : X ≤ 200 := by
                rw [hX]
                unfold moreL
                split
                · exact cntL_few Hg.out.few _ _
                · omega
              have hZb : Z ≤ 200 := by
                rw [hZ]
                exact cntL_few Hg.out.few _ _
              unfold moreL at hX
              rw [← hd1] at hX
              have HX := Lib.hid hX
              have HZ := Lib.hid hZ
              have E0 := Lib.hid e0
              clear e0 hX hZ hcr hd1 hd2
              by_cases q1 : d1.kind = 1
              · have e1 := E0.out
                rw [if_pos (.inl q1)] at e1
                subst e1
                have z1 : (d1.kind == 1) = true := by simpa using q1
                clear q1
                go_wp2
                go_ret
                exact ⟨rfl, B4.out⟩
              · have z1 : (d1.kind == 1) = false := by simpa using q1
                by_cases q3 : d1.kind = 3
                · have e1 := E0.out
                  rw [if_pos (.inr q3)] at e1
                  subst e1
                  have z3 : (d1.kind == 3) = true := by simpa using q3
                  clear q1 q3
                  go_wp2
                  go_ret
                  exact ⟨rfl, B4.out⟩
                · have z3 : (d1.kind == 3) = false := by simpa using q3
                  have e1 := E0.out
                  rw [if_neg (fun h => h.elim q1 q3)] at e1
                  clear q1 q3 E0
                  by_cases q2 : d2.kind = 1
                  · have z2 : (d2.kind == 1) = true := by simpa using q2
                    have E1 := Lib.hid e1
                    have Q2 := Lib.hid q2
                    clear e1 q2
                    go_wp2_with fail
                    refine (refCount ((m2 : Int) + 1) 2 Hg.out HN4.out).mono ?_
                    rintro e w5 ⟨rfl, rfl⟩
                    rw [← HZ.out]
                    by_cases q4 : d1.kind = 4
                    · have z4 : (d1.kind == 4) = true := by simpa using q4
                      have HX4 := Lib.hid (HX.out.trans (if_pos q4))
                      clear HX q4
                      go_wp2_with fail
                      refine (refCount ((m1 : Int) + 1) 2 Hg.out HN4.out).mono ?_
                      rintro e w5 ⟨rfl, rfl⟩
                      rw [← HX4.out]
                      clear HX4 HZ
                      rcases (by omega : X = 0 ∨ X = 1 ∨ 1 < X) with q | q | q
                      · subst q
                        have e1 := E1.out
                        rw [if_neg (fun h => by simpa using h.2)] at e1
                        subst e1
                        go_wp2
                        go_ret
                        exact ⟨rfl, B4.out⟩
                      · subst q
                        by_cases q5 : Z = 0
                        · subst q5
                          have e1 := E1.out
                          rw [if_neg (fun h => by simpa using h.2)] at e1
                          subst e1
                          go_wp2
                          go_ret
                          exact ⟨rfl, B4.out⟩
                        · have e1 := E1.out
                          rw [if_pos ⟨Q2.out, decide_eq_true (.inr ⟨rfl, by omega⟩)⟩] at e1
                          subst e1
                          have z5 : (0 : Int) < Z := by omega
                          clear q5
                          go_wp2
                          go_ret
                          exact ⟨rfl, B4.out⟩
                      · have e1 := E1.out
                        rw [if_pos ⟨Q2.out, decide_eq_true (.inl q)⟩] at e1
                        subst e1
                        have z5 : (1 : Int) < X := by omega
                        clear q
                        go_wp2
                        go_ret
                        exact ⟨rfl, B4.out⟩
                    · have z4 : (d1.kind == 4) = false := by simpa using q4
                      obtain rfl : X = 1 := HX.out.trans (if_neg q4)
                      clear HX q4 HZ
                      by_cases q5 : Z = 0
                      · subst q5
                        have e1 := E1.out
                        rw [if_neg (fun h => by simpa using h.2)] at e1
                        subst e1
                        go_wp2
                        go_ret
                        exact ⟨rfl, B4.out⟩
                      · have e1 := E1.out
                        rw [if_pos ⟨Q2.out, decide_eq_true (.inr ⟨rfl, by omega⟩)⟩] at e1
                        subst e1
                        have z5 : (0 : Int) < Z := by omega
                        clear q5
                        go_wp2
                        go_ret
                        exact ⟨rfl, B4.out⟩
                  · have z2 : (d2.kind == 1) = false := by simpa using q2
                    rw [if_neg (fun h => q2 h.1)] at e1
                    subst e1
                    clear q2
                    go_wp2
                    go_ret
                    exact ⟨rfl, B4.out⟩
            · have zp : (P3 != (m2 : Int) + 1) = true := by simpa using qp
              rw [if_pos ⟨hc0, qp⟩] at e0
              subst e0
              clear qp hc0 hd1 hd2
              go_wp2
              go_ret
              exact ⟨rfl, B4.out⟩
      | false =>
        have hc0 : c = 0 := by simpa using zc
        have e0 := HR.out.trans (chk_on (by rw [t1, t2]; simp [hc0]))
        have T1 := Lib.hid t1
        have T2 := Lib.hid t2
        obtain ⟨d1, hd1⟩ : ∃ d, d = nd l ((m1 : Int) + 1) := ⟨_, rfl⟩
        obtain ⟨d2, hd2⟩ : ∃ d, d = nd l ((m2 : Int) + 1) := ⟨_, rfl⟩
        rw [← hd1, ← hd2] at e0
        have E0 := Lib.hid e0
        clear e0 t1 t2
        go_enter Try.func12, Try.ntmps12
        go_wp2_with fail
        refine (there_any l A k _ w).mono ?_
        rintro e w1 ⟨rfl, rfl⟩
        rw [T1.out]
        go_wp2_with fail
        refine (there_any l A k _ w).mono ?_
        rintro e w1 ⟨rfl, rfl⟩
        rw [T2.out]
        go_wp2_with fail
        refine (rfHost _ _ Hg.out H.out).mono ?_
        rintro e w4 ⟨rfl, hb4⟩
        have B4 := Lib.hid hb4
        have hN4 := H.out.below hb4
        obtain ⟨g, K1, eA, -, -, -, -, x1, -⟩ := hN4.nine hl1
        obtain ⟨g', K2, eA2, -, -, -, -, x2, -⟩ := hN4.nine hl2
        subst eA
        obtain rfl : g = g' := by simpa using eA2
        rw [← hd1] at x1
        rw [← hd2] at x2
        have HN4 := Lib.hid hN4
        clear hb4 hN4 eA2
        cases hh : hasB (over l ((m2 : Int) + 1)) ((m1 : Int) + 1) with
        | true =>
          have e1 := E0.out
          rw [if_pos hh] at e1
          subst e1
          clear hd1 hd2
          go_wp2
          go_ret
          exact ⟨rfl, B4.out⟩
        | false =>
          have e0 := E0.out
          rw [if_neg (by rw [hh]; decide)] at e0
          clear E0 hh
          rw [if_neg (fun h => h.1 hc0)] at e0
          clear hc0
          obtain ⟨X, hX⟩ : ∃ X, X = moreL l ((m1 : Int) + 1) := ⟨_, rfl⟩
          obtain ⟨Z, hZ⟩ : ∃ Z, Z = cntL l 2 (kidsL l ((m2 : Int) + 1)) := ⟨_, rfl⟩
          have hcr : crowdB l ((m1 : Int) + 1) ((m2 : Int) + 1) = decide (1 < X ∨ (X = 1 ∧ 0 < Z)) := by
            unfold crowdB
            rw [← hX, ← hZ]
          rw [hcr] at e0
          have hXb : X ≤ 200 := by
            rw [hX]
            unfold moreL
            split
            · exact cntL_few Hg.out.few _ _
            · omega
          have hZb : Z ≤ 200 := by
            rw [hZ]
            exact cntL_few Hg.out.few _ _
          unfold moreL at hX
          rw [← hd1] at hX
          have HX := Lib.hid hX
          have HZ := Lib.hid hZ
          have E0 := Lib.hid e0
          clear e0 hX hZ hcr hd1 hd2
          by_cases q1 : d1.kind = 1
          · have e1 := E0.out
            rw [if_pos (.inl q1)] at e1
            subst e1
            have z1 : (d1.kind == 1) = true := by simpa using q1
            clear q1
            go_wp2
            go_ret
            exact ⟨rfl, B4.out⟩
          · have z1 : (d1.kind == 1) = false := by simpa using q1
            by_cases q3 : d1.kind = 3
            · have e1 := E0.out
              rw [if_pos (.inr q3)] at e1
              subst e1
              have z3 : (d1.kind == 3) = true := by simpa using q3
              clear q1 q3
              go_wp2
              go_ret
              exact ⟨rfl, B4.out⟩
            · have z3 : (d1.kind == 3) = false := by simpa using q3
              have e1 := E0.out
              rw [if_neg (fun h => h.elim q1 q3)] at e1
              clear q1 q3 E0
              by_cases q2 : d2.kind = 1
              · have z2 : (d2.kind == 1) = true := by simpa using q2
                have E1 := Lib.hid e1
                have Q2 := Lib.hid q2
                clear e1 q2
                go_wp2_with fail
                refine (refCount ((m2 : Int) + 1) 2 Hg.out HN4.out).mono ?_
                rintro e w5 ⟨rfl, rfl⟩
                rw [← HZ.out]
                by_cases q4 : d1.kind = 4
                · have z4 : (d1.kind == 4) = true := by simpa using q4
                  have HX4 := Lib.hid (HX.out.trans (if_pos q4))
                  clear HX q4
                  go_wp2_with fail
                  refine (refCount ((m1 : Int) + 1) 2 Hg.out HN4.out).mono ?_
                  rintro e w5 ⟨rfl, rfl⟩
                  rw [← HX4.out]
                  clear HX4 HZ
                  rcases (by omega : X = 0 ∨ X = 1 ∨ 1 < X) with q | q | q
                  · subst q
                    have e1 := E1.out
                    rw [if_neg (fun h => by simpa using h.2)] at e1
                    subst e1
                    go_wp2
                    go_ret
                    exact ⟨rfl, B4.out⟩
                  · subst q
                    by_cases q5 : Z = 0
                    · subst q5
                      have e1 := E1.out
                      rw [if_neg (fun h => by simpa using h.2)] at e1
                      subst e1
                      go_wp2
                      go_ret
                      exact ⟨rfl, B4.out⟩
                    · have e1 := E1.out
                      rw [if_pos ⟨Q2.out, decide_eq_true (.inr ⟨rfl, by omega⟩)⟩] at e1
                      subst e1
                      have z5 : (0 : Int) < Z := by omega
                      clear q5
                      go_wp2
                      go_ret
                      exact ⟨rfl, B4.out⟩
                  · have e1 := E1.out
                    rw [if_pos ⟨Q2.out, decide_eq_true (.inl q)⟩] at e1
                    subst e1
                    have z5 : (1 : Int) < X := by omega
                    clear q
                    go_wp2
                    go_ret
                    exact ⟨rfl, B4.out⟩
                · have z4 : (d1.kind == 4) = false := by simpa using q4
                  obtain rfl : X = 1 := HX.out.trans (if_neg q4)
                  clear HX q4 HZ
                  by_cases q5 : Z = 0
                  · subst q5
                    have e1 := E1.out
                    rw [if_neg (fun h => by simpa using h.2)] at e1
                    subst e1
                    go_wp2
                    go_ret
                    exact ⟨rfl, B4.out⟩
                  · have e1 := E1.out
                    rw [if_pos ⟨Q2.out, decide_eq_true (.inr ⟨rfl, by omega⟩)⟩] at e1
                    subst e1
                    have z5 : (0 : Int) < Z := by omega
                    clear q5
                    go_wp2
                    go_ret
                    exact ⟨rfl, B4.out⟩
              · have z2 : (d2.kind == 1) = false := by simpa using q2
                rw [if_neg (fun h => q2 h.1)] at e1
                subst e1
                clear q2
                go_wp2
                go_ret
                exact ⟨rfl, B4.out⟩
end
end Go.Proofs.Ytgpcghfcnonpaaa

namespace Go.Proofs.Ytgpcghfcnonpaaa
open Go Go.RowKit

section
variable {Rep : (Nat → Prop) → World → Nat → List Nd → Prop}
set_option maxHeartbeats 8000000 in
set_option maxRecDepth 100000 in
theorem built_any (O : ForestOk Rep) (A : Option Addr) (n c : Nat) (xs : List Ac) (w : World) (hn : xs.length = n) (h : Acts w A xs) (hs : Small xs) :
    Calls Try.prog 7 #[.slice A n c] w fun e w' => ∃ b, e = .returned (at_ b) ∧ Rep (fun i => w.heap.size ≤ i) w' b (forest xs) ∧ Below w.heap.size w w' := by
  have H := Lib.hid h
  have Hn := Lib.hid hn
  have Hs := Lib.hid hs
  have hnb : n ≤ 300 := by rw [← hn]; exact hs.1
  clear h hn hs
  go_enter Try.func7, Try.ntmps7
  go_wp2_with fail
  refine (O.new (fun i => w.heap.size ≤ i) w (fun _ h => h)).mono ?_
  rintro e w1 ⟨b, rfl, hR1, hb1⟩
  go_wp2_with fail
  go_loopw [4] (fun i wr => ∃ j : Nat, i = .int .i64 j ∧ j ≤ n ∧ Rep (fun i => w.heap.size ≤ i) wr b (forest (xs.take j)) ∧ Below w.heap.size w wr) (fun i _ => n - (intOf i).toNat)
  case atStart => exact ⟨0, rfl, Nat.zero_le _, hR1, hb1⟩
  case round =>
    obtain ⟨j, rfl, hj, hR, hb⟩ := hrel
    clear hR1 hb1
    by_cases hjn : (j : Int) < n
    · have hjx : j < xs.length := by rw [Hn.out]; omega
      have hj3 : (j : Int) < 300 := by omega
      obtain ⟨b', off, A1, c1, A2, c2, rfl, hB, hc, hL, hA⟩ := H.out j hjx
      have hsn : forest (xs.take (j + 1)) = actL (forest (xs.take j)) xs[j] := by
        rw [List.take_add_one, List.getElem?_eq_getElem hjx]
        exact forest_snoc _ _
      have hxl : xs[j].l.length ≤ 200 := Hs.out.2 _ (List.getElem_mem hjx)
      have hg : Good (forest (xs.take j)) := good_take Hs.out j
      obtain ⟨l, hl⟩ : ∃ l, l = forest (xs.take j) := ⟨_, rfl⟩
      rw [← hl] at hsn hg hR
      obtain ⟨x, hx⟩ : ∃ x, x = xs[j] := ⟨_, rfl⟩
      rw [← hx] at hc hL hA hsn hxl
      clear hl hx
      have hc' : ∀ f, f < 14 → wr.cell? ⟨b', off + j * 14 + f, none⟩ = (actCells x (.slice A1 x.n.kids.length c1) (.slice A2 x.l.length c2))[f]? := fun f hf => by
        rw [hb.cell (p := ⟨b', off + j * 14 + f, none⟩) hB, Nat.add_assoc]
        exact hc f hf
      have hapart : 0 < x.l.length → ∀ b'' off' s, A2 = some ⟨b'', off', s⟩ → b'' < w.heap.size := fun h0 b'' off' s e => by
        obtain ⟨b3, off3, e3, hb3, _⟩ := hA.nums 0 h0
        rw [e] at e3
        cases e3
        exact hb3
      obtain ⟨kx, ax, bx, sx, ⟨k, pa, ho, sh, m, sl, na, wa, ks⟩, xl⟩ := x
      have g0 : wr.cell? ⟨b', off + j * 14, none⟩ = some (.int .i64 kx) := hc' 0 (by omega)
      have g1 : wr.cell? ⟨b', off + j * 14 + 1, none⟩ = some (.int .i64 ax) := hc' 1 (by omega)
      have g2 : wr.cell? ⟨b', off + j * 14 + 2, none⟩ = some (.int .i64 bx) := hc' 2 (by omega)
      have g3 : wr.cell? ⟨b', off + j * 14 + 3, none⟩ = some (.string sx) := hc' 3 (by omega)
      have g4 : wr.cell? ⟨b', off + j * 14 + 4, none⟩ = some (.int .i64 k) := hc' 4 (by omega)
      have g5 : wr.cell? ⟨b', off + j * 14 + 5, none⟩ = some (.int .i64 pa) := hc' 5 (by omega)
      have g6 : wr.cell? ⟨b', off + j * 14 + 6, none⟩ = some (.int .i64 ho) := hc' 6 (by omega)
      have g7 : wr.cell? ⟨b', off + j * 14 + 7, none⟩ = some (.int .i64 sh) := hc' 7 (by omega)
      have g8 : wr.cell? ⟨b', off + j * 14 + 8, none⟩ = some (.int .i64 m) := hc' 8 (by omega)
      have g9 : wr.cell? ⟨b', off + j * 14 + 9, none⟩ = some (.bool sl) := hc' 9 (by omega)
      have g10 : wr.cell? ⟨b', off + j * 14 + 10, none⟩ = some (.string na) := hc' 10 (by omega)
      have g11 : wr.cell? ⟨b', off + j * 14 + 11, none⟩ = some (.string wa) := hc' 11 (by omega)
      have g12 : wr.cell? ⟨b', off + j * 14 + 12, none⟩ = some (.slice A1 ks.length c1) := hc' 12 (by omega)
      have g13 : wr.cell? ⟨b', off + j * 14 + 13, none⟩ = some (.slice A2 xl.length c2) := hc' 13 (by omega)
      obtain ⟨q1, q2, q3, q4, q5, q6⟩ := hA
      have hxl' : xl.length ≤ 200 := hxl
      have hbb : Below wr.heap.size wr (wr.alloc (.cells #[.int .i64 kx, .int .i64 ax, .int .i64 bx, .string sx, .int .i64 k, .int .i64 pa, .int .i64 ho, .int .i64 sh, .int .i64 m, .bool sl, .string na, .string wa, .slice A1 ks.length c1, .slice A2 xl.length c2] 44)) := (Below.refl _ wr).alloc (Nat.le_refl _) _
      have HR := Lib.hid (O.below hR hbb)
      have HS : Hid (Fut (fun i => w.heap.size ≤ i) (wr.alloc (.cells #[.int .i64 kx, .int .i64 ax, .int .i64 bx, .string sx, .int .i64 k, .int .i64 pa, .int .i64 ho, .int .i64 sh, .int .i64 m, .bool sl, .string na, .string wa, .slice A1 ks.length c1, .slice A2 xl.length c2] 44)).heap.size) := Lib.hid fun i hi => Nat.le_trans (Nat.le_trans hb.size hbb.size) hi
      have H1 : Hid (ListIn (wr.alloc (.cells #[.int .i64 kx, .int .i64 ax, .int .i64 bx, .string sx, .int .i64 k, .int .i64 pa, .int .i64 ho, .int .i64 sh, .int .i64 m, .bool sl, .string na, .string wa, .slice A1 ks.length c1, .slice A2 xl.length c2] 44)) A1 c1 ks) := Lib.hid ((hL.below hb).below hbb)
      have H6 : Hid (ListIn (wr.alloc (.cells #[.int .i64 kx, .int .i64 ax, .int .i64 bx, .string sx, .int .i64 k, .int .i64 pa, .int .i64 ho, .int .i64 sh, .int .i64 m, .bool sl, .string na, .string wa, .slice A1 ks.length c1, .slice A2 xl.length c2] 44)) A2 c2 xl) := Lib.hid ((ListIn.below ⟨q4, q5, q6⟩ hb).below hbb)
      have HB : Hid (Below w.heap.size w (wr.alloc (.cells #[.int .i64 kx, .int .i64 ax, .int .i64 bx, .string sx, .int .i64 k, .int .i64 pa, .int .i64 ho, .int .i64 sh, .int .i64 m, .bool sl, .string na, .string wa, .slice A1 ks.length c1, .slice A2 xl.length c2] 44))) := Lib.hid (hb.alloc hb.size _)
      have HA := Lib.hid hapart
      have Hg := Lib.hid hg
      have Hsn := Lib.hid hsn
      have Q1 : sx.size ≤ 9223372036854775807 := q1
      have Q2 : na.size ≤ 9223372036854775807 := q2
      have Q3 : wa.size ≤ 9223372036854775807 := q3
      clear hc hc' hsn hL hR hapart hbb hg q4 q5 q6 hxl q1 q2 q3
      by_cases h0 : kx = 0
      · subst h0
        have e1 : actL l ⟨0, ax, bx, sx, ⟨k, pa, ho, sh, m, sl, na, wa, ks⟩, xl⟩ = mkL l ⟨k, pa, ho, sh, m, sl, na, wa, ks⟩ := rfl
        have E1 := Lib.hid e1
        clear e1
        go_wp2_with fail
        refine (O.make (fun i => w.heap.size ≤ i) _ b l k pa ho sh m sl na wa ks A1 c1 HR.out Hg.out HS.out Q2 Q3 H1.out).mono ?_
        rintro e w2 ⟨rfl, hR2, hk2⟩
        go_wp2
        go_roundw
        case rel => exact ⟨j + 1, by go_num, by omega, by rw [Hsn.out, E1.out]; exact hR2, below_then HB.out hk2 HB.out.size fun i hi hh => by omega⟩
        case measure => simp [intOf]; omega
      · have h0' : (kx == 0) = false := by simpa using h0
        by_cases h1 : kx = 1
        · subst h1
          have e1 : actL l ⟨1, ax, bx, sx, ⟨k, pa, ho, sh, m, sl, na, wa, ks⟩, xl⟩ = putL l ax xl := rfl
          have E1 := Lib.hid e1
          clear e1
          go_wp2_with fail
          refine (O.put (fun i => w.heap.size ≤ i) _ b l ax xl A2 c2 HR.out Hg.out HS.out hxl' H6.out fun h0 b2 off2 s e _ hh => by have := HA.out h0 b2 off2 s e; omega).mono ?_
          rintro e w2 ⟨rfl, hR2, hk2⟩
          go_wp2
          go_roundw
          case rel => exact ⟨j + 1, by go_num, by omega, by rw [Hsn.out, E1.out]; exact hR2, below_then HB.out hk2 HB.out.size fun i hi hh => by omega⟩
          case measure => simp [intOf]; omega
        · have h1' : (kx == 1) = false := by simpa using h1
          by_cases h2 : kx = 2
          · subst h2
            have e1 : actL l ⟨2, ax, bx, sx, ⟨k, pa, ho, sh, m, sl, na, wa, ks⟩, xl⟩ = tieL l ax bx := rfl
            have E1 := Lib.hid e1
            clear e1
            go_wp2_with fail
            refine (O.tie (fun i => w.heap.size ≤ i) _ b l ax bx HR.out Hg.out HS.out).mono ?_
            rintro e w2 ⟨rfl, hR2, hk2⟩
            go_wp2
            go_roundw
            case rel => exact ⟨j + 1, by go_num, by omega, by rw [Hsn.out, E1.out]; exact hR2, below_then HB.out hk2 HB.out.size fun i hi hh => by omega⟩
            case measure => simp [intOf]; omega
          · have h2' : (kx == 2) = false := by simpa using h2
            by_cases h3 : kx = 3
            · subst h3
              have e1 : actL l ⟨3, ax, bx, sx, ⟨k, pa, ho, sh, m, sl, na, wa, ks⟩, xl⟩ = nameL l ax sx := rfl
              have E1 := Lib.hid e1
              clear e1
              go_wp2_with fail
              refine (O.name (fun i => w.heap.size ≤ i) _ b l ax sx HR.out Hg.out HS.out Q1).mono ?_
              rintro e w2 ⟨rfl, hR2, hk2⟩
              go_wp2
              go_roundw
              case rel => exact ⟨j + 1, by go_num, by omega, by rw [Hsn.out, E1.out]; exact hR2, below_then HB.out hk2 HB.out.size fun i hi hh => by omega⟩
              case measure => simp [intOf]; omega
            · have h3' : (kx == 3) = false := by simpa using h3
              by_cases h4 : kx = 4
              · subst h4
                have e1 : actL l ⟨4, ax, bx, sx, ⟨k, pa, ho, sh, m, sl, na, wa, ks⟩, xl⟩ = wantL l ax sx := rfl
                have E1 := Lib.hid e1
                clear e1
                go_wp2_with fail
                refine (O.want (fun i => w.heap.size ≤ i) _ b l ax sx HR.out Hg.out HS.out Q1).mono ?_
                rintro e w2 ⟨rfl, hR2, hk2⟩
                go_wp2
                go_roundw
                case rel => exact ⟨j + 1, by go_num, by omega, by rw [Hsn.out, E1.out]; exact hR2, below_then HB.out hk2 HB.out.size fun i hi hh => by omega⟩
                case measure => simp [intOf]; omega
              · have h4' : (kx == 4) = false := by simpa using h4
                have e1 : actL l ⟨kx, ax, bx, sx, ⟨k, pa, ho, sh, m, sl, na, wa, ks⟩, xl⟩ = l := by simp only [actL, if_neg h0, if_neg h1, if_neg h2, if_neg h3, if_neg h4]
                have E1 := Lib.hid e1
                clear e1
                go_wp2
                go_roundw
                case rel => exact ⟨j + 1, by go_num, by omega, by rw [Hsn.out, E1.out]; exact HR.out, HB.out⟩
                case measure => simp [intOf]; omega
    · go_wp2
      go_ret
      refine ⟨b, rfl, ?_, hb⟩
      rw [List.take_of_length_le (by rw [Hn.out]; omega)] at hR
      exact hR
end
end Go.Proofs.Ytgpcghfcnonpaaa

namespace Go.Proofs.Ytgpcghfcnonpaaa
open Go Go.RowKit

/-- The cells of calls, one behind the other; beside each call where its two lists stand. -/
def rowsOf (rows : List (Ac × (Option Addr × Nat) × Option Addr × Nat)) : List Value := rows.flatMap fun r => actCells r.1 (.slice r.2.1.1 r.1.n.kids.length r.2.1.2) (.slice r.2.2.1 r.1.l.length r.2.2.2)
theorem rowsOf_get : ∀ {rows : List (Ac × (Option Addr × Nat) × Option Addr × Nat)} {i f : Nat} (hi : i < rows.length), f < 14 → (rowsOf rows)[i * 14 + f]? = (actCells rows[i].1 (.slice rows[i].2.1.1 rows[i].1.n.kids.length rows[i].2.1.2) (.slice rows[i].2.2.1 rows[i].1.l.length rows[i].2.2.2))[f]?
  | [], i, _, hi, _ => absurd hi (Nat.not_lt_zero i)
  | q :: r, 0, f, _, hf => by
    show (actCells q.1 _ _ ++ rowsOf r)[0 * 14 + f]? = _
    rw [List.getElem?_append_left (by show 0 * 14 + f < 14; omega), Nat.zero_mul, Nat.zero_add]
    rfl
  | q :: r, i + 1, f, hi, hf => by
    show (actCells q.1 _ _ ++ rowsOf r)[(i + 1) * 14 + f]? = _
    rw [List.getElem?_append_right (by show 14 ≤ (i + 1) * 14 + f; omega), show (i + 1) * 14 + f - (actCells q.1 (.slice q.2.1.1 q.1.n.kids.length q.2.1.2) (.slice q.2.2.1 q.1.l.length q.2.2.2)).length = i * 14 + f by show (i + 1) * 14 + f - 14 = _; omega]
    exact rowsOf_get (by simpa using hi) hf
theorem acts_lit {W : World} {b : Nat} {t : TypeId} {fr : Nat × Nat} {rows : List (Ac × (Option Addr × Nat) × Option Addr × Nat)} (hh : Has W b (.cells (rowsOf rows).toArray t fr)) (h : ∀ r ∈ rows, ListIn W r.2.1.1 r.2.1.2 r.1.n.kids ∧ ActIn W r.1 r.2.2.1 r.2.2.2) :
    Acts W (some ⟨b, 0, none⟩) (rows.map fun r => r.1) := fun i hi => by
  have hi' : i < rows.length := by simpa using hi
  rw [List.getElem_map]
  refine ⟨b, 0, rows[i].2.1.1, rows[i].2.1.2, rows[i].2.2.1, rows[i].2.2.2, rfl, hh.inside, fun f hf => ?_, (h _ (List.getElem_mem hi')).1, (h _ (List.getElem_mem hi')).2⟩
  rw [hh.cell, Nat.zero_add, List.getElem?_toArray]
  exact rowsOf_get hi' hf
theorem listNone (W : World) : ListIn W none 0 [] := ⟨Nat.le_refl 0, fun _ => rfl, fun i hi => absurd hi (Nat.not_lt_zero i)⟩
/-- A literal of numbers. -/
theorem listLit {W : World} {b : Nat} {t : TypeId} {fr : Nat × Nat} {xs : List Int} (hh : Has W b (.cells (xs.map (Value.int .i64)).toArray t fr)) : ListIn W (some ⟨b, 0, none⟩) xs.length xs :=
  ⟨Nat.le_refl _, (fun e => by cases e), fun i hi => ⟨b, 0, rfl, hh.inside, by rw [hh.cell, Nat.zero_add, List.getElem?_toArray, List.getElem?_map, List.getElem?_eq_getElem hi]; rfl⟩⟩
end Go.Proofs.Ytgpcghfcnonpaaa

namespace Go.Proofs.Ytgpcghfcnonpaaa
open Go Go.RowKit

/-- A bare element. -/
def elem : Nd := ⟨2, 0, 0, 0, 0, false, ⟨#[]⟩, ⟨#[]⟩, []⟩
theorem empty_is : (⟨#[]⟩ : ByteArray).toList.isEmpty = true := by kernel_rfl
theorem elem_err (n : Nat) (h : n < 128) : mkErr n elem = 0 := by
  have := mkErr_rest (n := n) (k := 2) (pa := 0) (ho := 0) (sh := 0) (m := 0) (sl := false) (na := ⟨#[]⟩) (wa := ⟨#[]⟩) (ks := []) (by omega) (by omega) (by omega) (by
    rw [okName_empty empty_is, empty_is]
    simp)
  rw [if_neg (by omega)] at this
  exact this
theorem two_elems : mkL (mkL [] elem) elem = [elem, elem] := by
  have e1 : mkL [] elem = [elem] := by
    unfold mkL
    rw [if_pos (elem_err _ (by simp))]
    rfl
  rw [e1]
  unfold mkL
  rw [if_pos (elem_err _ (by simp))]
  rfl
theorem good_make {l : List Nd} {d : Nd} (h : Good l) : Good (mkL l d) := good_act (x := ⟨0, 0, 0, ⟨#[]⟩, d, []⟩) h (by simp)
theorem pair_put : putErr [elem, elem] 1 [2] = 0 := by decide +kernel
theorem pair_there : thereB (putL [elem, elem] 1 [2]) 2 = true := by rw [there_len (putL_length _ _ _)]; decide
theorem pair_parent : (nd (putL [elem, elem] 1 [2]) 2).parent = 1 := by
  rw [put_nd pair_put (by decide) (by decide) (by decide)]
  decide

end Go.Proofs.Ytgpcghfcnonpaaa
