/-
  What package kin's Up, Root, Above do with an arena that keeps its promises.
  What package kin's Root, Above, row, Index and Next do with an arena that keeps its promises.
  What towncrierref04.Nodes and Up, towncrierref05.Root and Above do.
  What package kin's Count and Order do with an arena that keeps its promises.
  What towncrierref05.Index, Next and Count do.
  A forest and the document's list of the same nodes, side by side.
  A forest that a law changes.
  Forests, plain: host-including ancestors, and what the document says of Check. No program is named here.
  Forests, plain: trees around trees, closed roots, what is hidden. No program is named here.
  Forests, plain: a node, aimed at another one. No program is named here.
  What package shade's around, Whole and Closed do with an arena that keeps its promises.
  What package shade's Holds and Hidden do with an arena that keeps its promises.
  What package aim's Aim and Both do with an arena that keeps its promises.
-/
import Derived.Test.YtegdhfdehcidhaaPartD
import Derived.Laws.EntriesVeiled

namespace Go.Proofs.Ytegdhfdehcidhaa
open Go Go.RowKit

section
variable {Rep : (Nat → Prop) → World → Nat → List Nd → Prop} {S : Nat → Prop} {w : World} {b : Nat} {l : List Nd}
/-- Node of one that is there, and of one that isn't. -/
theorem nodeYes (M : ForestMore Rep) {id : Int} (h : Rep S w b l) (hg : Good l) (ht : thereB l id = true) :
    Calls Try.prog 13 #[at_ b, .int .i64 id] w fun e w' => ∃ A1 c1, e = .returned (.tuple #[.agg #[.int .i64 (nd l id).kind, .int .i64 (nd l id).parent, .int .i64 (nd l id).host, .int .i64 (nd l id).shadow, .int .i64 (nd l id).mode, .bool (nd l id).slot, .string (nd l id).name, .string (nd l id).want, .slice A1 (nd l id).kids.length c1], .bool true]) ∧ Kids (fun i => w.heap.size ≤ i) w' (.slice A1 (nd l id).kids.length c1) (nd l id).kids ∧ Below w.heap.size w w' := by
  refine (M.node S w b l id h hg).mono ?_
  rintro e w' ⟨d, A, c, rfl, hd, hk, hb⟩
  rw [if_pos ht] at hd
  subst hd
  rw [ht]
  exact ⟨A, c, rfl, hk, hb⟩
theorem nodeNo (M : ForestMore Rep) {id : Int} (h : Rep S w b l) (hg : Good l) (ht : thereB l id = false) :
    Calls Try.prog 13 #[at_ b, .int .i64 id] w fun e w' => ∃ A1 c1, e = .returned (.tuple #[.agg #[.int .i64 0, .int .i64 0, .int .i64 0, .int .i64 0, .int .i64 0, .bool false, .string ⟨#[]⟩, .string ⟨#[]⟩, .slice A1 0 c1], .bool false]) ∧ Kids (fun i => w.heap.size ≤ i) w' (.slice A1 0 c1) [] ∧ Below w.heap.size w w' := by
  refine (M.node S w b l id h hg).mono ?_
  rintro e w' ⟨d, A, c, rfl, hd, hk, hb⟩
  rw [if_neg (by rw [ht]; decide)] at hd
  subst hd
  rw [ht]
  exact ⟨A, c, rfl, hk, hb⟩
theorem app_len {xs ys : List Int} {R : List Int} (h : xs ++ ys = R) : xs.length ≤ R.length := by rw [← h]; simp

set_option maxHeartbeats 4000000 in
set_option maxRecDepth 100000 in
theorem kinUp (O : ForestOk Rep) (M : ForestMore Rep) (id : Int) (h : Rep S w b l) (hg : Good l) :
    Calls Try.prog 46 #[at_ b, .int .i64 id] w fun e w' => ∃ v, e = .returned v ∧ Pile w.heap.size w' v (parL l id) ∧ Below w.heap.size w w' := by
  have H := Lib.hid h
  have Hg := Lib.hid hg
  have hnot : ∀ (x : Bool) (w : World), (Op.unary .not (.bool x)).run Try.prog w = .ok (.bool (!x)) w := fun _ _ => rfl
  have hRl : (parL l id).length ≤ 128 := Nat.le_trans (parL_len hg.tree id) hg.len
  obtain ⟨R, hR⟩ : ∃ R, R = parL l id := ⟨_, rfl⟩
  rw [← hR] at hRl
  rw [← hR]
  have hR0 : ([] : List Int) ++ parL l id = R := by rw [hR]; rfl
  have HR0 := Lib.hid hR0
  clear h hg hR hR0
  go_enter Try.func46, Try.ntmps46
  go_wp2_with fail
  go_loopw [1, 5] (fun a o wr => ∃ (i : Int) (xs : List Int), a = .int .i64 i ∧ xs ++ parL l i = R ∧ Pile w.heap.size wr o xs ∧ Below w.heap.size w wr) (fun a _ _ => (parL l (intOf a)).length)
  case atStart => exact ⟨id, [], rfl, HR0.out, Pile.nil _ _, Below.refl _ _⟩
  case round =>
    obtain ⟨i, xs, rfl, hxs, hP, hb⟩ := hrel
    have hRw : Rep S wr b l := O.keep H.out (Keeps.of_below (F := fun i => w.heap.size ≤ i) hb fun _ _ h => h) fun _ _ hi => Nat.not_le.2 hi
    have Hxs := Lib.hid hxs
    have hxl : xs.length ≤ 1000000 := by have := app_len hxs; omega
    clear HR0 hxs
    obtain ⟨Ao, co, rfl, -⟩ := hP.form
    cases ht : thereB l i with
    | false =>
      have Ht := Lib.hid ht
      have HP := Lib.hid hP
      clear ht hP
      go_wp2_with fail
      refine (nodeNo M hRw Hg.out Ht.out).mono ?_
      rintro e w1 ⟨A1, c1, rfl, -, hb1⟩
      have HF : Hid (Pile w.heap.size (w1.alloc (.cells #[.int .i64 0, .int .i64 0, .int .i64 0, .int .i64 0, .int .i64 0, .bool false, .string ⟨#[]⟩, .string ⟨#[]⟩, .slice A1 0 c1] 36)) (.slice Ao xs.length co) xs ∧ Below w.heap.size w (w1.alloc (.cells #[.int .i64 0, .int .i64 0, .int .i64 0, .int .i64 0, .int .i64 0, .bool false, .string ⟨#[]⟩, .string ⟨#[]⟩, .slice A1 0 c1] 36))) := Lib.hid ⟨(HP.out.below hb1).alloc _, (hb.trans (hb1.mono hb.size)).alloc (Nat.le_trans hb.size hb1.size) _⟩
      clear hb1 HP
      go_wp2
      go_ret
      refine ⟨_, rfl, ?_, HF.out.2⟩
      have := Hxs.out
      rw [parL_no Ht.out, List.append_nil] at this
      rw [← this]
      exact HF.out.1
    | true =>
      have Ht := Lib.hid ht
      have HP := Lib.hid hP
      have hfin : (xs ++ [i]) ++ parL l (nd l i).parent = R := by
        rw [List.append_assoc, List.singleton_append, ← parL_step Hg.out.tree ht]
        exact Hxs.out
      have Hfin := Lib.hid hfin
      clear ht hP hfin Hxs
      go_wp2_with fail
      refine (nodeYes M hRw Hg.out Ht.out).mono ?_
      rintro e w1 ⟨A1, c1, rfl, -, hb1⟩
      obtain ⟨d, hd⟩ : ∃ d, d = nd l i := ⟨_, rfl⟩
      rw [← hd] at Hfin
      rw [← hd]
      have hB1 : Below w.heap.size w w1 := hb.trans (hb1.mono hb.size)
      have hP1 : Pile w.heap.size w1 (.slice Ao xs.length co) xs := HP.out.below hb1
      have hown : ∀ g, (Value.slice Ao xs.length co).ownBlock = some g → w.heap.size ≤ g ∧ g < w1.heap.size := hP1.lt
      have HC : Hid (∀ w2, Keeps (fun i => (Value.slice Ao xs.length co).ownBlock = some i) ((w1.alloc (.cells #[.int .i64 d.kind, .int .i64 d.parent, .int .i64 d.host, .int .i64 d.shadow, .int .i64 d.mode, .bool d.slot, .string d.name, .string d.want, .slice A1 d.kids.length c1] 36)).alloc (.cells #[.int .i64 i] 3)) w2 → w2.cell? ⟨w1.heap.size, 1, none⟩ = some (.int .i64 d.parent)) := Lib.hid fun w2 hk2 => by
        have hh : Has ((w1.alloc (.cells #[.int .i64 d.kind, .int .i64 d.parent, .int .i64 d.host, .int .i64 d.shadow, .int .i64 d.mode, .bool d.slot, .string d.name, .string d.want, .slice A1 d.kids.length c1] 36)).alloc (.cells #[.int .i64 i] 3)) w1.heap.size (.cells #[.int .i64 d.kind, .int .i64 d.parent, .int .i64 d.host, .int .i64 d.shadow, .int .i64 d.mode, .bool d.slot, .string d.name, .string d.want, .slice A1 d.kids.length c1] 36 (0, 0)) := (Has.fresh _ _).more _
        exact (hh.kept hk2 fun e => by have := (hown _ e).2; omega).cell 1
      have HP2 : Hid (Pile w.heap.size ((w1.alloc (.cells #[.int .i64 d.kind, .int .i64 d.parent, .int .i64 d.host, .int .i64 d.shadow, .int .i64 d.mode, .bool d.slot, .string d.name, .string d.want, .slice A1 d.kids.length c1] 36)).alloc (.cells #[.int .i64 i] 3)) (.slice Ao xs.length co) xs) := Lib.hid ((hP1.alloc _).alloc _)
      have HB2 : Hid (Has ((w1.alloc (.cells #[.int .i64 d.kind, .int .i64 d.parent, .int .i64 d.host, .int .i64 d.shadow, .int .i64 d.mode, .bool d.slot, .string d.name, .string d.want, .slice A1 d.kids.length c1] 36)).alloc (.cells #[.int .i64 i] 3)) (w1.heap.size + 1) (.cells #[.int .i64 i] 3 (0, 0))) := Lib.hid (by
        have := Has.fresh (w1.alloc (.cells #[.int .i64 d.kind, .int .i64 d.parent, .int .i64 d.host, .int .i64 d.shadow, .int .i64 d.mode, .bool d.slot, .string d.name, .string d.want, .slice A1 d.kids.length c1] 36)) (.cells #[.int .i64 i] 3)
        simpa using this)
      have HS2 : Hid (w.heap.size ≤ ((w1.alloc (.cells #[.int .i64 d.kind, .int .i64 d.parent, .int .i64 d.host, .int .i64 d.shadow, .int .i64 d.mode, .bool d.slot, .string d.name, .string d.want, .slice A1 d.kids.length c1] 36)).alloc (.cells #[.int .i64 i] 3)).heap.size) := Lib.hid (by have := hB1.size; simp; omega)
      have HE : Hid (∀ w2, Keeps (fun i => (Value.slice Ao xs.length co).ownBlock = some i) ((w1.alloc (.cells #[.int .i64 d.kind, .int .i64 d.parent, .int .i64 d.host, .int .i64 d.shadow, .int .i64 d.mode, .bool d.slot, .string d.name, .string d.want, .slice A1 d.kids.length c1] 36)).alloc (.cells #[.int .i64 i] 3)) w2 → Below w.heap.size w w2) := Lib.hid fun w2 hk2 =>
        below_then ((hB1.alloc hB1.size _).alloc (by have := hB1.size; simp; omega) _) hk2 (by have := hB1.size; simp; omega) fun i hi e => by have := (hown _ e).1; omega
      have Hd := Lib.hid hd
      clear hd hb1 hB1 hP1 hown HP hb hRw
      go_wp2_with (at_builtin; refine wpList_push rfl (.tmp 17) (.tmp 19) rfl rfl HP2.out rfl HB2.out hxl HS2.out ?_; intro g cap w2 hp2 hk2 _ _; have c1 := HC.out w2 hk2)
      go_roundw
      case rel => exact ⟨_, xs ++ [i], rfl, Hfin.out, by simpa using hp2, HE.out w2 hk2⟩
      case measure =>
        simp only [intOf]
        rw [Hd.out, parL_step Hg.out.tree Ht.out]
        simp
end
end Go.Proofs.Ytegdhfdehcidhaa

namespace Go.Proofs.Ytegdhfdehcidhaa
open Go Go.RowKit

theorem lastL_at {xs : List Int} {m : Nat} (h : xs.length = m + 1) : lastL xs = xs[m]'(by omega) := by
  unfold lastL
  have e : xs.length - 1 = m := by omega
  rw [List.getLastD_eq_getLast?, List.getLast?_eq_getElem?, e, List.getElem?_eq_getElem (by omega)]
  rfl
/-- The children among which a node stands. -/
def rowL (l : List Nd) (id : Int) : List Int := if thereB l id = true then if thereB l (nd l id).parent = true then (nd l (nd l id).parent).kids else [] else []
/-- The one behind. -/
def nextL (xs : List Int) (x : Int) : Int := if idxL xs x < 0 then 0 else xs.getD ((idxL xs x).toNat + 1) 0
theorem few_nd {l : List Nd} {K : Nat} (h : Few K l) (i : Int) : (nd l i).kids.length ≤ K := by
  unfold nd
  rw [List.getD_eq_getElem?_getD]
  cases e : l[(i - 1).toNat]? with
  | none => exact Nat.zero_le _
  | some d => exact h d (List.mem_of_getElem? e)
theorem rowL_len {l : List Nd} (h : Few 200 l) (i : Int) : (rowL l i).length ≤ 200 := by
  unfold rowL
  split
  · split
    · exact few_nd h _
    · exact Nat.zero_le _
  · exact Nat.zero_le _
theorem idxL_range (xs : List Int) (x : Int) : idxL xs x = -1 ∨ ∃ k : Nat, idxL xs x = (k : Int) ∧ k < xs.length := by
  unfold idxL
  by_cases h : x ∈ xs
  · rw [if_pos h]
    exact .inr ⟨_, rfl, List.idxOf_lt_length_of_mem h⟩
  · rw [if_neg h]
    exact .inl rfl

section
variable {Rep : (Nat → Prop) → World → Nat → List Nd → Prop} {S : Nat → Prop} {w : World} {b : Nat} {l : List Nd}
set_option maxHeartbeats 1000000 in
theorem kinRoot (O : ForestOk Rep) (M : ForestMore Rep) (id : Int) (h : Rep S w b l) (hg : Good l) :
    Calls Try.prog 23 #[at_ b, .int .i64 id] w fun e w' => e = .returned (.int .i64 (rootL l id)) ∧ Below w.heap.size w w' := by
  have C := Lib.hid (kinUp O M id h hg)
  have hRl : (parL l id).length ≤ 128 := Nat.le_trans (parL_len hg.tree id) hg.len
  have hroot : rootL l id = lastL (parL l id) := rfl
  rw [hroot]
  obtain ⟨R, hR⟩ : ∃ R, R = parL l id := ⟨_, rfl⟩
  rw [← hR] at hRl C
  rw [← hR]
  clear h hg hR hroot
  go_enter Try.func23, Try.ntmps23
  go_wp2_with fail
  refine C.out.mono ?_
  rintro e w1 ⟨v, rfl, hP, hb⟩
  obtain ⟨A, c, rfl, hL⟩ := hP.form
  clear C hP
  cases hm : R.length with
  | zero =>
    have e0 : lastL R = 0 := by rw [List.length_eq_zero_iff.1 hm]; rfl
    have E0 := Lib.hid e0
    have Hm := Lib.hid hm
    clear e0 hm
    go_wp2
    go_ret
    rw [E0.out]
    exact ⟨rfl, hb⟩
  | succ m =>
    have e0 := lastL_at hm
    obtain ⟨b', off, rfl, -, hc⟩ := hL.nums m (by omega)
    obtain ⟨y, hy⟩ : ∃ y, y = R[m]'(by omega) := ⟨_, rfl⟩
    rw [← hy] at hc e0
    have E0 := Lib.hid e0
    clear e0
    have hm' : m ≤ 128 := by omega
    have z1 : (((m : Int) + 1) == 0) = false := by rw [beq_eq_false_iff_ne]; omega
    clear hm hy hL hRl
    go_wp2
    go_ret
    rw [E0.out]
    exact ⟨rfl, hb⟩
theorem kinAbove (O : ForestOk Rep) (M : ForestMore Rep) (x id : Int) (h : Rep S w b l) (hg : Good l) :
    Calls Try.prog 34 #[at_ b, .int .i64 x, .int .i64 id] w fun e w' => e = .returned (.bool (hasB (parL l id) x)) ∧ Below w.heap.size w w' := by
  have C := Lib.hid (kinUp O M id h hg)
  have hRl : (parL l id).length ≤ 1000000 := Nat.le_trans (Nat.le_trans (parL_len hg.tree id) hg.len) (by decide)
  obtain ⟨R, hR⟩ : ∃ R, R = parL l id := ⟨_, rfl⟩
  rw [← hR] at hRl C
  rw [← hR]
  clear h hg hR
  go_enter Try.func34, Try.ntmps34
  go_wp2_with fail
  refine C.out.mono ?_
  rintro e w1 ⟨v, rfl, hP, hb⟩
  obtain ⟨A, c, rfl, hL⟩ := hP.form
  clear C hP
  go_wp2_with fail
  refine (contains_any R A R.length c x w1 rfl hRl hL.nums).mono ?_
  rintro e w2 ⟨rfl, rfl⟩
  go_wp2
  go_ret
  exact ⟨rfl, hb⟩
end
end Go.Proofs.Ytegdhfdehcidhaa

namespace Go.Proofs.Ytegdhfdehcidhaa
open Go Go.RowKit

set_option maxHeartbeats 4000000 in
set_option maxRecDepth 100000 in
theorem refNodes (A : Option Addr) (n c : Nat) (xs : List Ac) (w : World) (hn : xs.length = n) (h : Acts w A xs) (hs : Small xs) :
    Calls Try.prog 9 #[.slice A n c] w fun e w' => ∃ A' c', e = .returned (.slice A' (forest xs).length c') ∧ Nodes (fun i => w.heap.size ≤ i) w' 0 A' c' (forest xs) ∧ Below w.heap.size w w' := by
  have H := Lib.hid h
  have Hn := Lib.hid hn
  have Hs := Lib.hid hs
  have hnb : n ≤ 300 := by rw [← hn]; exact hs.1
  clear h hn hs
  go_enter Try.func9, Try.ntmps9
  go_wp2_with fail
  go_loopw [3, 4] (fun v i wr => ∃ (j : Nat) (A' : Option Addr) (c' : Nat), v = .slice A' (forest (xs.take j)).length c' ∧ i = .int .i64 j ∧ j ≤ n ∧ Nodes (fun i => w.heap.size ≤ i) wr 0 A' c' (forest (xs.take j)) ∧ Below w.heap.size w wr) (fun _ i _ => n - (intOf i).toNat)
  case atStart => exact ⟨0, none, 0, rfl, rfl, Nat.zero_le _, Nodes.nil _ _, Below.refl _ _⟩
  case round =>
    obtain ⟨j, A', c', rfl, rfl, hj, hN, hb⟩ := hrel
    by_cases hjn : (j : Int) < n
    · have hjx : j < xs.length := by rw [Hn.out]; omega
      obtain ⟨b', off, A1, c1, A2, c2, rfl, hB, hc, hL, hA⟩ := H.out j hjx
      have hsn : forest (xs.take (j + 1)) = actL (forest (xs.take j)) xs[j] := by
        rw [List.take_add_one, List.getElem?_eq_getElem hjx]
        exact forest_snoc _ _
      have hxl : xs[j].l.length ≤ 200 := Hs.out.2 _ (List.getElem_mem hjx)
      have hg : Good (forest (xs.take j)) := good_take Hs.out j
      obtain ⟨l, hl⟩ : ∃ l, l = forest (xs.take j) := ⟨_, rfl⟩
      rw [← hl] at hsn hg hN
      rw [← hl]
      obtain ⟨x, hx⟩ : ∃ x, x = xs[j] := ⟨_, rfl⟩
      rw [← hx] at hc hA hsn hxl
      clear hl hx hL
      have hc' : ∀ f, f < 14 → wr.cell? ⟨b', off + j * 14 + f, none⟩ = (actCells x (.slice A1 x.n.kids.length c1) (.slice A2 x.l.length c2))[f]? := fun f hf => by
        rw [hb.cell (p := ⟨b', off + j * 14 + f, none⟩) hB, Nat.add_assoc]
        exact hc f hf
      have g0 : wr.cell? ⟨b', off + j * 14, none⟩ = some (.int .i64 x.kind) := hc' 0 (by omega)
      have g1 : wr.cell? ⟨b', off + j * 14 + 1, none⟩ = some (.int .i64 x.a) := hc' 1 (by omega)
      have g2 : wr.cell? ⟨b', off + j * 14 + 2, none⟩ = some (.int .i64 x.b) := hc' 2 (by omega)
      have g3 : wr.cell? ⟨b', off + j * 14 + 3, none⟩ = some (.string x.s) := hc' 3 (by omega)
      have g4 : wr.cell? ⟨b', off + j * 14 + 4, none⟩ = some (.int .i64 x.n.kind) := hc' 4 (by omega)
      have g5 : wr.cell? ⟨b', off + j * 14 + 5, none⟩ = some (.int .i64 x.n.parent) := hc' 5 (by omega)
      have g6 : wr.cell? ⟨b', off + j * 14 + 6, none⟩ = some (.int .i64 x.n.host) := hc' 6 (by omega)
      have g7 : wr.cell? ⟨b', off + j * 14 + 7, none⟩ = some (.int .i64 x.n.shadow) := hc' 7 (by omega)
      have g8 : wr.cell? ⟨b', off + j * 14 + 8, none⟩ = some (.int .i64 x.n.mode) := hc' 8 (by omega)
      have g9 : wr.cell? ⟨b', off + j * 14 + 9, none⟩ = some (.bool x.n.slot) := hc' 9 (by omega)
      have g10 : wr.cell? ⟨b', off + j * 14 + 10, none⟩ = some (.string x.n.name) := hc' 10 (by omega)
      have g11 : wr.cell? ⟨b', off + j * 14 + 11, none⟩ = some (.string x.n.want) := hc' 11 (by omega)
      have g12 : wr.cell? ⟨b', off + j * 14 + 12, none⟩ = some (.slice A1 x.n.kids.length c1) := hc' 12 (by omega)
      have g13 : wr.cell? ⟨b', off + j * 14 + 13, none⟩ = some (.slice A2 x.l.length c2) := hc' 13 (by omega)
      have C := do_any l A' c' x (.slice A1 x.n.kids.length c1) A2 c2 wr (Nat.le_trans hg.len (by decide)) (fun d hd => Nat.le_trans (hg.few d hd) (by decide)) (G := fun i => w.heap.size ≤ i) (fun i hi => Nat.le_trans hb.size hi) (Nat.le_trans hxl (by decide)) hN (hA.below hb)
      unfold actVal at C
      have HC := Lib.hid C
      have Hsn := Lib.hid hsn
      clear C hc hc' hsn hA hN hg
      go_wp2_with fail
      refine HC.out.mono ?_
      rintro e w2 ⟨A3, c3, rfl, hN3, hb3⟩
      go_wp2
      go_roundw
      case rel => exact ⟨j + 1, A3, c3, by rw [Hsn.out], by go_num, by omega, by rw [Hsn.out]; exact hN3, hb.trans (hb3.mono hb.size)⟩
      case measure => simp [intOf]; omega
    · rw [List.take_of_length_le (by rw [Hn.out]; omega)] at hN
      have e0 : (forest (xs.take j)).length = (forest xs).length := by rw [List.take_of_length_le (by rw [Hn.out]; omega)]
      rw [e0]
      clear e0
      go_wp2
      go_ret
      exact ⟨A', c', rfl, hN, hb⟩
section
variable {G : Nat → Prop}
set_option maxHeartbeats 4000000 in
set_option maxRecDepth 100000 in
theorem refUp (l : List Nd) (A : Option Addr) (c : Nat) (id : Int) (w : World) (hl : l.length ≤ 1000) (h : Nodes G w 0 A c l) :
    Calls Try.prog 48 #[.slice A l.length c, .int .i64 id] w fun e w' => ∃ v, e = .returned v ∧ Pile w.heap.size w' v (parL l id) ∧ Below w.heap.size w w' := by
  have H := Lib.hid h
  obtain ⟨R, hR⟩ : ∃ R, R = parL l id := ⟨_, rfl⟩
  rw [← hR]
  have hR0 : ([] : List Int) ++ parN l (l.length + 1 - 0) id = R := by rw [hR]; rfl
  have HR0 := Lib.hid hR0
  clear h hR hR0
  go_enter Try.func48, Try.ntmps48
  go_wp2_with fail
  go_loopw [1, 5, 6] (fun a o i wr => ∃ (j : Nat) (id : Int) (xs : List Int), a = .int .i64 id ∧ i = .int .i64 j ∧ j ≤ l.length + 1 ∧ xs.length = j ∧ xs ++ parN l (l.length + 1 - j) id = R ∧ Pile w.heap.size wr o xs ∧ Below w.heap.size w wr) (fun _ _ i _ => l.length + 1 - (intOf i).toNat)
  case atStart => exact ⟨0, id, [], rfl, rfl, Nat.zero_le _, rfl, HR0.out, Pile.nil _ _, Below.refl _ _⟩
  case round =>
    obtain ⟨j, id, xs, rfl, rfl, hj, hxl, hxs, hP, hb⟩ := hrel
    have Hxs := Lib.hid hxs
    have Hxl := Lib.hid hxl
    clear HR0 hxs hxl
    obtain ⟨Ao, co, rfl, -⟩ := hP.form
    by_cases hjl : (j : Int) ≤ l.length
    · cases hth : thereB l id with
      | true =>
        have hgo : parN l (l.length + 1 - j) id = id :: parN l (l.length + 1 - (j + 1)) (nd l id).parent := by
          rw [show l.length + 1 - j = (l.length + 1 - (j + 1)) + 1 by omega]
          exact par_go hth
        obtain ⟨m, rfl, hml⟩ := there_at hth
        obtain ⟨g, k, rfl, -, hgw, -, -, -, c1, -⟩ := H.out.nine hml
        have hfin : (xs ++ [(m : Int) + 1]) ++ parN l (l.length + 1 - (j + 1)) (nd l ((m : Int) + 1)).parent = R := by
          rw [List.append_assoc, List.singleton_append, ← hgo]
          exact Hxs.out
        obtain ⟨pa, hpa⟩ : ∃ pa, pa = (nd l ((m : Int) + 1)).parent := ⟨_, rfl⟩
        rw [← hpa] at c1 hfin
        have Hfin := Lib.hid hfin
        have hxb : xs.length ≤ 1000000 := by rw [Hxl.out]; omega
        have Hth := Lib.hid hth
        have hown := hP.lt
        have HP2 : Hid (Pile w.heap.size (wr.alloc (.cells #[.int .i64 ((m : Int) + 1)] 3)) (.slice Ao xs.length co) xs) := Lib.hid (hP.alloc _)
        have HB2 : Hid (Has (wr.alloc (.cells #[.int .i64 ((m : Int) + 1)] 3)) wr.heap.size (.cells #[.int .i64 ((m : Int) + 1)] 3 (0, 0))) := Lib.hid (Has.fresh _ _)
        have HS2 : Hid (w.heap.size ≤ (wr.alloc (.cells #[.int .i64 ((m : Int) + 1)] 3)).heap.size) := Lib.hid (by have := hb.size; simp; omega)
        have HE : Hid (∀ w2, Keeps (fun i => (Value.slice Ao xs.length co).ownBlock = some i) (wr.alloc (.cells #[.int .i64 ((m : Int) + 1)] 3)) w2 → Below w.heap.size w w2) := Lib.hid fun w2 hk2 =>
          below_then (hb.alloc hb.size _) hk2 (by have := hb.size; simp; omega) fun i hi e => by have := (hown _ e).1; omega
        have C1 := Lib.hid c1
        clear hgo hth hpa c1 hfin Hxs hP hown hb
        go_wp2_with fail
        refine (there_any l _ c _ wr).mono ?_
        rintro e w1 ⟨rfl, rfl⟩
        rw [Hth.out]
        go_wp2_with (at_builtin; refine wpList_push rfl (.tmp 18) (.tmp 20) rfl rfl HP2.out rfl HB2.out hxb HS2.out ?_; intro g2 cap w2 hp2 hk2 _ _; have hb2 := HE.out w2 hk2; have d1 := (hb2.cell (p := ⟨g, m * 9 + 1, none⟩) hgw).trans C1.out)
        go_roundw
        case rel => exact ⟨j + 1, _, xs ++ [(m : Int) + 1], rfl, by go_num, by omega, by simp [Hxl.out], Hfin.out, by simpa using hp2, hb2⟩
        case measure => simp [intOf]; omega
      | false =>
        go_wp2_with fail
        refine (there_any l A c id wr).mono ?_
        rintro e w1 ⟨rfl, rfl⟩
        rw [hth]
        go_wp2
        go_ret
        refine ⟨_, rfl, ?_, hb⟩
        have := Hxs.out
        rw [par_no hth, List.append_nil] at this
        rw [← this]
        exact hP
    · go_wp2
      go_ret
      refine ⟨_, rfl, ?_, hb⟩
      have := Hxs.out
      rw [show l.length + 1 - j = 0 by omega] at this
      rw [← this, parN, List.append_nil]
      exact hP
set_option maxHeartbeats 1000000 in
theorem refRoot (l : List Nd) (A : Option Addr) (c : Nat) (id : Int) (w : World) (hg : Good l) (h : Nodes G w 0 A c l) :
    Calls Try.prog 27 #[.slice A l.length c, .int .i64 id] w fun e w' => e = .returned (.int .i64 (rootL l id)) ∧ Below w.heap.size w w' := by
  have C := Lib.hid (refUp l A c id w (Nat.le_trans hg.len (by decide)) h)
  have hRl : (parL l id).length ≤ 128 := Nat.le_trans (parL_len hg.tree id) hg.len
  have hroot : rootL l id = lastL (parL l id) := rfl
  rw [hroot]
  obtain ⟨R, hR⟩ : ∃ R, R = parL l id := ⟨_, rfl⟩
  rw [← hR] at hRl C
  rw [← hR]
  clear h hg hR hroot
  go_enter Try.func27, Try.ntmps27
  go_wp2_with fail
  refine C.out.mono ?_
  rintro e w1 ⟨v, rfl, hP, hb⟩
  obtain ⟨A, c, rfl, hL⟩ := hP.form
  clear C hP
  cases hm : R.length with
  | zero =>
    have e0 : lastL R = 0 := by rw [List.length_eq_zero_iff.1 hm]; rfl
    have E0 := Lib.hid e0
    have Hm := Lib.hid hm
    clear e0 hm
    go_wp2
    go_ret
    rw [E0.out]
    exact ⟨rfl, hb⟩
  | succ m =>
    have e0 := lastL_at hm
    obtain ⟨b', off, rfl, -, hc⟩ := hL.nums m (by omega)
    obtain ⟨y, hy⟩ : ∃ y, y = R[m]'(by omega) := ⟨_, rfl⟩
    rw [← hy] at hc e0
    have E0 := Lib.hid e0
    clear e0
    have hm' : m ≤ 128 := by omega
    have z1 : (((m : Int) + 1) == 0) = false := by rw [beq_eq_false_iff_ne]; omega
    clear hm hy hL hRl
    go_wp2
    go_ret
    rw [E0.out]
    exact ⟨rfl, hb⟩
theorem refAbove (l : List Nd) (A : Option Addr) (c : Nat) (x id : Int) (w : World) (hg : Good l) (h : Nodes G w 0 A c l) :
    Calls Try.prog 47 #[.slice A l.length c, .int .i64 x, .int .i64 id] w fun e w' => e = .returned (.bool (hasB (parL l id) x)) ∧ Below w.heap.size w w' := by
  have C := Lib.hid (refUp l A c id w (Nat.le_trans hg.len (by decide)) h)
  have hRl : (parL l id).length ≤ 1000000 := Nat.le_trans (Nat.le_trans (parL_len hg.tree id) hg.len) (by decide)
  obtain ⟨R, hR⟩ : ∃ R, R = parL l id := ⟨_, rfl⟩
  rw [← hR] at hRl C
  rw [← hR]
  clear h hg hR
  go_enter Try.func47, Try.ntmps47
  go_wp2_with fail
  refine C.out.mono ?_
  rintro e w1 ⟨v, rfl, hP, hb⟩
  obtain ⟨A2, c2, rfl, hL⟩ := hP.form
  clear C hP
  go_wp2_with fail
  refine (has_any R A2 R.length c2 x w1 rfl hRl hL.nums).mono ?_
  rintro e w2 ⟨rfl, rfl⟩
  go_wp2
  go_ret
  exact ⟨rfl, hb⟩
end
end Go.Proofs.Ytegdhfdehcidhaa

namespace Go.Proofs.Ytegdhfdehcidhaa
open Go Go.RowKit

/-- How many of a list are of a kind. -/
def cntL (l : List Nd) (kind : Int) (ks : List Int) : Nat := (ks.filter fun k => decide ((nd l k).kind = kind)).length
def kidsL (l : List Nd) (id : Int) : List Int := if thereB l id = true then (nd l id).kids else []
theorem cntL_step {l : List Nd} {kind : Int} {ks : List Int} {j : Nat} (hj : j < ks.length) : cntL l kind (ks.take (j + 1)) = cntL l kind (ks.take j) + if (nd l ks[j]).kind = kind then 1 else 0 := by
  unfold cntL
  rw [List.take_add_one, List.getElem?_eq_getElem hj, Option.toList_some, List.filter_append, List.length_append]
  congr 1
  by_cases h : (nd l ks[j]).kind = kind
  · rw [if_pos h, List.filter_cons_of_pos (by simpa using h)]
    rfl
  · rw [if_neg h, List.filter_cons_of_neg (by simpa using h)]
    rfl
theorem cntL_le (l : List Nd) (kind : Int) (ks : List Int) : cntL l kind ks ≤ ks.length := List.length_filter_le _ _

section
variable {Rep : (Nat → Prop) → World → Nat → List Nd → Prop} {S : Nat → Prop} {w : World} {b : Nat} {l : List Nd}
theorem ForestOk.since (O : ForestOk Rep) {w' : World} (h : Rep S w b l) (hb : Below w.heap.size w w') : Rep S w' b l := O.keep h (Keeps.of_below (F := fun i => w.heap.size ≤ i) hb fun _ _ h => h) fun _ _ hi => Nat.not_le.2 hi
end
end Go.Proofs.Ytegdhfdehcidhaa

namespace Go.Proofs.Ytegdhfdehcidhaa
open Go Go.RowKit

/-- How many nodes ahead of number j have that parent and that kind. -/
def cntP (l : List Nd) (id kind : Int) (j : Nat) : Nat := ((List.range j).filter fun i : Nat => decide ((nd l ((i : Int) + 1)).parent = id ∧ (nd l ((i : Int) + 1)).kind = kind)).length
theorem cntP_step {l : List Nd} {id kind : Int} {j : Nat} : cntP l id kind (j + 1) = cntP l id kind j + if (nd l ((j : Int) + 1)).parent = id ∧ (nd l ((j : Int) + 1)).kind = kind then 1 else 0 := by
  unfold cntP
  rw [List.range_succ, List.filter_append, List.length_append]
  congr 1
  by_cases h : (nd l ((j : Int) + 1)).parent = id ∧ (nd l ((j : Int) + 1)).kind = kind
  · rw [if_pos h, List.filter_cons_of_pos (by simpa using h)]
    rfl
  · rw [if_neg h, List.filter_cons_of_neg (by simpa using h)]
    rfl
theorem cntP_le (l : List Nd) (id kind : Int) (j : Nat) : cntP l id kind j ≤ j := by
  have := List.length_filter_le (fun i : Nat => decide ((nd l ((i : Int) + 1)).parent = id ∧ (nd l ((i : Int) + 1)).kind = kind)) (List.range j)
  rw [List.length_range] at this
  exact this
/-- Those of a parent are its children. -/
theorem cntP_all {l : List Nd} (T : Tree l) {id kind : Int} (ht : thereB l id = true) : cntP l id kind l.length = cntL l kind (kidsL l id) := by
  unfold kidsL
  rw [if_pos ht]
  unfold cntP cntL
  have hp : List.Perm (((List.range l.length).filter fun i : Nat => decide ((nd l ((i : Int) + 1)).parent = id ∧ (nd l ((i : Int) + 1)).kind = kind)).map fun i : Nat => (i : Int) + 1) ((nd l id).kids.filter fun k => decide ((nd l k).kind = kind)) := by
    refine (List.perm_ext_iff_of_nodup ?_ ?_).2 fun k => ?_
    · exact List.pairwise_map.2 ((List.nodup_range.filter _).imp fun h e => h (by omega))
    · exact (T.once id ht).filter _
    · rw [List.mem_map, List.mem_filter]
      constructor
      · rintro ⟨i, hi, rfl⟩
        rw [List.mem_filter, List.mem_range] at hi
        obtain ⟨hlt, hq⟩ := hi
        obtain ⟨h1, h2⟩ := of_decide_eq_true hq
        have hth : thereB l ((i : Int) + 1) = true := thereB_iff.2 ⟨by omega, by omega⟩
        have hne : (nd l ((i : Int) + 1)).parent ≠ 0 := by rw [h1]; exact there_pos ht
        have := (T.par _ hth hne).2
        rw [h1] at this
        exact ⟨this, decide_eq_true h2⟩
      · rintro ⟨hk, hq⟩
        obtain ⟨h1, h2⟩ := T.kid id ht k hk
        obtain ⟨m, rfl, hm⟩ := there_at h1
        exact ⟨m, List.mem_filter.2 ⟨List.mem_range.2 hm, decide_eq_true ⟨h2, of_decide_eq_true hq⟩⟩, rfl⟩
  have := hp.length_eq
  rw [List.length_map] at this
  exact this

section
variable {G : Nat → Prop} {l : List Nd} {A : Option Addr} {c : Nat} {w : World}
/-- The children of a node, as the list holds them. -/
theorem Nodes.row (h : Nodes G w 0 A c l) {m : Nat} (hm : m < l.length) : ∃ g A1 c1, A = some ⟨g, 0, none⟩ ∧ g < w.heap.size ∧ w.cell? ⟨g, m * 9 + 8, none⟩ = some (.slice A1 (nd l ((m : Int) + 1)).kids.length c1) ∧ ListIn w A1 c1 (nd l ((m : Int) + 1)).kids ∧ w.cell? ⟨g, m * 9 + 1, none⟩ = some (.int .i64 (nd l ((m : Int) + 1)).parent) ∧ w.cell? ⟨g, m * 9, none⟩ = some (.int .i64 (nd l ((m : Int) + 1)).kind) := by
  obtain ⟨g, k, rfl, -, hg, hk, -, c0, c1, -, -, -, -, -, -, c8⟩ := h.nine hm
  obtain ⟨A1, n1, rfl, hL⟩ := (Pile.of_kids (base := 0) hk fun _ _ _ => Nat.zero_le _).form
  exact ⟨g, A1, n1, rfl, hg, c8, hL, c1, c0⟩
theorem rowL_no {id : Int} (h : thereB l id = false) : rowL l id = [] := by unfold rowL; rw [if_neg (by rw [h]; decide)]
end
end Go.Proofs.Ytegdhfdehcidhaa

namespace Go.Proofs.Ytegdhfdehcidhaa
open Go Go.RowKit

/-- A forest and a list of the same nodes. -/
structure Two (Rep : (Nat → Prop) → World → Nat → List Nd → Prop) (w : World) (b : Nat) (A : Option Addr) (c : Nat) (l : List Nd) (v : World) : Prop where
  rep : Rep (fun _ => True) v b l
  nodes : Nodes (fun _ => True) v 0 A c l
  below : Below w.heap.size w v
section
variable {Rep : (Nat → Prop) → World → Nat → List Nd → Prop} {w v v' : World} {b : Nat} {A : Option Addr} {c : Nat} {l : List Nd}
theorem Two.next (O : ForestOk Rep) (h : Two Rep w b A c l v) (hb : Below v.heap.size v v') : Two Rep w b A c l v' := ⟨O.since h.rep hb, h.nodes.below hb, h.below.trans (hb.mono h.below.size)⟩
theorem sameInts_self (xs : List Int) : sameInts xs xs = true := decide_eq_true rfl
/-- A forest, and what is below it. -/
structure One (Rep : (Nat → Prop) → World → Nat → List Nd → Prop) (w : World) (b : Nat) (l : List Nd) (v : World) : Prop where
  rep : Rep (fun _ => True) v b l
  below : Below w.heap.size w v
theorem One.next (O : ForestOk Rep) {w v v' : World} {b : Nat} {l : List Nd} (h : One Rep w b l v) (hb : Below v.heap.size v v') : One Rep w b l v' := ⟨O.since h.rep hb, h.below.trans (hb.mono h.below.size)⟩
end
end Go.Proofs.Ytegdhfdehcidhaa

namespace Go.Proofs.Ytegdhfdehcidhaa
open Go Go.RowKit

section
variable {Rep : (Nat → Prop) → World → Nat → List Nd → Prop}
/-- A forest in blocks that S names, all of them made since w. -/
structure Live (Rep : (Nat → Prop) → World → Nat → List Nd → Prop) (w : World) (S : Nat → Prop) (b : Nat) (l : List Nd) (v : World) : Prop where
  rep : Rep S v b l
  low : ∀ i, S i → w.heap.size ≤ i ∧ i < v.heap.size
  below : Below w.heap.size w v
section
variable {w v v' : World} {S : Nat → Prop} {b : Nat} {l : List Nd}
theorem Live.next (O : ForestOk Rep) (h : Live Rep w S b l v) (hb : Below v.heap.size v v') : Live Rep w S b l v' :=
  ⟨O.since h.rep hb, fun i hi => ⟨(h.low i hi).1, Nat.lt_of_lt_of_le (h.low i hi).2 hb.size⟩, h.below.trans (hb.mono h.below.size)⟩
theorem Live.keep (O : ForestOk Rep) {F : Nat → Prop} (h : Live Rep w S b l v) (k : Keeps F v v') (hF : ∀ i, S i → ¬ F i) (hw : ∀ i, i < w.heap.size → ¬ F i) : Live Rep w S b l v' :=
  ⟨O.keep h.rep k fun i hi _ => hF i hi, fun i hi => ⟨(h.low i hi).1, Nat.lt_of_lt_of_le (h.low i hi).2 k.grows⟩, below_then h.below k h.below.size hw⟩
theorem keepsBox (w : World) (g : Nat) (u0 u1 u2 u3 u4 u5 u6 u7 u8 : Value) : Keeps (fun i => i = g) w (((((((((w.setCell ⟨g, 0, none⟩ u0).setCell ⟨g, 1, none⟩ u1).setCell ⟨g, 2, none⟩ u2).setCell ⟨g, 3, none⟩ u3).setCell ⟨g, 4, none⟩ u4).setCell ⟨g, 5, none⟩ u5).setCell ⟨g, 6, none⟩ u6).setCell ⟨g, 7, none⟩ u7).setCell ⟨g, 8, none⟩ u8) :=
  (((((((((Keeps.refl (fun i => i = g) w).store (p := ⟨g, 0, none⟩) (.inl rfl) _).store (p := ⟨g, 1, none⟩) (.inl rfl) _).store (p := ⟨g, 2, none⟩) (.inl rfl) _).store (p := ⟨g, 3, none⟩) (.inl rfl) _).store (p := ⟨g, 4, none⟩) (.inl rfl) _).store (p := ⟨g, 5, none⟩) (.inl rfl) _).store (p := ⟨g, 6, none⟩) (.inl rfl) _).store (p := ⟨g, 7, none⟩) (.inl rfl) _).store (p := ⟨g, 8, none⟩) (.inl rfl) _
theorem live_new (O : ForestOk Rep) {w1 : World} (h : Rep (fun i => w1.heap.size ≤ i) v b l) (hw : Below w.heap.size w w1) (hb : Below w1.heap.size w1 v) : ∃ S, Live Rep w S b l v :=
  ⟨fun i => w1.heap.size ≤ i ∧ i < v.heap.size, O.wide h fun _ hi hlt => ⟨hi, hlt⟩, fun _ hi => ⟨Nat.le_trans hw.size hi.1, hi.2⟩, hw.trans (hb.mono hw.size)⟩
/-- A change. -/
theorem Live.turned (O : ForestOk Rep) {l' : List Nd} (h : Live Rep w S b l v) (hR : Rep (fun i => S i ∨ v.heap.size ≤ i) v' b l') (hk : Keeps (fun i => S i ∨ v.heap.size ≤ i) v v') :
    (∃ S', Live Rep w S' b l' v' ∧ ∀ i, i < v.heap.size → ¬ S i → ¬ S' i) ∧ Keeps S v v' := by
  have hk' : Keeps S v v' := hk.wide fun i hi hh => hh.resolve_right (Nat.not_le.2 hi)
  refine ⟨⟨fun i => (S i ∨ v.heap.size ≤ i) ∧ i < v'.heap.size, ⟨O.wide hR fun _ hi hlt => ⟨hi, hlt⟩, fun i hi => ⟨?_, hi.2⟩, below_then h.below hk' h.below.size fun i hi hS => ?_⟩, fun i hi hn hh => ?_⟩, hk'⟩
  · rcases hi.1 with h1 | h1
    · exact (h.low i h1).1
    · exact Nat.le_trans h.below.size h1
  · have := (h.low i hS).1
    omega
  · rcases hh.1 with h1 | h1
    · exact hn h1
    · omega
/-- Put, with a list that lies apart. -/
theorem livePut (O : ForestOk Rep) (p : Int) (ks : List Int) (A : Option Addr) (c : Nat) (h : Live Rep w S b l v) (hg : Good l) (hk : ks.length ≤ 200) (hL : ListIn v A c ks) (hap : ∀ b' off s, A = some ⟨b', off, s⟩ → ¬ S b') :
    Calls Try.prog 18 #[at_ b, .int .i64 p, .slice A ks.length c] v fun e v' => e = .returned (.int .i64 (putErr l p ks)) ∧ (∃ S', Live Rep w S' b (putL l p ks) v' ∧ ∀ i, i < v.heap.size → ¬ S i → ¬ S' i) ∧ Keeps S v v' :=
  (O.put (fun i => S i ∨ v.heap.size ≤ i) v b l p ks A c (O.wide h.rep fun _ hi _ => .inl hi) hg (fun _ hi => .inr hi) hk hL fun _ b' off s e hlt hh => hh.elim (hap b' off s e) (Nat.not_le.2 hlt)).mono fun _ _ ⟨he, hR, hk⟩ => ⟨he, h.turned O hR hk⟩
end
end
theorem box_stored {w : World} {g : Nat} {t : TypeId} {z0 z1 z2 z3 z4 z5 z6 z7 z8 : Value} (h : Has w g (.cells #[z0, z1, z2, z3, z4, z5, z6, z7, z8] t (0, 0))) (u0 u1 u2 u3 u4 u5 u6 u7 u8 : Value) :
    Has (((((((((w.setCell ⟨g, 0, none⟩ u0).setCell ⟨g, 1, none⟩ u1).setCell ⟨g, 2, none⟩ u2).setCell ⟨g, 3, none⟩ u3).setCell ⟨g, 4, none⟩ u4).setCell ⟨g, 5, none⟩ u5).setCell ⟨g, 6, none⟩ u6).setCell ⟨g, 7, none⟩ u7).setCell ⟨g, 8, none⟩ u8) g (.cells #[u0, u1, u2, u3, u4, u5, u6, u7, u8] t (0, 0)) := by
  have h0 := h.stored 0 u0
  have h1 := h0.stored 1 u1
  have h2 := h1.stored 2 u2
  have h3 := h2.stored 3 u3
  have h4 := h3.stored 4 u4
  have h5 := h4.stored 5 u5
  have h6 := h5.stored 6 u6
  have h7 := h6.stored 7 u7
  have h8 := h7.stored 8 u8
  simpa using h8
/-- Nine cells may be written. -/
theorem box_nine {w : World} {g : Nat} {t : TypeId} {z0 z1 z2 z3 z4 z5 z6 z7 z8 : Value} (h : Has w g (.cells #[z0, z1, z2, z3, z4, z5, z6, z7, z8] t (0, 0))) :
    (w.cell? ⟨g, 0, none⟩ = some z0 ∧ w.cell? ⟨g, 1, none⟩ = some z1 ∧ w.cell? ⟨g, 2, none⟩ = some z2 ∧ w.cell? ⟨g, 3, none⟩ = some z3 ∧ w.cell? ⟨g, 4, none⟩ = some z4 ∧ w.cell? ⟨g, 5, none⟩ = some z5 ∧ w.cell? ⟨g, 6, none⟩ = some z6 ∧ w.cell? ⟨g, 7, none⟩ = some z7 ∧ w.cell? ⟨g, 8, none⟩ = some z8) ∧
    (w.frozen? ⟨g, 0, none⟩ = false ∧ w.frozen? ⟨g, 1, none⟩ = false ∧ w.frozen? ⟨g, 2, none⟩ = false ∧ w.frozen? ⟨g, 3, none⟩ = false ∧ w.frozen? ⟨g, 4, none⟩ = false ∧ w.frozen? ⟨g, 5, none⟩ = false ∧ w.frozen? ⟨g, 6, none⟩ = false ∧ w.frozen? ⟨g, 7, none⟩ = false ∧ w.frozen? ⟨g, 8, none⟩ = false) :=
  ⟨⟨h.cell 0, h.cell 1, h.cell 2, h.cell 3, h.cell 4, h.cell 5, h.cell 6, h.cell 7, h.cell 8⟩, h.free 0, h.free 1, h.free 2, h.free 3, h.free 4, h.free 5, h.free 6, h.free 7, h.free 8⟩
end Go.Proofs.Ytegdhfdehcidhaa

namespace Go.Proofs.Ytegdhfdehcidhaa
open Go

section
variable {l : List Nd} {b x : Int}
theorem rootL_par (T : Tree l) (h : thereB l b = true) (hp : (nd l b).parent ≠ 0) : rootL l b = rootL l (nd l b).parent := by
  have hpt := (T.par _ h hp).1
  unfold rootL
  rw [parL_step T h]
  exact lastL_suffix (List.suffix_cons _ _) (parL_ne T hpt)
theorem rootL_own (T : Tree l) (h : thereB l b = true) (hp : (nd l b).parent = 0) : rootL l b = b := by
  unfold rootL
  rw [parL_step T h, hp, parL_no (there_zero l)]
  rfl
/-- The way up is the way to the root, and then that of its host. -/
theorem over_split (T : Tree l) : ∀ (n : Nat) (b : Int), (parL l b).length ≤ n → thereB l b = true → over l b = parL l b ++ over l (nd l (rootL l b)).host
  | 0, b, hn, h => by
    rw [parL_step T h] at hn
    simp at hn
  | n + 1, b, hn, h => by
    by_cases hp : (nd l b).parent = 0
    · rw [rootL_own T h hp, over_step T h, parL_step T h, hp, parL_no (there_zero l)]
      have e : upOf l b = (nd l b).host := if_pos hp
      rw [e]
      rfl
    · have hpt := (T.par _ h hp).1
      rw [parL_step T h] at hn
      have ih := over_split T n (nd l b).parent (by simpa using hn) hpt
      have e : upOf l b = (nd l b).parent := if_neg hp
      rw [over_step T h, e, ih, ← rootL_par T h hp, parL_step T h, List.cons_append]
theorem over_whole (T : Tree l) (h : thereB l b = true) : over l b = parL l b ++ over l (nd l (rootL l b)).host := over_split T _ b (Nat.le_refl _) h
theorem over_none (h : thereB l b = false) : over l b = [] := over_end h
theorem over_short (T : Tree l) (b : Int) : (over l b).length ≤ l.length := up_short T.ends (l.length + 1) b
theorem over_less (T : Tree l) (h : thereB l b = true) : (over l (nd l (rootL l b)).host).length + 1 ≤ (over l b).length := by
  rw [over_whole T h, List.length_append, parL_step T h, List.length_cons]
  omega
theorem over_self (T : Tree l) (h : thereB l b = true) : b ∈ over l b := by
  rw [over_step T h]
  exact List.mem_cons_self
theorem hasB_yes {xs : List Int} (h : x ∈ xs) : hasB xs x = true := decide_eq_true h
theorem hasB_no {xs : List Int} (h : x ∉ xs) : hasB xs x = false := decide_eq_false h
theorem hasB_mem {xs : List Int} (h : hasB xs x = true) : x ∈ xs := of_decide_eq_true h
theorem hasB_not {xs : List Int} (h : hasB xs x = false) : x ∉ xs := of_decide_eq_false h
theorem over_hit (T : Tree l) (h : hasB (parL l b) x = true) : hasB (over l b) x = true := by
  have hm := hasB_mem h
  have ht : thereB l b = true := by
    cases hq : thereB l b with
    | true => rfl
    | false => rw [parL_no hq] at hm; cases hm
  rw [over_whole T ht]
  exact hasB_yes (List.mem_append_left _ hm)
theorem over_miss (T : Tree l) (ht : thereB l b = true) (h : hasB (parL l b) x = false) : hasB (over l b) x = hasB (over l (nd l (rootL l b)).host) x := by
  have hm := hasB_not h
  rw [over_whole T ht]
  unfold hasB
  simp [hm]

/-- How many Elements come with a node. -/
def moreL (l : List Nd) (n : Int) : Nat := if (nd l n).kind = 4 then cntL l 2 (kidsL l n) else 1
/-- One Element too many. -/
def crowdB (l : List Nd) (n p : Int) : Bool := decide (1 < moreL l n ∨ (moreL l n = 1 ∧ 0 < cntL l 2 (kidsL l p)))
/-- Check: the error's number. -/
def chkErr (l : List Nd) (n p c : Int) : Int :=
  if thereB l n = false ∨ thereB l p = false ∨ (c ≠ 0 ∧ thereB l c = false) then 1
  else if hasB (over l p) n = true then 3
  else if c ≠ 0 ∧ (nd l c).parent ≠ p then 4
  else if (nd l n).kind = 1 ∨ (nd l n).kind = 3 then 3
  else if (nd l p).kind = 1 ∧ crowdB l n p = true then 3
  else 0
theorem cntL_few {l : List Nd} (h : Few 200 l) (kind id : Int) : cntL l kind (kidsL l id) ≤ 200 := by
  refine Nat.le_trans (cntL_le _ _ _) ?_
  unfold kidsL
  split
  · exact few_nd h id
  · exact Nat.zero_le _
end
end Go.Proofs.Ytegdhfdehcidhaa

namespace Go.Proofs.Ytegdhfdehcidhaa
open Go

section
variable {l : List Nd} {i j x y a b : Int}
/-- The way up from one on a way up is its end. -/
theorem over_tail (T : Tree l) : ∀ (m : Nat) (i : Int), (over l i).length ≤ m → ∀ x, x ∈ over l i → over l x <:+ over l i
  | 0, i, hm, x, h => by
    have : over l i = [] := List.length_eq_zero_iff.1 (by omega)
    rw [this] at h
    cases h
  | m + 1, i, hm, x, h => by
    cases ht : thereB l i with
    | false => rw [over_none ht] at h; cases h
    | true =>
      have e := over_step T ht
      rw [e] at h
      rcases List.mem_cons.1 h with rfl | h
      · exact List.suffix_refl _
      · rw [e] at hm
        rw [e]
        exact (over_tail T m _ (by simpa using hm) x h).trans (List.suffix_cons _ _)
theorem over_suffix (T : Tree l) (h : x ∈ over l i) : over l x <:+ over l i := over_tail T _ i (Nat.le_refl _) x h
theorem over_trans (T : Tree l) (h : x ∈ over l i) (h' : y ∈ over l x) : y ∈ over l i := (over_suffix T h).subset h'
theorem over_in (h : x ∈ over l i) : thereB l x = true := up_there _ i x h
theorem over_from (h : x ∈ over l i) : thereB l i = true := by
  cases ht : thereB l i with
  | true => rfl
  | false => rw [over_none ht] at h; cases h
/-- Two that are above one another are one. -/
theorem over_both (T : Tree l) (h : x ∈ over l y) (h' : y ∈ over l x) : x = y := by
  have h1 := over_suffix T h
  have h2 := over_suffix T h'
  have e : over l x = over l y := h1.eq_of_length (Nat.le_antisymm h1.length_le h2.length_le)
  rw [over_step T (over_in h), over_step T (over_in h')] at e
  exact (List.cons.inj e).1
theorem over_ne (T : Tree l) (h : thereB l i = true) : over l i ≠ [] := by
  rw [over_step T h]
  simp

/-- The host of the tree that a node is in; 0: none. -/
def hostL (l : List Nd) (i : Int) : Int := if thereB l i = true then (nd l (rootL l i)).host else 0
theorem hostL_at (h : thereB l i = true) : hostL l i = (nd l (rootL l i)).host := if_pos h
theorem hostL_no (h : thereB l i = false) : hostL l i = 0 := if_neg (by rw [h]; decide)
theorem hostL_there (T : Tree l) (h : hostL l i ≠ 0) : thereB l (hostL l i) = true := by
  cases ht : thereB l i with
  | false => exact absurd (hostL_no ht) h
  | true =>
    rw [hostL_at ht] at h ⊢
    exact (T.host _ (rootL_there T ht) h).2
theorem over_host (T : Tree l) (h : thereB l i = true) : over l i = parL l i ++ over l (hostL l i) := by
  rw [hostL_at h]
  exact over_whole T h
theorem host_less (T : Tree l) (h : thereB l i = true) : (over l (hostL l i)).length + 1 ≤ (over l i).length := by
  rw [hostL_at h]
  exact over_less T h
theorem root_self (T : Tree l) (h : thereB l i = true) : rootL l (rootL l i) = rootL l i := rootL_own T (rootL_there T h) (rootL_bare T h)
theorem over_root (T : Tree l) (h : thereB l i = true) : over l (rootL l i) = rootL l i :: over l (hostL l i) := by
  have hr := rootL_there T h
  rw [over_host T hr, parL_root T h, hostL_at hr, root_self T h, hostL_at h]
  rfl
theorem root_over (T : Tree l) (h : thereB l i = true) : rootL l i ∈ over l i := by
  rw [over_host T h]
  exact List.mem_append_left _ (rootL_mem T h)

/-- What stands for a node in each of the trees around it. -/
def arN (l : List Nd) : Nat → Int → List Int
  | 0, _ => []
  | n + 1, i => if thereB l i then i :: arN l n (hostL l i) else []
def arL (l : List Nd) (i : Int) : List Int := arN l l.length i
theorem ar_go {n : Nat} (h : thereB l i = true) : arN l (n + 1) i = i :: arN l n (hostL l i) := by rw [arN, if_pos h]
theorem ar_no {n : Nat} (h : thereB l i = false) : arN l n i = [] := by
  cases n with
  | zero => rfl
  | succ n => rw [arN, if_neg (by rw [h]; decide)]
theorem ar_len : ∀ (n : Nat) (i : Int), (arN l n i).length ≤ n
  | 0, _ => Nat.le_refl 0
  | n + 1, i => by
    cases ht : thereB l i with
    | false => rw [ar_no ht]; exact Nat.zero_le _
    | true =>
      rw [ar_go ht]
      have := ar_len n (hostL l i)
      simpa using this
theorem ar_stay (T : Tree l) : ∀ (n m : Nat) (i : Int), (over l i).length ≤ n → (over l i).length ≤ m → arN l n i = arN l m i
  | n, m, i, hn, hm => by
    cases ht : thereB l i with
    | false => rw [ar_no ht, ar_no ht]
    | true =>
      have h1 := host_less T ht
      obtain ⟨n, rfl⟩ : ∃ k, n = k + 1 := ⟨n - 1, by omega⟩
      obtain ⟨m, rfl⟩ : ∃ k, m = k + 1 := ⟨m - 1, by omega⟩
      rw [ar_go ht, ar_go ht, ar_stay T n m (hostL l i) (by omega) (by omega)]
termination_by n => n
theorem arL_no (h : thereB l i = false) : arL l i = [] := ar_no h
theorem arL_step (T : Tree l) (h : thereB l i = true) : arL l i = i :: arL l (hostL l i) := by
  have h1 := host_less T h
  have h2 := over_short T i
  unfold arL
  obtain ⟨n, hn⟩ : ∃ k, l.length = k + 1 := ⟨l.length - 1, by omega⟩
  rw [hn, ar_go h, ar_stay T n (n + 1) (hostL l i) (by omega) (by omega)]
theorem arL_len (l : List Nd) (i : Int) : (arL l i).length ≤ l.length := ar_len _ _
/-- Going from tree to tree. -/
theorem trees (T : Tree l) {P : Int → Prop} (no : ∀ i, thereB l i = false → P i) (go : ∀ i, thereB l i = true → P (hostL l i) → P i) : ∀ i, P i := by
  have : ∀ (n : Nat) (i : Int), (over l i).length ≤ n → P i := by
    intro n
    induction n with
    | zero =>
      intro i hn
      refine no i ?_
      cases ht : thereB l i with
      | false => rfl
      | true => exact absurd (List.length_eq_zero_iff.1 (Nat.le_zero.1 hn)) (over_ne T ht)
    | succ n ih =>
      intro i hn
      cases ht : thereB l i with
      | false => exact no i ht
      | true =>
        have := host_less T ht
        exact go i ht (ih _ (by omega))
  exact fun i => this _ i (Nat.le_refl _)
theorem arL_there (T : Tree l) : ∀ i, ∀ x ∈ arL l i, thereB l x = true :=
  trees T (fun i h x hx => by rw [arL_no h] at hx; cases hx) fun i h ih x hx => by
    rw [arL_step T h] at hx
    rcases List.mem_cons.1 hx with rfl | hx
    · exact h
    · exact ih x hx

/-- The shadow-including root. -/
def wholeL (l : List Nd) (i : Int) : Int := lastL (over l i)
theorem whole_no (h : thereB l i = false) : wholeL l i = 0 := by
  unfold wholeL
  rw [over_none h]
  rfl
theorem whole_end (T : Tree l) (h : thereB l i = true) (h0 : hostL l i = 0) : wholeL l i = rootL l i := by
  unfold wholeL
  rw [over_host T h, h0, over_zero, List.append_nil]
  rfl
theorem whole_go (T : Tree l) (h0 : hostL l i ≠ 0) : wholeL l i = wholeL l (hostL l i) := by
  have ht : thereB l i = true := by
    cases ht : thereB l i with
    | true => rfl
    | false => exact absurd (hostL_no ht) h0
  unfold wholeL
  rw [over_host T ht]
  exact lastL_suffix (List.suffix_append _ _) (over_ne T (hostL_there T h0))
theorem whole_mem (T : Tree l) (h : thereB l i = true) : wholeL l i ∈ over l i := lastL_mem (over_ne T h)
theorem whole_own (T : Tree l) (h : thereB l i = true) : wholeL l (wholeL l i) = wholeL l i := by
  have hm := whole_mem T h
  have := lastL_suffix (over_suffix T hm) (over_ne T (over_in hm))
  exact this.symm
/-- The last of those around tells it. -/
theorem whole_ar (T : Tree l) : ∀ i, rootL l (lastL (arL l i)) = wholeL l i :=
  trees T (fun i h => by rw [arL_no h, whole_no h]; exact rootL_no (there_zero l)) fun i h ih => by
    rw [arL_step T h]
    by_cases h0 : hostL l i = 0
    · rw [whole_end T h h0, h0, arL_no (there_zero l)]
      rfl
    · rw [whole_go T h0, ← ih]
      have hne : arL l (hostL l i) ≠ [] := by rw [arL_step T (hostL_there T h0)]; simp
      rw [lastL_suffix (List.suffix_cons _ _) hne]

/-- Some one of those around has it above. -/
def anyUp (l : List Nd) (a : Int) (xs : List Int) : Bool := xs.any fun i => hasB (parL l i) a
theorem any_ar (T : Tree l) (a : Int) : ∀ i, anyUp l a (arL l i) = hasB (over l i) a :=
  trees T (fun i h => by rw [arL_no h, over_none h]; rfl) fun i h ih => by
    unfold anyUp at ih ⊢
    rw [arL_step T h, List.any_cons, ih]
    cases hp : hasB (parL l i) a with
    | true => rw [over_hit T hp]; rfl
    | false => rw [over_miss T h hp, hostL_at h]; rfl

/-- The closed roots around. -/
def shut (l : List Nd) (i : Int) : Bool := decide ((nd l (rootL l i)).mode = 2)
def clsOf (l : List Nd) (xs : List Int) : List Int := (xs.filter (shut l)).map (rootL l)
def clsL (l : List Nd) (i : Int) : List Int := clsOf l (arL l i)
theorem cls_yes {xs : List Int} (h : (nd l (rootL l i)).mode = 2) : clsOf l (i :: xs) = rootL l i :: clsOf l xs := by
  unfold clsOf
  rw [List.filter_cons_of_pos (by simpa [shut] using h), List.map_cons]
theorem cls_not {xs : List Int} (h : (nd l (rootL l i)).mode ≠ 2) : clsOf l (i :: xs) = clsOf l xs := by
  unfold clsOf
  rw [List.filter_cons_of_neg (by simpa [shut] using h)]
theorem cls_append (xs ys : List Int) : clsOf l (xs ++ ys) = clsOf l xs ++ clsOf l ys := by
  unfold clsOf
  rw [List.filter_append, List.map_append]
theorem cls_le (xs : List Int) : (clsOf l xs).length ≤ xs.length := by
  unfold clsOf
  rw [List.length_map]
  exact List.length_filter_le _ _
theorem clsL_no (h : thereB l i = false) : clsL l i = [] := by
  unfold clsL
  rw [arL_no h]
  rfl
theorem clsL_yes (T : Tree l) (h : thereB l i = true) (hm : (nd l (rootL l i)).mode = 2) : clsL l i = rootL l i :: clsL l (hostL l i) := by
  unfold clsL
  rw [arL_step T h, cls_yes hm]
theorem clsL_not (T : Tree l) (h : thereB l i = true) (hm : (nd l (rootL l i)).mode ≠ 2) : clsL l i = clsL l (hostL l i) := by
  unfold clsL
  rw [arL_step T h, cls_not hm]
theorem clsL_len (l : List Nd) (i : Int) : (clsL l i).length ≤ l.length := Nat.le_trans (cls_le _) (arL_len l i)
/-- A closed root around holds the node's root. -/
theorem cls_root (T : Tree l) : ∀ i, ∀ c ∈ clsL l i, c ∈ over l (rootL l i) :=
  trees T (fun i h c hc => by rw [clsL_no h] at hc; cases hc) fun i h ih c hc => by
    have up : c ∈ clsL l (hostL l i) → c ∈ over l (rootL l i) := fun hc => by
      have h1 := ih c hc
      have hh : thereB l (hostL l i) = true := by
        cases ht : thereB l (hostL l i) with
        | true => rfl
        | false => rw [clsL_no ht] at hc; cases hc
      rw [over_root T h]
      exact List.mem_cons_of_mem _ (over_trans T (root_over T hh) h1)
    by_cases hm : (nd l (rootL l i)).mode = 2
    · rw [clsL_yes T h hm] at hc
      rcases List.mem_cons.1 hc with rfl | hc
      · exact over_self T (rootL_there T h)
      · exact up hc
    · rw [clsL_not T h hm] at hc
      exact up hc
theorem cls_from {c : Int} (h : c ∈ clsL l i) : thereB l i = true := by
  cases ht : thereB l i with
  | true => rfl
  | false => rw [clsL_no ht] at h; cases h
theorem cls_over (T : Tree l) {c : Int} (h : c ∈ clsL l i) : c ∈ over l i := over_trans T (root_over T (cls_from h)) (cls_root T i c h)
theorem cls_there (T : Tree l) {c : Int} (h : c ∈ clsL l i) : thereB l c = true := over_in (cls_over T h)

/-- Is a hidden from b? The innermost closed root tells it. -/
def hidOf (l : List Nd) (cs : List Int) (b : Int) : Bool :=
  match cs with
  | [] => false
  | c :: _ => decide ((nd l c).host ≠ 0) && !hasB (over l b) c
def hidL (l : List Nd) (a b : Int) : Bool := thereB l b && hidOf l (clsL l a) b
theorem hid_noB (h : thereB l b = false) : hidL l a b = false := by unfold hidL; rw [h]; rfl
theorem hid_noA (h : thereB l a = false) : hidL l a b = false := by
  unfold hidL
  rw [clsL_no h]
  exact Bool.and_false _
theorem hid_none (h : clsL l a = []) : hidL l a b = false := by
  unfold hidL
  rw [h]
  exact Bool.and_false _
/-- What holds b hides nothing of what is in its tree. -/
theorem hid_held (T : Tree l) (h : rootL l a ∈ over l b) : hidL l a b = false := by
  unfold hidL
  cases hc : clsL l a with
  | nil => exact Bool.and_false _
  | cons c r =>
    have h1 := over_trans T h (cls_root T a c (by rw [hc]; exact List.mem_cons_self))
    show (_ && (_ && !hasB (over l b) c)) = false
    rw [hasB_yes h1]
    simp
theorem hid_end (T : Tree l) (h : hostL l a = 0) : hidL l a b = false := by
  cases ht : thereB l a with
  | false => exact hid_noA ht
  | true =>
    by_cases hm : (nd l (rootL l a)).mode = 2
    · unfold hidL
      rw [clsL_yes T ht hm]
      rw [hostL_at ht] at h
      show (_ && (decide ((nd l (rootL l a)).host ≠ 0) && _)) = false
      rw [h]
      simp
    · refine hid_none ?_
      rw [clsL_not T ht hm, h, clsL_no (there_zero l)]
theorem hid_shut (T : Tree l) (hb : thereB l b = true) (h : hostL l a ≠ 0) (hn : rootL l a ∉ over l b) (hm : (nd l (rootL l a)).mode = 2) : hidL l a b = true := by
  have ht : thereB l a = true := by
    cases ht : thereB l a with
    | true => rfl
    | false => exact absurd (hostL_no ht) h
  unfold hidL
  rw [clsL_yes T ht hm, hb]
  rw [hostL_at ht] at h
  show (true && (decide ((nd l (rootL l a)).host ≠ 0) && !hasB (over l b) (rootL l a))) = true
  rw [hasB_no hn, decide_eq_true h]
  rfl
theorem hid_next (T : Tree l) (h : hostL l a ≠ 0) (hm : (nd l (rootL l a)).mode ≠ 2) : hidL l a b = hidL l (hostL l a) b := by
  have ht : thereB l a = true := by
    cases ht : thereB l a with
    | true => rfl
    | false => exact absurd (hostL_no ht) h
  unfold hidL
  rw [clsL_not T ht hm]
theorem hid_self (T : Tree l) : hidL l a a = false := by
  cases ht : thereB l a with
  | false => exact hid_noA ht
  | true => exact hid_held T (root_over T ht)
/-- What is hidden lies in a closed tree that doesn't hold the other one. -/
def someOut (l : List Nd) (b : Int) (cs : List Int) : Bool := cs.any fun c => !hasB (over l b) c
theorem hid_some (h : hidL l a b = true) : someOut l b (clsL l a) = true := by
  unfold hidL at h
  unfold someOut
  cases hc : clsL l a with
  | nil => rw [hc] at h; simp [hidOf] at h
  | cons c r =>
    rw [hc] at h
    simp only [hidOf, Bool.and_eq_true] at h
    rw [List.any_cons, h.2.2]
    rfl
theorem someOut_step {b : Int} {cs : List Int} {k : Nat} (hk : k < cs.length) : someOut l b (cs.take (k + 1)) = (someOut l b (cs.take k) || !hasB (over l b) cs[k]) := by
  unfold someOut
  rw [List.take_add_one, List.getElem?_eq_getElem hk, Option.toList_some, List.any_append, List.any_cons, List.any_nil, Bool.or_false]
end

/-- Only shadow roots have a mode. -/
def Moded (l : List Nd) : Prop := ∀ d ∈ l, d.mode ≠ 0 → d.kind = 3
theorem moded_mod {l : List Nd} {id : Int} {f : Nd → Nd} (h : Moded l) (hf : ∀ d, (f d).mode = d.mode ∧ (f d).kind = d.kind) : Moded (modN l id f) := by
  intro d hd
  rcases List.mem_or_eq_of_mem_set hd with hd | rfl
  · exact h d hd
  · rw [(hf _).1, (hf _).2]
    unfold nd
    rw [List.getD_eq_getElem?_getD]
    cases e : l[(id - 1).toNat]? with
    | none => exact fun h0 => absurd rfl h0
    | some d => exact h d (List.mem_of_getElem? e)
theorem moded_toPar {p : Int} : ∀ (kids : List Int) {l : List Nd}, Moded l → Moded (toPar l p kids)
  | [], _, h => h
  | k :: r, l, h => by
    show Moded (toPar (modN l k _) p r)
    exact moded_toPar r (moded_mod h fun _ => ⟨rfl, rfl⟩)
theorem moded_clr {l : List Nd} {p : Int} (h : Moded l) : Moded (clr l p) := by
  intro d hd
  obtain ⟨d', hd', rfl⟩ := List.mem_map.1 hd
  split <;> exact h d' hd'
theorem mkErr_moded {n : Nat} {d : Nd} (h : mkErr n d = 0) : d.mode ≠ 0 → d.kind = 3 := by
  unfold mkErr at h
  split at h
  · cases h
  · split at h
    · cases h
    · rename_i h2
      intro hm
      refine Decidable.byContradiction fun hk => h2 (.inr ⟨hk, hm⟩)
theorem moded_mk {l : List Nd} {d : Nd} (h : Moded l) : Moded (mkL l d) := by
  unfold mkL
  split
  · rename_i h0
    intro x hx
    rcases List.mem_append.1 hx with hx | hx
    · exact h x hx
    · obtain rfl := List.mem_singleton.1 hx
      exact mkErr_moded h0
  · exact h
theorem moded_act {l : List Nd} {x : Ac} (h : Moded l) : Moded (actL l x) := by
  unfold actL
  split
  · exact moded_mk h
  · split
    · unfold putL
      split
      · exact moded_mod (moded_toPar _ (moded_clr h)) fun _ => ⟨rfl, rfl⟩
      · exact h
    · split
      · unfold tieL
        split
        · exact moded_mod (moded_mod h fun _ => ⟨rfl, rfl⟩) fun _ => ⟨rfl, rfl⟩
        · exact h
      · split
        · unfold nameL
          split
          · exact moded_mod h fun _ => ⟨rfl, rfl⟩
          · exact h
        · split
          · unfold wantL
            split
            · exact moded_mod h fun _ => ⟨rfl, rfl⟩
            · exact h
          · exact h
theorem moded_forest (acts : List Ac) : Moded (forest acts) := by
  have : ∀ (acts : List Ac) (l : List Nd), Moded l → Moded (acts.foldl actL l) := by
    intro acts
    induction acts with
    | nil => intro l T; exact T
    | cons x r ih => intro l T; exact ih _ (moded_act T)
  exact this acts [] fun d hd => absurd hd (by simp)
theorem moded_nd {l : List Nd} {i : Int} (h : Moded l) (hm : (nd l i).mode = 2) : (nd l i).kind = 3 := by
  unfold nd at hm ⊢
  rw [List.getD_eq_getElem?_getD] at hm ⊢
  cases e : l[(i - 1).toNat]? with
  | none => rw [e] at hm; cases hm
  | some d =>
    rw [e] at hm
    exact h d (List.mem_of_getElem? e) (by rw [show d.mode = 2 from hm]; decide)

/-- Attach: the node that is made, the error's number, the number, and the nodes. -/
def shadeNd (m : Int) : Nd := ⟨3, 0, 0, 0, m, false, ⟨#[]⟩, ⟨#[]⟩, []⟩
def attNo (l : List Nd) (h m : Int) : Int :=
  if thereB l h = false ∨ (m ≠ 1 ∧ m ≠ 2) then 0 else if (nd l h).kind ≠ 2 ∨ (nd l h).shadow ≠ 0 then 0 else mkNo l (shadeNd m)
def attErr (l : List Nd) (h m : Int) : Int :=
  if thereB l h = false ∨ (m ≠ 1 ∧ m ≠ 2) then 1 else if (nd l h).kind ≠ 2 ∨ (nd l h).shadow ≠ 0 then 5
  else if mkErr l.length (shadeNd m) = 0 then tieErr (mkL l (shadeNd m)) h (mkNo l (shadeNd m)) else mkErr l.length (shadeNd m)
def attL (l : List Nd) (h m : Int) : List Nd :=
  if thereB l h = false ∨ (m ≠ 1 ∧ m ≠ 2) then l else if (nd l h).kind ≠ 2 ∨ (nd l h).shadow ≠ 0 then l
  else if mkErr l.length (shadeNd m) = 0 then tieL (mkL l (shadeNd m)) h (mkNo l (shadeNd m)) else l
end Go.Proofs.Ytegdhfdehcidhaa

namespace Go.Proofs.Ytegdhfdehcidhaa
open Go

section
variable {l : List Nd} {i j x y a b : Int}
/-- What stands in the place of a, seen from b: out of each tree that does not hold b. -/
def aimN (l : List Nd) (b : Int) : Nat → Int → Int
  | 0, a => a
  | n + 1, a => if hostL l a = 0 ∨ hasB (over l b) (rootL l a) = true then a else aimN l b n (hostL l a)
def aimL (l : List Nd) (a b : Int) : Int := if thereB l a = true then aimN l b l.length a else 0
/-- Is the way at its end here? -/
def aimB (l : List Nd) (a b : Int) : Bool := decide (hostL l a = 0) || hasB (over l b) (rootL l a)
theorem aimB_end (h : hostL l a = 0) : aimB l a b = true := by unfold aimB; rw [decide_eq_true h]; rfl
theorem aimB_held (h : hasB (over l b) (rootL l a) = true) : aimB l a b = true := by unfold aimB; rw [h]; exact Bool.or_true _
theorem aimB_go (h : hostL l a ≠ 0) (h' : hasB (over l b) (rootL l a) = false) : aimB l a b = false := by unfold aimB; rw [h', decide_eq_false h]; rfl
theorem aimB_yes (h : aimB l a b = true) : hostL l a = 0 ∨ hasB (over l b) (rootL l a) = true := by
  unfold aimB at h
  rcases Bool.or_eq_true _ _ ▸ h with h | h
  · exact .inl (of_decide_eq_true h)
  · exact .inr h
theorem aimB_not (h : aimB l a b = false) : hostL l a ≠ 0 ∧ hasB (over l b) (rootL l a) = false := by
  unfold aimB at h
  rw [Bool.or_eq_false_iff] at h
  exact ⟨of_decide_eq_false h.1, h.2⟩
theorem aim_stop {n : Nat} (h : aimB l a b = true) : aimN l b n a = a := by
  cases n with
  | zero => rfl
  | succ n => rw [aimN, if_pos (aimB_yes h)]
theorem aim_up {n : Nat} (h : aimB l a b = false) : aimN l b (n + 1) a = aimN l b n (hostL l a) := by
  have h' := aimB_not h
  rw [aimN, if_neg]
  rintro (h0 | h0)
  · exact h'.1 h0
  · rw [h'.2] at h0
    cases h0
theorem host_from (h : hostL l a ≠ 0) : thereB l a = true := by
  cases ht : thereB l a with
  | true => rfl
  | false => exact absurd (hostL_no ht) h
/-- How many steps are let in does not matter, if there are enough. -/
theorem aim_stay (T : Tree l) : ∀ (n m : Nat) (a : Int), (over l a).length ≤ n → (over l a).length ≤ m → aimN l b n a = aimN l b m a
  | n, m, a, hn, hm => by
    cases hB : aimB l a b with
    | true => rw [aim_stop hB, aim_stop hB]
    | false =>
      have h1 := host_less T (host_from (aimB_not hB).1)
      obtain ⟨n, rfl⟩ : ∃ k, n = k + 1 := ⟨n - 1, by omega⟩
      obtain ⟨m, rfl⟩ : ∃ k, m = k + 1 := ⟨m - 1, by omega⟩
      rw [aim_up hB, aim_up hB, aim_stay T n m (hostL l a) (by omega) (by omega)]
termination_by n => n
theorem aimL_no (h : thereB l a = false) : aimL l a b = 0 := if_neg (by rw [h]; decide)
theorem aimL_at (h : thereB l a = true) : aimL l a b = aimN l b l.length a := if_pos h
theorem aimL_stop (h : thereB l a = true) (hB : aimB l a b = true) : aimL l a b = a := by rw [aimL_at h, aim_stop hB]
theorem aimL_up (T : Tree l) (hB : aimB l a b = false) : aimL l a b = aimL l (hostL l a) b := by
  have h0 := (aimB_not hB).1
  have ht := host_from h0
  have h1 := host_less T ht
  have h2 := over_short T a
  rw [aimL_at ht, aimL_at (hostL_there T h0)]
  obtain ⟨n, hn⟩ : ∃ k, l.length = k + 1 := ⟨l.length - 1, by omega⟩
  rw [hn, aim_up hB, aim_stay T n (n + 1) (hostL l a) (by omega) (by omega)]
/-- Behind at most as many steps as there are nodes, one more, the way is at its end. -/
theorem aim_ends (T : Tree l) : ∀ (n : Nat) (a : Int), (over l a).length ≤ n → thereB l a = true → aimB l (aimN l b n a) b = true
  | 0, a, hn, ht => absurd (List.length_eq_zero_iff.1 (Nat.le_zero.1 hn)) (over_ne T ht)
  | n + 1, a, hn, ht => by
    cases hB : aimB l a b with
    | true => rw [aim_stop hB]; exact hB
    | false =>
      have h0 := (aimB_not hB).1
      have h1 := host_less T ht
      rw [aim_up hB]
      exact aim_ends T n _ (by omega) (hostL_there T h0)
theorem aimL_ends (T : Tree l) (h : thereB l a = true) : aimB l (aimL l a b) b = true := by
  rw [aimL_at h]
  exact aim_ends T _ a (over_short T a) h
/-- It is there, and above. -/
theorem aimL_over (T : Tree l) : ∀ a, thereB l a = true → aimL l a b ∈ over l a :=
  trees T (fun a h h' => by rw [h] at h'; cases h') fun a h ih _ => by
    cases hB : aimB l a b with
    | true => rw [aimL_stop h hB]; exact over_self T h
    | false =>
      have h0 := (aimB_not hB).1
      rw [aimL_up T hB, over_host T h]
      exact List.mem_append_right _ (ih (hostL_there T h0))
theorem aimL_there (T : Tree l) (h : thereB l a = true) : thereB l (aimL l a b) = true := over_in (aimL_over T a h)
theorem aimL_zero (T : Tree l) (h : aimL l a b = 0) : thereB l a = false := by
  cases ht : thereB l a with
  | false => rfl
  | true =>
    have := aimL_there (b := b) T ht
    rw [h, there_zero] at this
    cases this
/-- Aimed again it stays. -/
theorem aimL_again (T : Tree l) (h : thereB l a = true) : aimL l (aimL l a b) b = aimL l a b := aimL_stop (aimL_there T h) (aimL_ends T h)
/-- Aimed at itself it is itself. -/
theorem aimL_self (T : Tree l) (h : thereB l a = true) : aimL l a a = a := aimL_stop h (aimB_held (hasB_yes (root_over T h)))
/-- What is told isn't hidden. -/
theorem aimL_hides (T : Tree l) (h : thereB l a = true) : hidL l (aimL l a b) b = false := by
  rcases aimB_yes (aimL_ends (b := b) T h) with h0 | h0
  · exact hid_end T h0
  · exact hid_held T (hasB_mem h0)
end

/-- Who is a host has a shadow root. -/
def Hosts (l : List Nd) : Prop := ∀ i, thereB l i = true → (nd l i).host ≠ 0 → thereB l (nd l i).host = true ∧ (nd l (nd l i).host).shadow ≠ 0
theorem hosts_like {l l' : List Nd} (H : Hosts l) (hlen : l'.length = l.length) (h : ∀ i, thereB l i = true → (nd l' i).host = (nd l i).host ∧ (nd l' i).shadow = (nd l i).shadow) : Hosts l' := fun i hi h0 => by
  rw [there_len hlen] at hi
  obtain ⟨h1, _⟩ := h i hi
  rw [h1] at h0 ⊢
  obtain ⟨h3, h4⟩ := H i hi h0
  rw [there_len hlen, (h _ h3).2]
  exact ⟨h3, h4⟩
theorem hosts_mod {l : List Nd} {id : Int} {f : Nd → Nd} (H : Hosts l) (hi : thereB l id = true) (hf : ∀ d, (f d).host = d.host ∧ (f d).shadow = d.shadow) : Hosts (modN l id f) :=
  hosts_like H (modN_length l id f) fun i hk => by
    rw [nd_mod hi hk]
    by_cases e : i = id
    · subst e
      rw [if_pos rfl]
      exact hf _
    · rw [if_neg e]
      exact ⟨rfl, rfl⟩
theorem hosts_put {l : List Nd} {p : Int} {ks : List Int} (H : Hosts l) : Hosts (putL l p ks) := by
  by_cases h0 : putErr l p ks = 0
  case neg =>
    unfold putL
    rw [if_neg h0]
    exact H
  obtain ⟨hp, hk, _⟩ := put_zero h0
  refine hosts_like H ?_ fun i hi => ?_
  · unfold putL
    rw [if_pos h0, modN_length, toPar_length, clr_length]
  · rw [put_nd h0 hp (kids_there hk) hi]
    exact ⟨rfl, rfl⟩
theorem hosts_tie {l : List Nd} {h r : Int} (H : Hosts l) : Hosts (tieL l h r) := by
  by_cases h0 : tieErr l h r = 0
  case neg =>
    unfold tieL
    rw [if_neg h0]
    exact H
  have hz : thereB l h = true ∧ thereB l r = true := by
    unfold tieErr at h0
    split at h0
    · cases h0
    · rename_i h1
      simpa using h1
  obtain ⟨hh, hr⟩ := hz
  have hth : ∀ x, thereB (tieL l h r) x = thereB l x := fun x => there_len (tieL_length l h r)
  have hho : ∀ k, thereB l k = true → (nd (tieL l h r) k).host = if k = r then h else (nd l k).host := fun k hk => by
    unfold tieL
    rw [if_pos h0, nd_mod (by rw [there_mod]; exact hr) (by rw [there_mod]; exact hk), nd_mod hh hr, nd_mod hh hk]
    by_cases e : k = r
    · rw [if_pos e, if_pos e]
    · rw [if_neg e, if_neg e]
      split
      · rename_i e2
        rw [e2]
      · rfl
  have hsh : ∀ k, thereB l k = true → (nd (tieL l h r) k).shadow = if k = h then r else (nd l k).shadow := fun k hk => by
    unfold tieL
    rw [if_pos h0, nd_mod (by rw [there_mod]; exact hr) (by rw [there_mod]; exact hk), nd_mod hh hr, nd_mod hh hk]
    by_cases e : k = r
    · rw [if_pos e, e]
      by_cases e2 : r = h
      · rw [if_pos e2, if_pos e2]
      · rw [if_neg e2, if_neg e2]
    · rw [if_neg e]
      by_cases e2 : k = h
      · rw [if_pos e2, if_pos e2]
      · rw [if_neg e2, if_neg e2]
  intro i hi hn
  rw [hth] at hi ⊢
  rw [hho i hi] at hn ⊢
  have hx : thereB l (if i = r then h else (nd l i).host) = true := by
    by_cases e : i = r
    · rw [if_pos e]
      exact hh
    · rw [if_neg e] at hn ⊢
      exact (H i hi hn).1
  refine ⟨hx, ?_⟩
  rw [hsh _ hx]
  by_cases e2 : (if i = r then h else (nd l i).host) = h
  · rw [if_pos e2]
    exact there_pos hr
  · rw [if_neg e2]
    by_cases e : i = r
    · rw [if_pos e] at e2
      exact absurd rfl e2
    · rw [if_neg e] at hn ⊢
      exact (H i hi hn).2
theorem hosts_make {l : List Nd} {d : Nd} (H : Hosts l) : Hosts (mkL l d) := by
  unfold mkL
  split
  case isFalse => exact H
  have old : ∀ i, thereB l i = true → thereB (l ++ [bare d]) i = true ∧ nd (l ++ [bare d]) i = nd l i := fun i hi => by
    have h1 := thereB_iff.1 hi
    refine ⟨thereB_iff.2 ⟨h1.1, by simp; omega⟩, ?_⟩
    rw [nd, nd, List.getD_eq_getElem?_getD, List.getD_eq_getElem?_getD, List.getElem?_append_left (there_lt hi)]
  intro i hi h0
  cases ht : thereB l i with
  | true =>
    rw [(old i ht).2] at h0 ⊢
    obtain ⟨h3, h4⟩ := H i ht h0
    rw [(old _ h3).2]
    exact ⟨(old _ h3).1, h4⟩
  | false =>
    refine absurd ?_ h0
    have h1 := thereB_iff.1 hi
    have h2 : ¬ i ≤ (l.length : Int) := fun h2 => by
      rw [thereB_iff.2 ⟨h1.1, h2⟩] at ht
      cases ht
    rw [List.length_append] at h1
    simp only [List.length_cons, List.length_nil] at h1
    rw [nd, List.getD_eq_getElem?_getD, List.getElem?_append_right (by omega), show (i - 1).toNat - l.length = 0 by omega]
    rfl
theorem hosts_act {l : List Nd} {x : Ac} (H : Hosts l) : Hosts (actL l x) := by
  unfold actL
  split
  · exact hosts_make H
  · split
    · exact hosts_put H
    · split
      · exact hosts_tie H
      · split
        · unfold nameL
          split
          · rename_i h0
            refine hosts_mod H ?_ fun _ => ⟨rfl, rfl⟩
            unfold nameErr at h0
            split at h0
            · cases h0
            · rename_i h1
              simp only [not_or, Bool.not_eq_false] at h1
              exact h1.1
          · exact H
        · split
          · unfold wantL
            split
            · rename_i h0
              refine hosts_mod H ?_ fun _ => ⟨rfl, rfl⟩
              unfold wantErr at h0
              split at h0
              · cases h0
              · rename_i h1
                simp only [not_or, Bool.not_eq_false] at h1
                exact h1.1
            · exact H
          · exact H
theorem hosts_forest (acts : List Ac) : Hosts (forest acts) := by
  have : ∀ (acts : List Ac) (l : List Nd), Hosts l → Hosts (acts.foldl actL l) := by
    intro acts
    induction acts with
    | nil => intro l H; exact H
    | cons x r ih => intro l H; exact ih _ (hosts_act H)
  refine this acts [] fun i hi _ => ?_
  have h1 := thereB_iff.1 hi
  simp only [List.length_nil] at h1
  omega
/-- What is told is the node itself, or a host. -/
theorem aimL_host {l : List Nd} {b : Int} (T : Tree l) (H : Hosts l) : ∀ a, thereB l a = true → aimL l a b = a ∨ (nd l (aimL l a b)).shadow ≠ 0 :=
  trees T (fun a h h' => by rw [h] at h'; cases h') fun a h ih _ => by
    cases hB : aimB l a b with
    | true => exact .inl (aimL_stop h hB)
    | false =>
      have h0 := (aimB_not hB).1
      rw [aimL_up T hB]
      rcases ih (hostL_there T h0) with e | e
      · right
        rw [e]
        rw [hostL_at h] at h0 ⊢
        exact (H _ (rootL_there T h) h0).2
      · exact .inr e
end Go.Proofs.Ytegdhfdehcidhaa

namespace Go.Proofs.Ytegdhfdehcidhaa
open Go Go.RowKit

section
variable {Rep : (Nat → Prop) → World → Nat → List Nd → Prop} {S : Nat → Prop} {w : World} {b : Nat} {l : List Nd}
set_option maxHeartbeats 4000000 in
set_option maxRecDepth 100000 in
theorem shAround (O : ForestOk Rep) (M : ForestMore Rep) (id : Int) (h : Rep S w b l) (hg : Good l) :
    Calls Try.prog 32 #[at_ b, .int .i64 id] w fun e w' => ∃ v, e = .returned v ∧ Pile w.heap.size w' v (arL l id) ∧ Below w.heap.size w w' := by
  have H := Lib.hid h
  have Hg := Lib.hid hg
  have hnot : ∀ (x : Bool) (w : World), (Op.unary .not (.bool x)).run Try.prog w = .ok (.bool (!x)) w := fun _ _ => rfl
  have hRl : (arL l id).length ≤ 128 := Nat.le_trans (arL_len l id) hg.len
  have hll := hg.len
  obtain ⟨R, hR⟩ : ∃ R, R = arL l id := ⟨_, rfl⟩
  rw [← hR] at hRl
  rw [← hR]
  have hR0 : ([] : List Int) ++ arN l (l.length - 0) id = R := by rw [hR]; rfl
  have HR0 := Lib.hid hR0
  clear h hg hR hR0
  go_enter Try.func32, Try.ntmps32
  go_wp2_with fail
  refine (M.len S w b l H.out Hg.out).mono ?_
  rintro e w0 ⟨rfl, hb0⟩
  have Hb0 := Lib.hid hb0
  clear hb0
  go_wp2_with fail
  go_loopw [1, 5, 10] (fun a o k wr => ∃ (i : Int) (j : Nat) (xs : List Int), a = .int .i64 i ∧ k = .int .i64 j ∧ j ≤ l.length ∧ xs ++ arN l (l.length - j) i = R ∧ Pile w.heap.size wr o xs ∧ Below w.heap.size w wr) (fun _ _ k _ => l.length - (intOf k).toNat)
  case atStart => exact ⟨id, 0, [], rfl, rfl, Nat.zero_le _, HR0.out, Pile.nil _ _, Hb0.out⟩
  case round =>
    obtain ⟨i, j, xs, rfl, rfl, hj, hxs, hP, hb⟩ := hrel
    have Hxs := Lib.hid hxs
    have hxl : xs.length ≤ 1000000 := by have := app_len hxs; omega
    have Hrep := Lib.hid (O.since H.out hb)
    clear HR0 Hb0 hxs
    obtain ⟨Ao, co, rfl, -⟩ := hP.form
    by_cases hjl : (j : Int) < l.length
    · have HP := Lib.hid hP
      have Hb := Lib.hid hb
      clear hP hb
      go_wp2_with fail
      refine (kinRoot O M i Hrep.out Hg.out).mono ?_
      rintro e w1 ⟨rfl, hb1⟩
      have Hrep1 := Lib.hid (O.since Hrep.out hb1)
      have HP1 := Lib.hid (HP.out.below hb1)
      have Hb1 := Lib.hid (Hb.out.trans (hb1.mono Hb.out.size))
      clear hb1 HP Hb Hrep
      cases ht : thereB l i with
      | false =>
        have e0 := rootL_no ht
        rw [e0]
        have hfin : xs = R := by
          have := Hxs.out
          rw [ar_no ht, List.append_nil] at this
          exact this
        subst hfin
        clear e0 ht Hxs
        go_wp2_with fail
        refine (nodeNo M Hrep1.out Hg.out (there_zero l)).mono ?_
        rintro e w2 ⟨A1, c1, rfl, -, hb2⟩
        have HF : Hid (Pile w.heap.size (w2.alloc (.cells #[.int .i64 0, .int .i64 0, .int .i64 0, .int .i64 0, .int .i64 0, .bool false, .string ⟨#[]⟩, .string ⟨#[]⟩, .slice A1 0 c1] 36)) (.slice Ao xs.length co) xs ∧ Below w.heap.size w (w2.alloc (.cells #[.int .i64 0, .int .i64 0, .int .i64 0, .int .i64 0, .int .i64 0, .bool false, .string ⟨#[]⟩, .string ⟨#[]⟩, .slice A1 0 c1] 36))) := Lib.hid ⟨(HP1.out.below hb2).alloc _, (Hb1.out.trans (hb2.mono Hb1.out.size)).alloc (Nat.le_trans Hb1.out.size hb2.size) _⟩
        clear hb2 HP1 Hb1 Hrep1
        go_wp2
        go_ret
        exact ⟨_, rfl, HF.out.1, HF.out.2⟩
      | true =>
        have hrt := rootL_there Hg.out.tree ht
        have hfin : (xs ++ [i]) ++ arN l (l.length - (j + 1)) (nd l (rootL l i)).host = R := by
          rw [List.append_assoc, List.singleton_append, ← hostL_at ht, ← ar_go (n := l.length - (j + 1)) ht, show l.length - (j + 1) + 1 = l.length - j by omega]
          exact Hxs.out
        have Hrt := Lib.hid hrt
        have Hfin := Lib.hid hfin
        obtain ⟨r, hr⟩ : ∃ r, r = rootL l i := ⟨_, rfl⟩
        rw [← hr] at Hrt Hfin
        rw [← hr]
        clear ht hrt hfin hr Hxs
        go_wp2_with fail
        refine (nodeYes M Hrep1.out Hg.out Hrt.out).mono ?_
        rintro e w2 ⟨A1, c1, rfl, -, hb2⟩
        obtain ⟨d, hd⟩ : ∃ d, d = nd l r := ⟨_, rfl⟩
        rw [← hd] at Hfin
        rw [← hd]
        have hB2 : Below w.heap.size w w2 := Hb1.out.trans (hb2.mono Hb1.out.size)
        have hP2 : Pile w.heap.size w2 (.slice Ao xs.length co) xs := HP1.out.below hb2
        have hown : ∀ g, (Value.slice Ao xs.length co).ownBlock = some g → w.heap.size ≤ g ∧ g < w2.heap.size := hP2.lt
        have HC : Hid (∀ w3, Keeps (fun i => (Value.slice Ao xs.length co).ownBlock = some i) ((w2.alloc (.cells #[.int .i64 d.kind, .int .i64 d.parent, .int .i64 d.host, .int .i64 d.shadow, .int .i64 d.mode, .bool d.slot, .string d.name, .string d.want, .slice A1 d.kids.length c1] 36)).alloc (.cells #[.int .i64 i] 3)) w3 → w3.cell? ⟨w2.heap.size, 2, none⟩ = some (.int .i64 d.host)) := Lib.hid fun w3 hk3 => by
          have hh : Has ((w2.alloc (.cells #[.int .i64 d.kind, .int .i64 d.parent, .int .i64 d.host, .int .i64 d.shadow, .int .i64 d.mode, .bool d.slot, .string d.name, .string d.want, .slice A1 d.kids.length c1] 36)).alloc (.cells #[.int .i64 i] 3)) w2.heap.size (.cells #[.int .i64 d.kind, .int .i64 d.parent, .int .i64 d.host, .int .i64 d.shadow, .int .i64 d.mode, .bool d.slot, .string d.name, .string d.want, .slice A1 d.kids.length c1] 36 (0, 0)) := (Has.fresh _ _).more _
          exact (hh.kept hk3 fun e => by have := (hown _ e).2; omega).cell 2
        have HP2 : Hid (Pile w.heap.size ((w2.alloc (.cells #[.int .i64 d.kind, .int .i64 d.parent, .int .i64 d.host, .int .i64 d.shadow, .int .i64 d.mode, .bool d.slot, .string d.name, .string d.want, .slice A1 d.kids.length c1] 36)).alloc (.cells #[.int .i64 i] 3)) (.slice Ao xs.length co) xs) := Lib.hid ((hP2.alloc _).alloc _)
        have HB2 : Hid (Has ((w2.alloc (.cells #[.int .i64 d.kind, .int .i64 d.parent, .int .i64 d.host, .int .i64 d.shadow, .int .i64 d.mode, .bool d.slot, .string d.name, .string d.want, .slice A1 d.kids.length c1] 36)).alloc (.cells #[.int .i64 i] 3)) (w2.heap.size + 1) (.cells #[.int .i64 i] 3 (0, 0))) := Lib.hid (by
          have := Has.fresh (w2.alloc (.cells #[.int .i64 d.kind, .int .i64 d.parent, .int .i64 d.host, .int .i64 d.shadow, .int .i64 d.mode, .bool d.slot, .string d.name, .string d.want, .slice A1 d.kids.length c1] 36)) (.cells #[.int .i64 i] 3)
          simpa using this)
        have HS2 : Hid (w.heap.size ≤ ((w2.alloc (.cells #[.int .i64 d.kind, .int .i64 d.parent, .int .i64 d.host, .int .i64 d.shadow, .int .i64 d.mode, .bool d.slot, .string d.name, .string d.want, .slice A1 d.kids.length c1] 36)).alloc (.cells #[.int .i64 i] 3)).heap.size) := Lib.hid (by have := hB2.size; simp; omega)
        have HE : Hid (∀ w3, Keeps (fun i => (Value.slice Ao xs.length co).ownBlock = some i) ((w2.alloc (.cells #[.int .i64 d.kind, .int .i64 d.parent, .int .i64 d.host, .int .i64 d.shadow, .int .i64 d.mode, .bool d.slot, .string d.name, .string d.want, .slice A1 d.kids.length c1] 36)).alloc (.cells #[.int .i64 i] 3)) w3 → Below w.heap.size w w3) := Lib.hid fun w3 hk3 =>
          below_then ((hB2.alloc hB2.size _).alloc (by have := hB2.size; simp; omega) _) hk3 (by have := hB2.size; simp; omega) fun i hi e => by have := (hown _ e).1; omega
        clear hd hb2 hB2 hP2 hown HP1 Hb1 Hrep1
        go_wp2_with (at_builtin; refine wpList_push rfl (.tmp 22) (.tmp 24) rfl rfl HP2.out rfl HB2.out hxl HS2.out ?_; intro g cap w3 hp3 hk3 _ _; have c1 := HC.out w3 hk3)
        go_roundw
        case rel => exact ⟨_, j + 1, xs ++ [i], rfl, by go_num, by omega, Hfin.out, by simpa using hp3, HE.out w3 hk3⟩
        case measure => simp [intOf]; omega
    · have hfin : xs = R := by
        have := Hxs.out
        rw [show l.length - j = 0 by omega, arN, List.append_nil] at this
        exact this
      subst hfin
      clear Hxs
      go_wp2
      go_ret
      exact ⟨_, rfl, hP, hb⟩
set_option maxHeartbeats 4000000 in
set_option maxRecDepth 100000 in
theorem shClosed (O : ForestOk Rep) (M : ForestMore Rep) (id : Int) (h : Rep S w b l) (hg : Good l) :
    Calls Try.prog 30 #[at_ b, .int .i64 id] w fun e w' => ∃ v, e = .returned v ∧ Pile w.heap.size w' v (clsL l id) ∧ Below w.heap.size w w' := by
  have C := Lib.hid (shAround O M id h hg)
  have H := Lib.hid h
  have Hg := Lib.hid hg
  have hRl : (arL l id).length ≤ 128 := Nat.le_trans (arL_len l id) hg.len
  have hall := arL_there hg.tree id
  have hcls : clsL l id = clsOf l (arL l id) := rfl
  rw [hcls]
  obtain ⟨R, hR⟩ : ∃ R, R = arL l id := ⟨_, rfl⟩
  rw [← hR] at hRl C hall
  rw [← hR]
  have Hall := Lib.hid hall
  clear h hg hR hcls hall
  go_enter Try.func30, Try.ntmps30
  go_wp2_with fail
  refine C.out.mono ?_
  rintro e w1 ⟨v, rfl, hP, hb⟩
  obtain ⟨A, c, rfl, hL⟩ := hP.form
  have HL := Lib.hid hL
  have Hb := Lib.hid hb
  have Hs1 := Lib.hid hb.size
  obtain ⟨n, hn⟩ : ∃ n, n = R.length := ⟨_, rfl⟩
  rw [← hn] at hRl
  rw [← hn]
  have Hn := Lib.hid hn
  clear C hP hL hb hn
  go_wp2_with fail
  go_loopw [5, 15] (fun o k wr => ∃ j : Nat, k = .int .i64 j ∧ j ≤ n ∧ Pile w1.heap.size wr o (clsOf l (R.take j)) ∧ Below w1.heap.size w1 wr) (fun _ k _ => n - (intOf k).toNat)
  case atStart => exact ⟨0, rfl, Nat.zero_le _, Pile.nil _ _, Below.refl _ _⟩
  case round =>
    obtain ⟨j, rfl, hj, hPo, hbr⟩ := hrel
    obtain ⟨Ao, co, rfl, -⟩ := hPo.form
    by_cases hjn : (j : Int) < n
    · have hjk : j < R.length := by rw [← Hn.out]; omega
      obtain ⟨b', off, rfl, hB, hc0⟩ := HL.out.nums j hjk
      have hc : wr.cell? ⟨b', off + j, none⟩ = some (.int .i64 R[j]) := (hbr.cell (p := ⟨b', off + j, none⟩) hB).trans hc0
      have hth := Hall.out R[j] (List.getElem_mem hjk)
      have htk : R.take (j + 1) = R.take j ++ [R[j]] := by rw [List.take_add_one, List.getElem?_eq_getElem hjk]; rfl
      have hxl : (clsOf l (R.take j)).length ≤ 1000000 := by
        have h1 := cls_le (l := l) (R.take j)
        rw [List.length_take] at h1
        omega
      obtain ⟨y, hy⟩ : ∃ y, y = R[j] := ⟨_, rfl⟩
      rw [← hy] at hc hth htk
      have hst : clsOf l (R.take (j + 1)) = clsOf l (R.take j) ++ clsOf l [y] := by rw [htk, cls_append]
      obtain ⟨xs, hxs⟩ : ∃ xs, xs = clsOf l (R.take j) := ⟨_, rfl⟩
      rw [← hxs] at hst hxl hPo
      rw [← hxs]
      have hrt := rootL_there Hg.out.tree hth
      have Hrt := Lib.hid hrt
      have Hst := Lib.hid hst
      have HPo := Lib.hid hPo
      have Hbr := Lib.hid hbr
      have Hrep := Lib.hid (O.since (O.since H.out Hb.out) hbr)
      clear hth hst hc0 hy hxs hjk hrt htk hPo hbr hB
      go_wp2_with fail
      refine (kinRoot O M y Hrep.out Hg.out).mono ?_
      rintro e w2 ⟨rfl, hb2⟩
      have Hrep2 := Lib.hid (O.since Hrep.out hb2)
      have HP2 := Lib.hid (HPo.out.below hb2)
      have Hb2 := Lib.hid (Hbr.out.trans (hb2.mono Hbr.out.size))
      have e2 : ∀ m, (nd l (rootL l y)).mode = m → (m = 2 → clsOf l [y] = [rootL l y]) ∧ (m ≠ 2 → clsOf l [y] = []) := fun m hm => by
        subst hm
        exact ⟨fun h => cls_yes h, fun h => cls_not h⟩
      obtain ⟨r, hr⟩ : ∃ r, r = rootL l y := ⟨_, rfl⟩
      rw [← hr] at Hrt e2
      rw [← hr]
      have E2 := Lib.hid e2
      clear hb2 hr e2 HPo Hbr Hrep hc
      go_wp2_with fail
      refine (nodeYes M Hrep2.out Hg.out Hrt.out).mono ?_
      rintro e w3 ⟨A1, c1, rfl, -, hb3⟩
      have e3 := E2.out _ rfl
      obtain ⟨d, hd⟩ : ∃ d, d = nd l r := ⟨_, rfl⟩
      rw [← hd] at e3
      rw [← hd]
      have hB3 : Below w1.heap.size w1 w3 := Hb2.out.trans (hb3.mono Hb2.out.size)
      have hP3 : Pile w1.heap.size w3 (.slice Ao xs.length co) xs := HP2.out.below hb3
      have x4 : (w3.alloc (.cells #[.int .i64 d.kind, .int .i64 d.parent, .int .i64 d.host, .int .i64 d.shadow, .int .i64 d.mode, .bool d.slot, .string d.name, .string d.want, .slice A1 d.kids.length c1] 36)).cell? ⟨w3.heap.size, 4, none⟩ = some (.int .i64 d.mode) := (Has.fresh w3 (.cells #[.int .i64 d.kind, .int .i64 d.parent, .int .i64 d.host, .int .i64 d.shadow, .int .i64 d.mode, .bool d.slot, .string d.name, .string d.want, .slice A1 d.kids.length c1] 36)).cell 4
      have E3 := Lib.hid e3
      clear hd hb3 HP2 Hb2 Hrep2 e3 E2
      by_cases hm : d.mode = 2
      · have hfin : xs ++ [r] = clsOf l (R.take (j + 1)) := by rw [Hst.out, E3.out.1 hm]
        have Hfin := Lib.hid hfin
        have hown : ∀ g, (Value.slice Ao xs.length co).ownBlock = some g → w1.heap.size ≤ g ∧ g < w3.heap.size := hP3.lt
        have HP2 : Hid (Pile w1.heap.size ((w3.alloc (.cells #[.int .i64 d.kind, .int .i64 d.parent, .int .i64 d.host, .int .i64 d.shadow, .int .i64 d.mode, .bool d.slot, .string d.name, .string d.want, .slice A1 d.kids.length c1] 36)).alloc (.cells #[.int .i64 r] 3)) (.slice Ao xs.length co) xs) := Lib.hid ((hP3.alloc _).alloc _)
        have HB2 : Hid (Has ((w3.alloc (.cells #[.int .i64 d.kind, .int .i64 d.parent, .int .i64 d.host, .int .i64 d.shadow, .int .i64 d.mode, .bool d.slot, .string d.name, .string d.want, .slice A1 d.kids.length c1] 36)).alloc (.cells #[.int .i64 r] 3)) (w3.heap.size + 1) (.cells #[.int .i64 r] 3 (0, 0))) := Lib.hid (by
          have := Has.fresh (w3.alloc (.cells #[.int .i64 d.kind, .int .i64 d.parent, .int .i64 d.host, .int .i64 d.shadow, .int .i64 d.mode, .bool d.slot, .string d.name, .string d.want, .slice A1 d.kids.length c1] 36)) (.cells #[.int .i64 r] 3)
          simpa using this)
        have HS2 : Hid (w1.heap.size ≤ ((w3.alloc (.cells #[.int .i64 d.kind, .int .i64 d.parent, .int .i64 d.host, .int .i64 d.shadow, .int .i64 d.mode, .bool d.slot, .string d.name, .string d.want, .slice A1 d.kids.length c1] 36)).alloc (.cells #[.int .i64 r] 3)).heap.size) := Lib.hid (by have := hB3.size; simp; omega)
        have HE : Hid (∀ w4, Keeps (fun i => (Value.slice Ao xs.length co).ownBlock = some i) ((w3.alloc (.cells #[.int .i64 d.kind, .int .i64 d.parent, .int .i64 d.host, .int .i64 d.shadow, .int .i64 d.mode, .bool d.slot, .string d.name, .string d.want, .slice A1 d.kids.length c1] 36)).alloc (.cells #[.int .i64 r] 3)) w4 → Below w1.heap.size w1 w4) := Lib.hid fun w4 hk4 =>
          below_then ((hB3.alloc hB3.size _).alloc (by have := hB3.size; simp; omega) _) hk4 (by have := hB3.size; simp; omega) fun i hi e => by have := (hown _ e).1; omega
        have zm : (d.mode == 2) = true := by simpa using hm
        clear hfin hown hP3 hB3 hm E3 Hst
        go_wp2_with (at_builtin; refine wpList_push rfl (.tmp 31) (.tmp 33) rfl rfl HP2.out rfl HB2.out hxl HS2.out ?_; intro g cap w4 hp4 hk4 _ _)
        go_roundw
        case rel => exact ⟨j + 1, by go_num, by omega, by rw [← Hfin.out]; simpa using hp4, HE.out w4 hk4⟩
        case measure => simp [intOf]; omega
      · have hfin : xs = clsOf l (R.take (j + 1)) := by rw [Hst.out, E3.out.2 hm, List.append_nil]
        have Hfin := Lib.hid hfin
        have zm : (d.mode == 2) = false := by simpa using hm
        have HF : Hid (Pile w1.heap.size (w3.alloc (.cells #[.int .i64 d.kind, .int .i64 d.parent, .int .i64 d.host, .int .i64 d.shadow, .int .i64 d.mode, .bool d.slot, .string d.name, .string d.want, .slice A1 d.kids.length c1] 36)) (.slice Ao xs.length co) xs ∧ Below w1.heap.size w1 (w3.alloc (.cells #[.int .i64 d.kind, .int .i64 d.parent, .int .i64 d.host, .int .i64 d.shadow, .int .i64 d.mode, .bool d.slot, .string d.name, .string d.want, .slice A1 d.kids.length c1] 36))) := Lib.hid ⟨hP3.alloc _, hB3.alloc hB3.size _⟩
        clear hfin hm E3 Hst hP3 hB3
        go_wp2
        go_roundw
        case rel => exact ⟨j + 1, by go_num, by omega, by rw [← Hfin.out]; exact HF.out.1, HF.out.2⟩
        case measure => simp [intOf]; omega
    · have he : clsOf l (R.take j) = clsOf l R := by rw [List.take_of_length_le (by rw [← Hn.out]; omega)]
      rw [he] at hPo
      rw [he]
      clear he
      go_wp2
      go_ret
      exact ⟨_, rfl, hPo.from_ Hs1.out, Hb.out.trans (hbr.mono Hs1.out)⟩
end
end Go.Proofs.Ytegdhfdehcidhaa

namespace Go.Proofs.Ytegdhfdehcidhaa
open Go Go.RowKit

theorem anyUp_step {l : List Nd} {a : Int} {xs : List Int} {k : Nat} (hk : k < xs.length) : anyUp l a (xs.take (k + 1)) = (anyUp l a (xs.take k) || hasB (parL l xs[k]) a) := by
  unfold anyUp
  rw [List.take_add_one, List.getElem?_eq_getElem hk, Option.toList_some, List.any_append, List.any_cons, List.any_nil, Bool.or_false]
theorem anyUp_mem {l : List Nd} {a : Int} {xs : List Int} {k : Nat} (hk : k < xs.length) (h : hasB (parL l xs[k]) a = true) : anyUp l a xs = true := List.any_eq_true.2 ⟨xs[k], List.getElem_mem hk, h⟩
section
variable {Rep : (Nat → Prop) → World → Nat → List Nd → Prop} {S : Nat → Prop} {w : World} {b : Nat} {l : List Nd}
/-- The forest's pointer and a number, in two blocks. -/
structure Capd (w : World) (b : Nat) (a : Int) (B : Nat) : Prop where
  hp : Has w B (.cells #[at_ b] 25 (0, 0))
  hq : Has w (B + 1) (.cells #[.int .i64 a] 3 (0, 0))
theorem Capd.below {w' : World} {a : Int} {B : Nat} (h : Capd w b a B) (k : Below w.heap.size w w') : Capd w' b a B := ⟨h.hp.below k h.hp.inside, h.hq.below k h.hq.inside⟩
set_option maxHeartbeats 1000000 in
theorem shHolds1 (O : ForestOk Rep) (M : ForestMore Rep) (a x : Int) {B : Nat} (h : Rep S w b l) (hg : Good l) (hc : Capd w b a B) :
    Calls Try.prog 33 #[.int .i64 x, .pointer (some ⟨B, 0, none⟩), .pointer (some ⟨B + 1, 0, none⟩)] w fun e w' => e = .returned (.bool (hasB (parL l x) a)) ∧ Below w.heap.size w w' := by
  have H := Lib.hid h
  have Hg := Lib.hid hg
  have p0 : w.cell? ⟨B, 0, none⟩ = some (at_ b) := hc.hp.cell 0
  have q0 : w.cell? ⟨B + 1, 0, none⟩ = some (.int .i64 a) := hc.hq.cell 0
  clear h hg hc
  go_enter Try.func33, Try.ntmps33
  go_wp2_with fail
  refine (kinAbove O M a x H.out Hg.out).mono ?_
  rintro e w1 ⟨rfl, hb1⟩
  go_wp2
  go_ret
  exact ⟨rfl, hb1⟩
/-- The function that Holds hands on. -/
abbrev holdsF (B : Nat) : Value := .func (.func 33) #[] #[.pointer (some ⟨B, 0, none⟩), .pointer (some ⟨B + 1, 0, none⟩)]
set_option maxHeartbeats 4000000 in
theorem indexFunc_any (O : ForestOk Rep) (M : ForestMore Rep) (a : Int) (xs : List Int) (A : Option Addr) (n c : Nat) {B : Nat} (hn : n = xs.length) (hl : n ≤ 1000000) (hL : ListIn w A c xs) (h : Rep S w b l) (hg : Good l) (hc : Capd w b a B) :
    Calls Try.prog 50 #[.slice A n c, holdsF B] w fun e w' => (∃ k : Int, e = .returned (.int .i64 k) ∧ decide (0 ≤ k) = anyUp l a xs) ∧ Below w.heap.size w w' := by
  have Hn := Lib.hid hn
  have HL := Lib.hid hL
  have H := Lib.hid h
  have Hg := Lib.hid hg
  have Hc := Lib.hid hc
  clear hn hL h hg hc
  go_enter Try.func50, Try.ntmps50
  go_wp2_with fail
  go_loopw [8] (fun i wr => ∃ k : Nat, i = .int .i64 k ∧ k ≤ n ∧ anyUp l a (xs.take k) = false ∧ Below w.heap.size w wr) (fun i _ => n - (intOf i).toNat)
  case atStart => exact ⟨0, rfl, Nat.zero_le _, rfl, Below.refl _ _⟩
  case round =>
    obtain ⟨k, rfl, hk, hno, hb⟩ := hrel
    have Hno := Lib.hid hno
    clear hno
    by_cases hlt : (k : Int) < n
    · have hkl : k < xs.length := by rw [← Hn.out]; omega
      obtain ⟨b', off, rfl, hB, hcell0⟩ := HL.out.nums k hkl
      have hcell : wr.cell? ⟨b', off + k, none⟩ = some (.int .i64 xs[k]) := (hb.cell (p := ⟨b', off + k, none⟩) hB).trans hcell0
      have hst := anyUp_step (l := l) (a := a) hkl
      have hme := anyUp_mem (l := l) (a := a) hkl
      obtain ⟨y, hy⟩ : ∃ y, y = xs[k] := ⟨_, rfl⟩
      rw [← hy] at hcell hst hme
      have Hst := Lib.hid hst
      have Hme := Lib.hid hme
      have Hrep := Lib.hid (O.since H.out hb)
      have Hcr := Lib.hid (Hc.out.below hb)
      have Hb := Lib.hid hb
      clear hy hB hcell0 hst hme hkl hb
      go_wp2_with fail
      refine (shHolds1 O M a y Hrep.out Hg.out Hcr.out).mono ?_
      rintro e w1 ⟨rfl, hb1⟩
      have HB := Lib.hid (Hb.out.trans (hb1.mono Hb.out.size))
      clear hb1
      cases hp : hasB (parL l y) a with
      | true =>
        have e1 := Hme.out hp
        have E1 := Lib.hid e1
        clear e1 hp
        go_wp2
        go_ret
        refine ⟨⟨(k : Int), rfl, ?_⟩, HB.out⟩
        rw [E1.out]
        exact decide_eq_true (by omega)
      | false =>
        have e1 := Hst.out
        rw [hp, Hno.out] at e1
        have E1 := Lib.hid e1
        clear e1 hp
        go_wp2
        go_roundw
        case rel => exact ⟨k + 1, by go_num, by omega, E1.out, HB.out⟩
        case measure => simp [intOf]; omega
    · have e1 : anyUp l a xs = false := by
        have := Hno.out
        rw [List.take_of_length_le (by rw [← Hn.out]; omega)] at this
        exact this
      have E1 := Lib.hid e1
      clear e1
      go_wp2
      go_ret
      exact ⟨⟨-1, rfl, by rw [E1.out]; rfl⟩, hb⟩
set_option maxHeartbeats 1000000 in
theorem containsFunc_any (O : ForestOk Rep) (M : ForestMore Rep) (a : Int) (xs : List Int) (A : Option Addr) (n c : Nat) {B : Nat} (hn : n = xs.length) (hl : n ≤ 1000000) (hL : ListIn w A c xs) (h : Rep S w b l) (hg : Good l) (hc : Capd w b a B) :
    Calls Try.prog 31 #[.slice A n c, holdsF B] w fun e w' => e = .returned (.bool (anyUp l a xs)) ∧ Below w.heap.size w w' := by
  have C := Lib.hid (indexFunc_any O M a xs A n c hn hl hL h hg hc)
  clear hn hL h hg hc
  go_enter Try.func31, Try.ntmps31
  go_wp2_with fail
  refine C.out.mono ?_
  rintro e w1 ⟨⟨k, rfl, hk⟩, hb⟩
  have Hk := Lib.hid hk
  clear hk
  go_wp2
  go_ret
  rw [← Hk.out]
  exact ⟨rfl, hb⟩
set_option maxHeartbeats 2000000 in
theorem shHolds (O : ForestOk Rep) (M : ForestMore Rep) (a i : Int) (h : Rep S w b l) (hg : Good l) :
    Calls Try.prog 15 #[at_ b, .int .i64 a, .int .i64 i] w fun e w' => e = .returned (.bool (hasB (over l i) a)) ∧ Below w.heap.size w w' := by
  have hmf : ∀ (fn : Fn) (first cap : Array Value) (w : World), (Instr.makeFunc fn first cap).run Try.prog w = .ok (.func fn first cap) w := fun _ _ _ _ => rfl
  have hany := any_ar hg.tree a i
  have hRl : (arL l i).length ≤ 1000000 := Nat.le_trans (Nat.le_trans (arL_len l i) hg.len) (by decide)
  obtain ⟨W, hW⟩ : ∃ W, W = (w.alloc (.cells #[at_ b] 25)).alloc (.cells #[.int .i64 a] 3) := ⟨_, rfl⟩
  have hb : Below w.heap.size w W := by
    rw [hW]
    exact ((Below.refl _ w).alloc (Nat.le_refl _) _).alloc (by simp) _
  have hC : Capd W b a w.heap.size := by
    refine ⟨?_, ?_⟩
    · rw [hW]
      exact (Has.fresh _ _).more _
    · rw [hW]
      have := Has.fresh (w.alloc (.cells #[at_ b] 25)) (.cells #[.int .i64 a] 3)
      rw [show (w.alloc (.cells #[at_ b] 25)).heap.size = w.heap.size + 1 by simp] at this
      exact this
  have p0 : W.cell? ⟨w.heap.size, 0, none⟩ = some (at_ b) := hC.hp.cell 0
  have HR := Lib.hid (O.since h hb)
  have C := Lib.hid (shAround O M i (O.since h hb) hg)
  have Hg := Lib.hid hg
  have HC := Lib.hid hC
  have Hb := Lib.hid hb
  have HW := Lib.hid hW
  rw [← hany]
  obtain ⟨R, hR⟩ : ∃ R, R = arL l i := ⟨_, rfl⟩
  rw [← hR] at hRl C
  rw [← hR]
  rw [hW] at p0
  clear h hg hany hb hC hW hR
  go_enter Try.func15, Try.ntmps15
  go_wp2_with fail
  rw [← HW.out]
  refine C.out.mono ?_
  rintro e w1 ⟨v, rfl, hP, hb1⟩
  obtain ⟨A, c, rfl, hL⟩ := hP.form
  have HR1 := Lib.hid (O.since HR.out hb1)
  have HC1 := Lib.hid (HC.out.below hb1)
  have HB1 := Lib.hid (Hb.out.trans (hb1.mono Hb.out.size))
  have HL := Lib.hid hL
  clear hP hL hb1 C HR HC Hb p0
  go_wp2_with fail
  refine (containsFunc_any O M a R A R.length c rfl hRl HL.out HR1.out Hg.out HC1.out).mono ?_
  rintro e w2 ⟨rfl, hb2⟩
  have HB2 := Lib.hid (HB1.out.trans (hb2.mono HB1.out.size))
  clear hb2
  go_wp2
  go_ret
  exact ⟨rfl, HB2.out⟩
set_option maxHeartbeats 4000000 in
set_option maxRecDepth 100000 in
theorem shHidden (O : ForestOk Rep) (M : ForestMore Rep) (a i : Int) (h : Rep S w b l) (hg : Good l) :
    Calls Try.prog 14 #[at_ b, .int .i64 a, .int .i64 i] w fun e w' => e = .returned (.bool (hidL l a i)) ∧ Below w.heap.size w w' := by
  have hnot : ∀ (x : Bool) (w : World), (Op.unary .not (.bool x)).run Try.prog w = .ok (.bool (!x)) w := fun _ _ => rfl
  have H := Lib.hid h
  have Hg := Lib.hid hg
  obtain ⟨R, hR⟩ : ∃ R, R = hidL l a i := ⟨_, rfl⟩
  rw [← hR]
  have HR := Lib.hid hR
  clear h hg hR
  cases ht : thereB l i with
  | false =>
    have e0 : R = false := by rw [HR.out, hid_noB ht]
    subst e0
    have Ht := Lib.hid ht
    clear ht HR
    go_enter Try.func14, Try.ntmps14
    go_wp2_with fail
    refine (nodeNo M H.out Hg.out Ht.out).mono ?_
    rintro e w1 ⟨A1, c1, rfl, -, hb1⟩
    have hb2 : Below w.heap.size w (w1.alloc (.cells #[.int .i64 0, .int .i64 0, .int .i64 0, .int .i64 0, .int .i64 0, .bool false, .string ⟨#[]⟩, .string ⟨#[]⟩, .slice A1 0 c1] 36)) := hb1.alloc hb1.size _
    have HB2 := Lib.hid hb2
    have HR2 := Lib.hid (O.since H.out hb2)
    clear hb1 hb2
    go_wp2_with fail
    refine (shClosed O M a HR2.out Hg.out).mono ?_
    rintro e w3 ⟨v, rfl, hP, hb3⟩
    obtain ⟨A, c, rfl, -⟩ := hP.form
    have HB3 := Lib.hid (HB2.out.trans (hb3.mono HB2.out.size))
    clear hP hb3
    go_wp2
    go_ret
    exact ⟨rfl, HB3.out⟩
  | true =>
    have Ht := Lib.hid ht
    clear ht
    go_enter Try.func14, Try.ntmps14
    go_wp2_with fail
    refine (nodeYes M H.out Hg.out Ht.out).mono ?_
    rintro e w1 ⟨A1, c1, rfl, -, hb1⟩
    obtain ⟨d, hd⟩ : ∃ d, d = nd l i := ⟨_, rfl⟩
    rw [← hd]
    have hb2 : Below w.heap.size w (w1.alloc (.cells #[.int .i64 d.kind, .int .i64 d.parent, .int .i64 d.host, .int .i64 d.shadow, .int .i64 d.mode, .bool d.slot, .string d.name, .string d.want, .slice A1 d.kids.length c1] 36)) := hb1.alloc hb1.size _
    have HB2 := Lib.hid hb2
    have HR2 := Lib.hid (O.since H.out hb2)
    clear hb1 hb2 hd
    go_wp2_with fail
    refine (shClosed O M a HR2.out Hg.out).mono ?_
    rintro e w3 ⟨v, rfl, hP, hb3⟩
    obtain ⟨A, c, rfl, hL⟩ := hP.form
    have HB3 := Lib.hid (HB2.out.trans (hb3.mono HB2.out.size))
    have HR3 := Lib.hid (O.since HR2.out hb3)
    have hlen : (clsL l a).length ≤ 128 := Nat.le_trans (clsL_len l a) Hg.out.len
    clear hb3 HB2 HR2 hP
    cases hcs : clsL l a with
    | nil =>
      have e0 : R = false := by rw [HR.out, hid_none hcs]
      subst e0
      clear hcs HR hL hlen
      go_wp2
      go_ret
      exact ⟨rfl, HB3.out⟩
    | cons q qs =>
      have hqt : thereB l q = true := cls_there Hg.out.tree (i := a) (by rw [hcs]; exact List.mem_cons_self)
      have e0 : R = (decide ((nd l q).host ≠ 0) && !hasB (over l i) q) := by
        rw [HR.out]
        unfold hidL
        rw [hcs, Ht.out]
        rfl
      rw [hcs] at hL hlen
      obtain ⟨b', off, rfl, hB, hc⟩ := hL.nums 0 (by simp)
      have hc3 : w3.cell? ⟨b', off, none⟩ = some (.int .i64 q) := hc
      have Hqt := Lib.hid hqt
      have E0 := Lib.hid e0
      have HBb := Lib.hid hB
      have HC3 := Lib.hid hc3
      have hn0 : (qs.length : Int) + 1 ≠ 0 := by omega
      have z0 : (((qs.length : Int) + 1) == 0) = false := by rw [beq_eq_false_iff_ne]; omega
      have hql : (qs.length : Int) ≤ 128 := by simp at hlen; omega
      clear hcs hqt e0 hL hc hB hlen HR hn0
      go_wp2_with fail
      refine (nodeYes M HR3.out Hg.out Hqt.out).mono ?_
      rintro e w4 ⟨A4, c4, rfl, -, hb4⟩
      obtain ⟨d4, hd4⟩ : ∃ d4, d4 = nd l q := ⟨_, rfl⟩
      rw [← hd4] at E0
      rw [← hd4]
      have hb5 : Below w3.heap.size w3 (w4.alloc (.cells #[.int .i64 d4.kind, .int .i64 d4.parent, .int .i64 d4.host, .int .i64 d4.shadow, .int .i64 d4.mode, .bool d4.slot, .string d4.name, .string d4.want, .slice A4 d4.kids.length c4] 36)) := hb4.alloc hb4.size _
      have HB5 := Lib.hid (HB3.out.trans (hb5.mono HB3.out.size))
      have HR5 := Lib.hid (O.since HR3.out hb5)
      have x2 : (w4.alloc (.cells #[.int .i64 d4.kind, .int .i64 d4.parent, .int .i64 d4.host, .int .i64 d4.shadow, .int .i64 d4.mode, .bool d4.slot, .string d4.name, .string d4.want, .slice A4 d4.kids.length c4] 36)).cell? ⟨w4.heap.size, 2, none⟩ = some (.int .i64 d4.host) := (Has.fresh w4 (.cells #[.int .i64 d4.kind, .int .i64 d4.parent, .int .i64 d4.host, .int .i64 d4.shadow, .int .i64 d4.mode, .bool d4.slot, .string d4.name, .string d4.want, .slice A4 d4.kids.length c4] 36)).cell 2
      have y2 : (w4.alloc (.cells #[.int .i64 d4.kind, .int .i64 d4.parent, .int .i64 d4.host, .int .i64 d4.shadow, .int .i64 d4.mode, .bool d4.slot, .string d4.name, .string d4.want, .slice A4 d4.kids.length c4] 36)).cell? ⟨b', off, none⟩ = some (.int .i64 q) := (hb5.cell (p := ⟨b', off, none⟩) HBb.out).trans HC3.out
      clear hd4 hb4 hb5 HB3 HR3
      by_cases h0 : d4.host = 0
      · have e1 : R = false := by
          rw [E0.out, h0]
          rfl
        subst e1
        have z1 : (d4.host != 0) = false := by simpa using h0
        clear h0 E0
        go_wp2
        go_ret
        exact ⟨rfl, HB5.out⟩
      · have e1 : R = !hasB (over l i) q := by rw [E0.out, decide_eq_true h0]; rfl
        subst e1
        have z1 : (d4.host != 0) = true := by simpa using h0
        clear h0 E0
        go_wp2_with fail
        refine (shHolds O M q i HR5.out Hg.out).mono ?_
        rintro e w6 ⟨rfl, hb6⟩
        have HB6 := Lib.hid (HB5.out.trans (hb6.mono HB5.out.size))
        clear hb6
        go_wp2
        go_ret
        exact ⟨rfl, HB6.out⟩
end
end Go.Proofs.Ytegdhfdehcidhaa

namespace Go.Proofs.Ytegdhfdehcidhaa
open Go Go.RowKit

section
variable {l : List Nd} {i x : Int}
theorem aimL_root (h : thereB l i = true) (h0 : (nd l (rootL l i)).host = 0) : aimL l i x = i := aimL_stop h (aimB_end ((hostL_at h).trans h0))
theorem aimL_held (h : thereB l i = true) (h0 : hasB (over l x) (rootL l i) = true) : aimL l i x = i := aimL_stop h (aimB_held h0)
theorem aimL_next (T : Tree l) (h : thereB l i = true) (h0 : (nd l (rootL l i)).host ≠ 0) (h1 : hasB (over l x) (rootL l i) = false) : aimL l (nd l (rootL l i)).host x = aimL l i x := by
  rw [aimL_up (a := i) T (aimB_go (by rw [hostL_at h]; exact h0) h1), hostL_at h]
theorem host_short (T : Tree l) (h : thereB l i = true) : (over l (nd l (rootL l i)).host).length < (over l i).length := by
  have := host_less T h
  rw [hostL_at h] at this
  omega
end
section
variable {Rep : (Nat → Prop) → World → Nat → List Nd → Prop} {S : Nat → Prop} {w : World} {b : Nat} {l : List Nd}
set_option maxHeartbeats 4000000 in
set_option maxRecDepth 100000 in
theorem aiAim (O : ForestOk Rep) (M : ForestMore Rep) (a x : Int) (h : Rep S w b l) (hg : Good l) :
    Calls Try.prog 11 #[at_ b, .int .i64 a, .int .i64 x] w fun e w' => e = .returned (.int .i64 (aimL l a x)) ∧ Below w.heap.size w w' := by
  have hnot : ∀ (x : Bool) (w : World), (Op.unary .not (.bool x)).run Try.prog w = .ok (.bool (!x)) w := fun _ _ => rfl
  have H := Lib.hid h
  have Hg := Lib.hid hg
  obtain ⟨R, hR⟩ : ∃ R, R = aimL l a x := ⟨_, rfl⟩
  rw [← hR]
  have HR := Lib.hid hR.symm
  clear h hg hR
  go_enter Try.func11, Try.ntmps11
  go_wp2_with fail
  go_loopw [1] (fun v wr => ∃ i : Int, v = .int .i64 i ∧ aimL l i x = R ∧ Below w.heap.size w wr) (fun v _ => (over l (intOf v)).length)
  case atStart => exact ⟨a, rfl, HR.out, Below.refl _ _⟩
  case round =>
    obtain ⟨i, rfl, hi, hb⟩ := hrel
    have Hi := Lib.hid hi
    have Hb := Lib.hid hb
    have Hrep := Lib.hid (O.since H.out hb)
    clear hi hb HR
    go_wp2_with fail
    refine (kinRoot O M i Hrep.out Hg.out).mono ?_
    rintro e w1 ⟨rfl, hb1⟩
    have Hb1 := Lib.hid (Hb.out.trans (hb1.mono Hb.out.size))
    have Hrep1 := Lib.hid (O.since Hrep.out hb1)
    clear hb1 Hb Hrep
    cases ht : thereB l i with
    | false =>
      have e0 := rootL_no ht
      have e1 : R = 0 := by rw [← Hi.out, aimL_no ht]
      subst e1
      rw [e0]
      clear e0 ht Hi
      go_wp2_with fail
      refine (nodeNo M Hrep1.out Hg.out (there_zero l)).mono ?_
      rintro e w2 ⟨A2, c2, rfl, -, hb2⟩
      have HF := Lib.hid ((Hb1.out.trans (hb2.mono Hb1.out.size)).alloc (Nat.le_trans Hb1.out.size hb2.size) (.cells #[.int .i64 0, .int .i64 0, .int .i64 0, .int .i64 0, .int .i64 0, .bool false, .string ⟨#[]⟩, .string ⟨#[]⟩, .slice A2 0 c2] 36))
      clear hb2
      go_wp2
      go_ret
      exact ⟨rfl, HF.out⟩
    | true =>
      have hrt := rootL_there Hg.out.tree ht
      have e1 := aimL_root (x := x) ht
      have e2 := aimL_held (x := x) ht
      have e3 := aimL_next (x := x) Hg.out.tree ht
      have e4 := host_short Hg.out.tree ht
      obtain ⟨r, hr⟩ : ∃ r, r = rootL l i := ⟨_, rfl⟩
      rw [← hr] at hrt e1 e2 e3 e4
      rw [← hr]
      obtain ⟨d, hd⟩ : ∃ d, d = nd l r := ⟨_, rfl⟩
      rw [← hd] at e1 e3 e4
      rw [Hi.out] at e1 e2 e3
      have Hrt := Lib.hid hrt
      have Hd := Lib.hid hd
      have E1 := Lib.hid e1
      have E2 := Lib.hid e2
      have E3 := Lib.hid e3
      have E4 := Lib.hid e4
      clear ht hrt hr hd e1 e2 e3 e4
      go_wp2_with fail
      refine (nodeYes M Hrep1.out Hg.out Hrt.out).mono ?_
      rintro e w2 ⟨A2, c2, rfl, -, hb2⟩
      rw [← Hd.out]
      have hb3 : Below w1.heap.size w1 (w2.alloc (.cells #[.int .i64 d.kind, .int .i64 d.parent, .int .i64 d.host, .int .i64 d.shadow, .int .i64 d.mode, .bool d.slot, .string d.name, .string d.want, .slice A2 d.kids.length c2] 36)) := hb2.alloc hb2.size _
      have HB3 := Lib.hid (Hb1.out.trans (hb3.mono Hb1.out.size))
      have HR3 := Lib.hid (O.since Hrep1.out hb3)
      have x2 : (w2.alloc (.cells #[.int .i64 d.kind, .int .i64 d.parent, .int .i64 d.host, .int .i64 d.shadow, .int .i64 d.mode, .bool d.slot, .string d.name, .string d.want, .slice A2 d.kids.length c2] 36)).cell? ⟨w2.heap.size, 2, none⟩ = some (.int .i64 d.host) := (Has.fresh w2 (.cells #[.int .i64 d.kind, .int .i64 d.parent, .int .i64 d.host, .int .i64 d.shadow, .int .i64 d.mode, .bool d.slot, .string d.name, .string d.want, .slice A2 d.kids.length c2] 36)).cell 2
      have X2 : Hid (∀ w4, Below (w2.alloc (.cells #[.int .i64 d.kind, .int .i64 d.parent, .int .i64 d.host, .int .i64 d.shadow, .int .i64 d.mode, .bool d.slot, .string d.name, .string d.want, .slice A2 d.kids.length c2] 36)).heap.size (w2.alloc (.cells #[.int .i64 d.kind, .int .i64 d.parent, .int .i64 d.host, .int .i64 d.shadow, .int .i64 d.mode, .bool d.slot, .string d.name, .string d.want, .slice A2 d.kids.length c2] 36)) w4 → w4.cell? ⟨w2.heap.size, 2, none⟩ = some (.int .i64 d.host)) := Lib.hid fun w4 hb4 => (hb4.cell (p := ⟨w2.heap.size, 2, none⟩) (by simp)).trans x2
      clear hb2 hb3 Hb1 Hrep1 Hd
      by_cases h0 : d.host = 0
      · have e0 : R = i := E1.out h0
        subst e0
        have z1 : (d.host == 0) = true := by simpa using h0
        clear h0 E1 E2 E3 E4
        go_wp2
        go_ret
        exact ⟨rfl, HB3.out⟩
      · have z1 : (d.host == 0) = false := by simpa using h0
        have F3 := Lib.hid (E3.out h0)
        clear h0 E1 E3
        go_wp2_with fail
        refine (shHolds O M r x HR3.out Hg.out).mono ?_
        rintro e w4 ⟨rfl, hb4⟩
        have HB4 := Lib.hid (HB3.out.trans (hb4.mono HB3.out.size))
        have x4 := X2.out w4 hb4
        clear hb4 X2 HB3 HR3 x2
        cases hh : hasB (over l x) r with
        | true =>
          have e0 : R = i := (E2.out hh)
          subst e0
          clear hh E2 F3 E4
          go_wp2
          go_ret
          exact ⟨rfl, HB4.out⟩
        | false =>
          have G3 := Lib.hid (F3.out hh)
          clear hh E2 F3
          go_wp2
          go_roundw
          case rel => exact ⟨_, rfl, G3.out, HB4.out⟩
          case measure => exact E4.out
set_option maxHeartbeats 1000000 in
theorem aiBoth (O : ForestOk Rep) (M : ForestMore Rep) (a x : Int) (h : Rep S w b l) (hg : Good l) :
    Calls Try.prog 10 #[at_ b, .int .i64 a, .int .i64 x] w fun e w' => e = .returned (.tuple #[.int .i64 (aimL l a x), .int .i64 (aimL l x a)]) ∧ Below w.heap.size w w' := by
  have H := Lib.hid h
  have Hg := Lib.hid hg
  clear h hg
  go_enter Try.func10, Try.ntmps10
  go_wp2_with fail
  refine (aiAim O M a x H.out Hg.out).mono ?_
  rintro e w1 ⟨rfl, hb1⟩
  have HR := Lib.hid (O.since H.out hb1)
  have HB := Lib.hid hb1
  clear hb1
  go_wp2_with fail
  refine (aiAim O M x a HR.out Hg.out).mono ?_
  rintro e w2 ⟨rfl, hb2⟩
  have HB2 := Lib.hid (HB.out.trans (hb2.mono HB.out.size))
  clear hb2
  go_wp2
  go_ret2
  exact ⟨rfl, HB2.out⟩
end
end Go.Proofs.Ytegdhfdehcidhaa
