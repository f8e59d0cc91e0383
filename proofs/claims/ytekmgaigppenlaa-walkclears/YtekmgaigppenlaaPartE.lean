/-
  What towncrierref04.Nodes and Up, towncrierref05.Root and Above do.
  What package kin's Count and Order do with an arena that keeps its promises.
  Forests, plain: host-including ancestors, and what the document says of Check. No program is named here.
  Forests, plain: trees around trees, closed roots, what is hidden. No program is named here.
  Forests, plain: slots, what is assigned to them, what is shown there at last. No program is named here.
  Forests, plain: a node, aimed at another one. No program is named here.
  Paths, plain: a node's parent for an event, the way up by it, and that it ends. No program is named here.
  Lists of records that lead to no memory (listeners, entries of a path ..): in rows of a call's own, and read where they came in. No function and no type of the program is named here.
  An entry of a path, and its five cells. No program is named here.
  Paths, plain: what Make tells, and what is so of it. No program is named here.
  What is seen of a path, plain: the two walks with their levels and limits, and that of a path of a forest just what isn't hidden is seen. No program is named here.
-/
import Derived.Test.YtekmgaigppenlaaPartD

namespace Go.Proofs.Ytekmgaigppenlaa
open Go Go.RowKit

set_option maxHeartbeats 4000000 in
set_option maxRecDepth 100000 in
theorem refNodes (A : Option Addr) (n c : Nat) (xs : List Ac) (w : World) (hn : xs.length = n) (h : Acts w A xs) (hs : Small xs) :
    Calls Try.prog 18 #[.slice A n c] w fun e w' => ∃ A' c', e = .returned (.slice A' (forest xs).length c') ∧ Nodes (fun i => w.heap.size ≤ i) w' 0 A' c' (forest xs) ∧ Below w.heap.size w w' := by
  have H := Lib.hid h
  have Hn := Lib.hid hn
  have Hs := Lib.hid hs
  have hnb : n ≤ 300 := by rw [← hn]; exact hs.1
  clear h hn hs
  go_enter Try.func18, Try.ntmps18
  go_wp2_with fail
  go_loopw [3, 4] (fun v i wr => ∃ (j : Nat) (A' : Option Addr) (c' : Nat), v = .slice A' (forest (xs.take j)).length c' ∧ i = .int .i64 j ∧ j ≤ n ∧ Nodes (fun i => w.heap.size ≤ i) wr 0 A' c' (forest (xs.take j)) ∧ Below w.heap.size w wr) (fun _ i _ => n - (intOf i).toNat)
  case atStart => exact ⟨0, none, 0, rfl, rfl, Nat.zero_le _, Nodes.nil _ _, Below.refl _ _⟩
  case round =>
    obtain ⟨j, A', c', rfl, rfl, hj, hN, hb⟩ := hrel
    by_cases hjn : (j : Int) < n
    · have hjx : j < xs.length := by rw [Hn.out]; omega
      obtain ⟨b', off, A1, c1, A2, c2, rfl, hB, hc, hL, hA⟩ := H.out j hjx
      have hsn : forest (xs.take (j + 1)) = actL (forest (xs.take j)) xs[j] := by
        rw [List.take_add_one, List.getElem?_eq_getElem hjx]
        exact forest_snoc _ _
      have hxl : xs[j].l.length ≤ 200 := Hs.out.2 _ (List.getElem_mem hjx)
      have hg : Good (forest (xs.take j)) := good_take Hs.out j
      obtain ⟨l, hl⟩ : ∃ l, l = forest (xs.take j) := ⟨_, rfl⟩
      rw [← hl] at hsn hg hN
      rw [← hl]
      obtain ⟨x, hx⟩ : ∃ x, x = xs[j] := ⟨_, rfl⟩
      rw [← hx] at hc hA hsn hxl
      clear hl hx hL
      have hc' : ∀ f, f < 14 → wr.cell? ⟨b', off + j * 14 + f, none⟩ = (actCells x (.slice A1 x.n.kids.length c1) (.slice A2 x.l.length c2))[f]? := fun f hf => by
        rw [hb.cell (p := ⟨b', off + j * 14 + f, none⟩) hB, Nat.add_assoc]
        exact hc f hf
      have g0 : wr.cell? ⟨b', off + j * 14, none⟩ = some (.int .i64 x.kind) := hc' 0 (by omega)
      have g1 : wr.cell? ⟨b', off + j * 14 + 1, none⟩ = some (.int .i64 x.a) := hc' 1 (by omega)
      have g2 : wr.cell? ⟨b', off + j * 14 + 2, none⟩ = some (.int .i64 x.b) := hc' 2 (by omega)
      have g3 : wr.cell? ⟨b', off + j * 14 + 3, none⟩ = some (.string x.s) := hc' 3 (by omega)
      have g4 : wr.cell? ⟨b', off + j * 14 + 4, none⟩ = some (.int .i64 x.n.kind) := hc' 4 (by omega)
      have g5 : wr.cell? ⟨b', off + j * 14 + 5, none⟩ = some (.int .i64 x.n.parent) := hc' 5 (by omega)
      have g6 : wr.cell? ⟨b', off + j * 14 + 6, none⟩ = some (.int .i64 x.n.host) := hc' 6 (by omega)
      have g7 : wr.cell? ⟨b', off + j * 14 + 7, none⟩ = some (.int .i64 x.n.shadow) := hc' 7 (by omega)
      have g8 : wr.cell? ⟨b', off + j * 14 + 8, none⟩ = some (.int .i64 x.n.mode) := hc' 8 (by omega)
      have g9 : wr.cell? ⟨b', off + j * 14 + 9, none⟩ = some (.bool x.n.slot) := hc' 9 (by omega)
      have g10 : wr.cell? ⟨b', off + j * 14 + 10, none⟩ = some (.string x.n.name) := hc' 10 (by omega)
      have g11 : wr.cell? ⟨b', off + j * 14 + 11, none⟩ = some (.string x.n.want) := hc' 11 (by omega)
      have g12 : wr.cell? ⟨b', off + j * 14 + 12, none⟩ = some (.slice A1 x.n.kids.length c1) := hc' 12 (by omega)
      have g13 : wr.cell? ⟨b', off + j * 14 + 13, none⟩ = some (.slice A2 x.l.length c2) := hc' 13 (by omega)
      have C := do_any l A' c' x (.slice A1 x.n.kids.length c1) A2 c2 wr (Nat.le_trans hg.len (by decide)) (fun d hd => Nat.le_trans (hg.few d hd) (by decide)) (G := fun i => w.heap.size ≤ i) (fun i hi => Nat.le_trans hb.size hi) (Nat.le_trans hxl (by decide)) hN (hA.below hb)
      unfold actVal at C
      have HC := Lib.hid C
      have Hsn := Lib.hid hsn
      clear C hc hc' hsn hA hN hg
      go_wp2_with fail
      refine HC.out.mono ?_
      rintro e w2 ⟨A3, c3, rfl, hN3, hb3⟩
      go_wp2
      go_roundw
      case rel => exact ⟨j + 1, A3, c3, by rw [Hsn.out], by go_num, by omega, by rw [Hsn.out]; exact hN3, hb.trans (hb3.mono hb.size)⟩
      case measure => simp [intOf]; omega
    · rw [List.take_of_length_le (by rw [Hn.out]; omega)] at hN
      have e0 : (forest (xs.take j)).length = (forest xs).length := by rw [List.take_of_length_le (by rw [Hn.out]; omega)]
      rw [e0]
      clear e0
      go_wp2
      go_ret
      exact ⟨A', c', rfl, hN, hb⟩
section
variable {G : Nat → Prop}
set_option maxHeartbeats 4000000 in
set_option maxRecDepth 100000 in
theorem refUp (l : List Nd) (A : Option Addr) (c : Nat) (id : Int) (w : World) (hl : l.length ≤ 1000) (h : Nodes G w 0 A c l) :
    Calls Try.prog 55 #[.slice A l.length c, .int .i64 id] w fun e w' => ∃ v, e = .returned v ∧ Pile w.heap.size w' v (parL l id) ∧ Below w.heap.size w w' := by
  have H := Lib.hid h
  obtain ⟨R, hR⟩ : ∃ R, R = parL l id := ⟨_, rfl⟩
  rw [← hR]
  have hR0 : ([] : List Int) ++ parN l (l.length + 1 - 0) id = R := by rw [hR]; rfl
  have HR0 := Lib.hid hR0
  clear h hR hR0
  go_enter Try.func55, Try.ntmps55
  go_wp2_with fail
  go_loopw [1, 5, 6] (fun a o i wr => ∃ (j : Nat) (id : Int) (xs : List Int), a = .int .i64 id ∧ i = .int .i64 j ∧ j ≤ l.length + 1 ∧ xs.length = j ∧ xs ++ parN l (l.length + 1 - j) id = R ∧ Pile w.heap.size wr o xs ∧ Below w.heap.size w wr) (fun _ _ i _ => l.length + 1 - (intOf i).toNat)
  case atStart => exact ⟨0, id, [], rfl, rfl, Nat.zero_le _, rfl, HR0.out, Pile.nil _ _, Below.refl _ _⟩
  case round =>
    obtain ⟨j, id, xs, rfl, rfl, hj, hxl, hxs, hP, hb⟩ := hrel
    have Hxs := Lib.hid hxs
    have Hxl := Lib.hid hxl
    clear HR0 hxs hxl
    obtain ⟨Ao, co, rfl, -⟩ := hP.form
    by_cases hjl : (j : Int) ≤ l.length
    · cases hth : thereB l id with
      | true =>
        have hgo : parN l (l.length + 1 - j) id = id :: parN l (l.length + 1 - (j + 1)) (nd l id).parent := by
          rw [show l.length + 1 - j = (l.length + 1 - (j + 1)) + 1 by omega]
          exact par_go hth
        obtain ⟨m, rfl, hml⟩ := there_at hth
        obtain ⟨g, k, rfl, -, hgw, -, -, -, c1, -⟩ := H.out.nine hml
        have hfin : (xs ++ [(m : Int) + 1]) ++ parN l (l.length + 1 - (j + 1)) (nd l ((m : Int) + 1)).parent = R := by
          rw [List.append_assoc, List.singleton_append, ← hgo]
          exact Hxs.out
        obtain ⟨pa, hpa⟩ : ∃ pa, pa = (nd l ((m : Int) + 1)).parent := ⟨_, rfl⟩
        rw [← hpa] at c1 hfin
        have Hfin := Lib.hid hfin
        have hxb : xs.length ≤ 1000000 := by rw [Hxl.out]; omega
        have Hth := Lib.hid hth
        have hown := hP.lt
        have HP2 : Hid (Pile w.heap.size (wr.alloc (.cells #[.int .i64 ((m : Int) + 1)] 3)) (.slice Ao xs.length co) xs) := Lib.hid (hP.alloc _)
        have HB2 : Hid (Has (wr.alloc (.cells #[.int .i64 ((m : Int) + 1)] 3)) wr.heap.size (.cells #[.int .i64 ((m : Int) + 1)] 3 (0, 0))) := Lib.hid (Has.fresh _ _)
        have HS2 : Hid (w.heap.size ≤ (wr.alloc (.cells #[.int .i64 ((m : Int) + 1)] 3)).heap.size) := Lib.hid (by have := hb.size; simp; omega)
        have HE : Hid (∀ w2, Keeps (fun i => (Value.slice Ao xs.length co).ownBlock = some i) (wr.alloc (.cells #[.int .i64 ((m : Int) + 1)] 3)) w2 → Below w.heap.size w w2) := Lib.hid fun w2 hk2 =>
          below_then (hb.alloc hb.size _) hk2 (by have := hb.size; simp; omega) fun i hi e => by have := (hown _ e).1; omega
        have C1 := Lib.hid c1
        clear hgo hth hpa c1 hfin Hxs hP hown hb
        go_wp2_with fail
        refine (there_any l _ c _ wr).mono ?_
        rintro e w1 ⟨rfl, rfl⟩
        rw [Hth.out]
        go_wp2_with (at_builtin; refine wpList_push rfl (.tmp 18) (.tmp 20) rfl rfl HP2.out rfl HB2.out hxb HS2.out ?_; intro g2 cap w2 hp2 hk2 _ _; have hb2 := HE.out w2 hk2; have d1 := (hb2.cell (p := ⟨g, m * 9 + 1, none⟩) hgw).trans C1.out)
        go_roundw
        case rel => exact ⟨j + 1, _, xs ++ [(m : Int) + 1], rfl, by go_num, by omega, by simp [Hxl.out], Hfin.out, by simpa using hp2, hb2⟩
        case measure => simp [intOf]; omega
      | false =>
        go_wp2_with fail
        refine (there_any l A c id wr).mono ?_
        rintro e w1 ⟨rfl, rfl⟩
        rw [hth]
        go_wp2
        go_ret
        refine ⟨_, rfl, ?_, hb⟩
        have := Hxs.out
        rw [par_no hth, List.append_nil] at this
        rw [← this]
        exact hP
    · go_wp2
      go_ret
      refine ⟨_, rfl, ?_, hb⟩
      have := Hxs.out
      rw [show l.length + 1 - j = 0 by omega] at this
      rw [← this, parN, List.append_nil]
      exact hP
set_option maxHeartbeats 1000000 in
theorem refRoot (l : List Nd) (A : Option Addr) (c : Nat) (id : Int) (w : World) (hg : Good l) (h : Nodes G w 0 A c l) :
    Calls Try.prog 45 #[.slice A l.length c, .int .i64 id] w fun e w' => e = .returned (.int .i64 (rootL l id)) ∧ Below w.heap.size w w' := by
  have C := Lib.hid (refUp l A c id w (Nat.le_trans hg.len (by decide)) h)
  have hRl : (parL l id).length ≤ 128 := Nat.le_trans (parL_len hg.tree id) hg.len
  have hroot : rootL l id = lastL (parL l id) := rfl
  rw [hroot]
  obtain ⟨R, hR⟩ : ∃ R, R = parL l id := ⟨_, rfl⟩
  rw [← hR] at hRl C
  rw [← hR]
  clear h hg hR hroot
  go_enter Try.func45, Try.ntmps45
  go_wp2_with fail
  refine C.out.mono ?_
  rintro e w1 ⟨v, rfl, hP, hb⟩
  obtain ⟨A, c, rfl, hL⟩ := hP.form
  clear C hP
  cases hm : R.length with
  | zero =>
    have e0 : lastL R = 0 := by rw [List.length_eq_zero_iff.1 hm]; rfl
    have E0 := Lib.hid e0
    have Hm := Lib.hid hm
    clear e0 hm
    go_wp2
    go_ret
    rw [E0.out]
    exact ⟨rfl, hb⟩
  | succ m =>
    have e0 := lastL_at hm
    obtain ⟨b', off, rfl, -, hc⟩ := hL.nums m (by omega)
    obtain ⟨y, hy⟩ : ∃ y, y = R[m]'(by omega) := ⟨_, rfl⟩
    rw [← hy] at hc e0
    have E0 := Lib.hid e0
    clear e0
    have hm' : m ≤ 128 := by omega
    have z1 : (((m : Int) + 1) == 0) = false := by rw [beq_eq_false_iff_ne]; omega
    clear hm hy hL hRl
    go_wp2
    go_ret
    rw [E0.out]
    exact ⟨rfl, hb⟩
end
end Go.Proofs.Ytekmgaigppenlaa

namespace Go.Proofs.Ytekmgaigppenlaa
open Go Go.RowKit

/-- How many of a list are of a kind. -/
def cntL (l : List Nd) (kind : Int) (ks : List Int) : Nat := (ks.filter fun k => decide ((nd l k).kind = kind)).length
def kidsL (l : List Nd) (id : Int) : List Int := if thereB l id = true then (nd l id).kids else []
theorem cntL_step {l : List Nd} {kind : Int} {ks : List Int} {j : Nat} (hj : j < ks.length) : cntL l kind (ks.take (j + 1)) = cntL l kind (ks.take j) + if (nd l ks[j]).kind = kind then 1 else 0 := by
  unfold cntL
  rw [List.take_add_one, List.getElem?_eq_getElem hj, Option.toList_some, List.filter_append, List.length_append]
  congr 1
  by_cases h : (nd l ks[j]).kind = kind
  · rw [if_pos h, List.filter_cons_of_pos (by simpa using h)]
    rfl
  · rw [if_neg h, List.filter_cons_of_neg (by simpa using h)]
    rfl
theorem cntL_le (l : List Nd) (kind : Int) (ks : List Int) : cntL l kind ks ≤ ks.length := List.length_filter_le _ _

section
variable {Rep : (Nat → Prop) → World → Nat → List Nd → Prop} {S : Nat → Prop} {w : World} {b : Nat} {l : List Nd}
theorem ForestOk.since (O : ForestOk Rep) {w' : World} (h : Rep S w b l) (hb : Below w.heap.size w w') : Rep S w' b l := O.keep h (Keeps.of_below (F := fun i => w.heap.size ≤ i) hb fun _ _ h => h) fun _ _ hi => Nat.not_le.2 hi
end
end Go.Proofs.Ytekmgaigppenlaa

namespace Go.Proofs.Ytekmgaigppenlaa
open Go

section
variable {l : List Nd} {b x : Int}
theorem rootL_par (T : Tree l) (h : thereB l b = true) (hp : (nd l b).parent ≠ 0) : rootL l b = rootL l (nd l b).parent := by
  have hpt := (T.par _ h hp).1
  unfold rootL
  rw [parL_step T h]
  exact lastL_suffix (List.suffix_cons _ _) (parL_ne T hpt)
theorem rootL_own (T : Tree l) (h : thereB l b = true) (hp : (nd l b).parent = 0) : rootL l b = b := by
  unfold rootL
  rw [parL_step T h, hp, parL_no (there_zero l)]
  rfl
/-- The way up is the way to the root, and then that of its host. -/
theorem over_split (T : Tree l) : ∀ (n : Nat) (b : Int), (parL l b).length ≤ n → thereB l b = true → over l b = parL l b ++ over l (nd l (rootL l b)).host
  | 0, b, hn, h => by
    rw [parL_step T h] at hn
    simp at hn
  | n + 1, b, hn, h => by
    by_cases hp : (nd l b).parent = 0
    · rw [rootL_own T h hp, over_step T h, parL_step T h, hp, parL_no (there_zero l)]
      have e : upOf l b = (nd l b).host := if_pos hp
      rw [e]
      rfl
    · have hpt := (T.par _ h hp).1
      rw [parL_step T h] at hn
      have ih := over_split T n (nd l b).parent (by simpa using hn) hpt
      have e : upOf l b = (nd l b).parent := if_neg hp
      rw [over_step T h, e, ih, ← rootL_par T h hp, parL_step T h, List.cons_append]
theorem over_whole (T : Tree l) (h : thereB l b = true) : over l b = parL l b ++ over l (nd l (rootL l b)).host := over_split T _ b (Nat.le_refl _) h
theorem over_none (h : thereB l b = false) : over l b = [] := over_end h
theorem over_short (T : Tree l) (b : Int) : (over l b).length ≤ l.length := up_short T.ends (l.length + 1) b
theorem over_less (T : Tree l) (h : thereB l b = true) : (over l (nd l (rootL l b)).host).length + 1 ≤ (over l b).length := by
  rw [over_whole T h, List.length_append, parL_step T h, List.length_cons]
  omega
theorem over_self (T : Tree l) (h : thereB l b = true) : b ∈ over l b := by
  rw [over_step T h]
  exact List.mem_cons_self
theorem hasB_yes {xs : List Int} (h : x ∈ xs) : hasB xs x = true := decide_eq_true h
theorem hasB_no {xs : List Int} (h : x ∉ xs) : hasB xs x = false := decide_eq_false h
theorem hasB_mem {xs : List Int} (h : hasB xs x = true) : x ∈ xs := of_decide_eq_true h
theorem hasB_not {xs : List Int} (h : hasB xs x = false) : x ∉ xs := of_decide_eq_false h
theorem over_hit (T : Tree l) (h : hasB (parL l b) x = true) : hasB (over l b) x = true := by
  have hm := hasB_mem h
  have ht : thereB l b = true := by
    cases hq : thereB l b with
    | true => rfl
    | false => rw [parL_no hq] at hm; cases hm
  rw [over_whole T ht]
  exact hasB_yes (List.mem_append_left _ hm)
theorem over_miss (T : Tree l) (ht : thereB l b = true) (h : hasB (parL l b) x = false) : hasB (over l b) x = hasB (over l (nd l (rootL l b)).host) x := by
  have hm := hasB_not h
  rw [over_whole T ht]
  unfold hasB
  simp [hm]

/-- How many Elements come with a node. -/
def moreL (l : List Nd) (n : Int) : Nat := if (nd l n).kind = 4 then cntL l 2 (kidsL l n) else 1
/-- One Element too many. -/
def crowdB (l : List Nd) (n p : Int) : Bool := decide (1 < moreL l n ∨ (moreL l n = 1 ∧ 0 < cntL l 2 (kidsL l p)))
/-- Check: the error's number. -/
def chkErr (l : List Nd) (n p c : Int) : Int :=
  if thereB l n = false ∨ thereB l p = false ∨ (c ≠ 0 ∧ thereB l c = false) then 1
  else if hasB (over l p) n = true then 3
  else if c ≠ 0 ∧ (nd l c).parent ≠ p then 4
  else if (nd l n).kind = 1 ∨ (nd l n).kind = 3 then 3
  else if (nd l p).kind = 1 ∧ crowdB l n p = true then 3
  else 0
theorem cntL_few {l : List Nd} (h : Few 200 l) (kind id : Int) : cntL l kind (kidsL l id) ≤ 200 := by
  refine Nat.le_trans (cntL_le _ _ _) ?_
  unfold kidsL
  split
  · exact few_nd h id
  · exact Nat.zero_le _
end
end Go.Proofs.Ytekmgaigppenlaa

namespace Go.Proofs.Ytekmgaigppenlaa
open Go

section
variable {l : List Nd} {i j x y a b : Int}
/-- The way up from one on a way up is its end. -/
theorem over_tail (T : Tree l) : ∀ (m : Nat) (i : Int), (over l i).length ≤ m → ∀ x, x ∈ over l i → over l x <:+ over l i
  | 0, i, hm, x, h => by
    have : over l i = [] := List.length_eq_zero_iff.1 (by omega)
    rw [this] at h
    cases h
  | m + 1, i, hm, x, h => by
    cases ht : thereB l i with
    | false => rw [over_none ht] at h; cases h
    | true =>
      have e := over_step T ht
      rw [e] at h
      rcases List.mem_cons.1 h with rfl | h
      · exact List.suffix_refl _
      · rw [e] at hm
        rw [e]
        exact (over_tail T m _ (by simpa using hm) x h).trans (List.suffix_cons _ _)
theorem over_suffix (T : Tree l) (h : x ∈ over l i) : over l x <:+ over l i := over_tail T _ i (Nat.le_refl _) x h
theorem over_trans (T : Tree l) (h : x ∈ over l i) (h' : y ∈ over l x) : y ∈ over l i := (over_suffix T h).subset h'
theorem over_in (h : x ∈ over l i) : thereB l x = true := up_there _ i x h
theorem over_from (h : x ∈ over l i) : thereB l i = true := by
  cases ht : thereB l i with
  | true => rfl
  | false => rw [over_none ht] at h; cases h
/-- Two that are above one another are one. -/
theorem over_both (T : Tree l) (h : x ∈ over l y) (h' : y ∈ over l x) : x = y := by
  have h1 := over_suffix T h
  have h2 := over_suffix T h'
  have e : over l x = over l y := h1.eq_of_length (Nat.le_antisymm h1.length_le h2.length_le)
  rw [over_step T (over_in h), over_step T (over_in h')] at e
  exact (List.cons.inj e).1
theorem over_ne (T : Tree l) (h : thereB l i = true) : over l i ≠ [] := by
  rw [over_step T h]
  simp

/-- The host of the tree that a node is in; 0: none. -/
def hostL (l : List Nd) (i : Int) : Int := if thereB l i = true then (nd l (rootL l i)).host else 0
theorem hostL_at (h : thereB l i = true) : hostL l i = (nd l (rootL l i)).host := if_pos h
theorem hostL_no (h : thereB l i = false) : hostL l i = 0 := if_neg (by rw [h]; decide)
theorem hostL_there (T : Tree l) (h : hostL l i ≠ 0) : thereB l (hostL l i) = true := by
  cases ht : thereB l i with
  | false => exact absurd (hostL_no ht) h
  | true =>
    rw [hostL_at ht] at h ⊢
    exact (T.host _ (rootL_there T ht) h).2
theorem over_host (T : Tree l) (h : thereB l i = true) : over l i = parL l i ++ over l (hostL l i) := by
  rw [hostL_at h]
  exact over_whole T h
theorem host_less (T : Tree l) (h : thereB l i = true) : (over l (hostL l i)).length + 1 ≤ (over l i).length := by
  rw [hostL_at h]
  exact over_less T h
theorem root_self (T : Tree l) (h : thereB l i = true) : rootL l (rootL l i) = rootL l i := rootL_own T (rootL_there T h) (rootL_bare T h)
theorem over_root (T : Tree l) (h : thereB l i = true) : over l (rootL l i) = rootL l i :: over l (hostL l i) := by
  have hr := rootL_there T h
  rw [over_host T hr, parL_root T h, hostL_at hr, root_self T h, hostL_at h]
  rfl
theorem root_over (T : Tree l) (h : thereB l i = true) : rootL l i ∈ over l i := by
  rw [over_host T h]
  exact List.mem_append_left _ (rootL_mem T h)

/-- What stands for a node in each of the trees around it. -/
def arN (l : List Nd) : Nat → Int → List Int
  | 0, _ => []
  | n + 1, i => if thereB l i then i :: arN l n (hostL l i) else []
def arL (l : List Nd) (i : Int) : List Int := arN l l.length i
theorem ar_go {n : Nat} (h : thereB l i = true) : arN l (n + 1) i = i :: arN l n (hostL l i) := by rw [arN, if_pos h]
theorem ar_no {n : Nat} (h : thereB l i = false) : arN l n i = [] := by
  cases n with
  | zero => rfl
  | succ n => rw [arN, if_neg (by rw [h]; decide)]
theorem ar_len : ∀ (n : Nat) (i : Int), (arN l n i).length ≤ n
  | 0, _ => Nat.le_refl 0
  | n + 1, i => by
    cases ht : thereB l i with
    | false => rw [ar_no ht]; exact Nat.zero_le _
    | true =>
      rw [ar_go ht]
      have := ar_len n (hostL l i)
      simpa using this
theorem ar_stay (T : Tree l) : ∀ (n m : Nat) (i : Int), (over l i).length ≤ n → (over l i).length ≤ m → arN l n i = arN l m i
  | n, m, i, hn, hm => by
    cases ht : thereB l i with
    | false => rw [ar_no ht, ar_no ht]
    | true =>
      have h1 := host_less T ht
      obtain ⟨n, rfl⟩ : ∃ k, n = k + 1 := ⟨n - 1, by omega⟩
      obtain ⟨m, rfl⟩ : ∃ k, m = k + 1 := ⟨m - 1, by omega⟩
      rw [ar_go ht, ar_go ht, ar_stay T n m (hostL l i) (by omega) (by omega)]
termination_by n => n
theorem arL_no (h : thereB l i = false) : arL l i = [] := ar_no h
theorem arL_step (T : Tree l) (h : thereB l i = true) : arL l i = i :: arL l (hostL l i) := by
  have h1 := host_less T h
  have h2 := over_short T i
  unfold arL
  obtain ⟨n, hn⟩ : ∃ k, l.length = k + 1 := ⟨l.length - 1, by omega⟩
  rw [hn, ar_go h, ar_stay T n (n + 1) (hostL l i) (by omega) (by omega)]
theorem arL_len (l : List Nd) (i : Int) : (arL l i).length ≤ l.length := ar_len _ _
/-- Going from tree to tree. -/
theorem trees (T : Tree l) {P : Int → Prop} (no : ∀ i, thereB l i = false → P i) (go : ∀ i, thereB l i = true → P (hostL l i) → P i) : ∀ i, P i := by
  have : ∀ (n : Nat) (i : Int), (over l i).length ≤ n → P i := by
    intro n
    induction n with
    | zero =>
      intro i hn
      refine no i ?_
      cases ht : thereB l i with
      | false => rfl
      | true => exact absurd (List.length_eq_zero_iff.1 (Nat.le_zero.1 hn)) (over_ne T ht)
    | succ n ih =>
      intro i hn
      cases ht : thereB l i with
      | false => exact no i ht
      | true =>
        have := host_less T ht
        exact go i ht (ih _ (by omega))
  exact fun i => this _ i (Nat.le_refl _)
theorem arL_there (T : Tree l) : ∀ i, ∀ x ∈ arL l i, thereB l x = true :=
  trees T (fun i h x hx => by rw [arL_no h] at hx; cases hx) fun i h ih x hx => by
    rw [arL_step T h] at hx
    rcases List.mem_cons.1 hx with rfl | hx
    · exact h
    · exact ih x hx

/-- The shadow-including root. -/
def wholeL (l : List Nd) (i : Int) : Int := lastL (over l i)
theorem whole_no (h : thereB l i = false) : wholeL l i = 0 := by
  unfold wholeL
  rw [over_none h]
  rfl
theorem whole_end (T : Tree l) (h : thereB l i = true) (h0 : hostL l i = 0) : wholeL l i = rootL l i := by
  unfold wholeL
  rw [over_host T h, h0, over_zero, List.append_nil]
  rfl
theorem whole_go (T : Tree l) (h0 : hostL l i ≠ 0) : wholeL l i = wholeL l (hostL l i) := by
  have ht : thereB l i = true := by
    cases ht : thereB l i with
    | true => rfl
    | false => exact absurd (hostL_no ht) h0
  unfold wholeL
  rw [over_host T ht]
  exact lastL_suffix (List.suffix_append _ _) (over_ne T (hostL_there T h0))
theorem whole_mem (T : Tree l) (h : thereB l i = true) : wholeL l i ∈ over l i := lastL_mem (over_ne T h)
theorem whole_own (T : Tree l) (h : thereB l i = true) : wholeL l (wholeL l i) = wholeL l i := by
  have hm := whole_mem T h
  have := lastL_suffix (over_suffix T hm) (over_ne T (over_in hm))
  exact this.symm
/-- The last of those around tells it. -/
theorem whole_ar (T : Tree l) : ∀ i, rootL l (lastL (arL l i)) = wholeL l i :=
  trees T (fun i h => by rw [arL_no h, whole_no h]; exact rootL_no (there_zero l)) fun i h ih => by
    rw [arL_step T h]
    by_cases h0 : hostL l i = 0
    · rw [whole_end T h h0, h0, arL_no (there_zero l)]
      rfl
    · rw [whole_go T h0, ← ih]
      have hne : arL l (hostL l i) ≠ [] := by rw [arL_step T (hostL_there T h0)]; simp
      rw [lastL_suffix (List.suffix_cons _ _) hne]

/-- Some one of those around has it above. -/
def anyUp (l : List Nd) (a : Int) (xs : List Int) : Bool := xs.any fun i => hasB (parL l i) a
theorem any_ar (T : Tree l) (a : Int) : ∀ i, anyUp l a (arL l i) = hasB (over l i) a :=
  trees T (fun i h => by rw [arL_no h, over_none h]; rfl) fun i h ih => by
    unfold anyUp at ih ⊢
    rw [arL_step T h, List.any_cons, ih]
    cases hp : hasB (parL l i) a with
    | true => rw [over_hit T hp]; rfl
    | false => rw [over_miss T h hp, hostL_at h]; rfl

/-- The closed roots around. -/
def shut (l : List Nd) (i : Int) : Bool := decide ((nd l (rootL l i)).mode = 2)
def clsOf (l : List Nd) (xs : List Int) : List Int := (xs.filter (shut l)).map (rootL l)
def clsL (l : List Nd) (i : Int) : List Int := clsOf l (arL l i)
theorem cls_yes {xs : List Int} (h : (nd l (rootL l i)).mode = 2) : clsOf l (i :: xs) = rootL l i :: clsOf l xs := by
  unfold clsOf
  rw [List.filter_cons_of_pos (by simpa [shut] using h), List.map_cons]
theorem cls_not {xs : List Int} (h : (nd l (rootL l i)).mode ≠ 2) : clsOf l (i :: xs) = clsOf l xs := by
  unfold clsOf
  rw [List.filter_cons_of_neg (by simpa [shut] using h)]
theorem cls_append (xs ys : List Int) : clsOf l (xs ++ ys) = clsOf l xs ++ clsOf l ys := by
  unfold clsOf
  rw [List.filter_append, List.map_append]
theorem cls_le (xs : List Int) : (clsOf l xs).length ≤ xs.length := by
  unfold clsOf
  rw [List.length_map]
  exact List.length_filter_le _ _
theorem clsL_no (h : thereB l i = false) : clsL l i = [] := by
  unfold clsL
  rw [arL_no h]
  rfl
theorem clsL_yes (T : Tree l) (h : thereB l i = true) (hm : (nd l (rootL l i)).mode = 2) : clsL l i = rootL l i :: clsL l (hostL l i) := by
  unfold clsL
  rw [arL_step T h, cls_yes hm]
theorem clsL_not (T : Tree l) (h : thereB l i = true) (hm : (nd l (rootL l i)).mode ≠ 2) : clsL l i = clsL l (hostL l i) := by
  unfold clsL
  rw [arL_step T h, cls_not hm]
theorem clsL_len (l : List Nd) (i : Int) : (clsL l i).length ≤ l.length := Nat.le_trans (cls_le _) (arL_len l i)
/-- A closed root around holds the node's root. -/
theorem cls_root (T : Tree l) : ∀ i, ∀ c ∈ clsL l i, c ∈ over l (rootL l i) :=
  trees T (fun i h c hc => by rw [clsL_no h] at hc; cases hc) fun i h ih c hc => by
    have up : c ∈ clsL l (hostL l i) → c ∈ over l (rootL l i) := fun hc => by
      have h1 := ih c hc
      have hh : thereB l (hostL l i) = true := by
        cases ht : thereB l (hostL l i) with
        | true => rfl
        | false => rw [clsL_no ht] at hc; cases hc
      rw [over_root T h]
      exact List.mem_cons_of_mem _ (over_trans T (root_over T hh) h1)
    by_cases hm : (nd l (rootL l i)).mode = 2
    · rw [clsL_yes T h hm] at hc
      rcases List.mem_cons.1 hc with rfl | hc
      · exact over_self T (rootL_there T h)
      · exact up hc
    · rw [clsL_not T h hm] at hc
      exact up hc
theorem cls_from {c : Int} (h : c ∈ clsL l i) : thereB l i = true := by
  cases ht : thereB l i with
  | true => rfl
  | false => rw [clsL_no ht] at h; cases h
theorem cls_over (T : Tree l) {c : Int} (h : c ∈ clsL l i) : c ∈ over l i := over_trans T (root_over T (cls_from h)) (cls_root T i c h)
theorem cls_there (T : Tree l) {c : Int} (h : c ∈ clsL l i) : thereB l c = true := over_in (cls_over T h)

/-- Is a hidden from b? The innermost closed root tells it. -/
def hidOf (l : List Nd) (cs : List Int) (b : Int) : Bool :=
  match cs with
  | [] => false
  | c :: _ => decide ((nd l c).host ≠ 0) && !hasB (over l b) c
def hidL (l : List Nd) (a b : Int) : Bool := thereB l b && hidOf l (clsL l a) b
theorem hid_noB (h : thereB l b = false) : hidL l a b = false := by unfold hidL; rw [h]; rfl
theorem hid_noA (h : thereB l a = false) : hidL l a b = false := by
  unfold hidL
  rw [clsL_no h]
  exact Bool.and_false _
theorem hid_none (h : clsL l a = []) : hidL l a b = false := by
  unfold hidL
  rw [h]
  exact Bool.and_false _
/-- What holds b hides nothing of what is in its tree. -/
theorem hid_held (T : Tree l) (h : rootL l a ∈ over l b) : hidL l a b = false := by
  unfold hidL
  cases hc : clsL l a with
  | nil => exact Bool.and_false _
  | cons c r =>
    have h1 := over_trans T h (cls_root T a c (by rw [hc]; exact List.mem_cons_self))
    show (_ && (_ && !hasB (over l b) c)) = false
    rw [hasB_yes h1]
    simp
theorem hid_end (T : Tree l) (h : hostL l a = 0) : hidL l a b = false := by
  cases ht : thereB l a with
  | false => exact hid_noA ht
  | true =>
    by_cases hm : (nd l (rootL l a)).mode = 2
    · unfold hidL
      rw [clsL_yes T ht hm]
      rw [hostL_at ht] at h
      show (_ && (decide ((nd l (rootL l a)).host ≠ 0) && _)) = false
      rw [h]
      simp
    · refine hid_none ?_
      rw [clsL_not T ht hm, h, clsL_no (there_zero l)]
theorem hid_shut (T : Tree l) (hb : thereB l b = true) (h : hostL l a ≠ 0) (hn : rootL l a ∉ over l b) (hm : (nd l (rootL l a)).mode = 2) : hidL l a b = true := by
  have ht : thereB l a = true := by
    cases ht : thereB l a with
    | true => rfl
    | false => exact absurd (hostL_no ht) h
  unfold hidL
  rw [clsL_yes T ht hm, hb]
  rw [hostL_at ht] at h
  show (true && (decide ((nd l (rootL l a)).host ≠ 0) && !hasB (over l b) (rootL l a))) = true
  rw [hasB_no hn, decide_eq_true h]
  rfl
theorem hid_next (T : Tree l) (h : hostL l a ≠ 0) (hm : (nd l (rootL l a)).mode ≠ 2) : hidL l a b = hidL l (hostL l a) b := by
  have ht : thereB l a = true := by
    cases ht : thereB l a with
    | true => rfl
    | false => exact absurd (hostL_no ht) h
  unfold hidL
  rw [clsL_not T ht hm]
theorem hid_self (T : Tree l) : hidL l a a = false := by
  cases ht : thereB l a with
  | false => exact hid_noA ht
  | true => exact hid_held T (root_over T ht)
/-- What is hidden lies in a closed tree that doesn't hold the other one. -/
def someOut (l : List Nd) (b : Int) (cs : List Int) : Bool := cs.any fun c => !hasB (over l b) c
theorem hid_some (h : hidL l a b = true) : someOut l b (clsL l a) = true := by
  unfold hidL at h
  unfold someOut
  cases hc : clsL l a with
  | nil => rw [hc] at h; simp [hidOf] at h
  | cons c r =>
    rw [hc] at h
    simp only [hidOf, Bool.and_eq_true] at h
    rw [List.any_cons, h.2.2]
    rfl
theorem someOut_step {b : Int} {cs : List Int} {k : Nat} (hk : k < cs.length) : someOut l b (cs.take (k + 1)) = (someOut l b (cs.take k) || !hasB (over l b) cs[k]) := by
  unfold someOut
  rw [List.take_add_one, List.getElem?_eq_getElem hk, Option.toList_some, List.any_append, List.any_cons, List.any_nil, Bool.or_false]
end

/-- Only shadow roots have a mode. -/
def Moded (l : List Nd) : Prop := ∀ d ∈ l, d.mode ≠ 0 → d.kind = 3
theorem moded_mod {l : List Nd} {id : Int} {f : Nd → Nd} (h : Moded l) (hf : ∀ d, (f d).mode = d.mode ∧ (f d).kind = d.kind) : Moded (modN l id f) := by
  intro d hd
  rcases List.mem_or_eq_of_mem_set hd with hd | rfl
  · exact h d hd
  · rw [(hf _).1, (hf _).2]
    unfold nd
    rw [List.getD_eq_getElem?_getD]
    cases e : l[(id - 1).toNat]? with
    | none => exact fun h0 => absurd rfl h0
    | some d => exact h d (List.mem_of_getElem? e)
theorem moded_toPar {p : Int} : ∀ (kids : List Int) {l : List Nd}, Moded l → Moded (toPar l p kids)
  | [], _, h => h
  | k :: r, l, h => by
    show Moded (toPar (modN l k _) p r)
    exact moded_toPar r (moded_mod h fun _ => ⟨rfl, rfl⟩)
theorem moded_clr {l : List Nd} {p : Int} (h : Moded l) : Moded (clr l p) := by
  intro d hd
  obtain ⟨d', hd', rfl⟩ := List.mem_map.1 hd
  split <;> exact h d' hd'
theorem mkErr_moded {n : Nat} {d : Nd} (h : mkErr n d = 0) : d.mode ≠ 0 → d.kind = 3 := by
  unfold mkErr at h
  split at h
  · cases h
  · split at h
    · cases h
    · rename_i h2
      intro hm
      refine Decidable.byContradiction fun hk => h2 (.inr ⟨hk, hm⟩)
theorem moded_mk {l : List Nd} {d : Nd} (h : Moded l) : Moded (mkL l d) := by
  unfold mkL
  split
  · rename_i h0
    intro x hx
    rcases List.mem_append.1 hx with hx | hx
    · exact h x hx
    · obtain rfl := List.mem_singleton.1 hx
      exact mkErr_moded h0
  · exact h
theorem moded_act {l : List Nd} {x : Ac} (h : Moded l) : Moded (actL l x) := by
  unfold actL
  split
  · exact moded_mk h
  · split
    · unfold putL
      split
      · exact moded_mod (moded_toPar _ (moded_clr h)) fun _ => ⟨rfl, rfl⟩
      · exact h
    · split
      · unfold tieL
        split
        · exact moded_mod (moded_mod h fun _ => ⟨rfl, rfl⟩) fun _ => ⟨rfl, rfl⟩
        · exact h
      · split
        · unfold nameL
          split
          · exact moded_mod h fun _ => ⟨rfl, rfl⟩
          · exact h
        · split
          · unfold wantL
            split
            · exact moded_mod h fun _ => ⟨rfl, rfl⟩
            · exact h
          · exact h
theorem moded_forest (acts : List Ac) : Moded (forest acts) := by
  have : ∀ (acts : List Ac) (l : List Nd), Moded l → Moded (acts.foldl actL l) := by
    intro acts
    induction acts with
    | nil => intro l T; exact T
    | cons x r ih => intro l T; exact ih _ (moded_act T)
  exact this acts [] fun d hd => absurd hd (by simp)
theorem moded_nd {l : List Nd} {i : Int} (h : Moded l) (hm : (nd l i).mode = 2) : (nd l i).kind = 3 := by
  unfold nd at hm ⊢
  rw [List.getD_eq_getElem?_getD] at hm ⊢
  cases e : l[(i - 1).toNat]? with
  | none => rw [e] at hm; cases hm
  | some d =>
    rw [e] at hm
    exact h d (List.mem_of_getElem? e) (by rw [show d.mode = 2 from hm]; decide)

/-- Attach: the node that is made, the error's number, the number, and the nodes. -/
def shadeNd (m : Int) : Nd := ⟨3, 0, 0, 0, m, false, ⟨#[]⟩, ⟨#[]⟩, []⟩
def attNo (l : List Nd) (h m : Int) : Int :=
  if thereB l h = false ∨ (m ≠ 1 ∧ m ≠ 2) then 0 else if (nd l h).kind ≠ 2 ∨ (nd l h).shadow ≠ 0 then 0 else mkNo l (shadeNd m)
def attErr (l : List Nd) (h m : Int) : Int :=
  if thereB l h = false ∨ (m ≠ 1 ∧ m ≠ 2) then 1 else if (nd l h).kind ≠ 2 ∨ (nd l h).shadow ≠ 0 then 5
  else if mkErr l.length (shadeNd m) = 0 then tieErr (mkL l (shadeNd m)) h (mkNo l (shadeNd m)) else mkErr l.length (shadeNd m)
def attL (l : List Nd) (h m : Int) : List Nd :=
  if thereB l h = false ∨ (m ≠ 1 ∧ m ≠ 2) then l else if (nd l h).kind ≠ 2 ∨ (nd l h).shadow ≠ 0 then l
  else if mkErr l.length (shadeNd m) = 0 then tieL (mkL l (shadeNd m)) h (mkNo l (shadeNd m)) else l
end Go.Proofs.Ytekmgaigppenlaa

namespace Go.Proofs.Ytekmgaigppenlaa
open Go

/-- The children, and the shadow root, of what is there; else none. -/
def kidsOf (l : List Nd) (i : Int) : List Int := if thereB l i = true then (nd l i).kids else []
def shOf (l : List Nd) (i : Int) : Int := if thereB l i = true then (nd l i).shadow else 0
/-- Slots in tree order. -/
def slotsL (l : List Nd) (r : Int) : List Int := (ordL l r).filter fun x => (nd l x).slot
def namedL (l : List Nd) (n : ByteArray) (xs : List Int) : List Int := xs.filter fun s => (nd l s).name.toList == n.toList
/-- The first one of a list; 0: there is none. -/
def headL (xs : List Int) : Int := xs.headD 0
/-- The slot of a node. -/
def ofL (l : List Nd) (i : Int) : Int := if thereB l i = true ∧ (nd l i).kind = 2 then headL (namedL l (nd l i).want (slotsL l (shOf l (nd l i).parent))) else 0
def asgOf (l : List Nd) (s : Int) (xs : List Int) : List Int := xs.filter fun k => decide (ofL l k = s)
def asgL (l : List Nd) (s : Int) : List Int := asgOf l s (kidsOf l (hostL l s))
/-- A slot in a shadow tree. -/
def upB (l : List Nd) (i : Int) : Bool := thereB l i && ((nd l i).slot && decide ((nd l (rootL l i)).kind = 3))
def elsOf (l : List Nd) (xs : List Int) : List Int := xs.filter fun k => decide ((nd l k).kind = 2)
/-- What a slot shows. -/
def conL (l : List Nd) (s : Int) : List Int := if asgL l s = [] then elsOf l (kidsOf l s) else asgL l s
/-- How far it is to the outermost tree, and down. -/
def rkL (l : List Nd) (s : Int) : Nat := (arL l s).length * (l.length + 1) + (l.length - (parL l s).length)
def flatN (l : List Nd) : Nat → Int → List Int
  | 0, _ => []
  | n + 1, s => if upB l s = true then (conL l s).flatMap fun c => if upB l c = true then flatN l n c else [c] else []
def flatL (l : List Nd) (s : Int) : List Int := flatN l (rkL l s + 1) s
def oneL (l : List Nd) (c : Int) : List Int := if upB l c = true then flatL l c else [c]
/-- The slots that are opened up on the way. -/
def visN (l : List Nd) : Nat → Int → List Int
  | 0, _ => []
  | n + 1, s => if upB l s = true then s :: (conL l s).flatMap (visN l n) else []
def visL (l : List Nd) (s : Int) : List Int := visN l (rkL l s + 1) s

theorem headL_mem {xs : List Int} (h : headL xs ≠ 0) : headL xs ∈ xs := by
  cases xs with
  | nil => exact absurd rfl h
  | cons x r => exact List.mem_cons_self
section
variable {l : List Nd} {i j x y a b s k p : Int}
theorem kidsOf_at (h : thereB l i = true) : kidsOf l i = (nd l i).kids := if_pos h
theorem kidsOf_no (h : thereB l i = false) : kidsOf l i = [] := if_neg (by rw [h]; decide)
theorem kidsOf_mem (h : k ∈ kidsOf l i) : thereB l i = true ∧ k ∈ (nd l i).kids := by
  cases ht : thereB l i with
  | false => rw [kidsOf_no ht] at h; cases h
  | true => rw [kidsOf_at ht] at h; exact ⟨rfl, h⟩
theorem shOf_at (h : thereB l i = true) : shOf l i = (nd l i).shadow := if_pos h
theorem shOf_no (h : thereB l i = false) : shOf l i = 0 := if_neg (by rw [h]; decide)
theorem slotsL_no (h : thereB l i = false) : slotsL l i = [] := by unfold slotsL; rw [ordL_no h]; rfl
theorem ofL_no (h : thereB l i = false) : ofL l i = 0 := if_neg (by rw [h]; simp)
theorem ofL_kind (h : (nd l i).kind ≠ 2) : ofL l i = 0 := if_neg (by simp [h])
theorem ofL_at (h : thereB l i = true) (hk : (nd l i).kind = 2) : ofL l i = headL (namedL l (nd l i).want (slotsL l (shOf l (nd l i).parent))) := if_pos ⟨h, hk⟩
/-- Whose slot there is. -/
theorem of_what (T : Tree l) (h : ofL l i ≠ 0) : thereB l i = true ∧ (nd l i).kind = 2 ∧ thereB l (nd l i).parent = true ∧ i ∈ (nd l (nd l i).parent).kids ∧ thereB l (ofL l i) = true ∧ (nd l (ofL l i)).slot = true ∧ (nd l (rootL l (ofL l i))).kind = 3 ∧ hostL l (ofL l i) = (nd l i).parent := by
  have ht : thereB l i = true := by
    cases ht : thereB l i with
    | true => rfl
    | false => exact absurd (ofL_no ht) h
  have hk : (nd l i).kind = 2 := Decidable.byContradiction fun hk => h (ofL_kind hk)
  have hm : ofL l i ∈ namedL l (nd l i).want (slotsL l (shOf l (nd l i).parent)) := by
    rw [ofL_at ht hk] at h ⊢
    exact headL_mem h
  obtain ⟨hm, -⟩ := List.mem_filter.1 hm
  obtain ⟨hm, hsl⟩ := List.mem_filter.1 hm
  generalize ofL l i = s at *
  have hst := ordL_there T hm
  have hp : thereB l (nd l i).parent = true := by
    cases hp : thereB l (nd l i).parent with
    | true => rfl
    | false => rw [shOf_no hp, ordL_no (there_zero l)] at hm; cases hm
  rw [shOf_at hp] at hm
  have h0 : (nd l (nd l i).parent).shadow ≠ 0 := fun e => by rw [e, ordL_no (there_zero l)] at hm; cases hm
  obtain ⟨q1, q2, q3⟩ := T.shade _ hp h0
  have hb := T.bare _ q1 (.inr q3)
  have hr := rootL_own T q1 hb
  have hx : rootL l s = (nd l (nd l i).parent).shadow := by
    rw [rootL_of T q1 (by rw [hr]; exact (ordL_mem T).1 hm), hr]
  exact ⟨ht, hk, hp, (T.par i ht (there_pos hp)).2, hst, hsl, by rw [hx]; exact q3, by rw [hostL_at hst, hx]; exact q2⟩
theorem asg_mem : k ∈ asgL l s ↔ k ∈ kidsOf l (hostL l s) ∧ ofL l k = s := by
  unfold asgL asgOf
  rw [List.mem_filter, decide_eq_true_iff]
theorem asg_iff (T : Tree l) (hs : s ≠ 0) : i ∈ asgL l s ↔ ofL l i = s := by
  rw [asg_mem]
  refine ⟨fun h => h.2, fun h => ⟨?_, h⟩⟩
  subst h
  obtain ⟨_, _, h3, h4, _, _, _, h8⟩ := of_what T hs
  rw [h8, kidsOf_at h3]
  exact h4
theorem asg_what (h : k ∈ asgL l s) : thereB l s = true ∧ thereB l (hostL l s) = true ∧ k ∈ (nd l (hostL l s)).kids ∧ ofL l k = s := by
  obtain ⟨h1, h2⟩ := asg_mem.1 h
  obtain ⟨h3, h4⟩ := kidsOf_mem h1
  refine ⟨?_, h3, h4, h2⟩
  cases ht : thereB l s with
  | true => rfl
  | false => rw [hostL_no ht, there_zero] at h3; cases h3
theorem upB_what (h : upB l s = true) : thereB l s = true ∧ (nd l s).slot = true ∧ (nd l (rootL l s)).kind = 3 := by
  unfold upB at h
  simp only [Bool.and_eq_true, decide_eq_true_iff] at h
  exact h
theorem con_mem (h : k ∈ conL l s) : k ∈ asgL l s ∨ (thereB l s = true ∧ k ∈ (nd l s).kids ∧ (nd l k).kind = 2) := by
  unfold conL at h
  split at h
  · obtain ⟨h1, h2⟩ := List.mem_filter.1 h
    obtain ⟨h3, h4⟩ := kidsOf_mem h1
    exact .inr ⟨h3, h4, of_decide_eq_true h2⟩
  · exact .inl h
theorem con_kind (T : Tree l) (hs : s ≠ 0) (h : k ∈ conL l s) : thereB l k = true ∧ (nd l k).kind = 2 := by
  rcases con_mem h with h | ⟨h1, h2, h3⟩
  · have e := (asg_iff T hs).1 h
    have := of_what T (by rw [e]; exact hs)
    exact ⟨this.1, this.2.1⟩
  · exact ⟨(T.kid s h1 k h2).1, h3⟩
theorem kidsOf_once (T : Tree l) (i : Int) : (kidsOf l i).Nodup := by
  cases ht : thereB l i with
  | false => rw [kidsOf_no ht]; exact List.nodup_nil
  | true => rw [kidsOf_at ht]; exact T.once i ht
theorem con_once (T : Tree l) (s : Int) : (conL l s).Nodup := by
  unfold conL asgL
  split
  · exact (kidsOf_once T _).sublist List.filter_sublist
  · exact (kidsOf_once T _).sublist List.filter_sublist
/-- Those that are shown side by side are children of one node. -/
theorem con_kids (h : a ∈ conL l s) (h' : b ∈ conL l s) : ∃ p, thereB l p = true ∧ a ∈ (nd l p).kids ∧ b ∈ (nd l p).kids := by
  unfold conL at h h'
  split at h
  · rename_i e
    rw [if_pos e] at h'
    obtain ⟨q1, q2⟩ := kidsOf_mem (List.mem_filter.1 h).1
    obtain ⟨_, q3⟩ := kidsOf_mem (List.mem_filter.1 h').1
    exact ⟨_, q1, q2, q3⟩
  · rename_i e
    rw [if_neg e] at h'
    obtain ⟨q1, q2⟩ := kidsOf_mem (List.mem_filter.1 h).1
    obtain ⟨_, q3⟩ := kidsOf_mem (List.mem_filter.1 h').1
    exact ⟨_, q1, q2, q3⟩
theorem kid_root (T : Tree l) (h : thereB l p = true) (hk : k ∈ (nd l p).kids) : rootL l k = rootL l p := by
  refine rootL_of T h ?_
  rw [parL_kid T h hk]
  exact List.mem_cons_of_mem _ (rootL_mem T h)
theorem kid_host (T : Tree l) (h : thereB l p = true) (hk : k ∈ (nd l p).kids) : hostL l k = hostL l p := by
  rw [hostL_at (T.kid p h k hk).1, hostL_at h, kid_root T h hk]
theorem kid_ar (T : Tree l) (h : thereB l p = true) (hk : k ∈ (nd l p).kids) : (arL l k).length = (arL l p).length := by
  rw [arL_step T (T.kid p h k hk).1, arL_step T h, kid_host T h hk]
  rfl
theorem asg_ar (T : Tree l) (h : k ∈ asgL l s) : (arL l k).length + 1 = (arL l s).length := by
  obtain ⟨h1, h2, h3, _⟩ := asg_what h
  rw [kid_ar T h2 h3, arL_step T h1]
  rfl
theorem con_rk (T : Tree l) (h : k ∈ conL l s) : rkL l k < rkL l s := by
  unfold rkL
  rcases con_mem h with h | ⟨h1, h2, -⟩
  · rw [← asg_ar T h, Nat.add_mul]
    omega
  · have h3 := parL_len T k
    rw [kid_ar T h1 h2]
    rw [parL_kid T h1 h2] at h3 ⊢
    simp only [List.length_cons] at h3 ⊢
    omega
theorem flat_no {n : Nat} (h : upB l s = false) : flatN l n s = [] := by
  cases n with
  | zero => rfl
  | succ n => rw [flatN, if_neg (by rw [h]; decide)]
theorem flat_go {n : Nat} (h : upB l s = true) : flatN l (n + 1) s = (conL l s).flatMap fun c => if upB l c = true then flatN l n c else [c] := by rw [flatN, if_pos h]
theorem flat_stay (T : Tree l) : ∀ (n m : Nat) (s : Int), rkL l s < n → rkL l s < m → flatN l n s = flatN l m s
  | 0, _, _, h, _ => absurd h (Nat.not_lt_zero _)
  | _ + 1, 0, _, _, h => absurd h (Nat.not_lt_zero _)
  | n + 1, m + 1, s, hn, hm => by
    cases hu : upB l s with
    | false => rw [flat_no hu, flat_no hu]
    | true =>
      rw [flat_go hu, flat_go hu]
      refine flatMap_same _ fun c hc => ?_
      have := con_rk T hc
      split
      · exact flat_stay T n m c (by omega) (by omega)
      · rfl
theorem flatL_no (h : upB l s = false) : flatL l s = [] := flat_no h
theorem flatL_step (T : Tree l) (h : upB l s = true) : flatL l s = (conL l s).flatMap (oneL l) := by
  unfold flatL
  rw [flat_go h]
  refine flatMap_same _ fun c hc => ?_
  have := con_rk T hc
  unfold oneL flatL
  split
  · exact flat_stay T _ _ c (by omega) (by omega)
  · rfl
theorem oneL_up (h : upB l s = true) : oneL l s = flatL l s := if_pos h
theorem oneL_not (h : upB l s = false) : oneL l s = [s] := if_neg (by rw [h]; decide)
theorem vis_no {n : Nat} (h : upB l s = false) : visN l n s = [] := by
  cases n with
  | zero => rfl
  | succ n => rw [visN, if_neg (by rw [h]; decide)]
theorem vis_go {n : Nat} (h : upB l s = true) : visN l (n + 1) s = s :: (conL l s).flatMap (visN l n) := by rw [visN, if_pos h]
theorem vis_stay (T : Tree l) : ∀ (n m : Nat) (s : Int), rkL l s < n → rkL l s < m → visN l n s = visN l m s
  | 0, _, _, h, _ => absurd h (Nat.not_lt_zero _)
  | _ + 1, 0, _, _, h => absurd h (Nat.not_lt_zero _)
  | n + 1, m + 1, s, hn, hm => by
    cases hu : upB l s with
    | false => rw [vis_no hu, vis_no hu]
    | true =>
      rw [vis_go hu, vis_go hu]
      congr 1
      refine flatMap_same _ fun c hc => ?_
      have := con_rk T hc
      exact vis_stay T n m c (by omega) (by omega)
theorem visL_no (h : upB l s = false) : visL l s = [] := vis_no h
theorem visL_step (T : Tree l) (h : upB l s = true) : visL l s = s :: (conL l s).flatMap (visL l) := by
  unfold visL
  rw [vis_go h]
  congr 1
  refine flatMap_same _ fun c hc => ?_
  have := con_rk T hc
  exact vis_stay T _ _ c (by omega) (by omega)
theorem vis_up : ∀ (n : Nat) (s x : Int), x ∈ visN l n s → upB l x = true
  | 0, _, _, h => by cases h
  | n + 1, s, x, h => by
    cases hu : upB l s with
    | false => rw [vis_no hu] at h; cases h
    | true =>
      rw [vis_go hu] at h
      rcases List.mem_cons.1 h with rfl | h
      · exact hu
      · obtain ⟨c, -, hx⟩ := List.mem_flatMap.1 h
        exact vis_up n c x hx
theorem vis_rk (T : Tree l) : ∀ (n : Nat) (s x : Int), x ∈ visN l n s → rkL l x ≤ rkL l s
  | 0, _, _, h => by cases h
  | n + 1, s, x, h => by
    cases hu : upB l s with
    | false => rw [vis_no hu] at h; cases h
    | true =>
      rw [vis_go hu] at h
      rcases List.mem_cons.1 h with rfl | h
      · exact Nat.le_refl _
      · obtain ⟨c, hc, hx⟩ := List.mem_flatMap.1 h
        have h1 := vis_rk T n c x hx
        have h2 := con_rk T hc
        omega
theorem vis_ar (T : Tree l) : ∀ (n : Nat) (s x : Int), x ∈ visN l n s → (arL l x).length ≤ (arL l s).length
  | 0, _, _, h => by cases h
  | n + 1, s, x, h => by
    cases hu : upB l s with
    | false => rw [vis_no hu] at h; cases h
    | true =>
      rw [vis_go hu] at h
      rcases List.mem_cons.1 h with rfl | h
      · exact Nat.le_refl _
      · obtain ⟨c, hc, hx⟩ := List.mem_flatMap.1 h
        have h1 := vis_ar T n c x hx
        rcases con_mem hc with hc | ⟨q1, q2, -⟩
        · have := asg_ar T hc
          omega
        · rw [kid_ar T q1 q2] at h1
          exact h1
/-- What is opened up on the way from a slot lies below it, or is reached from a child of its host. -/
theorem vis_ways (T : Tree l) : ∀ (n : Nat) (s x : Int), x ∈ visN l n s → s ∈ parL l x ∨ ∃ k m, thereB l (hostL l s) = true ∧ k ∈ (nd l (hostL l s)).kids ∧ s ∈ parL l (ofL l k) ∧ x ∈ visN l m k
  | 0, _, _, h => by cases h
  | n + 1, s, x, h => by
    cases hu : upB l s with
    | false => rw [vis_no hu] at h; cases h
    | true =>
      rw [vis_go hu] at h
      rcases List.mem_cons.1 h with rfl | h
      · exact .inl (parL_self T (upB_what hu).1)
      · obtain ⟨c, hc, hx⟩ := List.mem_flatMap.1 h
        rcases con_mem hc with hc | ⟨q1, q2, -⟩
        · obtain ⟨h1, h2, h3, h4⟩ := asg_what hc
          exact .inr ⟨c, n, h2, h3, by rw [h4]; exact parL_self T h1, hx⟩
        · have up : ∀ y, c ∈ parL l y → s ∈ parL l y := fun y hy => parL_trans T hy (by rw [parL_kid T q1 q2]; exact List.mem_cons_of_mem _ (parL_self T q1))
          rcases vis_ways T n c x hx with h | ⟨k, m, h1, h2, h3, h4⟩
          · exact .inl (up x h)
          · rw [kid_host T q1 q2] at h1 h2
            exact .inr ⟨k, m, h1, h2, up _ h3, h4⟩
theorem par_cmp (T : Tree l) (ha : a ∈ parL l x) (hb : b ∈ parL l x) : a ∈ parL l b ∨ b ∈ parL l a := by
  rcases List.suffix_or_suffix_of_suffix (parL_suffix T ha) (parL_suffix T hb) with h | h
  · exact .inl (h.subset (parL_self T (parL_there ha)))
  · exact .inr (h.subset (parL_self T (parL_there hb)))
theorem kid_apart (T : Tree l) (hp : thereB l p = true) (ha : a ∈ (nd l p).kids) (hb : b ∈ (nd l p).kids) (hab : a ≠ b) : a ∉ parL l b := by
  intro h
  rw [parL_kid T hp hb] at h
  rcases List.mem_cons.1 h with h | h
  · exact hab h
  · have := parL_once T a
    rw [parL_kid T hp ha] at this
    exact (List.nodup_cons.1 this).1 h
/-- From two of which neither is above the other one nothing is reached from both. -/
theorem vis_apart (T : Tree l) : ∀ i, ∀ a b n m x, thereB l a = true → thereB l b = true → rootL l a = rootL l i → rootL l b = rootL l i → thereB l i = true → a ∉ parL l b → b ∉ parL l a → x ∈ visN l n a → x ∈ visN l m b → False :=
  trees T (fun i h a b n m x _ _ _ _ hi => by rw [h] at hi; cases hi) fun i hi ih a b n m x ta tb ra rb _ hab hba hxa hxb => by
    have ea : hostL l a = hostL l i := by rw [hostL_at ta, hostL_at hi, ra]
    have eb : hostL l b = hostL l i := by rw [hostL_at tb, hostL_at hi, rb]
    have la : (arL l a).length = (arL l b).length := by rw [arL_step T ta, arL_step T tb, ea, eb]; rfl
    rcases vis_ways T n a x hxa with h1 | ⟨k, m1, p1, p2, p3, p4⟩
    · rcases vis_ways T m b x hxb with h2 | ⟨k', m2, q1, q2, q3, q4⟩
      · rcases par_cmp T h1 h2 with h | h
        · exact hab h
        · exact hba h
      · have h3 := vis_ar T m2 k' x q4
        rw [kid_ar T q1 q2] at h3
        have hx : rootL l x = rootL l a := rootL_of T ta (parL_trans T h1 (rootL_mem T ta))
        have tx : thereB l x = true := (upB_what (vis_up _ _ _ hxa)).1
        have h4 : (arL l x).length = (arL l b).length := by
          rw [arL_step T tx, arL_step T tb, hostL_at tx, hx, ← hostL_at ta, ea, eb]
          rfl
        have h5 : (arL l b).length = (arL l (hostL l b)).length + 1 := by rw [arL_step T tb]; rfl
        omega
    · rcases vis_ways T m b x hxb with h2 | ⟨k', m2, q1, q2, q3, q4⟩
      · have h3 := vis_ar T m1 k x p4
        rw [kid_ar T p1 p2] at h3
        have hx : rootL l x = rootL l b := rootL_of T tb (parL_trans T h2 (rootL_mem T tb))
        have tx : thereB l x = true := (upB_what (vis_up _ _ _ hxa)).1
        have h4 : (arL l x).length = (arL l a).length := by
          rw [arL_step T tx, arL_step T ta, hostL_at tx, hx, ← hostL_at tb, ea, eb]
          rfl
        have h5 : (arL l a).length = (arL l (hostL l a)).length + 1 := by rw [arL_step T ta]; rfl
        omega
      · rw [ea] at p1 p2
        rw [eb] at q1 q2
        by_cases hk : k = k'
        · subst hk
          rcases par_cmp T p3 q3 with h | h
          · exact hab h
          · exact hba h
        · exact ih k k' m1 m2 x (T.kid _ p1 k p2).1 (T.kid _ p1 k' q2).1 (kid_root T p1 p2) (kid_root T p1 q2) p1 (kid_apart T p1 p2 q2 hk) (kid_apart T p1 q2 p2 (Ne.symm hk)) p4 q4
theorem vis_once (T : Tree l) : ∀ (n : Nat) (s : Int), (visN l n s).Nodup
  | 0, _ => List.nodup_nil
  | n + 1, s => by
    cases hu : upB l s with
    | false => rw [vis_no hu]; exact List.nodup_nil
    | true =>
      rw [vis_go hu, List.nodup_cons]
      refine ⟨fun h => ?_, flatMap_nodup _ (con_once T s) (fun k _ => vis_once T n k) fun a ha b hb x hxa hxb => ?_⟩
      · obtain ⟨c, hc, hx⟩ := List.mem_flatMap.1 h
        have h1 := vis_rk T n c s hx
        have h2 := con_rk T hc
        omega
      · refine Decidable.byContradiction fun hab => ?_
        obtain ⟨p, hp, pa, pb⟩ := con_kids ha hb
        exact vis_apart T p a b n n x (T.kid p hp a pa).1 (T.kid p hp b pb).1 (kid_root T hp pa) (kid_root T hp pb) hp (kid_apart T hp pa pb hab) (kid_apart T hp pb pa (Ne.symm hab)) hxa hxb
theorem visL_len (T : Tree l) (s : Int) : (visL l s).length ≤ l.length := by
  have h := pigeon l.length ((visL l s).map fun x => (x - 1).toNat) (by
    refine List.pairwise_map.2 ((vis_once T _ s).imp_of_mem fun {a b} ha hb hab e => hab ?_)
    have h1 := thereB_iff.1 (upB_what (vis_up _ _ _ ha)).1
    have h2 := thereB_iff.1 (upB_what (vis_up _ _ _ hb)).1
    omega) fun y hy => by
      obtain ⟨x, hx, rfl⟩ := List.mem_map.1 hy
      exact there_lt (upB_what (vis_up _ _ _ hx)).1
  simpa using h
theorem few_kids {K : Nat} (h : Few K l) (i : Int) : (nd l i).kids.length ≤ K := by
  unfold nd
  rw [List.getD_eq_getElem?_getD]
  cases e : l[(i - 1).toNat]? with
  | none => exact Nat.zero_le _
  | some d => exact h d (List.mem_of_getElem? e)
theorem kidsOf_len {K : Nat} (h : Few K l) (i : Int) : (kidsOf l i).length ≤ K := by
  unfold kidsOf
  split
  · exact few_kids h i
  · exact Nat.zero_le _
theorem con_len {K : Nat} (h : Few K l) (s : Int) : (conL l s).length ≤ K := by
  unfold conL
  split
  · exact Nat.le_trans (List.length_filter_le _ _) (kidsOf_len h _)
  · exact Nat.le_trans (List.length_filter_le _ _) (kidsOf_len h _)
theorem flat_sum {f g : Int → List Int} {K : Nat} : ∀ (xs : List Int), (∀ x ∈ xs, (f x).length ≤ 1 + K * (g x).length) → (xs.flatMap f).length ≤ xs.length + K * (xs.flatMap g).length
  | [], _ => by simp
  | x :: r, h => by
    have h1 := h x (by simp)
    have h2 := flat_sum r fun y hy => h y (by simp [hy])
    simp only [List.flatMap_cons, List.length_append, List.length_cons, Nat.mul_add]
    omega
theorem flat_vis {K : Nat} (hf : Few K l) : ∀ (n : Nat) (s : Int), (flatN l n s).length ≤ K * (visN l n s).length
  | 0, _ => Nat.zero_le _
  | n + 1, s => by
    cases hu : upB l s with
    | false => rw [flat_no hu]; exact Nat.zero_le _
    | true =>
      rw [flat_go hu, vis_go hu]
      have h1 := flat_sum (f := fun c => if upB l c = true then flatN l n c else [c]) (g := visN l n) (K := K) (conL l s) fun x _ => by
        split
        · have := flat_vis hf n x
          omega
        · simp
      have h2 := con_len hf s
      simp only [List.length_cons, Nat.mul_add]
      omega
theorem flatL_len (T : Tree l) (hl : l.length ≤ 128) (hf : Few 200 l) (s : Int) : (flatL l s).length ≤ 25600 := by
  have h1 := flat_vis hf (rkL l s + 1) s
  have h2 := visL_len T s
  unfold visL at h2
  unfold flatL
  omega
/-- What is shown at last. -/
theorem flat_what (T : Tree l) : ∀ (n : Nat) (s x : Int), x ∈ flatN l n s → thereB l x = true ∧ (nd l x).kind = 2 ∧ upB l x = false
  | 0, _, _, h => by cases h
  | n + 1, s, x, h => by
    cases hu : upB l s with
    | false => rw [flat_no hu] at h; cases h
    | true =>
      rw [flat_go hu] at h
      obtain ⟨c, hc, hx⟩ := List.mem_flatMap.1 h
      cases hc' : upB l c with
      | true =>
        rw [hc', if_pos rfl] at hx
        exact flat_what T n c x hx
      | false =>
        rw [hc', if_neg (by decide)] at hx
        obtain rfl := List.mem_singleton.1 hx
        obtain ⟨h1, h2⟩ := con_kind T (there_pos (upB_what hu).1) hc
        exact ⟨h1, h2, hc'⟩
theorem flatL_what (T : Tree l) (h : x ∈ flatL l s) : thereB l x = true ∧ (nd l x).kind = 2 ∧ upB l x = false := flat_what T _ s x h
theorem slots_len (T : Tree l) (r : Int) : (slotsL l r).length ≤ l.length := Nat.le_trans (List.length_filter_le _ _) (ordL_len T r)
end
end Go.Proofs.Ytekmgaigppenlaa

namespace Go.Proofs.Ytekmgaigppenlaa
open Go

section
variable {l : List Nd} {i j x y a b : Int}
/-- What stands in the place of a, seen from b: out of each tree that does not hold b. -/
def aimN (l : List Nd) (b : Int) : Nat → Int → Int
  | 0, a => a
  | n + 1, a => if hostL l a = 0 ∨ hasB (over l b) (rootL l a) = true then a else aimN l b n (hostL l a)
def aimL (l : List Nd) (a b : Int) : Int := if thereB l a = true then aimN l b l.length a else 0
/-- Is the way at its end here? -/
def aimB (l : List Nd) (a b : Int) : Bool := decide (hostL l a = 0) || hasB (over l b) (rootL l a)
theorem aimB_end (h : hostL l a = 0) : aimB l a b = true := by unfold aimB; rw [decide_eq_true h]; rfl
theorem aimB_held (h : hasB (over l b) (rootL l a) = true) : aimB l a b = true := by unfold aimB; rw [h]; exact Bool.or_true _
theorem aimB_go (h : hostL l a ≠ 0) (h' : hasB (over l b) (rootL l a) = false) : aimB l a b = false := by unfold aimB; rw [h', decide_eq_false h]; rfl
theorem aimB_yes (h : aimB l a b = true) : hostL l a = 0 ∨ hasB (over l b) (rootL l a) = true := by
  unfold aimB at h
  rcases Bool.or_eq_true _ _ ▸ h with h | h
  · exact .inl (of_decide_eq_true h)
  · exact .inr h
theorem aimB_not (h : aimB l a b = false) : hostL l a ≠ 0 ∧ hasB (over l b) (rootL l a) = false := by
  unfold aimB at h
  rw [Bool.or_eq_false_iff] at h
  exact ⟨of_decide_eq_false h.1, h.2⟩
theorem aim_stop {n : Nat} (h : aimB l a b = true) : aimN l b n a = a := by
  cases n with
  | zero => rfl
  | succ n => rw [aimN, if_pos (aimB_yes h)]
theorem aim_up {n : Nat} (h : aimB l a b = false) : aimN l b (n + 1) a = aimN l b n (hostL l a) := by
  have h' := aimB_not h
  rw [aimN, if_neg]
  rintro (h0 | h0)
  · exact h'.1 h0
  · rw [h'.2] at h0
    cases h0
theorem host_from (h : hostL l a ≠ 0) : thereB l a = true := by
  cases ht : thereB l a with
  | true => rfl
  | false => exact absurd (hostL_no ht) h
/-- How many steps are let in does not matter, if there are enough. -/
theorem aim_stay (T : Tree l) : ∀ (n m : Nat) (a : Int), (over l a).length ≤ n → (over l a).length ≤ m → aimN l b n a = aimN l b m a
  | n, m, a, hn, hm => by
    cases hB : aimB l a b with
    | true => rw [aim_stop hB, aim_stop hB]
    | false =>
      have h1 := host_less T (host_from (aimB_not hB).1)
      obtain ⟨n, rfl⟩ : ∃ k, n = k + 1 := ⟨n - 1, by omega⟩
      obtain ⟨m, rfl⟩ : ∃ k, m = k + 1 := ⟨m - 1, by omega⟩
      rw [aim_up hB, aim_up hB, aim_stay T n m (hostL l a) (by omega) (by omega)]
termination_by n => n
theorem aimL_no (h : thereB l a = false) : aimL l a b = 0 := if_neg (by rw [h]; decide)
theorem aimL_at (h : thereB l a = true) : aimL l a b = aimN l b l.length a := if_pos h
theorem aimL_stop (h : thereB l a = true) (hB : aimB l a b = true) : aimL l a b = a := by rw [aimL_at h, aim_stop hB]
theorem aimL_up (T : Tree l) (hB : aimB l a b = false) : aimL l a b = aimL l (hostL l a) b := by
  have h0 := (aimB_not hB).1
  have ht := host_from h0
  have h1 := host_less T ht
  have h2 := over_short T a
  rw [aimL_at ht, aimL_at (hostL_there T h0)]
  obtain ⟨n, hn⟩ : ∃ k, l.length = k + 1 := ⟨l.length - 1, by omega⟩
  rw [hn, aim_up hB, aim_stay T n (n + 1) (hostL l a) (by omega) (by omega)]
/-- Behind at most as many steps as there are nodes, one more, the way is at its end. -/
theorem aim_ends (T : Tree l) : ∀ (n : Nat) (a : Int), (over l a).length ≤ n → thereB l a = true → aimB l (aimN l b n a) b = true
  | 0, a, hn, ht => absurd (List.length_eq_zero_iff.1 (Nat.le_zero.1 hn)) (over_ne T ht)
  | n + 1, a, hn, ht => by
    cases hB : aimB l a b with
    | true => rw [aim_stop hB]; exact hB
    | false =>
      have h0 := (aimB_not hB).1
      have h1 := host_less T ht
      rw [aim_up hB]
      exact aim_ends T n _ (by omega) (hostL_there T h0)
theorem aimL_ends (T : Tree l) (h : thereB l a = true) : aimB l (aimL l a b) b = true := by
  rw [aimL_at h]
  exact aim_ends T _ a (over_short T a) h
/-- It is there, and above. -/
theorem aimL_over (T : Tree l) : ∀ a, thereB l a = true → aimL l a b ∈ over l a :=
  trees T (fun a h h' => by rw [h] at h'; cases h') fun a h ih _ => by
    cases hB : aimB l a b with
    | true => rw [aimL_stop h hB]; exact over_self T h
    | false =>
      have h0 := (aimB_not hB).1
      rw [aimL_up T hB, over_host T h]
      exact List.mem_append_right _ (ih (hostL_there T h0))
theorem aimL_there (T : Tree l) (h : thereB l a = true) : thereB l (aimL l a b) = true := over_in (aimL_over T a h)
theorem aimL_zero (T : Tree l) (h : aimL l a b = 0) : thereB l a = false := by
  cases ht : thereB l a with
  | false => rfl
  | true =>
    have := aimL_there (b := b) T ht
    rw [h, there_zero] at this
    cases this
/-- Aimed again it stays. -/
theorem aimL_again (T : Tree l) (h : thereB l a = true) : aimL l (aimL l a b) b = aimL l a b := aimL_stop (aimL_there T h) (aimL_ends T h)
/-- Aimed at itself it is itself. -/
theorem aimL_self (T : Tree l) (h : thereB l a = true) : aimL l a a = a := aimL_stop h (aimB_held (hasB_yes (root_over T h)))
/-- What is told isn't hidden. -/
theorem aimL_hides (T : Tree l) (h : thereB l a = true) : hidL l (aimL l a b) b = false := by
  rcases aimB_yes (aimL_ends (b := b) T h) with h0 | h0
  · exact hid_end T h0
  · exact hid_held T (hasB_mem h0)
end

/-- Who is a host has a shadow root. -/
def Hosts (l : List Nd) : Prop := ∀ i, thereB l i = true → (nd l i).host ≠ 0 → thereB l (nd l i).host = true ∧ (nd l (nd l i).host).shadow ≠ 0
theorem hosts_like {l l' : List Nd} (H : Hosts l) (hlen : l'.length = l.length) (h : ∀ i, thereB l i = true → (nd l' i).host = (nd l i).host ∧ (nd l' i).shadow = (nd l i).shadow) : Hosts l' := fun i hi h0 => by
  rw [there_len hlen] at hi
  obtain ⟨h1, _⟩ := h i hi
  rw [h1] at h0 ⊢
  obtain ⟨h3, h4⟩ := H i hi h0
  rw [there_len hlen, (h _ h3).2]
  exact ⟨h3, h4⟩
theorem hosts_mod {l : List Nd} {id : Int} {f : Nd → Nd} (H : Hosts l) (hi : thereB l id = true) (hf : ∀ d, (f d).host = d.host ∧ (f d).shadow = d.shadow) : Hosts (modN l id f) :=
  hosts_like H (modN_length l id f) fun i hk => by
    rw [nd_mod hi hk]
    by_cases e : i = id
    · subst e
      rw [if_pos rfl]
      exact hf _
    · rw [if_neg e]
      exact ⟨rfl, rfl⟩
theorem hosts_put {l : List Nd} {p : Int} {ks : List Int} (H : Hosts l) : Hosts (putL l p ks) := by
  by_cases h0 : putErr l p ks = 0
  case neg =>
    unfold putL
    rw [if_neg h0]
    exact H
  obtain ⟨hp, hk, _⟩ := put_zero h0
  refine hosts_like H ?_ fun i hi => ?_
  · unfold putL
    rw [if_pos h0, modN_length, toPar_length, clr_length]
  · rw [put_nd h0 hp (kids_there hk) hi]
    exact ⟨rfl, rfl⟩
theorem hosts_tie {l : List Nd} {h r : Int} (H : Hosts l) : Hosts (tieL l h r) := by
  by_cases h0 : tieErr l h r = 0
  case neg =>
    unfold tieL
    rw [if_neg h0]
    exact H
  have hz : thereB l h = true ∧ thereB l r = true := by
    unfold tieErr at h0
    split at h0
    · cases h0
    · rename_i h1
      simpa using h1
  obtain ⟨hh, hr⟩ := hz
  have hth : ∀ x, thereB (tieL l h r) x = thereB l x := fun x => there_len (tieL_length l h r)
  have hho : ∀ k, thereB l k = true → (nd (tieL l h r) k).host = if k = r then h else (nd l k).host := fun k hk => by
    unfold tieL
    rw [if_pos h0, nd_mod (by rw [there_mod]; exact hr) (by rw [there_mod]; exact hk), nd_mod hh hr, nd_mod hh hk]
    by_cases e : k = r
    · rw [if_pos e, if_pos e]
    · rw [if_neg e, if_neg e]
      split
      · rename_i e2
        rw [e2]
      · rfl
  have hsh : ∀ k, thereB l k = true → (nd (tieL l h r) k).shadow = if k = h then r else (nd l k).shadow := fun k hk => by
    unfold tieL
    rw [if_pos h0, nd_mod (by rw [there_mod]; exact hr) (by rw [there_mod]; exact hk), nd_mod hh hr, nd_mod hh hk]
    by_cases e : k = r
    · rw [if_pos e, e]
      by_cases e2 : r = h
      · rw [if_pos e2, if_pos e2]
      · rw [if_neg e2, if_neg e2]
    · rw [if_neg e]
      by_cases e2 : k = h
      · rw [if_pos e2, if_pos e2]
      · rw [if_neg e2, if_neg e2]
  intro i hi hn
  rw [hth] at hi ⊢
  rw [hho i hi] at hn ⊢
  have hx : thereB l (if i = r then h else (nd l i).host) = true := by
    by_cases e : i = r
    · rw [if_pos e]
      exact hh
    · rw [if_neg e] at hn ⊢
      exact (H i hi hn).1
  refine ⟨hx, ?_⟩
  rw [hsh _ hx]
  by_cases e2 : (if i = r then h else (nd l i).host) = h
  · rw [if_pos e2]
    exact there_pos hr
  · rw [if_neg e2]
    by_cases e : i = r
    · rw [if_pos e] at e2
      exact absurd rfl e2
    · rw [if_neg e] at hn ⊢
      exact (H i hi hn).2
theorem hosts_make {l : List Nd} {d : Nd} (H : Hosts l) : Hosts (mkL l d) := by
  unfold mkL
  split
  case isFalse => exact H
  have old : ∀ i, thereB l i = true → thereB (l ++ [bare d]) i = true ∧ nd (l ++ [bare d]) i = nd l i := fun i hi => by
    have h1 := thereB_iff.1 hi
    refine ⟨thereB_iff.2 ⟨h1.1, by simp; omega⟩, ?_⟩
    rw [nd, nd, List.getD_eq_getElem?_getD, List.getD_eq_getElem?_getD, List.getElem?_append_left (there_lt hi)]
  intro i hi h0
  cases ht : thereB l i with
  | true =>
    rw [(old i ht).2] at h0 ⊢
    obtain ⟨h3, h4⟩ := H i ht h0
    rw [(old _ h3).2]
    exact ⟨(old _ h3).1, h4⟩
  | false =>
    refine absurd ?_ h0
    have h1 := thereB_iff.1 hi
    have h2 : ¬ i ≤ (l.length : Int) := fun h2 => by
      rw [thereB_iff.2 ⟨h1.1, h2⟩] at ht
      cases ht
    rw [List.length_append] at h1
    simp only [List.length_cons, List.length_nil] at h1
    rw [nd, List.getD_eq_getElem?_getD, List.getElem?_append_right (by omega), show (i - 1).toNat - l.length = 0 by omega]
    rfl
theorem hosts_act {l : List Nd} {x : Ac} (H : Hosts l) : Hosts (actL l x) := by
  unfold actL
  split
  · exact hosts_make H
  · split
    · exact hosts_put H
    · split
      · exact hosts_tie H
      · split
        · unfold nameL
          split
          · rename_i h0
            refine hosts_mod H ?_ fun _ => ⟨rfl, rfl⟩
            unfold nameErr at h0
            split at h0
            · cases h0
            · rename_i h1
              simp only [not_or, Bool.not_eq_false] at h1
              exact h1.1
          · exact H
        · split
          · unfold wantL
            split
            · rename_i h0
              refine hosts_mod H ?_ fun _ => ⟨rfl, rfl⟩
              unfold wantErr at h0
              split at h0
              · cases h0
              · rename_i h1
                simp only [not_or, Bool.not_eq_false] at h1
                exact h1.1
            · exact H
          · exact H
theorem hosts_forest (acts : List Ac) : Hosts (forest acts) := by
  have : ∀ (acts : List Ac) (l : List Nd), Hosts l → Hosts (acts.foldl actL l) := by
    intro acts
    induction acts with
    | nil => intro l H; exact H
    | cons x r ih => intro l H; exact ih _ (hosts_act H)
  refine this acts [] fun i hi _ => ?_
  have h1 := thereB_iff.1 hi
  simp only [List.length_nil] at h1
  omega
/-- What is told is the node itself, or a host. -/
theorem aimL_host {l : List Nd} {b : Int} (T : Tree l) (H : Hosts l) : ∀ a, thereB l a = true → aimL l a b = a ∨ (nd l (aimL l a b)).shadow ≠ 0 :=
  trees T (fun a h h' => by rw [h] at h'; cases h') fun a h ih _ => by
    cases hB : aimB l a b with
    | true => exact .inl (aimL_stop h hB)
    | false =>
      have h0 := (aimB_not hB).1
      rw [aimL_up T hB]
      rcases ih (hostL_there T h0) with e | e
      · right
        rw [e]
        rw [hostL_at h] at h0 ⊢
        exact (H _ (rootL_there T h) h0).2
      · exact .inr e
end Go.Proofs.Ytekmgaigppenlaa

namespace Go.Proofs.Ytekmgaigppenlaa
open Go

/-- A node's parent for an event that is sent to first. -/
def parE (l : List Nd) (first : Int) (comp : Bool) (i : Int) : Int :=
  if thereB l i = true then
    if ofL l i ≠ 0 then ofL l i
    else if (nd l i).kind = 3 then (if comp = false ∧ rootL l first = i then 0 else (nd l i).host)
    else (nd l i).parent
  else 0

section
variable {l : List Nd} {i p x first : Int} {comp : Bool}
theorem parE_no (h : thereB l i = false) : parE l first comp i = 0 := if_neg (by rw [h]; decide)
/-- The parent is there. -/
theorem parE_there (T : Tree l) (h : parE l first comp i ≠ 0) : thereB l i = true ∧ thereB l (parE l first comp i) = true := by
  unfold parE at h ⊢
  split
  case isFalse hn =>
    rw [if_neg hn] at h
    exact absurd rfl h
  rename_i ht
  rw [if_pos ht] at h
  refine ⟨ht, ?_⟩
  split
  case isTrue ho => exact (of_what T ho).2.2.2.2.1
  rename_i ho
  rw [if_neg ho] at h
  split
  case isTrue hk =>
    rw [if_pos hk] at h
    split
    case isTrue hc => rw [if_pos hc] at h; exact absurd rfl h
    rename_i hc
    rw [if_neg hc] at h
    exact (T.host i ht h).2
  rename_i hk
  rw [if_neg hk] at h
  exact (T.par i ht h).1
theorem over_kid (T : Tree l) (hp : thereB l p = true) (hk : i ∈ (nd l p).kids) : over l i = i :: over l p := by
  have hi := (T.kid p hp i hk).1
  rw [over_host T hi, over_host T hp, parL_kid T hp hk, kid_host T hp hk]
  rfl
theorem over_shadow (T : Tree l) (hi : thereB l i = true) (h3 : (nd l i).kind = 3) : over l i = i :: over l (nd l i).host := by
  have hb := T.bare i hi (.inr h3)
  have hr := rootL_own T hi hb
  have := over_root T hi
  rw [hr] at this
  rw [this, hostL_at hi, hr]
end

/-- A Shadow weighs less than what is below its host. -/
def dig (l : List Nd) (x : Int) : Nat := if (nd l x).kind = 3 then 1 else 2
/-- What a way up weighs: the upper, the more. -/
def wgt (l : List Nd) (N : Nat) : List Int → Nat
  | [] => 0
  | x :: r => wgt l N r + dig l x * 3 ^ (N - r.length)
def mu (l : List Nd) (i : Int) : Nat := wgt l (l.length + 1) (over l i)
section
variable {l : List Nd} {N : Nat} {i p x s first : Int} {r xs ys : List Int} {comp : Bool}
theorem dig_le : dig l x ≤ 2 := by unfold dig; split <;> omega
theorem dig_pos : 1 ≤ dig l x := by unfold dig; split <;> omega
theorem wgt_cons : wgt l N r < wgt l N (x :: r) := by
  rw [wgt]
  have h1 : 0 < 3 ^ (N - r.length) := Nat.pow_pos (by decide)
  have h2 := Nat.mul_le_mul_right (3 ^ (N - r.length)) (dig_pos (l := l) (x := x))
  omega
theorem wgt_suffix : ∀ (ys : List Int), xs <:+ ys → wgt l N xs ≤ wgt l N ys
  | [], h => by rw [List.suffix_nil.1 h]; exact Nat.le_refl _
  | y :: t, h => by
    rcases List.suffix_cons_iff.1 h with rfl | h
    · exact Nat.le_refl _
    · exact Nat.le_trans (wgt_suffix t h) (Nat.le_of_lt wgt_cons)
/-- Whatever stands on s: it weighs less than the next weight at s's place would. -/
theorem wgt_below : ∀ (ys : List Int), (s :: r) <:+ ys → ys.length ≤ N → wgt l N ys + 3 ^ (N + 1 - ys.length) ≤ wgt l N r + (dig l s + 1) * 3 ^ (N - r.length)
  | [], h, _ => by cases List.suffix_nil.1 h
  | y :: t, h, hl => by
    rcases List.suffix_cons_iff.1 h with e | h
    · injection e with e1 e2
      subst e1 e2
      rw [wgt, List.length_cons, show N + 1 - (r.length + 1) = N - r.length by omega, Nat.add_mul, Nat.one_mul]
      omega
    · rw [List.length_cons] at hl
      have ih := wgt_below t h (by omega)
      rw [wgt, List.length_cons, show N + 1 - (t.length + 1) = N - t.length by omega]
      rw [show N + 1 - t.length = (N - t.length) + 1 by omega, Nat.pow_succ] at ih
      have := Nat.mul_le_mul_right (3 ^ (N - t.length)) (dig_le (l := l) (x := y))
      omega
/-- The way up by parents for an event goes down in weight. -/
theorem mu_less (T : Tree l) (h : parE l first comp i ≠ 0) : mu l (parE l first comp i) < mu l i := by
  obtain ⟨hi, ht⟩ := parE_there T h
  have hN : ∀ j, (over l j).length ≤ l.length + 1 := fun j => Nat.le_trans (over_short T j) (Nat.le_succ _)
  unfold parE at h ht ⊢
  rw [if_pos hi] at h ht ⊢
  by_cases ho : ofL l i ≠ 0
  · rw [if_pos ho] at h ht ⊢
    obtain ⟨-, k2, hp, hk, hq, -, r3, hh⟩ := of_what T ho
    have e1 := over_kid T hp hk
    have e2 : over l (rootL l (ofL l i)) = rootL l (ofL l i) :: over l (nd l i).parent := by rw [over_root T hq, hh]
    have hs : (rootL l (ofL l i) :: over l (nd l i).parent) <:+ over l (ofL l i) := by
      rw [← e2]
      exact over_suffix T (root_over T hq)
    have hb := wgt_below (l := l) (N := l.length + 1) _ hs (hN _)
    have d1 : dig l (rootL l (ofL l i)) = 1 := if_pos r3
    have d2 : dig l i = 2 := if_neg (by rw [k2]; decide)
    have hpw : 0 < 3 ^ (l.length + 1 + 1 - (over l (ofL l i)).length) := Nat.pow_pos (by decide)
    unfold mu
    rw [e1, wgt, d2]
    rw [d1] at hb
    omega
  · rw [if_neg ho] at h ht ⊢
    by_cases h3 : (nd l i).kind = 3
    · rw [if_pos h3] at h ht ⊢
      by_cases hc : comp = false ∧ rootL l first = i
      · rw [if_pos hc] at h
        exact absurd rfl h
      · rw [if_neg hc] at h ht ⊢
        unfold mu
        rw [over_shadow T hi h3]
        exact wgt_cons
    · rw [if_neg h3] at h ht ⊢
      obtain ⟨q1, q2⟩ := T.par i hi h
      unfold mu
      rw [over_kid T q1 q2]
      exact wgt_cons
end

/-- A node, its parent for the event, and so on, n at most. -/
def upE (l : List Nd) (first : Int) (comp : Bool) : Nat → Int → List Int
  | 0, _ => []
  | n + 1, i => if thereB l i = true then i :: upE l first comp n (parE l first comp i) else []
def wayE (l : List Nd) (first : Int) (comp : Bool) : List Int := upE l first comp (l.length + 1) first
section
variable {l : List Nd} {i x first : Int} {comp : Bool} {n m : Nat}
theorem upE_no (h : thereB l i = false) : upE l first comp n i = [] := by
  cases n with
  | zero => rfl
  | succ n => exact if_neg (by rw [h]; decide)
theorem upE_go (h : thereB l i = true) : upE l first comp (n + 1) i = i :: upE l first comp n (parE l first comp i) := if_pos h
theorem thereB_zero : thereB l 0 = false := by
  unfold thereB
  simp
theorem upE_there : ∀ (n : Nat) (i : Int), ∀ x ∈ upE l first comp n i, thereB l x = true
  | 0, i, x, h => by cases h
  | n + 1, i, x, h => by
    cases ht : thereB l i with
    | false => rw [upE_no ht] at h; cases h
    | true =>
      rw [upE_go ht] at h
      rcases List.mem_cons.1 h with rfl | h
      · exact ht
      · exact upE_there n _ x h
theorem upE_mu (T : Tree l) : ∀ (n : Nat) (i : Int), ∀ x ∈ upE l first comp n i, mu l x ≤ mu l i
  | 0, i, x, h => by cases h
  | n + 1, i, x, h => by
    cases ht : thereB l i with
    | false => rw [upE_no ht] at h; cases h
    | true =>
      rw [upE_go ht] at h
      rcases List.mem_cons.1 h with rfl | h
      · exact Nat.le_refl _
      · by_cases h0 : parE l first comp i = 0
        · rw [h0, upE_no thereB_zero] at h
          cases h
        · exact Nat.le_trans (upE_mu T n _ x h) (Nat.le_of_lt (mu_less T h0))
/-- None comes twice. -/
theorem upE_once (T : Tree l) : ∀ (n : Nat) (i : Int), (upE l first comp n i).Nodup
  | 0, i => List.nodup_nil
  | n + 1, i => by
    cases ht : thereB l i with
    | false => rw [upE_no ht]; exact List.nodup_nil
    | true =>
      rw [upE_go ht, List.nodup_cons]
      refine ⟨fun h => ?_, upE_once T n _⟩
      by_cases h0 : parE l first comp i = 0
      · rw [h0, upE_no thereB_zero] at h
        cases h
      · have := upE_mu T n _ i h
        have := mu_less T h0
        omega
theorem upE_len (T : Tree l) (n : Nat) (i : Int) : (upE l first comp n i).length ≤ l.length := by
  have hn : ((upE l first comp n i).map fun x => (x - 1).toNat).Nodup := by
    refine List.pairwise_map.2 ((upE_once T n i).imp_of_mem fun hx hy hne e => hne ?_)
    have h1 := thereB_iff.1 (upE_there n i _ hx)
    have h2 := thereB_iff.1 (upE_there n i _ hy)
    omega
  have := pigeon l.length _ hn fun x hx => by
    obtain ⟨y, hy, rfl⟩ := List.mem_map.1 hx
    have := thereB_iff.1 (upE_there n i y hy)
    omega
  simpa using this
/-- More steps change nothing, once the way is at its end. -/
theorem upE_stay : ∀ (n m : Nat) (i : Int), (upE l first comp n i).length < n → n ≤ m → upE l first comp m i = upE l first comp n i
  | 0, m, i, h, _ => absurd h (Nat.not_lt_zero _)
  | n + 1, 0, i, _, h => absurd h (Nat.not_succ_le_zero _)
  | n + 1, m + 1, i, h, hm => by
    cases ht : thereB l i with
    | false => rw [upE_no ht, upE_no ht]
    | true =>
      rw [upE_go ht, List.length_cons] at h
      rw [upE_go ht, upE_go ht, upE_stay n m _ (by omega) (by omega)]
/-- The way of an event, one step. -/
theorem wayE_all (T : Tree l) (hn : l.length < n) (i : Int) : upE l first comp n i = upE l first comp (l.length + 1) i :=
  upE_stay (l.length + 1) n i (Nat.lt_succ_of_le (upE_len T _ i)) hn
theorem wayE_step (T : Tree l) (h : thereB l i = true) : upE l first comp (l.length + 1) i = i :: upE l first comp (l.length + 1) (parE l first comp i) := by
  rw [← wayE_all T (n := l.length + 1 + 1) (by omega) i, upE_go h]
/-- Each one's parent for the event is the next one. -/
theorem upE_next : ∀ (n : Nat) (i : Int) (k : Nat) (x y : Int), (upE l first comp n i)[k]? = some x → (upE l first comp n i)[k + 1]? = some y → y = parE l first comp x
  | 0, i, k, x, y, h, _ => by cases h
  | n + 1, i, k, x, y, h, h' => by
    cases ht : thereB l i with
    | false => rw [upE_no ht] at h; cases h
    | true =>
      rw [upE_go ht] at h h'
      cases k with
      | zero =>
        obtain rfl : i = x := by simpa using h
        rw [List.getElem?_cons_succ] at h'
        cases n with
        | zero => cases h'
        | succ n =>
          cases hp : thereB l (parE l first comp i) with
          | false => rw [upE_no hp] at h'; cases h'
          | true =>
            rw [upE_go hp] at h'
            simpa using h'.symm
      | succ k => exact upE_next n _ k x y (by simpa using h) (by simpa using h')
/-- Of an event that isn't composed none lies outside of what the first one's root holds. -/
theorem parE_held (T : Tree l) (h : rootL l first ∈ over l i) (h0 : parE l first false i ≠ 0) : rootL l first ∈ over l (parE l first false i) := by
  obtain ⟨hi, ht⟩ := parE_there T h0
  have hrt := over_in h
  unfold parE at h0 ht ⊢
  rw [if_pos hi] at h0 ht ⊢
  by_cases ho : ofL l i ≠ 0
  · rw [if_pos ho] at h0 ht ⊢
    obtain ⟨-, k2, hp, hk, hq, -, r3, hh⟩ := of_what T ho
    rw [over_kid T hp hk] at h
    have hin : rootL l first ∈ over l (nd l i).parent := by
      rcases List.mem_cons.1 h with e | h
      · exfalso
        have hft : thereB l first = true := by
          cases hf : thereB l first with
          | true => rfl
          | false =>
            rw [rootL_no hf] at hrt
            rw [thereB_zero] at hrt
            cases hrt
        have hb := rootL_bare T hft
        rw [e, (T.kid _ hp i hk).2] at hb
        rw [hb, thereB_zero] at hp
        cases hp
      · exact h
    rw [over_host T hq, hh]
    exact List.mem_append_right _ hin
  · rw [if_neg ho] at h0 ht ⊢
    by_cases h3 : (nd l i).kind = 3
    · rw [if_pos h3] at h0 ht ⊢
      by_cases hc : (false : Bool) = false ∧ rootL l first = i
      · rw [if_pos hc] at h0
        exact absurd rfl h0
      · rw [if_neg hc] at h0 ht ⊢
        rw [over_shadow T hi h3] at h
        rcases List.mem_cons.1 h with e | h
        · exact absurd ⟨rfl, e⟩ hc
        · exact h
    · rw [if_neg h3] at h0 ht ⊢
      obtain ⟨q1, q2⟩ := T.par i hi h0
      rw [over_kid T q1 q2] at h
      rcases List.mem_cons.1 h with e | h
      · exfalso
        have hft : thereB l first = true := by
          cases hf : thereB l first with
          | true => rfl
          | false =>
            rw [rootL_no hf] at hrt
            rw [thereB_zero] at hrt
            cases hrt
        have hb := rootL_bare T hft
        rw [e] at hb
        exact h0 hb
      · exact h
theorem upE_held (T : Tree l) : ∀ (n : Nat) (i : Int), rootL l first ∈ over l i → ∀ x ∈ upE l first false n i, rootL l first ∈ over l x
  | 0, i, _, x, hx => by cases hx
  | n + 1, i, h, x, hx => by
    cases ht : thereB l i with
    | false => rw [upE_no ht] at hx; cases hx
    | true =>
      rw [upE_go ht] at hx
      rcases List.mem_cons.1 hx with rfl | hx
      · exact h
      · by_cases h0 : parE l first false i = 0
        · rw [h0, upE_no thereB_zero] at hx
          cases hx
        · exact upE_held T n _ (parE_held T h h0) x hx
end
end Go.Proofs.Ytekmgaigppenlaa

namespace Go.Proofs.Ytekmgaigppenlaa
open Go Go.RowKit

/-- A record's cells. -/
structure Rec (α : Type) where
  cells : α → List Value
  n : Nat
  len : ∀ a, (cells a).length = n
  one : ∀ a, ∀ u ∈ cells a, u.oneCell' = true
  pos : 0 < n
def flatR {α : Type} (R : Rec α) (xs : List α) : List Value := xs.flatMap R.cells
section
variable {α : Type} {R : Rec α} {xs ys : List α} {x y : α} {i f : Nat} {u : Value}
theorem flatR_cons : flatR R (x :: xs) = R.cells x ++ flatR R xs := by simp [flatR]
theorem flatR_append : flatR R (xs ++ ys) = flatR R xs ++ flatR R ys := by simp [flatR]
theorem flatR_one : flatR R [x] = R.cells x := by simp [flatR]
theorem flatR_length : ∀ xs : List α, (flatR R xs).length = xs.length * R.n
  | [] => by simp [flatR]
  | x :: r => by rw [flatR_cons, List.length_append, flatR_length r, R.len, List.length_cons, Nat.add_mul, Nat.one_mul, Nat.add_comm]
theorem flatR_get : ∀ {xs : List α} {i : Nat}, xs[i]? = some x → f < R.n → (flatR R xs)[i * R.n + f]? = (R.cells x)[f]?
  | [], i, h, _ => by simp at h
  | z :: r, 0, h, hf => by
    obtain rfl : z = x := by simpa using h
    rw [flatR_cons, List.getElem?_append_left (by rw [R.len]; omega), Nat.zero_mul, Nat.zero_add]
  | z :: r, i + 1, h, hf => by
    have e : (i + 1) * R.n = i * R.n + R.n := by rw [Nat.add_mul, Nat.one_mul]
    rw [flatR_cons, List.getElem?_append_right (by rw [R.len, e]; omega), R.len, show (i + 1) * R.n + f - R.n = i * R.n + f by rw [e]; omega]
    exact flatR_get (by simpa using h) hf
theorem flatR_set : ∀ {xs : List α} {i : Nat}, xs[i]? = some x → f < R.n → R.cells y = (R.cells x).set f u → flatR R (xs.set i y) = (flatR R xs).set (i * R.n + f) u
  | [], i, h, _, _ => by simp at h
  | z :: r, 0, h, hf, hc => by
    obtain rfl : z = x := by simpa using h
    rw [List.set_cons_zero, flatR_cons, flatR_cons, List.set_append_left _ _ (by rw [R.len]; omega), Nat.zero_mul, Nat.zero_add, hc]
  | z :: r, i + 1, h, hf, hc => by
    have e : (i + 1) * R.n = i * R.n + R.n := by rw [Nat.add_mul, Nat.one_mul]
    rw [List.set_cons_succ, flatR_cons, flatR_cons, List.set_append_right _ _ (by rw [R.len, e]; omega), R.len, show (i + 1) * R.n + f - R.n = i * R.n + f by rw [e]; omega]
    rw [flatR_set (by simpa using h) hf hc]
theorem flatR_ones : ∀ u ∈ flatR R xs, u.oneCell' = true := fun u hu => by
  obtain ⟨a, _, hu⟩ := List.mem_flatMap.1 hu
  exact R.one a u hu
end

/-- A list of records of the call's own. -/
def Recs {α : Type} (R : Rec α) (e : TypeId) (base : Nat) (w : World) (v : Value) (xs : List α) : Prop := w.ownsRow base e R.n v xs.length (flatR R xs)
/-- A list of records that may be read. -/
structure RecIn {α : Type} (R : Rec α) (w : World) (A : Option Addr) (c : Nat) (xs : List α) : Prop where
  cap : xs.length ≤ c
  nil : A = none → c = 0
  at_ : ∀ i (h : i < xs.length), ∃ b off, A = some ⟨b, off, none⟩ ∧ b < w.heap.size ∧ ∀ f, f < R.n → w.cell? ⟨b, off + (i * R.n + f), none⟩ = (R.cells xs[i])[f]?
section
variable {α : Type} {R : Rec α} {e : TypeId} {base : Nat} {w w' : World} {v : Value} {xs : List α} {x y : α} {F : Nat → Prop} {A : Option Addr} {c i f : Nat} {u : Value}
theorem Recs.nil (R : Rec α) (e : TypeId) (base : Nat) (w : World) : Recs R e base w (.slice none 0 0) [] := World.ownsRow_nil _ _ _ _
theorem Recs.kept (h : Recs R e base w v xs) (k : Keeps F w w') (hF : ∀ g, v.ownBlock = some g → ¬ F g) : Recs R e base w' v xs := own_kept h k hF
theorem Recs.in_ (h : Recs R e base w v xs) : ∀ g, v.ownBlock = some g → base ≤ g ∧ g < w.heap.size := fun g hg => h.lt g hg
theorem Recs.below (h : Recs R e base w v xs) (k : Below w.heap.size w w') : Recs R e base w' v xs := h.kept (Keeps.of_below (F := fun i => w.heap.size ≤ i) k fun _ _ h => h) fun g hg => Nat.not_le.2 (h.in_ g hg).2
theorem Recs.drewN (h : Recs R e base w v xs) (n : Nat) : Recs R e base (w.drewN n) v xs := h
theorem Recs.lit (R : Rec α) (e : TypeId) (w : World) (x : α) : Recs R e w.heap.size (w.alloc (.cells (R.cells x).toArray e)) (.slice (some ⟨w.heap.size, 0, none⟩) 1 1) [x] :=
  ⟨by rw [flatR_length], .inr ⟨w.heap.size, 1, (R.cells x).toArray, rfl, Nat.le_refl _, Has.fresh w (.cells (R.cells x).toArray e), Nat.le_refl _, by unfold maxLen; omega, by simp [R.len], by
    rw [flatR_one]
    simp only [List.length_cons, List.length_nil, Nat.zero_add, Nat.one_mul]
    rw [List.take_of_length_le (by rw [R.len]; exact Nat.le_refl _)]⟩⟩
theorem Recs.form (h : Recs R e base w v xs) : ∃ A c, v = .slice A xs.length c ∧ RecIn R w A c xs := by
  rcases h.2 with ⟨rfl, h0⟩ | ⟨g, cap, cur, rfl, _, hh, hc, _⟩
  · have hx : xs = [] := List.length_eq_zero_iff.1 h0
    subst hx
    exact ⟨none, 0, rfl, Nat.le_refl _, fun _ => rfl, fun i hi => absurd hi (Nat.not_lt_zero i)⟩
  · refine ⟨_, cap, rfl, hc, (fun e => by cases e), fun i hi => ⟨g, 0, rfl, Has.inside hh, fun f hf => ?_⟩⟩
    have hl : i * R.n + f < xs.length * R.n := by
      have : (i + 1) * R.n ≤ xs.length * R.n := Nat.mul_le_mul_right _ hi
      rw [Nat.add_mul, Nat.one_mul] at this
      omega
    rw [Nat.zero_add, h.cellAt _ hl, flatR_get (List.getElem?_eq_getElem hi) hf]
theorem RecIn.below (h : RecIn R w A c xs) (hb : Below w.heap.size w w') : RecIn R w' A c xs := ⟨h.cap, h.nil, fun i hi => by
  obtain ⟨b, off, e, hB, hc⟩ := h.at_ i hi
  exact ⟨b, off, e, Nat.lt_of_lt_of_le hB hb.size, fun f hf => (hb.cell (p := ⟨b, _, none⟩) hB).trans (hc f hf)⟩⟩
theorem RecIn.none_ (R : Rec α) (w : World) : RecIn R w none 0 [] := ⟨Nat.le_refl 0, fun _ => rfl, fun i hi => absurd hi (Nat.not_lt_zero i)⟩
theorem RecIn.kept (h : RecIn R w A c xs) (k : Keeps F w w') (hA : 0 < xs.length → ∀ b' off s, A = some ⟨b', off, s⟩ → b' < w.heap.size → ¬ F b') : RecIn R w' A c xs :=
  ⟨h.cap, h.nil, fun i hi => by
    obtain ⟨b', off, e, hb, hc⟩ := h.at_ i hi
    refine ⟨b', off, e, Nat.lt_of_lt_of_le hb k.grows, fun f hf => ?_⟩
    have ho := k.old b' hb (hA (by omega) _ _ _ e hb)
    rw [← hc f hf]
    unfold World.cell?
    simp only [ho]⟩
/-- One cell of one record is written. -/
theorem Recs.store {g c : Nat} (h : Recs R e base w (.slice (some ⟨g, 0, none⟩) xs.length c) xs) (hi : xs[i]? = some x) (hf : f < R.n) (hc : R.cells y = (R.cells x).set f u) : Recs R e base (w.setCell ⟨g, i * R.n + f, none⟩ u) (.slice (some ⟨g, 0, none⟩) xs.length c) (xs.set i y) := by
  have := (World.ownsRow.stored h (i * R.n + f) u).1
  unfold Recs
  rw [List.length_set, flatR_set hi hf hc]
  exact this
/-- A record is put behind, in the old row or a new one. -/
theorem run_pushR (t ty : TypeId) (i : TypeInfo) (z : Value) (bytes : Nat) {P : Program} (ht : P.underlying t = some (.slice e)) (hi : P.info? e = some i) (hz : i.zero = some z) (hsize : i.size = R.n) (hby : i.bytes = bytes) (hzs : z.cells.size = R.n)
    (h : Recs R e base w v xs) {b c : Nat} {fr : Nat × Nat} (hb : Has w b (.cells (R.cells x).toArray e fr)) (hl : xs.length ≤ 1000000) (hbb : bytes ≤ 1000000) (hbase : base ≤ w.heap.size) :
    ∃ g cap w', (Builtin.append_ #[t, t] ty #[v, .slice (some ⟨b, 0, none⟩) 1 c]).run P w = .ok (.slice (some ⟨g, 0, none⟩) (xs.length + 1) cap) w' ∧
      Recs R e base w' (.slice (some ⟨g, 0, none⟩) (xs.length + 1) cap) (xs ++ [x]) ∧ Keeps (fun i => v.ownBlock = some i) w w' ∧ (v.ownBlock = some g ∨ w.heap.size ≤ g) ∧ g < w'.heap.size := by
  have hm : (xs.length + 1) * bytes ≤ 140737488355328 := by
    have : (xs.length + 1) * bytes ≤ 1000001 * 1000000 := Nat.mul_le_mul (by omega) hbb
    omega
  obtain ⟨g, cap, w', hr, h2, h3, h4, h5⟩ := run_append_lies (P := P) w t ty base e i z R.n bytes ht hi hz hsize hby hzs R.pos v xs.length (flatR R xs) h ⟨b, 0, none⟩ 1 c (R.cells x) (by rw [R.len, Nat.one_mul]) (World.news_of_block hb) (R.one x) (by decide) (by unfold maxLen; omega) hm hbase _ rfl
  refine ⟨g, cap, w', hr, ?_, Keeps.of_grown h3, h4.imp id fun e => by omega, h5⟩
  unfold Recs
  rw [List.length_append, flatR_append, flatR_one]
  exact h2
theorem wpList_pushR {P : Program} {ops : Array Oper} {rest : List Oper} {o : Oper} {a : Act} {Q : Exit → Act → World → Prop} (hgd : o.guard = none) (s p : Operand) (t : TypeId)
    (ho : o.op = .call { callee := .builtin .append, args := #[s, p], argTypes := #[t, t] }) (i : TypeInfo) (z : Value) (bytes : Nat) (ht : P.underlying t = some (.slice e)) (hi : P.info? e = some i) (hz : i.zero = some z) (hsize : i.size = R.n) (hby : i.bytes = bytes) (hzs : z.cells.size = R.n)
    (hs : a.eval s = v) (h : Recs R e base w v xs) {b c : Nat} {fr : Nat × Nat} (hx : a.eval p = .slice (some ⟨b, 0, none⟩) 1 c) (hb : Has w b (.cells (R.cells x).toArray e fr)) (hl : xs.length ≤ 1000000) (hbb : bytes ≤ 1000000) (hbase : base ≤ w.heap.size)
    (hK : ∀ g cap w', Recs R e base w' (.slice (some ⟨g, 0, none⟩) (xs.length + 1) cap) (xs ++ [x]) → Keeps (fun i => v.ownBlock = some i) w w' → (v.ownBlock = some g ∨ w.heap.size ≤ g) → g < w'.heap.size → wpList P ops Q rest (a.put o.dst (.slice (some ⟨g, 0, none⟩) (xs.length + 1) cap)) w') : wpList P ops Q (o :: rest) a w := by
  obtain ⟨g, cap, w', hr, h2, h3, h4, h5⟩ := run_pushR (c := c) (x := x) t o.type i z bytes ht hi hz hsize hby hzs h hb hl hbb hbase
  refine wpList_plain hgd fun _ hK' => ?_
  unfold Oper.wp execOp
  simp only [ho, resolve, invoke, builtin, Sem.run_bind, Sem.run_pure, Result.andThen_ok, List.map_toArray, List.map_cons, List.map_nil, hs, hx, hr]
  exact hK' _ _ (hK g cap w' h2 h3 h4 h5)
theorem wp_pushR {P : Program} {o : Oper} {a : Act} {K : Act → World → Prop} {Q : Exit → Act → World → Prop} (s p : Operand) (t : TypeId)
    (ho : o.op = .call { callee := .builtin .append, args := #[s, p], argTypes := #[t, t] }) (i : TypeInfo) (z : Value) (bytes : Nat) (ht : P.underlying t = some (.slice e)) (hi : P.info? e = some i) (hz : i.zero = some z) (hsize : i.size = R.n) (hby : i.bytes = bytes) (hzs : z.cells.size = R.n)
    (hs : a.eval s = v) (h : Recs R e base w v xs) {b c : Nat} {fr : Nat × Nat} (hx : a.eval p = .slice (some ⟨b, 0, none⟩) 1 c) (hb : Has w b (.cells (R.cells x).toArray e fr)) (hl : xs.length ≤ 1000000) (hbb : bytes ≤ 1000000) (hbase : base ≤ w.heap.size)
    (hK : ∀ g cap w', Recs R e base w' (.slice (some ⟨g, 0, none⟩) (xs.length + 1) cap) (xs ++ [x]) → Keeps (fun i => v.ownBlock = some i) w w' → (v.ownBlock = some g ∨ w.heap.size ≤ g) → g < w'.heap.size → K (a.put o.dst (.slice (some ⟨g, 0, none⟩) (xs.length + 1) cap)) w') : o.wp P a w K Q := by
  obtain ⟨g, cap, w', hr, h2, h3, h4, h5⟩ := run_pushR (c := c) (x := x) t o.type i z bytes ht hi hz hsize hby hzs h hb hl hbb hbase
  unfold Oper.wp execOp
  simp only [ho, resolve, invoke, builtin, Sem.run_bind, Sem.run_pure, Result.andThen_ok, List.map_toArray, List.map_cons, List.map_nil, hs, hx, hr]
  exact hK g cap w' h2 h3 h4 h5
/-- What a list of records gives to an append. -/
theorem RecIn.gives {n : Nat} (h : RecIn R w A c xs) (hn : n = xs.length) : Gives w R.n (.slice A n c) n (flatR R xs) := by
  subst hn
  cases A with
  | none =>
    obtain rfl := h.nil rfl
    have hx : xs = [] := List.length_eq_zero_iff.1 (Nat.le_zero.1 h.cap)
    subst hx
    exact .inl ⟨rfl, rfl, rfl⟩
  | some a =>
    refine .inr ⟨a, c, rfl, flatR_length xs, fun j u hu => ?_⟩
    have hj : j < xs.length * R.n := by
      have := (List.getElem?_eq_some_iff.1 hu).1
      rwa [flatR_length] at this
    have hi : j / R.n < xs.length := Nat.div_lt_of_lt_mul (by rw [Nat.mul_comm]; exact hj)
    have hf : j % R.n < R.n := Nat.mod_lt _ R.pos
    have hjj : j / R.n * R.n + j % R.n = j := by rw [Nat.mul_comm]; exact Nat.div_add_mod _ _
    obtain ⟨b, off, e, _, hc⟩ := h.at_ _ hi
    cases e
    have := hc _ hf
    rw [hjj] at this
    rw [Addr.add_lit, this, ← flatR_get (List.getElem?_eq_getElem hi) hf, hjj, hu]
/-- A whole list of records is put behind. -/
theorem run_joinR {X : Value} {ys : List α} {m : Nat} (t ty : TypeId) (i : TypeInfo) (z : Value) (bytes : Nat) {P : Program} (ht : P.underlying t = some (.slice e)) (hi : P.info? e = some i) (hz : i.zero = some z) (hsize : i.size = R.n) (hby : i.bytes = bytes) (hzs : z.cells.size = R.n)
    (h : Recs R e base w v xs) (hG : Gives w R.n X m (flatR R ys)) (hm : m = ys.length) (hl : xs.length + ys.length ≤ 1000000) (hbb : bytes ≤ 1000000) (hbase : base ≤ w.heap.size) :
    ∃ v' w', (Builtin.append_ #[t, t] ty #[v, X]).run P w = .ok v' w' ∧ Recs R e base w' v' (xs ++ ys) ∧ Keeps (fun i => v.ownBlock = some i) w w' ∧ (∀ g, v'.ownBlock = some g → v.ownBlock = some g ∨ w.heap.size ≤ g) := by
  subst hm
  rcases hG with ⟨rfl, h0, h1⟩ | ⟨ad, c, rfl, h1, h2⟩
  · have hy : ys = [] := List.length_eq_zero_iff.1 h0
    subst hy
    refine ⟨v, w, run_append_owned_none w base t ty e i R.n ht hi v xs.length (flatR R xs) h, ?_, Keeps.refl _ _, fun g hg => .inl hg⟩
    rw [List.append_nil]
    exact h
  · have hb : (xs.length + ys.length) * bytes ≤ 140737488355328 := by
      have : (xs.length + ys.length) * bytes ≤ 1000000 * 1000000 := Nat.mul_le_mul hl hbb
      omega
    obtain ⟨v', w', hr, h3, h4, _, h5⟩ := run_append_own_at (P := P) w base t ty e i z R.n bytes ht hi hz hsize hby hzs R.pos v xs.length (flatR R xs) h ad ys.length c (flatR R ys) h1 h2 flatR_ones (by unfold maxLen; omega) hb hbase
    refine ⟨v', w', hr, ?_, Keeps.of_grown h4, fun g hg => ?_⟩
    · unfold Recs
      rw [List.length_append, flatR_append]
      exact h3
    · rcases h5 with h5 | h5
      · exact .inl (h5 ▸ hg)
      · right
        rw [h5] at hg
        have : w.heap.size = g := by simpa using hg
        omega
theorem wpList_joinR {X : Value} {ys : List α} {m : Nat} {P : Program} {ops : Array Oper} {rest : List Oper} {o : Oper} {a : Act} {Q : Exit → Act → World → Prop} (hgd : o.guard = none) (s p : Operand) (t : TypeId)
    (ho : o.op = .call { callee := .builtin .append, args := #[s, p], argTypes := #[t, t] }) (i : TypeInfo) (z : Value) (bytes : Nat) (ht : P.underlying t = some (.slice e)) (hi : P.info? e = some i) (hz : i.zero = some z) (hsize : i.size = R.n) (hby : i.bytes = bytes) (hzs : z.cells.size = R.n)
    (hs : a.eval s = v) (hx : a.eval p = X) (h : Recs R e base w v xs) (hG : Gives w R.n X m (flatR R ys)) (hm : m = ys.length) (hl : xs.length + ys.length ≤ 1000000) (hbb : bytes ≤ 1000000) (hbase : base ≤ w.heap.size)
    (hK : ∀ v' w', Recs R e base w' v' (xs ++ ys) → Keeps (fun i => v.ownBlock = some i) w w' → (∀ g, v'.ownBlock = some g → v.ownBlock = some g ∨ w.heap.size ≤ g) → wpList P ops Q rest (a.put o.dst v') w') : wpList P ops Q (o :: rest) a w := by
  obtain ⟨v', w', hr, h2, h3, h4⟩ := run_joinR t o.type i z bytes ht hi hz hsize hby hzs h hG hm hl hbb hbase
  refine wpList_plain hgd fun _ hK' => ?_
  unfold Oper.wp execOp
  simp only [ho, resolve, invoke, builtin, Sem.run_bind, Sem.run_pure, Result.andThen_ok, List.map_toArray, List.map_cons, List.map_nil, hs, hx, hr]
  exact hK' _ _ (hK v' w' h2 h3 h4)
end
end Go.Proofs.Ytekmgaigppenlaa

namespace Go.Proofs.Ytekmgaigppenlaa
open Go

/-- An entry of a path. -/
structure Stp where
  node : Int
  target : Int
  related : Int
  cr : Bool
  cs : Bool
def Stp.cells (s : Stp) : List Value := [.int .i64 s.node, .int .i64 s.target, .int .i64 s.related, .bool s.cr, .bool s.cs]
def RS : Rec Stp := ⟨Stp.cells, 5, fun _ => rfl, fun a u hu => by
  simp only [Stp.cells, List.mem_cons, List.not_mem_nil, or_false] at hu
  rcases hu with rfl | rfl | rfl | rfl | rfl <;> rfl, by decide⟩
theorem five_of {w : World} {A : Option Addr} {c k : Nat} {ps : List Stp} (h : RecIn RS w A c ps) (hk : k < ps.length) : ∃ b off, A = some ⟨b, off, none⟩ ∧
    w.cell? ⟨b, off + k * 5, none⟩ = some (.int .i64 ps[k].node) ∧ w.cell? ⟨b, off + k * 5 + 1, none⟩ = some (.int .i64 ps[k].target) ∧ w.cell? ⟨b, off + k * 5 + 2, none⟩ = some (.int .i64 ps[k].related) ∧ w.cell? ⟨b, off + k * 5 + 3, none⟩ = some (.bool ps[k].cr) ∧ w.cell? ⟨b, off + k * 5 + 4, none⟩ = some (.bool ps[k].cs) := by
  obtain ⟨b, off, e, _, hc⟩ := h.at_ k hk
  refine ⟨b, off, e, ?_⟩
  simp only [Nat.add_assoc]
  exact ⟨hc 0 (by decide), hc 1 (by decide), hc 2 (by decide), hc 3 (by decide), hc 4 (by decide)⟩
/-- A list of records, written out. -/
theorem rec_lit {α : Type} {R : Rec α} {W : World} {b : Nat} {e : TypeId} {fr : Nat × Nat} {xs : List α} (h : Has W b (.cells (flatR R xs).toArray e fr)) : RecIn R W (some ⟨b, 0, none⟩) xs.length xs :=
  ⟨Nat.le_refl _, (fun e => by cases e), fun i hi => ⟨b, 0, rfl, h.inside, fun f hf => by rw [h.cell, Nat.zero_add, List.getElem?_toArray, flatR_get (List.getElem?_eq_getElem hi) hf]⟩⟩
theorem Try.infoS : (Try.prog.info? 44).map (fun i => (i.zero, i.size, i.bytes)) = some (some (.agg #[.int .i64 0, .int .i64 0, .int .i64 0, .bool false, .bool false]), 5, 32) := by kernel_rfl
theorem rec_empty (w : World) : Recs RS 44 w.heap.size (w.alloc (.cells #[] 44)) (.slice (some ⟨w.heap.size, 0, none⟩) 0 0) [] :=
  ⟨rfl, .inr ⟨w.heap.size, 0, #[], rfl, Nat.le_refl _, Has.fresh w (.cells #[] 44), Nat.le_refl _, Nat.zero_le _, rfl, rfl⟩⟩
end Go.Proofs.Ytekmgaigppenlaa

namespace Go.Proofs.Ytekmgaigppenlaa
open Go

/-- A closed Shadow? -/
def crB (l : List Nd) (i : Int) : Bool := decide ((nd l i).kind = 3) && decide ((nd l i).mode = 2)
def csB (l : List Nd) (prev i : Int) : Bool := decide (ofL l prev ≠ 0) && crB l (rootL l i)
/-- The entries behind the first one; prev is the entry ahead's node, t the target that is told. -/
def mkP (l : List Nd) (rel : Int) : Int → Int → List Int → List Stp
  | _, _, [] => []
  | prev, t, i :: r =>
    if hasB (over l i) (rootL l t) = true then ⟨i, 0, aimL l rel i, crB l i, csB l prev i⟩ :: mkP l rel i t r
    else if i = aimL l rel i then []
    else ⟨i, i, aimL l rel i, crB l i, csB l prev i⟩ :: mkP l rel i i r
def makeP (l : List Nd) (target rel : Int) (comp : Bool) : List Stp :=
  match wayE l target comp with
  | [] => []
  | i :: r => if aimL l rel i = target ∧ rel ≠ target then [] else ⟨i, target, aimL l rel i, crB l i, false⟩ :: mkP l rel i target r

section
variable {l : List Nd} {rel prev t target i : Int} {comp : Bool} {xs : List Int} {p : List Stp} {s : Stp}
theorem wayE_no (h : thereB l target = false) : wayE l target comp = [] := upE_no h
theorem wayE_yes (h : thereB l target = true) : ∃ r, wayE l target comp = target :: r := ⟨_, upE_go h⟩
theorem makeP_no (h : thereB l target = false) : makeP l target rel comp = [] := by
  unfold makeP
  rw [wayE_no h]
/-- The nodes of a path are the beginning of the way. -/
theorem mkP_nodes : ∀ (xs : List Int) (prev t : Int), (mkP l rel prev t xs).map Stp.node <+: xs
  | [], _, _ => List.nil_prefix
  | i :: r, prev, t => by
    rw [mkP]
    split
    · rw [List.map_cons]
      exact (List.prefix_cons_inj i).2 (mkP_nodes r i t)
    · split
      · exact List.nil_prefix
      · rw [List.map_cons]
        exact (List.prefix_cons_inj i).2 (mkP_nodes r i i)
theorem makeP_nodes : (makeP l target rel comp).map Stp.node <+: wayE l target comp := by
  unfold makeP
  cases wayE l target comp with
  | nil => exact List.nil_prefix
  | cons i r =>
    simp only
    split
    · exact List.nil_prefix
    · rw [List.map_cons]
      exact (List.prefix_cons_inj i).2 (mkP_nodes r i target)
/-- What is told at an entry is the entry's node, or what was told ahead. -/
theorem mkP_target : ∀ (xs : List Int) (prev t : Int), ∀ s ∈ mkP l rel prev t xs, s.target = 0 ∨ s.target = s.node
  | [], _, _, s, h => by cases h
  | i :: r, prev, t, s, h => by
    rw [mkP] at h
    split at h
    · rcases List.mem_cons.1 h with rfl | h
      · exact .inl rfl
      · exact mkP_target r i t s h
    · split at h
      · cases h
      · rcases List.mem_cons.1 h with rfl | h
        · exact .inr rfl
        · exact mkP_target r i i s h
/-- At no entry is the target that is told there, nor the related one, hidden from its node. -/
def HidesP (l : List Nd) : Int → List Stp → Prop
  | _, [] => True
  | t, s :: r => hidL l (if s.target ≠ 0 then s.target else t) s.node = false ∧ (s.related ≠ 0 → hidL l s.related s.node = false) ∧ HidesP l (if s.target ≠ 0 then s.target else t) r
theorem aimL_hid (T : Tree l) (h : aimL l rel i ≠ 0) : hidL l (aimL l rel i) i = false := by
  cases hr : thereB l rel with
  | true => exact aimL_hides T hr
  | false => exact absurd (aimL_no hr) h
theorem mkP_hides (T : Tree l) : ∀ (xs : List Int) (prev t : Int), (∀ x ∈ xs, thereB l x = true) → HidesP l t (mkP l rel prev t xs)
  | [], _, _, _ => trivial
  | i :: r, prev, t, hx => by
    have hi := hx i (by simp)
    have hi0 : i ≠ 0 := fun e => by rw [e, thereB_zero] at hi; cases hi
    have hr : ∀ x ∈ r, thereB l x = true := fun x h => hx x (by simp [h])
    rw [mkP]
    split
    · rename_i hh
      have e : (if (0 : Int) ≠ 0 then (0 : Int) else t) = t := if_neg (by decide)
      refine ⟨?_, fun h0 => aimL_hid T h0, ?_⟩
      · show hidL l (if (0 : Int) ≠ 0 then (0 : Int) else t) i = false
        rw [e]
        exact hid_held T (hasB_mem hh)
      · show HidesP l (if (0 : Int) ≠ 0 then (0 : Int) else t) _
        rw [e]
        exact mkP_hides T r i t hr
    · split
      · trivial
      · have e : (if i ≠ 0 then i else t) = i := if_pos hi0
        refine ⟨?_, fun h0 => aimL_hid T h0, ?_⟩
        · show hidL l (if i ≠ 0 then i else t) i = false
          rw [e]
          exact hid_self T
        · show HidesP l (if i ≠ 0 then i else t) _
          rw [e]
          exact mkP_hides T r i i hr
theorem makeP_hides (T : Tree l) (t0 : Int) : HidesP l t0 (makeP l target rel comp) := by
  cases ht : thereB l target with
  | false => rw [makeP_no ht]; trivial
  | true =>
    have h0 : target ≠ 0 := fun e => by rw [e, thereB_zero] at ht; cases ht
    obtain ⟨r, hr⟩ := wayE_yes (comp := comp) ht
    have hx : ∀ x ∈ r, thereB l x = true := fun x h => upE_there (l.length + 1) target x (by
      show x ∈ wayE l target comp
      rw [hr]
      exact List.mem_cons_of_mem _ h)
    unfold makeP
    rw [hr]
    simp only
    split
    · trivial
    · have e : (if target ≠ 0 then target else t0) = target := if_pos h0
      refine ⟨?_, fun h0 => aimL_hid T h0, ?_⟩
      · show hidL l (if target ≠ 0 then target else t0) target = false
        rw [e]
        exact hid_self T
      · show HidesP l (if target ≠ 0 then target else t0) _
        rw [e]
        exact mkP_hides T r target target hx
/-- Without a related node: related to nobody, and the whole way. -/
theorem aimL_nobody : aimL l 0 i = 0 := aimL_no thereB_zero
theorem mkP_whole : ∀ (xs : List Int) (prev t : Int), (∀ x ∈ xs, thereB l x = true) → (mkP l 0 prev t xs).map Stp.node = xs ∧ ∀ s ∈ mkP l 0 prev t xs, s.related = 0
  | [], _, _, _ => ⟨rfl, fun s h => by cases h⟩
  | i :: r, prev, t, hx => by
    have hi := hx i (by simp)
    have hi0 : i ≠ 0 := fun e => by rw [e, thereB_zero] at hi; cases hi
    have hr : ∀ x ∈ r, thereB l x = true := fun x h => hx x (by simp [h])
    rw [mkP, aimL_nobody]
    split
    · obtain ⟨h1, h2⟩ := mkP_whole r i t hr
      refine ⟨by rw [List.map_cons, h1], fun s hs => ?_⟩
      rcases List.mem_cons.1 hs with rfl | hs
      · rfl
      · exact h2 s hs
    · obtain ⟨h1, h2⟩ := mkP_whole r i i hr
      refine ⟨by rw [List.map_cons, h1], fun s hs => ?_⟩
      rcases List.mem_cons.1 hs with rfl | hs
      · rfl
      · exact h2 s hs
theorem way_there : ∀ x ∈ wayE l target comp, thereB l x = true := fun x h => upE_there (l.length + 1) target x h
theorem makeP_whole (ht : thereB l target = true) : (makeP l target 0 comp).map Stp.node = wayE l target comp ∧ ∀ s ∈ makeP l target 0 comp, s.related = 0 := by
  have h0 : target ≠ 0 := fun e => by rw [e, thereB_zero] at ht; cases ht
  obtain ⟨r, hr⟩ := wayE_yes (comp := comp) ht
  have hx : ∀ x ∈ r, thereB l x = true := fun x h => way_there (target := target) (comp := comp) x (by rw [hr]; exact List.mem_cons_of_mem _ h)
  obtain ⟨h1, h2⟩ := mkP_whole r target target hx
  unfold makeP
  rw [hr]
  simp only
  rw [aimL_nobody, if_neg fun h => h0 h.1.symm]
  refine ⟨by rw [List.map_cons, h1], fun s hs => ?_⟩
  rcases List.mem_cons.1 hs with rfl | hs
  · rfl
  · exact h2 s hs
/-- Where the way ends there is no parent for the event. -/
theorem upE_last (T : Tree l) : ∀ (n : Nat) (i x : Int), (upE l target comp n i).length < n → (upE l target comp n i).getLast? = some x → parE l target comp x = 0
  | 0, i, x, h, _ => absurd h (Nat.not_lt_zero _)
  | n + 1, i, x, h, hl => by
    cases ht : thereB l i with
    | false => rw [upE_no ht] at hl; cases hl
    | true =>
      rw [upE_go ht] at h hl
      rw [List.length_cons] at h
      cases hr : upE l target comp n (parE l target comp i) with
      | nil =>
        rw [hr] at hl h
        obtain rfl : i = x := by simpa using hl
        refine Decidable.byContradiction fun h0 => ?_
        have := (parE_there T h0).2
        cases n with
        | zero => simp at h
        | succ n =>
          rw [upE_go this] at hr
          cases hr
      | cons y r =>
        rw [hr, List.getLast?_cons_cons, ← hr] at hl
        exact upE_last T n _ x (by omega) hl
theorem wayE_last (T : Tree l) {x : Int} (h : (wayE l target comp).getLast? = some x) : parE l target comp x = 0 := upE_last T _ target x (Nat.lt_succ_of_le (upE_len T _ _)) h
/-- With a related node it is the beginning of that without. -/
def bareP (s : Stp) : Stp := { s with related := 0 }
theorem mkP_part : ∀ (xs : List Int) (prev t : Int), (∀ x ∈ xs, thereB l x = true) → (mkP l rel prev t xs).map bareP <+: mkP l 0 prev t xs
  | [], _, _, _ => List.nil_prefix
  | i :: r, prev, t, hx => by
    have hi := hx i (by simp)
    have hi0 : i ≠ 0 := fun e => by rw [e, thereB_zero] at hi; cases hi
    have hr : ∀ x ∈ r, thereB l x = true := fun x h => hx x (by simp [h])
    rw [mkP, mkP, aimL_nobody]
    by_cases h1 : hasB (over l i) (rootL l t) = true
    · rw [if_pos h1, if_pos h1, List.map_cons]
      exact (List.prefix_cons_inj _).2 (mkP_part r i t hr)
    · rw [if_neg h1, if_neg h1, if_neg hi0]
      split
      · exact List.nil_prefix
      · rw [List.map_cons]
        exact (List.prefix_cons_inj _).2 (mkP_part r i i hr)
theorem makeP_part : (makeP l target rel comp).map bareP <+: makeP l target 0 comp := by
  cases ht : thereB l target with
  | false => rw [makeP_no ht, makeP_no ht]; exact List.nil_prefix
  | true =>
    have h0 : target ≠ 0 := fun e => by rw [e, thereB_zero] at ht; cases ht
    obtain ⟨r, hr⟩ := wayE_yes (comp := comp) ht
    have hx : ∀ x ∈ r, thereB l x = true := fun x h => way_there (target := target) (comp := comp) x (by rw [hr]; exact List.mem_cons_of_mem _ h)
    unfold makeP
    rw [hr]
    simp only
    rw [aimL_nobody, if_neg fun h : (0 : Int) = target ∧ (0 : Int) ≠ target => h0 h.1.symm]
    split
    · exact List.nil_prefix
    · rw [List.map_cons]
      exact (List.prefix_cons_inj _).2 (mkP_part r target target hx)
end
end Go.Proofs.Ytekmgaigppenlaa

namespace Go.Proofs.Ytekmgaigppenlaa
open Go

/-- One walk: of each entry, does the level rise ahead of it, does it fall behind it; which entries are seen. -/
def walkF : Int → Int → List (Bool × Bool) → List Bool
  | _, _, [] => []
  | lev, lim, (a, o) :: r =>
    decide (lev + (if a = true then 1 else 0) ≤ lim) ::
      (if o = true then walkF (lev + (if a = true then 1 else 0) - 1) (if lev + (if a = true then 1 else 0) - 1 < lim then lev + (if a = true then 1 else 0) - 1 else lim) r
       else walkF (lev + (if a = true then 1 else 0)) lim r)
/-- A stack on the way: what comes on it isn't in B, and is Q. -/
inductive Chain (B Q : Int → Prop) : List Int → List ((Bool × Bool) × List Int) → Prop
  | nil (T : List Int) : Chain B Q T []
  | cons {T S T' : List Int} {a o : Bool} {r : List ((Bool × Bool) × List Int)} (h1 : a = true → ∃ c, S = c :: T ∧ ¬ B c ∧ Q c) (h2 : a = false → S = T) (h3 : o = true → ∃ c, S = c :: T') (h4 : o = false → T' = S) (h : Chain B Q T' r) : Chain B Q T (((a, o), S) :: r)
/-- An entry's answer is right. -/
def Right1 (B Q : Int → Prop) (f : Bool) (S : List Int) : Prop := (f = true ∧ ∀ c ∈ S, B c) ∨ (f = false ∧ ∃ c r, S = c :: r ∧ ¬ B c ∧ Q c)
theorem walk_len : ∀ (es : List (Bool × Bool)) (lev lim : Int), (walkF lev lim es).length = es.length
  | [], _, _ => rfl
  | (a, o) :: r, lev, lim => by
    rw [walkF, List.length_cons, List.length_cons]
    split
    · rw [walk_len r]
    · rw [walk_len r]
theorem walk_ok {B Q : Int → Prop} : ∀ (es : List ((Bool × Bool) × List Int)) (T P R : List Int) (K : Int), Chain B Q T es → T = P ++ R → (∀ c ∈ P, ¬ B c ∧ Q c) → (∀ c ∈ R, B c) →
    ∀ (i : Nat) (f : Bool) (e : (Bool × Bool) × List Int), (walkF (K + T.length) (K + R.length) (es.map (·.1)))[i]? = some f → es[i]? = some e → Right1 B Q f e.2
  | [], T, P, R, K, _, _, _, _, i, f, e, _, he => by simp at he
  | ((a, o), S) :: r, T, P, R, K, hch, hT, hP, hR, i, f, e, hf, he => by
    cases hch with
    | cons h1 h2 h3 h4 h =>
      rename_i T'
      -- the stack at this entry
      obtain ⟨P', hS, hP', hlen⟩ : ∃ P', S = P' ++ R ∧ (∀ c ∈ P', ¬ B c ∧ Q c) ∧ K + (T.length : Int) + (if a = true then 1 else 0) = K + (S.length : Int) := by
        cases a with
        | true =>
          obtain ⟨c, e1, e2, e3⟩ := h1 rfl
          refine ⟨c :: P, by rw [e1, hT]; rfl, fun x hx => ?_, by rw [e1, List.length_cons]; simp; omega⟩
          rcases List.mem_cons.1 hx with rfl | hx
          · exact ⟨e2, e3⟩
          · exact hP x hx
        | false =>
          have e1 := h2 rfl
          exact ⟨P, by rw [e1, hT], hP, by rw [e1]; simp⟩
      rw [List.map_cons, walkF, hlen] at hf
      have hSl : S.length = P'.length + R.length := by rw [hS, List.length_append]
      cases i with
      | zero =>
        obtain rfl : ((a, o), S) = e := by simpa using he
        have hf' : decide (K + (S.length : Int) ≤ K + (R.length : Int)) = f := by simpa using hf
        show Right1 B Q f S
        cases P' with
        | nil =>
          refine .inl ⟨?_, fun c hc => hR c (by rw [hS] at hc; simpa using hc)⟩
          rw [← hf', decide_eq_true_iff, hSl]
          simp
        | cons p P'' =>
          refine .inr ⟨?_, p, P'' ++ R, hS, hP' p (by simp)⟩
          rw [← hf', decide_eq_false_iff_not, hSl, List.length_cons]
          omega
      | succ i =>
        rw [List.getElem?_cons_succ] at hf he
        cases o with
        | false =>
          rw [if_neg (by decide)] at hf
          have e1 := h4 rfl
          subst e1
          exact walk_ok r T' P' R K h hS hP' hR i f e hf he
        | true =>
          rw [if_pos rfl] at hf
          obtain ⟨c, e1⟩ := h3 rfl
          have hl1 : K + (S.length : Int) - 1 = K + (T'.length : Int) := by rw [e1, List.length_cons]; omega
          rw [hl1] at hf
          cases P' with
          | cons p P'' =>
            have e2 : T' = P'' ++ R := by
              rw [hS] at e1
              exact (List.cons.inj e1).2.symm
            have hge : ¬ (K + (T'.length : Int) < K + (R.length : Int)) := by
              rw [e2, List.length_append]
              omega
            rw [if_neg hge] at hf
            exact walk_ok r T' P'' R K h e2 (fun c hc => hP' c (by simp [hc])) hR i f e hf he
          | nil =>
            have e2 : R = c :: T' := by
              rw [hS] at e1
              exact e1
            have hlt : K + (T'.length : Int) < K + (R.length : Int) := by
              rw [e2, List.length_cons]
              omega
            rw [if_pos hlt] at hf
            exact walk_ok r T' [] T' K h rfl (fun c hc => by cases hc) (fun x hx => hR x (by rw [e2]; simp [hx])) i f e hf he

/-- What is left of the closed roots behind a node. -/
def popS (l : List Nd) (x : Int) : List Int := if crB l x = true then clsL l (hostL l x) else clsL l x
section
variable {l : List Nd} {first x y c i k : Int} {comp : Bool}
theorem crB_iff : crB l x = true ↔ (nd l x).kind = 3 ∧ (nd l x).mode = 2 := by
  unfold crB
  rw [Bool.and_eq_true, decide_eq_true_iff, decide_eq_true_iff]
theorem root_shadow (T : Tree l) (hx : thereB l x = true) (h3 : (nd l x).kind = 3) : rootL l x = x := rootL_own T hx (T.bare x hx (.inr h3))
theorem popS_yes (T : Tree l) (hx : thereB l x = true) (h : crB l x = true) : clsL l x = x :: popS l x := by
  obtain ⟨h3, h2⟩ := crB_iff.1 h
  have hr := root_shadow T hx h3
  unfold popS
  rw [if_pos h, clsL_yes T hx (by rw [hr]; exact h2), hr]
theorem popS_no (h : crB l x = false) : clsL l x = popS l x := by
  unfold popS
  rw [if_neg (by rw [h]; decide)]
theorem popS_sub (T : Tree l) (hx : thereB l x = true) : ∀ c ∈ popS l x, c ∈ clsL l x := fun c hc => by
  cases h : crB l x with
  | true => rw [popS_yes T hx h]; exact List.mem_cons_of_mem _ hc
  | false => rw [popS_no h]; exact hc
/-- From a node to its parent for the event: a closed tree is left, or come into, or neither. -/
theorem cls_step (T : Tree l) (hx : thereB l x = true) (hy : thereB l (parE l first comp x) = true) :
    clsL l (parE l first comp x) = if csB l x (parE l first comp x) = true then rootL l (parE l first comp x) :: popS l x else popS l x := by
  have h0 : parE l first comp x ≠ 0 := fun e => by rw [e, thereB_zero] at hy; cases hy
  unfold parE at h0 hy ⊢
  rw [if_pos hx] at h0 hy ⊢
  by_cases ho : ofL l x ≠ 0
  · rw [if_pos ho] at h0 hy ⊢
    obtain ⟨-, k2, hp, hk, hq, -, r3, hh⟩ := of_what T ho
    have hcr : crB l x = false := by
      cases hc : crB l x with
      | false => rfl
      | true =>
        have := (crB_iff.1 hc).1
        omega
    have hpar : clsL l x = clsL l (nd l x).parent := by
      have hp0 : (nd l x).parent ≠ 0 := fun e => by rw [e, thereB_zero] at hp; cases hp
      have hr := rootL_par T hx hp0
      have hho : hostL l x = hostL l (nd l x).parent := by rw [hostL_at hx, hostL_at hp, hr]
      by_cases hm : (nd l (rootL l x)).mode = 2
      · rw [clsL_yes T hx hm, clsL_yes T hp (by rw [← hr]; exact hm), hr, hho]
      · rw [clsL_not T hx hm, clsL_not T hp (by rw [← hr]; exact hm), hho]
    have hcs : csB l x (ofL l x) = decide ((nd l (rootL l (ofL l x))).mode = 2) := by
      unfold csB crB
      rw [decide_eq_true ho, decide_eq_true r3]
      rfl
    rw [hcs, ← popS_no hcr, hpar, ← hh]
    by_cases hm : (nd l (rootL l (ofL l x))).mode = 2
    · rw [if_pos (decide_eq_true hm)]
      exact clsL_yes T hq hm
    · rw [if_neg (by rw [decide_eq_false hm]; decide)]
      exact clsL_not T hq hm
  · rw [if_neg ho] at h0 hy ⊢
    have hcs : ∀ z, csB l x z = false := fun z => by
      unfold csB
      rw [decide_eq_false ho]
      rfl
    by_cases h3 : (nd l x).kind = 3
    · rw [if_pos h3] at h0 hy ⊢
      by_cases hc : comp = false ∧ rootL l first = x
      · rw [if_pos hc] at h0
        exact absurd rfl h0
      · rw [if_neg hc] at h0 hy ⊢
        rw [hcs, if_neg Bool.false_ne_true]
        have hr := root_shadow T hx h3
        have hh : hostL l x = (nd l x).host := by rw [hostL_at hx, hr]
        unfold popS
        by_cases hm : (nd l x).mode = 2
        · rw [if_pos (crB_iff.2 ⟨h3, hm⟩), hh]
        · rw [if_neg (fun h => hm (crB_iff.1 h).2), clsL_not T hx (by rw [hr]; exact hm), hh]
    · rw [if_neg h3] at h0 hy ⊢
      rw [hcs, if_neg Bool.false_ne_true]
      have hcr : crB l x = false := by
        cases hc : crB l x with
        | false => rfl
        | true => exact absurd (crB_iff.1 hc).1 h3
      rw [← popS_no hcr]
      have hr := rootL_par T hx h0
      have hho : hostL l x = hostL l (nd l x).parent := by rw [hostL_at hx, hostL_at hy, hr]
      by_cases hm : (nd l (rootL l x)).mode = 2
      · rw [clsL_yes T hx hm, clsL_yes T hy (by rw [← hr]; exact hm), hr, hho]
      · rw [clsL_not T hx hm, clsL_not T hy (by rw [← hr]; exact hm), hho]
end
end Go.Proofs.Ytekmgaigppenlaa
