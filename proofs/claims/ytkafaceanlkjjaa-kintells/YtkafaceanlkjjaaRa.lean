/-
  What towncrierref04.Nodes and Up, towncrierref05.Root and Above do.
-/
import Derived.Test.YtkafaceanlkjjaaKc
import Derived.Test.YtkafaceanlkjjaaAra
namespace Go.Proofs.Ytkafaceanlkjjaa
open Go Go.RowKit

set_option maxHeartbeats 4000000 in
set_option maxRecDepth 100000 in
theorem refNodes (A : Option Addr) (n c : Nat) (xs : List Ac) (w : World) (hn : xs.length = n) (h : Acts w A xs) (hs : Small xs) :
    Calls Try.prog 9 #[.slice A n c] w fun e w' => ∃ A' c', e = .returned (.slice A' (forest xs).length c') ∧ Nodes (fun i => w.heap.size ≤ i) w' 0 A' c' (forest xs) ∧ Below w.heap.size w w' := by
  have H := Lib.hid h
  have Hn := Lib.hid hn
  have Hs := Lib.hid hs
  have hnb : n ≤ 300 := by rw [← hn]; exact hs.1
  clear h hn hs
  go_enter Try.func9, Try.ntmps9
  go_wp2_with fail
  go_loopw [3, 4] (fun v i wr => ∃ (j : Nat) (A' : Option Addr) (c' : Nat), v = .slice A' (forest (xs.take j)).length c' ∧ i = .int .i64 j ∧ j ≤ n ∧ Nodes (fun i => w.heap.size ≤ i) wr 0 A' c' (forest (xs.take j)) ∧ Below w.heap.size w wr) (fun _ i _ => n - (intOf i).toNat)
  case atStart => exact ⟨0, none, 0, rfl, rfl, Nat.zero_le _, Nodes.nil _ _, Below.refl _ _⟩
  case round =>
    obtain ⟨j, A', c', rfl, rfl, hj, hN, hb⟩ := hrel
    by_cases hjn : (j : Int) < n
    · have hjx : j < xs.length := by rw [Hn.out]; omega
      obtain ⟨b', off, A1, c1, A2, c2, rfl, hB, hc, hL, hA⟩ := H.out j hjx
      have hsn : forest (xs.take (j + 1)) = actL (forest (xs.take j)) xs[j] := by
        rw [List.take_add_one, List.getElem?_eq_getElem hjx]
        exact forest_snoc _ _
      have hxl : xs[j].l.length ≤ 200 := Hs.out.2 _ (List.getElem_mem hjx)
      have hg : Good (forest (xs.take j)) := good_take Hs.out j
      obtain ⟨l, hl⟩ : ∃ l, l = forest (xs.take j) := ⟨_, rfl⟩
      rw [← hl] at hsn hg hN
      rw [← hl]
      obtain ⟨x, hx⟩ : ∃ x, x = xs[j] := ⟨_, rfl⟩
      rw [← hx] at hc hA hsn hxl
      clear hl hx hL
      have hc' : ∀ f, f < 14 → wr.cell? ⟨b', off + j * 14 + f, none⟩ = (actCells x (.slice A1 x.n.kids.length c1) (.slice A2 x.l.length c2))[f]? := fun f hf => by
        rw [hb.cell (p := ⟨b', off + j * 14 + f, none⟩) hB, Nat.add_assoc]
        exact hc f hf
      have g0 : wr.cell? ⟨b', off + j * 14, none⟩ = some (.int .i64 x.kind) := hc' 0 (by omega)
      have g1 : wr.cell? ⟨b', off + j * 14 + 1, none⟩ = some (.int .i64 x.a) := hc' 1 (by omega)
      have g2 : wr.cell? ⟨b', off + j * 14 + 2, none⟩ = some (.int .i64 x.b) := hc' 2 (by omega)
      have g3 : wr.cell? ⟨b', off + j * 14 + 3, none⟩ = some (.string x.s) := hc' 3 (by omega)
      have g4 : wr.cell? ⟨b', off + j * 14 + 4, none⟩ = some (.int .i64 x.n.kind) := hc' 4 (by omega)
      have g5 : wr.cell? ⟨b', off + j * 14 + 5, none⟩ = some (.int .i64 x.n.parent) := hc' 5 (by omega)
      have g6 : wr.cell? ⟨b', off + j * 14 + 6, none⟩ = some (.int .i64 x.n.host) := hc' 6 (by omega)
      have g7 : wr.cell? ⟨b', off + j * 14 + 7, none⟩ = some (.int .i64 x.n.shadow) := hc' 7 (by omega)
      have g8 : wr.cell? ⟨b', off + j * 14 + 8, none⟩ = some (.int .i64 x.n.mode) := hc' 8 (by omega)
      have g9 : wr.cell? ⟨b', off + j * 14 + 9, none⟩ = some (.bool x.n.slot) := hc' 9 (by omega)
      have g10 : wr.cell? ⟨b', off + j * 14 + 10, none⟩ = some (.string x.n.name) := hc' 10 (by omega)
      have g11 : wr.cell? ⟨b', off + j * 14 + 11, none⟩ = some (.string x.n.want) := hc' 11 (by omega)
      have g12 : wr.cell? ⟨b', off + j * 14 + 12, none⟩ = some (.slice A1 x.n.kids.length c1) := hc' 12 (by omega)
      have g13 : wr.cell? ⟨b', off + j * 14 + 13, none⟩ = some (.slice A2 x.l.length c2) := hc' 13 (by omega)
      have C := do_any l A' c' x (.slice A1 x.n.kids.length c1) A2 c2 wr (Nat.le_trans hg.len (by decide)) (fun d hd => Nat.le_trans (hg.few d hd) (by decide)) (G := fun i => w.heap.size ≤ i) (fun i hi => Nat.le_trans hb.size hi) (Nat.le_trans hxl (by decide)) hN (hA.below hb)
      unfold actVal at C
      have HC := Lib.hid C
      have Hsn := Lib.hid hsn
      clear C hc hc' hsn hA hN hg
      go_wp2_with fail
      refine HC.out.mono ?_
      rintro e w2 ⟨A3, c3, rfl, hN3, hb3⟩
      go_wp2
      go_roundw
      case rel => exact ⟨j + 1, A3, c3, by rw [Hsn.out], by go_num, by omega, by rw [Hsn.out]; exact hN3, hb.trans (hb3.mono hb.size)⟩
      case measure => simp [intOf]; omega
    · rw [List.take_of_length_le (by rw [Hn.out]; omega)] at hN
      have e0 : (forest (xs.take j)).length = (forest xs).length := by rw [List.take_of_length_le (by rw [Hn.out]; omega)]
      rw [e0]
      clear e0
      go_wp2
      go_ret
      exact ⟨A', c', rfl, hN, hb⟩
section
variable {G : Nat → Prop}
set_option maxHeartbeats 4000000 in
set_option maxRecDepth 100000 in
theorem refUp (l : List Nd) (A : Option Addr) (c : Nat) (id : Int) (w : World) (hl : l.length ≤ 1000) (h : Nodes G w 0 A c l) :
    Calls Try.prog 14 #[.slice A l.length c, .int .i64 id] w fun e w' => ∃ v, e = .returned v ∧ Pile w.heap.size w' v (parL l id) ∧ Below w.heap.size w w' := by
  have H := Lib.hid h
  obtain ⟨R, hR⟩ : ∃ R, R = parL l id := ⟨_, rfl⟩
  rw [← hR]
  have hR0 : ([] : List Int) ++ parN l (l.length + 1 - 0) id = R := by rw [hR]; rfl
  have HR0 := Lib.hid hR0
  clear h hR hR0
  go_enter Try.func14, Try.ntmps14
  go_wp2_with fail
  go_loopw [1, 5, 6] (fun a o i wr => ∃ (j : Nat) (id : Int) (xs : List Int), a = .int .i64 id ∧ i = .int .i64 j ∧ j ≤ l.length + 1 ∧ xs.length = j ∧ xs ++ parN l (l.length + 1 - j) id = R ∧ Pile w.heap.size wr o xs ∧ Below w.heap.size w wr) (fun _ _ i _ => l.length + 1 - (intOf i).toNat)
  case atStart => exact ⟨0, id, [], rfl, rfl, Nat.zero_le _, rfl, HR0.out, Pile.nil _ _, Below.refl _ _⟩
  case round =>
    obtain ⟨j, id, xs, rfl, rfl, hj, hxl, hxs, hP, hb⟩ := hrel
    have Hxs := Lib.hid hxs
    have Hxl := Lib.hid hxl
    clear HR0 hxs hxl
    obtain ⟨Ao, co, rfl, -⟩ := hP.form
    by_cases hjl : (j : Int) ≤ l.length
    · cases hth : thereB l id with
      | true =>
        have hgo : parN l (l.length + 1 - j) id = id :: parN l (l.length + 1 - (j + 1)) (nd l id).parent := by
          rw [show l.length + 1 - j = (l.length + 1 - (j + 1)) + 1 by omega]
          exact par_go hth
        obtain ⟨m, rfl, hml⟩ := there_at hth
        obtain ⟨g, k, rfl, -, hgw, -, -, -, c1, -⟩ := H.out.nine hml
        have hfin : (xs ++ [(m : Int) + 1]) ++ parN l (l.length + 1 - (j + 1)) (nd l ((m : Int) + 1)).parent = R := by
          rw [List.append_assoc, List.singleton_append, ← hgo]
          exact Hxs.out
        obtain ⟨pa, hpa⟩ : ∃ pa, pa = (nd l ((m : Int) + 1)).parent := ⟨_, rfl⟩
        rw [← hpa] at c1 hfin
        have Hfin := Lib.hid hfin
        have hxb : xs.length ≤ 1000000 := by rw [Hxl.out]; omega
        have Hth := Lib.hid hth
        have hown := hP.lt
        have HP2 : Hid (Pile w.heap.size (wr.alloc (.cells #[.int .i64 ((m : Int) + 1)] 3)) (.slice Ao xs.length co) xs) := Lib.hid (hP.alloc _)
        have HB2 : Hid (Has (wr.alloc (.cells #[.int .i64 ((m : Int) + 1)] 3)) wr.heap.size (.cells #[.int .i64 ((m : Int) + 1)] 3 (0, 0))) := Lib.hid (Has.fresh _ _)
        have HS2 : Hid (w.heap.size ≤ (wr.alloc (.cells #[.int .i64 ((m : Int) + 1)] 3)).heap.size) := Lib.hid (by have := hb.size; simp; omega)
        have HE : Hid (∀ w2, Keeps (fun i => (Value.slice Ao xs.length co).ownBlock = some i) (wr.alloc (.cells #[.int .i64 ((m : Int) + 1)] 3)) w2 → Below w.heap.size w w2) := Lib.hid fun w2 hk2 =>
          below_then (hb.alloc hb.size _) hk2 (by have := hb.size; simp; omega) fun i hi e => by have := (hown _ e).1; omega
        have C1 := Lib.hid c1
        clear hgo hth hpa c1 hfin Hxs hP hown hb
        go_wp2_with fail
        refine (there_any l _ c _ wr).mono ?_
        rintro e w1 ⟨rfl, rfl⟩
        rw [Hth.out]
        go_wp2_with (at_builtin; refine wpList_push rfl (.tmp 18) (.tmp 20) rfl rfl HP2.out rfl HB2.out hxb HS2.out ?_; intro g2 cap w2 hp2 hk2 _ _; have hb2 := HE.out w2 hk2; have d1 := (hb2.cell (p := ⟨g, m * 9 + 1, none⟩) hgw).trans C1.out)
        go_roundw
        case rel => exact ⟨j + 1, _, xs ++ [(m : Int) + 1], rfl, by go_num, by omega, by simp [Hxl.out], Hfin.out, by simpa using hp2, hb2⟩
        case measure => simp [intOf]; omega
      | false =>
        go_wp2_with fail
        refine (there_any l A c id wr).mono ?_
        rintro e w1 ⟨rfl, rfl⟩
        rw [hth]
        go_wp2
        go_ret
        refine ⟨_, rfl, ?_, hb⟩
        have := Hxs.out
        rw [par_no hth, List.append_nil] at this
        rw [← this]
        exact hP
    · go_wp2
      go_ret
      refine ⟨_, rfl, ?_, hb⟩
      have := Hxs.out
      rw [show l.length + 1 - j = 0 by omega] at this
      rw [← this, parN, List.append_nil]
      exact hP
set_option maxHeartbeats 1000000 in
theorem refRoot (l : List Nd) (A : Option Addr) (c : Nat) (id : Int) (w : World) (hg : Good l) (h : Nodes G w 0 A c l) :
    Calls Try.prog 11 #[.slice A l.length c, .int .i64 id] w fun e w' => e = .returned (.int .i64 (rootL l id)) ∧ Below w.heap.size w w' := by
  have C := Lib.hid (refUp l A c id w (Nat.le_trans hg.len (by decide)) h)
  have hRl : (parL l id).length ≤ 128 := Nat.le_trans (parL_len hg.tree id) hg.len
  have hroot : rootL l id = lastL (parL l id) := rfl
  rw [hroot]
  obtain ⟨R, hR⟩ : ∃ R, R = parL l id := ⟨_, rfl⟩
  rw [← hR] at hRl C
  rw [← hR]
  clear h hg hR hroot
  go_enter Try.func11, Try.ntmps11
  go_wp2_with fail
  refine C.out.mono ?_
  rintro e w1 ⟨v, rfl, hP, hb⟩
  obtain ⟨A, c, rfl, hL⟩ := hP.form
  clear C hP
  cases hm : R.length with
  | zero =>
    have e0 : lastL R = 0 := by rw [List.length_eq_zero_iff.1 hm]; rfl
    have E0 := Lib.hid e0
    have Hm := Lib.hid hm
    clear e0 hm
    go_wp2
    go_ret
    rw [E0.out]
    exact ⟨rfl, hb⟩
  | succ m =>
    have e0 := lastL_at hm
    obtain ⟨b', off, rfl, -, hc⟩ := hL.nums m (by omega)
    obtain ⟨y, hy⟩ : ∃ y, y = R[m]'(by omega) := ⟨_, rfl⟩
    rw [← hy] at hc e0
    have E0 := Lib.hid e0
    clear e0
    have hm' : m ≤ 128 := by omega
    have z1 : (((m : Int) + 1) == 0) = false := by rw [beq_eq_false_iff_ne]; omega
    clear hm hy hL hRl
    go_wp2
    go_ret
    rw [E0.out]
    exact ⟨rfl, hb⟩
theorem refAbove (l : List Nd) (A : Option Addr) (c : Nat) (x id : Int) (w : World) (hg : Good l) (h : Nodes G w 0 A c l) :
    Calls Try.prog 16 #[.slice A l.length c, .int .i64 x, .int .i64 id] w fun e w' => e = .returned (.bool (hasB (parL l id) x)) ∧ Below w.heap.size w w' := by
  have C := Lib.hid (refUp l A c id w (Nat.le_trans hg.len (by decide)) h)
  have hRl : (parL l id).length ≤ 1000000 := Nat.le_trans (Nat.le_trans (parL_len hg.tree id) hg.len) (by decide)
  obtain ⟨R, hR⟩ : ∃ R, R = parL l id := ⟨_, rfl⟩
  rw [← hR] at hRl C
  rw [← hR]
  clear h hg hR
  go_enter Try.func16, Try.ntmps16
  go_wp2_with fail
  refine C.out.mono ?_
  rintro e w1 ⟨v, rfl, hP, hb⟩
  obtain ⟨A2, c2, rfl, hL⟩ := hP.form
  clear C hP
  go_wp2_with fail
  refine (has_any R A2 R.length c2 x w1 rfl hRl hL.nums).mono ?_
  rintro e w2 ⟨rfl, rfl⟩
  go_wp2
  go_ret
  exact ⟨rfl, hb⟩
end
end Go.Proofs.Ytkafaceanlkjjaa
