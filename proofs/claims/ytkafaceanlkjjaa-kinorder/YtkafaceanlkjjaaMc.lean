/-
  What towncrierlaw05.KinPlaces does with an arena that keeps its promises: it answers true.
-/
import Derived.Test.YtkafaceanlkjjaaMa
import Derived.Test.YtkafaceanlkjjaaWay
namespace Go.Proofs.Ytkafaceanlkjjaa
open Go Go.RowKit

theorem rowL_none {l : List Nd} {id : Int} (h : (nd l id).parent = 0) : rowL l id = [] := by
  unfold rowL
  split
  · rw [h, if_neg (by rw [there_zero]; decide)]
  · rfl
theorem idxL_mem {xs : List Int} {x : Int} (h : x ∈ xs) : ∃ k : Nat, idxL xs x = (k : Int) ∧ ∃ hk : k < xs.length, xs[k] = x := by
  unfold idxL
  rw [if_pos h]
  exact ⟨_, rfl, List.idxOf_lt_length_of_mem h, List.getElem_idxOf (List.idxOf_lt_length_of_mem h)⟩
theorem nextL_nil (x : Int) : nextL [] x = 0 := rfl
theorem idxL_nil (x : Int) : idxL [] x = -1 := rfl

section
variable {Rep : (Nat → Prop) → World → Nat → List Nd → Prop}
/-- A forest, and what is below it. -/
structure One (Rep : (Nat → Prop) → World → Nat → List Nd → Prop) (w : World) (b : Nat) (l : List Nd) (v : World) : Prop where
  rep : Rep (fun _ => True) v b l
  below : Below w.heap.size w v
theorem One.next (O : ForestOk Rep) {w v v' : World} {b : Nat} {l : List Nd} (h : One Rep w b l v) (hb : Below v.heap.size v v') : One Rep w b l v' := ⟨O.since h.rep hb, h.below.trans (hb.mono h.below.size)⟩

set_option linter.unusedSimpArgs false in
set_option maxHeartbeats 16000000 in
set_option maxRecDepth 100000 in
theorem kinPlaces_any (O : ForestOk Rep) (M : ForestMore Rep) (A : Option Addr) (n c : Nat) (xs : List Ac) (id : Int) (w : World) (hn : xs.length = n) (hm : n ≤ maxLen) (h : Acts w A xs) :
    Calls Try.prog 5 #[.slice A n c, .int .i64 id] w fun e w' => e = .returned (.bool true) ∧ Below w.heap.size w w' := by
  have hnot : ∀ (x : Bool) (w : World), (Op.unary .not (.bool x)).run Try.prog w = .ok (.bool (!x)) w := fun _ _ => rfl
  have H := Lib.hid h
  have Hn := Lib.hid hn
  have Hm := Lib.hid hm
  clear h hn hm
  go_enter Try.func5, Try.ntmps5
  go_wp2_with fail
  refine (awake5_any O M w).mono ?_
  rintro e w0 ⟨rfl, hb0⟩
  go_wp2_with fail
  refine (great_any A n c xs w0 Hn.out Hm.out (H.out.below hb0)).mono ?_
  rintro e w1 ⟨⟨gr, rfl, hgr⟩, rfl⟩
  cases gr with
  | true =>
    go_wp2
    go_ret
    exact ⟨rfl, hb0⟩
  | false =>
    have Hs := Lib.hid (hgr rfl)
    have Hb0 := Lib.hid hb0
    clear hgr hb0
    go_wp2_with fail
    refine (built_any O A n c xs w0 Hn.out (H.out.below Hb0.out) Hs.out).mono ?_
    rintro e w1 ⟨b, rfl, hR, hb1⟩
    have Hg := Lib.hid (good_forest Hs.out)
    obtain ⟨l, hl⟩ : ∃ l, l = forest xs := ⟨_, rfl⟩
    rw [← hl] at hR Hg
    have hO1 : One Rep w b l w1 := ⟨O.wide hR (S' := fun _ => True) fun _ _ _ => trivial, Hb0.out.trans (hb1.mono Hb0.out.size)⟩
    have O1 := Lib.hid hO1
    clear hR hb1 Hb0 hO1 hl Hs H Hn
    have hpl : (parL l id).length ≤ 128 := Nat.le_trans (parL_len Hg.out.tree id) Hg.out.len
    cases ht : thereB l id with
    | false =>
      have Ht := Lib.hid ht
      have E1 := Lib.hid (parL_no ht)
      have E2 : Hid (rowL l id = []) := Lib.hid (by unfold rowL; rw [ht]; rfl)
      have E3 := Lib.hid (rootL_no ht)
      clear ht
      go_wp2_with fail
      refine (nodeNo M O1.out.rep Hg.out Ht.out).mono ?_
      rintro e w2 ⟨A1, c1, rfl, -, hb2⟩
      have O2 : Hid (One Rep w b l (w2.alloc (.cells #[.int .i64 0, .int .i64 0, .int .i64 0, .int .i64 0, .int .i64 0, .bool false, .string ⟨#[]⟩, .string ⟨#[]⟩, .slice A1 0 c1] 41))) := Lib.hid (O1.out.next O (hb2.alloc hb2.size _))
      clear hb2 O1
      go_wp2_with fail
      refine (kinUp O M id O2.out.rep Hg.out).mono ?_
      rintro e w3 ⟨v3, rfl, hP3, hb3⟩
      have O3 := Lib.hid (O2.out.next O hb3)
      rw [E1.out] at hP3
      obtain ⟨A3, c3, rfl, -⟩ := hP3.form
      clear hP3 hb3 O2
      go_wp2_with fail
      refine (kinIndex O M id O3.out.rep Hg.out).mono ?_
      rintro e w4 ⟨rfl, hb4⟩
      rw [E2.out, idxL_nil]
      have O4 := Lib.hid (O3.out.next O hb4)
      clear hb4 O3
      go_wp2_with fail
      refine (kinNext O M id O4.out.rep Hg.out).mono ?_
      rintro e w5 ⟨rfl, hb5⟩
      rw [E2.out, nextL_nil]
      have O5 := Lib.hid (O4.out.next O hb5)
      clear hb5 O4
      go_wp2_with fail
      refine (kinRoot O M id O5.out.rep Hg.out).mono ?_
      rintro e w6 ⟨rfl, hb6⟩
      rw [E3.out]
      have O6 := Lib.hid (O5.out.next O hb6)
      clear hb6 O5
      go_wp2
      go_ret
      exact ⟨rfl, O6.out.below⟩
    | true =>
      have Ht := Lib.hid ht
      clear ht
      go_wp2_with fail
      refine (nodeYes M O1.out.rep Hg.out Ht.out).mono ?_
      rintro e w2 ⟨A1, c1, rfl, -, hb2⟩
      obtain ⟨d, hd⟩ : ∃ d, d = nd l id := ⟨_, rfl⟩
      rw [← hd]
      have O2 : Hid (One Rep w b l (w2.alloc (.cells #[.int .i64 d.kind, .int .i64 d.parent, .int .i64 d.host, .int .i64 d.shadow, .int .i64 d.mode, .bool d.slot, .string d.name, .string d.want, .slice A1 d.kids.length c1] 41))) := Lib.hid (O1.out.next O (hb2.alloc hb2.size _))
      have B2 : Hid (Has (w2.alloc (.cells #[.int .i64 d.kind, .int .i64 d.parent, .int .i64 d.host, .int .i64 d.shadow, .int .i64 d.mode, .bool d.slot, .string d.name, .string d.want, .slice A1 d.kids.length c1] 41)) w2.heap.size (.cells #[.int .i64 d.kind, .int .i64 d.parent, .int .i64 d.host, .int .i64 d.shadow, .int .i64 d.mode, .bool d.slot, .string d.name, .string d.want, .slice A1 d.kids.length c1] 41 (0, 0))) := Lib.hid (Has.fresh _ _)
      have Hd := Lib.hid hd
      clear hb2 O1 hd
      go_wp2_with fail
      refine (kinUp O M id O2.out.rep Hg.out).mono ?_
      rintro e w3 ⟨v3, rfl, hP3, hb3⟩
      have O3 := Lib.hid (O2.out.next O hb3)
      have B3 := Lib.hid (B2.out.below hb3 B2.out.inside)
      obtain ⟨A3, c3, rfl, hL3⟩ := hP3.form
      have L3 := Lib.hid hL3
      clear hP3 hb3 O2 B2 hL3
      by_cases hp : d.parent = 0
      · have hs1 := parL_step Hg.out.tree Ht.out
        rw [← Hd.out, hp, parL_no (there_zero l)] at hs1
        have hrow := rowL_none (l := l) (id := id) (by rw [← Hd.out]; exact hp)
        have hroot : rootL l id = id := by unfold rootL; rw [hs1]; rfl
        rw [hs1] at L3
        rw [hs1, show ([id] : List Int).length = 1 from rfl]
        have y1 : IntKind.i64.wrap (1 - 1) = 0 := by decide
        have y2 : IntKind.i64.wrap 0 = 0 := by decide
        obtain ⟨bu, offu, rfl, hbu, c0⟩ := L3.out.nums 0 (by simp)
        have c0 : w3.cell? ⟨bu, offu, none⟩ = some (.int .i64 id) := c0
        have HS : Hid (∀ w', Below w3.heap.size w3 w' → w'.cell? ⟨bu, offu, none⟩ = some (.int .i64 id) ∧ w'.cell? ⟨w2.heap.size, 1, none⟩ = some (.int .i64 0)) := Lib.hid fun w' hb' =>
          ⟨(hb'.cell (p := ⟨bu, offu, none⟩) hbu).trans c0, (hb'.cell (p := ⟨w2.heap.size, 1, none⟩) B3.out.inside).trans (by rw [B3.out.cell 1, hp]; rfl)⟩
        have hdr : Below w3.heap.size w3 w3.drew := (Below.refl _ w3).drew
        have C := Lib.hid (kinRoot O M id (O3.out.next O hdr).rep Hg.out)
        rw [hroot] at C
        have Hrow := Lib.hid hrow
        clear hdr hs1 hroot c0 hbu L3 hp hpl hrow
        go_wp2_with fail
        refine wp_region_way (late := []) (S := fun w' => w'.cell? ⟨bu, offu, none⟩ = some (.int .i64 id) ∧ w'.cell? ⟨w2.heap.size, 1, none⟩ = some (.int .i64 0)) (y := Way.takes [0, 1, 2, 3, 4, 5, 6, 7, 8, 9, 10, 11, 12, 13, 14, 15, 16, 17, 18] (.run 19 (Way.takes [20, 21, 22, 23, 24, 25, 26, 27, 28, 29, 30, 31, 32, 33, 34, 35, 36, 37, 38, 39] .fin))) (by kernel_rfl) (by kernel_rfl) rfl (by kernel_rfl) (HS.out w3 (Below.refl _ _)) (fun hHeld => ?_)
        simp only [Way.takes]
        (repeat (first | (refine way_skip (by simp only [List.getElem?_toArray, List.getElem?_cons_succ, List.getElem?_cons_zero]; rfl) (by rfl) hHeld ?_; (try simp only [Act.put, List.setIfInBounds_toArray, List.set_cons_zero, List.set_cons_succ])) | (refine way_pass (by simp only [List.getElem?_toArray, List.getElem?_cons_succ, List.getElem?_cons_zero]; rfl) (by rfl) hHeld ?_; (try simp only [Act.put, List.setIfInBounds_toArray, List.set_cons_zero, List.set_cons_succ])) | (refine way_take (v := ?_) (by simp only [List.getElem?_toArray, List.getElem?_cons_succ, List.getElem?_cons_zero]; rfl) (by rfl) ?_ hHeld ?_; rotate_left; (focus (intro w hSw; (try dsimp only at hSw); go_simp; (try with_reducible rfl); done)); (try simp only [Act.put, List.setIfInBounds_toArray, List.set_cons_zero, List.set_cons_succ]))))
        refine way_run (by simp only [List.getElem?_toArray, List.getElem?_cons_succ, List.getElem?_cons_zero]; rfl) (by rfl) (fun K hK => ?_)
        go_simp
        refine C.out.mono ?_
        rintro e w4 ⟨rfl, hb4⟩
        have hb4' : Below w3.heap.size w3 w4 := (Below.refl _ w3).drew.trans hb4
        have O4 := Lib.hid (O3.out.next O hb4')
        have hS4 := HS.out w4 hb4'
        have p1 := hS4.2
        go_simp
        refine hK.out _ _ hS4 (fun hHeld => ?_)
        clear hK K hb4 hb4' O3 B3 HS C hS4
        (try simp only [Act.put, List.setIfInBounds_toArray, List.set_cons_zero, List.set_cons_succ])
        (repeat (first | (refine way_skip (by simp only [List.getElem?_toArray, List.getElem?_cons_succ, List.getElem?_cons_zero]; rfl) (by rfl) hHeld ?_; (try simp only [Act.put, List.setIfInBounds_toArray, List.set_cons_zero, List.set_cons_succ])) | (refine way_pass (by simp only [List.getElem?_toArray, List.getElem?_cons_succ, List.getElem?_cons_zero]; rfl) (by rfl) hHeld ?_; (try simp only [Act.put, List.setIfInBounds_toArray, List.set_cons_zero, List.set_cons_succ])) | (refine way_take (v := ?_) (by simp only [List.getElem?_toArray, List.getElem?_cons_succ, List.getElem?_cons_zero]; rfl) (by rfl) ?_ hHeld ?_; rotate_left; (focus (intro w hSw; (try dsimp only at hSw); go_simp; (try with_reducible rfl); done)); (try simp only [Act.put, List.setIfInBounds_toArray, List.set_cons_zero, List.set_cons_succ]))))
        refine way_done ?_
        go_wp2_with fail
        refine (nodeNo M O4.out.rep Hg.out (there_zero l)).mono ?_
        rintro e w5 ⟨A5, c5, rfl, -, hb5⟩
        have O5 : Hid (One Rep w b l (w5.alloc (.cells #[.int .i64 0, .int .i64 0, .int .i64 0, .int .i64 0, .int .i64 0, .bool false, .string ⟨#[]⟩, .string ⟨#[]⟩, .slice A5 0 c5] 41))) := Lib.hid (O4.out.next O (hb5.alloc hb5.size _))
        clear hb5 O4 p1
        go_wp2_with fail
        refine (kinIndex O M id O5.out.rep Hg.out).mono ?_
        rintro e w6 ⟨rfl, hb6⟩
        rw [Hrow.out, idxL_nil]
        have O6 := Lib.hid (O5.out.next O hb6)
        clear hb6 O5
        go_wp2_with fail
        refine (kinNext O M id O6.out.rep Hg.out).mono ?_
        rintro e w7 ⟨rfl, hb7⟩
        rw [Hrow.out, nextL_nil]
        have O7 := Lib.hid (O6.out.next O hb7)
        clear hb7 O6
        go_wp2
        go_ret
        exact ⟨rfl, O7.out.below⟩
      · have hpt := (Hg.out.tree.par id Ht.out (by rw [← Hd.out]; exact hp)).1
        have hpm := (Hg.out.tree.par id Ht.out (by rw [← Hd.out]; exact hp)).2
        rw [← Hd.out] at hpt hpm
        have hs1 := parL_step Hg.out.tree Ht.out
        rw [← Hd.out, parL_step Hg.out.tree hpt] at hs1
        have hroot : rootL l id = lastL (parL l id) := rfl
        obtain ⟨R, hR⟩ : ∃ R, R = parL l id := ⟨_, rfl⟩
        rw [← hR] at L3 hs1 hpl hroot
        rw [← hR]
        obtain ⟨m, hm1⟩ : ∃ m, R.length = m + 1 := ⟨R.length - 1, by rw [hs1]; rfl⟩
        have hm2 : 1 ≤ m := by rw [hs1] at hm1; simp at hm1; omega
        rw [lastL_at hm1] at hroot
        obtain ⟨bu, offu, rfl, hbu, c0⟩ := L3.out.nums 0 (by omega)
        obtain ⟨_, _, e1, -, c1'⟩ := L3.out.nums 1 (by omega)
        obtain ⟨_, _, e2, -, c2'⟩ := L3.out.nums m (by omega)
        cases e1
        cases e2
        rw [← hroot] at c2'
        have q0 : R[0]'(by omega) = id := by simp only [hs1, List.getElem_cons_zero]
        have q1 : R[1]'(by omega) = d.parent := by simp only [hs1, List.getElem_cons_succ, List.getElem_cons_zero]
        rw [q0, Nat.add_zero] at c0
        rw [q1] at c1'
        have HS : Hid (∀ w', Below w3.heap.size w3 w' → w'.cell? ⟨bu, offu, none⟩ = some (.int .i64 id) ∧ w'.cell? ⟨bu, offu + m, none⟩ = some (.int .i64 (rootL l id)) ∧ w'.cell? ⟨w2.heap.size, 1, none⟩ = some (.int .i64 d.parent) ∧ w'.cell? ⟨bu, offu + 1, none⟩ = some (.int .i64 d.parent)) := Lib.hid fun w' hb' =>
          ⟨(hb'.cell (p := ⟨bu, offu, none⟩) hbu).trans c0, (hb'.cell (p := ⟨bu, offu + m, none⟩) hbu).trans c2', (hb'.cell (p := ⟨w2.heap.size, 1, none⟩) B3.out.inside).trans (B3.out.cell 1), (hb'.cell (p := ⟨bu, offu + 1, none⟩) hbu).trans c1'⟩
        have hml : m ≤ 127 := by omega
        rw [hm1]
        have hdr : Below w3.heap.size w3 w3.drew := (Below.refl _ w3).drew
        have C := Lib.hid (kinRoot O M id (O3.out.next O hdr).rep Hg.out)
        clear hdr
        obtain ⟨r, hr⟩ : ∃ r, r = rootL l id := ⟨_, rfl⟩
        rw [← hr] at C HS
        have z0 : (((m : Int) + 1) == 0) = false := by rw [beq_eq_false_iff_ne]; omega
        have z1 : (d.parent != 0) = true := by simpa using hp
        have z2 : (d.parent == 0) = false := by simpa using hp
        have z3 : decide ((m : Int) + 1 < 2) = false := by rw [decide_eq_false_iff_not]; omega
        have z4 : IntKind.i64.wrap ((m : Int) + 1 - 1) = (m : Int) := by rw [wrap_small] <;> omega
        have z5 : IntKind.i64.wrap (m : Int) = (m : Int) := by rw [wrap_small] <;> omega
        have z6 : ((m : Int)).toNat = m := by omega
        have z7 : (m : Int) < (m : Int) + 1 := by omega
        have z8 : (1 : Int) < (m : Int) + 1 := by omega
        have z9 : (0 : Int) < (m : Int) + 1 := by omega
        have Hpt := Lib.hid hpt
        have Hpm := Lib.hid hpm
        clear hs1 hroot hR hr c0 c1' c2' q0 q1 hbu L3 hm1 hpt hpm hp hpl
        go_wp2_with fail
        refine wp_region_way (late := []) (S := fun w' => w'.cell? ⟨bu, offu, none⟩ = some (.int .i64 id) ∧ w'.cell? ⟨bu, offu + m, none⟩ = some (.int .i64 r) ∧ w'.cell? ⟨w2.heap.size, 1, none⟩ = some (.int .i64 d.parent) ∧ w'.cell? ⟨bu, offu + 1, none⟩ = some (.int .i64 d.parent)) (y := Way.takes [0, 1, 2, 3, 4, 5, 6, 7, 8, 9, 10, 11, 12, 13, 14, 15, 16, 17, 18] (.run 19 (Way.takes [20, 21, 22, 23, 24, 25, 26, 27, 28, 29, 30, 31, 32, 33, 34, 35, 36, 37, 38, 39] .fin))) (by kernel_rfl) (by kernel_rfl) rfl (by kernel_rfl) (HS.out w3 (Below.refl _ _)) (fun hHeld => ?_)
        simp only [Way.takes]
        (repeat (first | (refine way_skip (by simp only [List.getElem?_toArray, List.getElem?_cons_succ, List.getElem?_cons_zero]; rfl) (by rfl) hHeld ?_; (try simp only [Act.put, List.setIfInBounds_toArray, List.set_cons_zero, List.set_cons_succ])) | (refine way_pass (by simp only [List.getElem?_toArray, List.getElem?_cons_succ, List.getElem?_cons_zero]; rfl) (by rfl) hHeld ?_; (try simp only [Act.put, List.setIfInBounds_toArray, List.set_cons_zero, List.set_cons_succ])) | (refine way_take (v := ?_) (by simp only [List.getElem?_toArray, List.getElem?_cons_succ, List.getElem?_cons_zero]; rfl) (by rfl) ?_ hHeld ?_; rotate_left; (focus (intro w hSw; (try dsimp only at hSw); go_simp; (try with_reducible rfl); done)); (try simp only [Act.put, List.setIfInBounds_toArray, List.set_cons_zero, List.set_cons_succ]))))
        refine way_run (by simp only [List.getElem?_toArray, List.getElem?_cons_succ, List.getElem?_cons_zero]; rfl) (by rfl) (fun K hK => ?_)
        go_simp
        refine C.out.mono ?_
        rintro e w4 ⟨rfl, hb4⟩
        have hb4' : Below w3.heap.size w3 w4 := (Below.refl _ w3).drew.trans hb4
        have O4 := Lib.hid (O3.out.next O hb4')
        have B4 := Lib.hid (B3.out.below hb4' B3.out.inside)
        have hS4 := HS.out w4 hb4'
        have p1 := hS4.2.2.1
        go_simp
        refine hK.out _ _ hS4 (fun hHeld => ?_)
        clear hK K hb4 hb4' O3 B3 HS C hS4
        (try simp only [Act.put, List.setIfInBounds_toArray, List.set_cons_zero, List.set_cons_succ])
        (repeat (first | (refine way_skip (by simp only [List.getElem?_toArray, List.getElem?_cons_succ, List.getElem?_cons_zero]; rfl) (by rfl) hHeld ?_; (try simp only [Act.put, List.setIfInBounds_toArray, List.set_cons_zero, List.set_cons_succ])) | (refine way_pass (by simp only [List.getElem?_toArray, List.getElem?_cons_succ, List.getElem?_cons_zero]; rfl) (by rfl) hHeld ?_; (try simp only [Act.put, List.setIfInBounds_toArray, List.set_cons_zero, List.set_cons_succ])) | (refine way_take (v := ?_) (by simp only [List.getElem?_toArray, List.getElem?_cons_succ, List.getElem?_cons_zero]; rfl) (by rfl) ?_ hHeld ?_; rotate_left; (focus (intro w hSw; (try dsimp only at hSw); go_simp; (try with_reducible rfl); done)); (try simp only [Act.put, List.setIfInBounds_toArray, List.set_cons_zero, List.set_cons_succ]))))
        refine way_done ?_
        go_wp2_with fail
        refine (nodeYes M O4.out.rep Hg.out Hpt.out).mono ?_
        rintro e w5 ⟨A5, c5, rfl, hk5, hb5⟩
        obtain ⟨d5, hd5⟩ : ∃ d5, d5 = nd l d.parent := ⟨_, rfl⟩
        have hrow : rowL l id = d5.kids := by
          unfold rowL
          rw [if_pos Ht.out, ← Hd.out, if_pos Hpt.out, hd5]
        have hin := Hpm.out
        rw [← hd5] at hk5 hin
        rw [← hd5]
        have hkl : d5.kids.length ≤ 200 := by rw [hd5]; exact few_nd Hg.out.few _
        have hbx : Below w5.heap.size w5 (w5.alloc (.cells #[.int .i64 d5.kind, .int .i64 d5.parent, .int .i64 d5.host, .int .i64 d5.shadow, .int .i64 d5.mode, .bool d5.slot, .string d5.name, .string d5.want, .slice A5 d5.kids.length c5] 41)) := (Below.refl _ w5).alloc (Nat.le_refl _) _
        have O5 : Hid (One Rep w b l (w5.alloc (.cells #[.int .i64 d5.kind, .int .i64 d5.parent, .int .i64 d5.host, .int .i64 d5.shadow, .int .i64 d5.mode, .bool d5.slot, .string d5.name, .string d5.want, .slice A5 d5.kids.length c5] 41))) := Lib.hid ((O4.out.next O hb5).next O hbx)
        have B5 : Hid (Has (w5.alloc (.cells #[.int .i64 d5.kind, .int .i64 d5.parent, .int .i64 d5.host, .int .i64 d5.shadow, .int .i64 d5.mode, .bool d5.slot, .string d5.name, .string d5.want, .slice A5 d5.kids.length c5] 41)) w5.heap.size (.cells #[.int .i64 d5.kind, .int .i64 d5.parent, .int .i64 d5.host, .int .i64 d5.shadow, .int .i64 d5.mode, .bool d5.slot, .string d5.name, .string d5.want, .slice A5 d5.kids.length c5] 41 (0, 0))) := Lib.hid (Has.fresh _ _)
        obtain ⟨A6, c6, eA, hL5⟩ := (Pile.of_kids (base := 0) (hk5.below hbx) fun _ _ _ => Nat.zero_le _).form
        obtain ⟨rfl, rfl⟩ : A5 = A6 ∧ c5 = c6 := by injection eA with e1 _ e3; exact ⟨e1, e3⟩
        obtain ⟨k, hidx, hk, hkk⟩ := idxL_mem hin
        have hnx : nextL d5.kids id = d5.kids.getD (k + 1) 0 := by
          unfold nextL
          rw [hidx, if_neg (by omega)]
          rfl
        have L5 := Lib.hid hL5
        have C6 := Lib.hid (kinIndex O M id O5.out.rep Hg.out)
        rw [hrow, hidx] at C6
        have Hrow := Lib.hid hrow
        have Hnx := Lib.hid hnx
        have Hkk := Lib.hid hkk
        obtain ⟨N, hN⟩ : ∃ N, N = d5.kids.length := ⟨_, rfl⟩
        have HN := Lib.hid hN
        have hkN : k < N := by rw [hN]; exact hk
        have Hk := Lib.hid hk
        rw [← hN] at hkl
        clear hd5 hk5 hb5 hbx O4 eA hL5 hin hidx hnx hrow hkk hN B4 z0 z1 z2 z3 z4 z5 z6 z7 z8 z9 p1
        go_wp2_with fail
        refine C6.out.mono ?_
        rintro e w6 ⟨rfl, hb6⟩
        have O6 := Lib.hid (O5.out.next O hb6)
        have B6 := Lib.hid (B5.out.below hb6 B5.out.inside)
        have L6 := Lib.hid (L5.out.below hb6)
        clear hb6 O5 B5 L5 C6
        go_wp2_with fail
        refine (kinNext O M id O6.out.rep Hg.out).mono ?_
        rintro e w7 ⟨rfl, hb7⟩
        rw [Hrow.out, Hnx.out]
        have O7 := Lib.hid (O6.out.next O hb7)
        have b8 : w7.cell? ⟨w5.heap.size, 8, none⟩ = some (.slice A5 d5.kids.length c5) := (B6.out.below hb7 B6.out.inside).cell 8
        have L7 := Lib.hid (L6.out.below hb7)
        clear hb7 O6 B6 L6
        obtain ⟨bk, offk, rfl, -, ck⟩ := L7.out.nums k hk
        rw [Hkk.out] at ck
        rw [← HN.out] at b8
        by_cases hlast : k + 1 = N
        · have e1 : d5.kids.getD (k + 1) 0 = 0 := by rw [List.getD_eq_getElem?_getD, List.getElem?_eq_none (by rw [← HN.out]; omega)]; rfl
          rw [e1]
          subst hlast
          clear e1 L7
          go_wp2
          go_ret
          exact ⟨rfl, O7.out.below⟩
        · have hk1 : k + 1 < d5.kids.length := by rw [← HN.out]; omega
          have e1 : d5.kids.getD (k + 1) 0 = d5.kids[k + 1] := by rw [List.getD_eq_getElem?_getD, List.getElem?_eq_getElem hk1]; rfl
          obtain ⟨_, _, e2, -, ck1⟩ := L7.out.nums (k + 1) hk1
          cases e2
          rw [e1]
          obtain ⟨y, hy⟩ : ∃ y, y = d5.kids[k + 1] := ⟨_, rfl⟩
          rw [← hy] at ck1
          rw [← hy]
          have hk2 : k + 1 < N := by omega
          have hk3 : (k : Int) + 1 < N := by omega
          have ck2 : w7.cell? ⟨bk, offk + k + 1, none⟩ = some (.int .i64 y) := ck1
          clear e1 L7 hy hk1
          go_wp2
          go_ret
          exact ⟨rfl, O7.out.below⟩
end
end Go.Proofs.Ytkafaceanlkjjaa
