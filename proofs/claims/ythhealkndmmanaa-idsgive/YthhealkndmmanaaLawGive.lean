/-
  What towncrierlaw02.IdsGive does: it answers true.
-/
import Derived.Test.YthhealkndmmanaaIdsIs
import Derived.Test.YthhealkndmmanaaOrd
namespace Go.Proofs.Ythhealkndmmanaa
open Go Go.RowKit

theorem nxt_max {l k : Int} (h0 : 0 ≤ k) : nxt (max l 0) k = nxt l k := by unfold nxt; split <;> split <;> omega
theorem cnt_max {l k : Int} (h0 : 0 ≤ k) : cnt (max l 0) k = cnt l k := by unfold cnt; split <;> split <;> omega
theorem cnt_bd {l k : Int} (h0 : 0 ≤ k) (h1 : k ≤ max l 0) : 0 ≤ cnt l k ∧ cnt l k ≤ max l 0 := by unfold cnt; split <;> omega

set_option maxHeartbeats 4000000 in
set_option maxRecDepth 100000 in
theorem idsGive_any (l t n : Int) (w : World) (h0 : -9223372036854775808 ≤ l) (h1 : l ≤ 9223372036854775807) :
    Calls Try.prog 3 #[.int .i64 l, .int .i64 t, .int .i64 n] w fun e w' => e = .returned (.bool true) ∧ Below w.heap.size w w' := by
  go_enter Try.func3, Try.ntmps3
  go_wp2_with fail
  refine (awake_any _).mono ?_
  rintro e w0 ⟨rfl, hb0⟩
  go_wp2_with fail
  refine (new_any l w0 (by omega) (by omega)).mono ?_
  rintro e w1 ⟨rfl, hg, hb, hs⟩
  have Hs := Lib.hid hs
  have hB : Below w.heap.size w w1 := hb0.trans (hb.mono hb0.size)
  have hlt : w.heap.size ≤ w0.heap.size := hb0.size
  have hlt1 : w0.heap.size < w1.heap.size := by omega
  clear hs hb hb0
  go_wp2_with fail
  have hgm : Giver (w1.alloc (.cells #[.int .i64 0, .int .i64 l] 27)) w0.heap.size (max l 0) 0 := Has.more hg _
  have hcm : Count (w1.alloc (.cells #[.int .i64 0, .int .i64 l] 27)) w1.heap.size 0 l := Has.fresh _ _
  have hBm : Below w.heap.size w (w1.alloc (.cells #[.int .i64 0, .int .i64 l] 27)) := hB.alloc hB.size _
  have hm0 : 0 ≤ max l 0 := by omega
  have hm1 : max l 0 ≤ 9223372036854775807 := by omega
  have hlt2 : w.heap.size ≤ w1.heap.size := by omega
  go_loopw [9] (fun i wr => ∃ (j : Nat) (k : Int), i = .int .i64 j ∧ j ≤ 500 ∧ 0 ≤ k ∧ k ≤ max l 0 ∧ Giver wr w0.heap.size (max l 0) k ∧ Count wr w1.heap.size k l ∧ Below w.heap.size w wr) (fun i _ => 500 - (intOf i).toNat)
  case atStart => exact ⟨0, 0, rfl, by omega, by omega, by omega, hgm, hcm, hBm⟩
  case round =>
    obtain ⟨j, k, rfl, hj, hk0, hk1, hg', hc', hB'⟩ := hrel
    clear hg hB hgm hcm hBm
    have hne : ¬ Just [w0.heap.size] w1.heap.size := just_ne (by omega)
    have hne' : ¬ Just [w1.heap.size] w0.heap.size := just_ne (by omega)
    by_cases hj1 : (j : Int) < t ∧ (j : Int) < 500
    · obtain ⟨hjt, hj5⟩ := hj1
      have hcb := cnt_bd (l := l) hk0 hk1
      obtain ⟨k', hk'⟩ : ∃ k', k' = cnt l k := ⟨_, rfl⟩
      obtain ⟨v, hv⟩ : ∃ v, v = nxt l k := ⟨_, rfl⟩
      have c1 := next_any w0.heap.size (max l 0) k
      have c2 := refNext_any w1.heap.size l k
      rw [nxt_max hk0, cnt_max hk0, ← hk', ← hv] at c1
      rw [← hk', ← hv] at c2
      rw [← hk'] at hcb
      obtain ⟨hb0', hb1'⟩ := hcb
      have C1 := Lib.hid c1
      have C2 := Lib.hid c2
      clear c1 c2 hk' hv
      have e1 : isB n k' = (decide (1 ≤ n) && decide (n ≤ k')) := rfl
      have E1 := Lib.hid e1
      clear e1
      have hib : isB n k' = (if 1 ≤ n then decide (n ≤ k') else false) := by
        rw [E1.out]
        by_cases hn : 1 ≤ n
        · rw [if_pos hn, decide_eq_true hn]; rfl
        · rw [if_neg hn, decide_eq_false hn]; rfl
      by_cases hn : 1 ≤ n
      · rw [if_pos hn] at hib
        have Hib := Lib.hid hib
        clear hib
        go_wp2_with fail
        refine wp_region_ord (S := fun _ => True) (pin := [1, 3, 7, 17]) (l := [0, 2, 1, 3, 4, 5, 6, 8, 9, 10, 11, 7, 12, 13, 14, 15, 16, 18, 19, 17, 20, 21, 22, 23, 24, 25, 26, 27, 28, 29]) (by kernel_rfl) (by kernel_rfl) (by kernel_rfl) (by kernel_rfl) trivial (fun hHeld => ?_)
        simp only [picked, List.getElem?_cons_succ, List.getElem?_cons_zero]
        (repeat (first | (refine ord_skip (by rfl) (by rfl) hHeld ?_; (try simp only [Act.put, List.setIfInBounds_toArray, List.set_cons_zero, List.set_cons_succ])) | (refine ord_pass (by rfl) (by rfl) (by rfl) hHeld ?_; (try simp only [Act.put, List.setIfInBounds_toArray, List.set_cons_zero, List.set_cons_succ])) | (refine ord_take (v := ?_) (by rfl) (by rfl) ?_ hHeld ?_; rotate_left; (focus (intro w hSw; (try dsimp only at hSw); go_simp; (try with_reducible rfl); done)); (try simp only [Act.put, List.setIfInBounds_toArray, List.set_cons_zero, List.set_cons_succ]))))
        refine ord_run (by rfl) (by rfl) (by rfl) (fun K hK => ?_)
        go_simp
        refine (C1.out _ hk0 hm1 (Giver.drewN hg' 1)).mono ?_
        rintro e w2 ⟨rfl, hg2, ho2⟩
        go_simp
        refine hK.out _ _ trivial (fun hHeld => ?_)
        clear hK K
        (try simp only [Act.put, List.setIfInBounds_toArray, List.set_cons_zero, List.set_cons_succ])
        (repeat (first | (refine ord_skip (by rfl) (by rfl) hHeld ?_; (try simp only [Act.put, List.setIfInBounds_toArray, List.set_cons_zero, List.set_cons_succ])) | (refine ord_pass (by rfl) (by rfl) (by rfl) hHeld ?_; (try simp only [Act.put, List.setIfInBounds_toArray, List.set_cons_zero, List.set_cons_succ])) | (refine ord_take (v := ?_) (by rfl) (by rfl) ?_ hHeld ?_; rotate_left; (focus (intro w hSw; (try dsimp only at hSw); go_simp; (try with_reducible rfl); done)); (try simp only [Act.put, List.setIfInBounds_toArray, List.set_cons_zero, List.set_cons_succ]))))
        have hc2 : Count w2 w1.heap.size k l := Has.kept (Has.drewN hc' 1) ho2 hne
        refine ord_run (by rfl) (by rfl) (by rfl) (fun K hK => ?_)
        go_simp
        refine (C2.out _ hk0 h1 hc2).mono ?_
        rintro e w3 ⟨rfl, hc3, ho3⟩
        go_simp
        refine hK.out _ _ trivial (fun hHeld => ?_)
        have hg3 : Giver w3 w0.heap.size (max l 0) k' := Has.kept hg2 ho3 hne'
        have hB3 : Below w.heap.size w w3 := below_then (below_then (below_draws hB' 1) ho2 hB'.size (just_far hlt)) ho3 (Nat.le_trans hB'.size ho2.grows) (just_far hlt2)
        clear hK K hHeld
        have hcell : w3.cell? ⟨w1.heap.size, 0, none⟩ = some (.int .i64 k') := Has.cell hc3 0
        refine ord_tight (fun w' => w'.cell? ⟨w1.heap.size, 0, none⟩ = some (.int .i64 k')) (fun _ _ => trivial) hcell (fun hHeld => ?_)
        (try simp only [Act.put, List.setIfInBounds_toArray, List.set_cons_zero, List.set_cons_succ])
        (repeat (first | (refine ord_skip (by rfl) (by rfl) hHeld ?_; (try simp only [Act.put, List.setIfInBounds_toArray, List.set_cons_zero, List.set_cons_succ])) | (refine ord_pass (by rfl) (by rfl) (by rfl) hHeld ?_; (try simp only [Act.put, List.setIfInBounds_toArray, List.set_cons_zero, List.set_cons_succ])) | (refine ord_take (v := ?_) (by rfl) (by rfl) ?_ hHeld ?_; rotate_left; (focus (intro w hSw; (try dsimp only at hSw); go_simp; (try with_reducible rfl); done)); (try simp only [Act.put, List.setIfInBounds_toArray, List.set_cons_zero, List.set_cons_succ]))))
        refine ord_run (by rfl) (by rfl) (by rfl) (fun K hK => ?_)
        go_simp
        refine (last_any _ _ _ _ hb0' hb1' hm1 hg3).mono ?_
        rintro e w4 ⟨rfl, n4, rfl⟩
        go_simp
        refine hK.out _ _ hcell (fun hHeld => ?_)
        clear hK K
        (try simp only [Act.put, List.setIfInBounds_toArray, List.set_cons_zero, List.set_cons_succ])
        (repeat (first | (refine ord_skip (by rfl) (by rfl) hHeld ?_; (try simp only [Act.put, List.setIfInBounds_toArray, List.set_cons_zero, List.set_cons_succ])) | (refine ord_pass (by rfl) (by rfl) (by rfl) hHeld ?_; (try simp only [Act.put, List.setIfInBounds_toArray, List.set_cons_zero, List.set_cons_succ])) | (refine ord_take (v := ?_) (by rfl) (by rfl) ?_ hHeld ?_; rotate_left; (focus (intro w hSw; (try dsimp only at hSw); go_simp; (try with_reducible rfl); done)); (try simp only [Act.put, List.setIfInBounds_toArray, List.set_cons_zero, List.set_cons_succ]))))
        refine ord_run (by rfl) (by rfl) (by rfl) (fun K hK => ?_)
        go_simp
        refine (is_any _ _ _ n _ hb0' hb1' hm1 (hg3.drewN _)).mono ?_
        rintro e w5 ⟨rfl, n5, rfl⟩
        rw [Hib.out]
        go_simp
        refine hK.out _ _ hcell (fun hHeld => ?_)
        clear hK K
        (try simp only [Act.put, List.setIfInBounds_toArray, List.set_cons_zero, List.set_cons_succ])
        (repeat (first | (refine ord_skip (by rfl) (by rfl) hHeld ?_; (try simp only [Act.put, List.setIfInBounds_toArray, List.set_cons_zero, List.set_cons_succ])) | (refine ord_pass (by rfl) (by rfl) (by rfl) hHeld ?_; (try simp only [Act.put, List.setIfInBounds_toArray, List.set_cons_zero, List.set_cons_succ])) | (refine ord_take (v := ?_) (by rfl) (by rfl) ?_ hHeld ?_; rotate_left; (focus (intro w hSw; (try dsimp only at hSw); go_simp; (try with_reducible rfl); done)); (try simp only [Act.put, List.setIfInBounds_toArray, List.set_cons_zero, List.set_cons_succ]))))
        refine ord_done ?_
        go_wp2
        go_roundw
        case rel => exact ⟨j + 1, k', by go_num, by omega, hb0', hb1', hg3, hc3, below_draws hB3 _⟩
        case measure => simp [intOf]; omega
      · have hn' : decide (1 ≤ n) = false := decide_eq_false hn
        rw [if_neg hn] at hib
        have Hib := Lib.hid hib
        clear hib
        go_wp2_with fail
        refine wp_region_ord (S := fun _ => True) (pin := [1, 3, 7, 17]) (l := [0, 2, 1, 3, 4, 5, 6, 8, 9, 10, 11, 7, 12, 13, 14, 15, 16, 18, 19, 17, 20, 21, 22, 23, 24, 25, 26, 27, 28, 29]) (by kernel_rfl) (by kernel_rfl) (by kernel_rfl) (by kernel_rfl) trivial (fun hHeld => ?_)
        simp only [picked, List.getElem?_cons_succ, List.getElem?_cons_zero]
        (repeat (first | (refine ord_skip (by rfl) (by rfl) hHeld ?_; (try simp only [Act.put, List.setIfInBounds_toArray, List.set_cons_zero, List.set_cons_succ])) | (refine ord_pass (by rfl) (by rfl) (by rfl) hHeld ?_; (try simp only [Act.put, List.setIfInBounds_toArray, List.set_cons_zero, List.set_cons_succ])) | (refine ord_take (v := ?_) (by rfl) (by rfl) ?_ hHeld ?_; rotate_left; (focus (intro w hSw; (try dsimp only at hSw); go_simp; (try with_reducible rfl); done)); (try simp only [Act.put, List.setIfInBounds_toArray, List.set_cons_zero, List.set_cons_succ]))))
        refine ord_run (by rfl) (by rfl) (by rfl) (fun K hK => ?_)
        go_simp
        refine (C1.out _ hk0 hm1 (Giver.drewN hg' 1)).mono ?_
        rintro e w2 ⟨rfl, hg2, ho2⟩
        go_simp
        refine hK.out _ _ trivial (fun hHeld => ?_)
        clear hK K
        (try simp only [Act.put, List.setIfInBounds_toArray, List.set_cons_zero, List.set_cons_succ])
        (repeat (first | (refine ord_skip (by rfl) (by rfl) hHeld ?_; (try simp only [Act.put, List.setIfInBounds_toArray, List.set_cons_zero, List.set_cons_succ])) | (refine ord_pass (by rfl) (by rfl) (by rfl) hHeld ?_; (try simp only [Act.put, List.setIfInBounds_toArray, List.set_cons_zero, List.set_cons_succ])) | (refine ord_take (v := ?_) (by rfl) (by rfl) ?_ hHeld ?_; rotate_left; (focus (intro w hSw; (try dsimp only at hSw); go_simp; (try with_reducible rfl); done)); (try simp only [Act.put, List.setIfInBounds_toArray, List.set_cons_zero, List.set_cons_succ]))))
        have hc2 : Count w2 w1.heap.size k l := Has.kept (Has.drewN hc' 1) ho2 hne
        refine ord_run (by rfl) (by rfl) (by rfl) (fun K hK => ?_)
        go_simp
        refine (C2.out _ hk0 h1 hc2).mono ?_
        rintro e w3 ⟨rfl, hc3, ho3⟩
        go_simp
        refine hK.out _ _ trivial (fun hHeld => ?_)
        have hg3 : Giver w3 w0.heap.size (max l 0) k' := Has.kept hg2 ho3 hne'
        have hB3 : Below w.heap.size w w3 := below_then (below_then (below_draws hB' 1) ho2 hB'.size (just_far hlt)) ho3 (Nat.le_trans hB'.size ho2.grows) (just_far hlt2)
        clear hK K hHeld
        have hcell : w3.cell? ⟨w1.heap.size, 0, none⟩ = some (.int .i64 k') := Has.cell hc3 0
        refine ord_tight (fun w' => w'.cell? ⟨w1.heap.size, 0, none⟩ = some (.int .i64 k')) (fun _ _ => trivial) hcell (fun hHeld => ?_)
        (try simp only [Act.put, List.setIfInBounds_toArray, List.set_cons_zero, List.set_cons_succ])
        (repeat (first | (refine ord_skip (by rfl) (by rfl) hHeld ?_; (try simp only [Act.put, List.setIfInBounds_toArray, List.set_cons_zero, List.set_cons_succ])) | (refine ord_pass (by rfl) (by rfl) (by rfl) hHeld ?_; (try simp only [Act.put, List.setIfInBounds_toArray, List.set_cons_zero, List.set_cons_succ])) | (refine ord_take (v := ?_) (by rfl) (by rfl) ?_ hHeld ?_; rotate_left; (focus (intro w hSw; (try dsimp only at hSw); go_simp; (try with_reducible rfl); done)); (try simp only [Act.put, List.setIfInBounds_toArray, List.set_cons_zero, List.set_cons_succ]))))
        refine ord_run (by rfl) (by rfl) (by rfl) (fun K hK => ?_)
        go_simp
        refine (last_any _ _ _ _ hb0' hb1' hm1 hg3).mono ?_
        rintro e w4 ⟨rfl, n4, rfl⟩
        go_simp
        refine hK.out _ _ hcell (fun hHeld => ?_)
        clear hK K
        (try simp only [Act.put, List.setIfInBounds_toArray, List.set_cons_zero, List.set_cons_succ])
        (repeat (first | (refine ord_skip (by rfl) (by rfl) hHeld ?_; (try simp only [Act.put, List.setIfInBounds_toArray, List.set_cons_zero, List.set_cons_succ])) | (refine ord_pass (by rfl) (by rfl) (by rfl) hHeld ?_; (try simp only [Act.put, List.setIfInBounds_toArray, List.set_cons_zero, List.set_cons_succ])) | (refine ord_take (v := ?_) (by rfl) (by rfl) ?_ hHeld ?_; rotate_left; (focus (intro w hSw; (try dsimp only at hSw); go_simp; (try with_reducible rfl); done)); (try simp only [Act.put, List.setIfInBounds_toArray, List.set_cons_zero, List.set_cons_succ]))))
        refine ord_run (by rfl) (by rfl) (by rfl) (fun K hK => ?_)
        go_simp
        refine (is_any _ _ _ n _ hb0' hb1' hm1 (hg3.drewN _)).mono ?_
        rintro e w5 ⟨rfl, n5, rfl⟩
        rw [Hib.out]
        go_simp
        refine hK.out _ _ hcell (fun hHeld => ?_)
        clear hK K
        (try simp only [Act.put, List.setIfInBounds_toArray, List.set_cons_zero, List.set_cons_succ])
        (repeat (first | (refine ord_skip (by rfl) (by rfl) hHeld ?_; (try simp only [Act.put, List.setIfInBounds_toArray, List.set_cons_zero, List.set_cons_succ])) | (refine ord_pass (by rfl) (by rfl) (by rfl) hHeld ?_; (try simp only [Act.put, List.setIfInBounds_toArray, List.set_cons_zero, List.set_cons_succ])) | (refine ord_take (v := ?_) (by rfl) (by rfl) ?_ hHeld ?_; rotate_left; (focus (intro w hSw; (try dsimp only at hSw); go_simp; (try with_reducible rfl); done)); (try simp only [Act.put, List.setIfInBounds_toArray, List.set_cons_zero, List.set_cons_succ]))))
        refine ord_done ?_
        go_wp2
        go_roundw
        case rel => exact ⟨j + 1, k', by go_num, by omega, hb0', hb1', hg3, hc3, below_draws hB3 _⟩
        case measure => simp [intOf]; omega
    · have hz : isB n 0 = false := by
        unfold isB
        by_cases hn : 1 ≤ n
        · rw [decide_eq_true hn, decide_eq_false (by omega : ¬ n ≤ 0)]; rfl
        · rw [decide_eq_false hn]; rfl
      have Hz := Lib.hid hz
      clear hz
      have hcase : (¬ (j : Int) < t ∧ decide ((j : Int) < t) = false) ∨ ((j : Int) < t ∧ ¬ (j : Int) < 500) := by
        by_cases hjt : (j : Int) < t
        · exact .inr ⟨hjt, fun h => hj1 ⟨hjt, h⟩⟩
        · exact .inl ⟨hjt, decide_eq_false hjt⟩
      clear hj1
      have hgz : Giver (wr.alloc (.cells #[.int .u64 0, .int .u64 0] 37)) wr.heap.size 0 0 := Has.fresh _ _
      have hBz : Below w.heap.size w (wr.alloc (.cells #[.int .u64 0, .int .u64 0] 37)) := hB'.alloc hB'.size _
      rcases hcase with ⟨q1, q2⟩ | ⟨q1, q2⟩
      all_goals
        go_wp2_with fail
        refine (next_nil _).mono ?_
        rintro e w2 ⟨rfl, n2, rfl⟩
        go_wp2_with fail
        refine (last_nil _).mono ?_
        rintro e w3 ⟨rfl, n3, rfl⟩
        go_wp2_with fail
        refine (is_nil _ _).mono ?_
        rintro e w4 ⟨rfl, n4, rfl⟩
        go_wp2_with fail
        refine (next_none _ _ _ _ (Int.le_refl 0) (hgz.drewN _)).mono ?_
        rintro e w5 ⟨rfl, n5, rfl⟩
        go_wp2_with fail
        refine (last_any _ _ _ _ (Int.le_refl 0) (Int.le_refl 0) (by omega) (hgz.drewN _)).mono ?_
        rintro e w6 ⟨rfl, n6, rfl⟩
        go_wp2_with fail
        refine (is_any _ _ _ _ _ (Int.le_refl 0) (Int.le_refl 0) (by omega) (hgz.drewN _)).mono ?_
        rintro e w7 ⟨rfl, n7, rfl⟩
        rw [Hz.out]
        go_wp2
        go_ret
        exact ⟨rfl, below_draws hBz _⟩
end Go.Proofs.Ythhealkndmmanaa
