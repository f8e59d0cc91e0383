/-
  What towncrierlaw01.WordJoins does: it answers true.
-/
import Derived.Test.YtalcfcemilmgdaaJoin
import Derived.Test.YtalcfcemilmgdaaAwake
import Derived.Test.YtalcfcemilmgdaaPlainOk
import Derived.Test.YtalcfcemilmgdaaOrder
import Derived.Deep.RegionWith
namespace Go.Proofs.Ytalcfcemilmgdaa
open Go Go.RowKit

def JRel (xs : List ByteArray) (w : World) (n : Nat) (whole i : Value) (wr : World) : Prop :=
  ∃ k : Nat, i = .int .i64 k ∧ k ≤ n ∧ whole = .bool (okTo (bytesOf xs) k) ∧ Below w.heap.size w wr ∧ ∀ j, j < k → (xs.getD j ByteArray.empty).size ≤ 100

set_option maxHeartbeats 8000000 in
set_option maxRecDepth 100000 in
theorem wordJoins_any (A : Option Addr) (n c : Nat) (xs : List ByteArray) (w : World) (hx : Reads w w.heap.size A n (xs.map Value.string)) (hnc : n ≤ c) :
    Calls Try.prog 3 #[.slice A n c] w fun e w' => e = .returned (.bool true) ∧ Below w.heap.size w w' := by
  have lx : xs.length = n := by simpa using hx.1
  have Lx := Lib.hid lx
  clear lx
  by_cases hn : n ≤ 50
  · go_enter Try.func3, Try.ntmps3
    go_wp2_with fail
    refine (awake_any _).mono ?_
    rintro e w0 ⟨rfl, hb0⟩
    go_wp2_with fail
    go_loopw [3, 4] (fun whole i wr => JRel xs w n whole i wr) (fun _ i _ => n - (intOf i).toNat)
    case atStart => exact ⟨0, rfl, Nat.zero_le _, rfl, hb0, fun j hj => by omega⟩
    case round =>
      obtain ⟨k, rfl, hk, rfl, hbw, hall⟩ := hrel
      have Hall := Lib.hid hall
      clear hall
      by_cases hlt : k < n
      · obtain ⟨b, off, rfl, hb, hc⟩ := strings_at (hx.below hbw) hlt
        have hat := bytesOf_at (xs := xs) (k := k) (by have := Lx.out; omega)
        obtain ⟨p, hp⟩ : ∃ p, p = xs.getD k ByteArray.empty := ⟨_, rfl⟩
        rw [← hp] at hc hat
        have hsucc := okTo_succ hat
        have Hs := Lib.hid hsucc
        have Hp := Lib.hid hp
        have Hx := Lib.hid hx
        clear hp hx hat hsucc
        by_cases h100 : p.size ≤ 100
        · cases hwh : okTo (bytesOf xs) k with
          | false =>
            rw [hwh] at Hs
            have Hwh := Lib.hid hwh
            clear hwh
            go_wp2_with fail
            go_quiet (fail)
            go_wp2
            go_roundw
            case rel =>
              refine ⟨k + 1, by go_num, by omega, by rw [Hs.out]; rfl, below_drewN' hbw _, fun j hj => ?_⟩
              by_cases hj2 : j = k
              · subst hj2; rw [← Hp.out]; exact h100
              · exact Hall.out j (by omega)
            case measure => simp [intOf]; omega
          | true =>
            rw [hwh] at Hs
            have Hwh := Lib.hid hwh
            clear hwh
            have Hrel : Hid (∀ j, j < k + 1 → (xs.getD j ByteArray.empty).size ≤ 100) := by
              intro j hj
              by_cases hj2 : j = k
              · subst hj2; rw [← Hp.out]; exact h100
              · exact Hall.out j (by omega)
            have hbs : b < wr.heap.size := Nat.lt_of_lt_of_le hb hbw.size
            by_cases hp0 : p.data.toList = []
            · have g1 : p.toList.isEmpty = true := by rw [Lib.toList_data, hp0]; rfl
              have Hp0 := Lib.hid hp0
              clear hp0
              go_wp2_with fail
              go_quiet (fail)
              go_wp2
              go_roundw
              case rel => exact ⟨k + 1, by go_num, by omega, by rw [Hs.out, Hp0.out]; rfl, below_drewN' hbw _, Hrel.out⟩
              case measure => simp [intOf]; omega
            · have g1 : p.toList.isEmpty = false := by
                rw [Lib.toList_data]
                cases h : p.data.toList with
                | nil => exact absurd h hp0
                | cons a r => rfl
              have Hp0 := Lib.hid hp0
              clear hp0
              by_cases hl1 : (splitL p.data.toList).length = 1
              · obtain ⟨q, hq⟩ : ∃ q, splitL p.data.toList = [q] := List.length_eq_one_iff.1 hl1
                have hcall : ∀ W, Calls Try.prog 5 #[.string p] W (GivesSlice W [q]) := fun W => by
                  have := refSplit_slice p W (by omega)
                  rw [hq] at this
                  exact this
                have HC := Lib.hid hcall
                have hok := okw_one hq
                have Hok := Lib.hid hok
                have g3 : ((ba q).toList == p.toList) = decide (q = p.data.toList) := by
                  rw [ba_toList, Lib.toList_data, Bool.eq_iff_iff]
                  simp
                obtain ⟨r, hr⟩ : ∃ r, r = decide (q = p.data.toList) := ⟨_, rfl⟩
                rw [← hr] at g3 Hok
                clear hl1 hok hcall hq hr
                go_wp2_with fail
                refine wp_region_ord (S := fun w' => w'.cell? ⟨b, off + k, none⟩ = some (.string p) ∧ Below w.heap.size w w') (pin := [13, 22, 24]) (l := [0, 1, 2, 3, 4, 5, 6, 7, 8, 9, 10, 11, 12, 13, 14, 15, 16, 17, 18, 19, 20, 21, 25, 26, 27, 28, 22, 23, 24, 29, 30, 31]) (by kernel_rfl) (by kernel_rfl) (by kernel_rfl) (by kernel_rfl) ⟨hc, hbw.drew⟩ (fun hHeld => ?_)
                simp only [picked, List.getElem?_cons_succ, List.getElem?_cons_zero]
                (repeat (first | (refine ord_skip (by rfl) (by rfl) hHeld ?_; (try simp only [Act.put, List.setIfInBounds_toArray, List.set_cons_zero, List.set_cons_succ])) | (refine ord_pass (by rfl) (by rfl) (by rfl) hHeld ?_; (try simp only [Act.put, List.setIfInBounds_toArray, List.set_cons_zero, List.set_cons_succ])) | (refine ord_take (v := ?_) (by rfl) (by rfl) ?_ hHeld ?_; rotate_left; (focus (intro w hSw; (try dsimp only at hSw); go_simp; (try with_reducible rfl); done)); (try simp only [Act.put, List.setIfInBounds_toArray, List.set_cons_zero, List.set_cons_succ]))))
                refine ord_run (by rfl) (by rfl) (by rfl) (fun K hK => ?_)
                go_simp
                refine (HC.out _).mono ?_
                rintro e w1 ⟨A1, c1, rfl, hr1, hc1, hb1⟩
                go_simp
                have hS1 : w1.cell? ⟨b, off + k, none⟩ = some (.string p) ∧ Below w.heap.size w w1 := ⟨(hb1.cell hbs).trans hc, (hbw.drew.trans (hb1.mono hbw.size))⟩
                refine hK.out _ _ hS1 (fun hHeld => ?_)
                have hbs1 : b < w1.heap.size := Nat.lt_of_lt_of_le hbs hb1.size
                clear hK K hr1 hb1
                (try simp only [Act.put, List.setIfInBounds_toArray, List.set_cons_zero, List.set_cons_succ])
                (repeat (first | (refine ord_skip (by rfl) (by rfl) hHeld ?_; (try simp only [Act.put, List.setIfInBounds_toArray, List.set_cons_zero, List.set_cons_succ])) | (refine ord_pass (by rfl) (by rfl) (by rfl) hHeld ?_; (try simp only [Act.put, List.setIfInBounds_toArray, List.set_cons_zero, List.set_cons_succ])) | (refine ord_take (v := ?_) (by rfl) (by rfl) ?_ hHeld ?_; rotate_left; (focus (intro w hSw; (try dsimp only at hSw); go_simp; (try with_reducible rfl); done)); (try simp only [Act.put, List.setIfInBounds_toArray, List.set_cons_zero, List.set_cons_succ]))))
                refine ord_run (by rfl) (by rfl) (by rfl) (fun K hK => ?_)
                go_simp
                refine (HC.out _).mono ?_
                rintro e w2 ⟨A2, c2, rfl, hr2, hc2, hb2⟩
                obtain ⟨g, o2, rfl, hg, hcl⟩ := hr2.2 Nat.one_pos
                have hcl0 : w2.cell? ⟨g, o2, none⟩ = some (.string (ba q)) := hcl 0 _ rfl
                go_simp
                have hS2 : w2.cell? ⟨b, off + k, none⟩ = some (.string p) ∧ Below w.heap.size w w2 := ⟨(hb2.cell hbs1).trans hS1.1, (hS1.2.trans (hb2.mono hS1.2.size))⟩
                refine hK.out _ _ hS2 (fun hHeld => ?_)
                clear hK K hr2 hb2 hcl
                (try simp only [Act.put, List.setIfInBounds_toArray, List.set_cons_zero, List.set_cons_succ])
                (repeat (first | (refine ord_skip (by rfl) (by rfl) hHeld ?_; (try simp only [Act.put, List.setIfInBounds_toArray, List.set_cons_zero, List.set_cons_succ])) | (refine ord_pass (by rfl) (by rfl) (by rfl) hHeld ?_; (try simp only [Act.put, List.setIfInBounds_toArray, List.set_cons_zero, List.set_cons_succ])) | (refine ord_take (v := ?_) (by rfl) (by rfl) ?_ hHeld ?_; rotate_left; (focus (intro w hSw; (try dsimp only at hSw); go_simp; (try with_reducible rfl); done)); (try simp only [Act.put, List.setIfInBounds_toArray, List.set_cons_zero, List.set_cons_succ]))))
                refine ord_run (by rfl) (by rfl) (by rfl) (fun K hK => ?_)
                go_simp
                refine hK.out _ _ hS2 (fun hHeld => ?_)
                clear hK K
                (try simp only [Act.put, List.setIfInBounds_toArray, List.set_cons_zero, List.set_cons_succ])
                (repeat (first | (refine ord_skip (by rfl) (by rfl) hHeld ?_; (try simp only [Act.put, List.setIfInBounds_toArray, List.set_cons_zero, List.set_cons_succ])) | (refine ord_pass (by rfl) (by rfl) (by rfl) hHeld ?_; (try simp only [Act.put, List.setIfInBounds_toArray, List.set_cons_zero, List.set_cons_succ])) | (refine ord_take (v := ?_) (by rfl) (by rfl) ?_ hHeld ?_; rotate_left; (focus (intro w hSw; (try dsimp only at hSw); go_simp; (try with_reducible rfl); done)); (try simp only [Act.put, List.setIfInBounds_toArray, List.set_cons_zero, List.set_cons_succ]))))
                refine ord_done ?_
                go_wp2
                go_roundw
                case rel => exact ⟨k + 1, by go_num, by omega, by rw [Hs.out, Hok.out]; rfl, hS2.2, Hrel.out⟩
                case measure => simp [intOf]; omega
              · have g2 : (((splitL p.data.toList).length : Int) == 1) = false := by rw [beq_eq_false_iff_ne]; omega
                have g2' : (((splitL p.data.toList).length) == 1) = false := by rw [beq_eq_false_iff_ne]; omega
                have hok := okw_len hl1
                have Hok := Lib.hid hok
                have Hl1 := Lib.hid hl1
                clear hl1 hok
                go_wp2_with fail
                refine wp_region_ord (S := fun w' => w'.cell? ⟨b, off + k, none⟩ = some (.string p) ∧ Below w.heap.size w w') (pin := [13, 22, 24]) (l := [0, 1, 2, 3, 4, 5, 6, 7, 8, 9, 10, 11, 12, 13, 14, 15, 16, 17, 18, 19, 20, 21, 25, 26, 27, 28, 22, 23, 24, 29, 30, 31]) (by kernel_rfl) (by kernel_rfl) (by kernel_rfl) (by kernel_rfl) ⟨hc, hbw.drew⟩ (fun hHeld => ?_)
                simp only [picked, List.getElem?_cons_succ, List.getElem?_cons_zero]
                (repeat (first | (refine ord_skip (by rfl) (by rfl) hHeld ?_; (try simp only [Act.put, List.setIfInBounds_toArray, List.set_cons_zero, List.set_cons_succ])) | (refine ord_pass (by rfl) (by rfl) (by rfl) hHeld ?_; (try simp only [Act.put, List.setIfInBounds_toArray, List.set_cons_zero, List.set_cons_succ])) | (refine ord_take (v := ?_) (by rfl) (by rfl) ?_ hHeld ?_; rotate_left; (focus (intro w hSw; (try dsimp only at hSw); go_simp; (try with_reducible rfl); done)); (try simp only [Act.put, List.setIfInBounds_toArray, List.set_cons_zero, List.set_cons_succ]))))
                refine ord_run (by rfl) (by rfl) (by rfl) (fun K hK => ?_)
                go_simp
                refine (refSplit_slice p _ (by omega)).mono ?_
                rintro e w1 ⟨A1, c1, rfl, hr1, hc1, hb1⟩
                go_simp
                refine hK.out _ _ ?_ (fun hHeld => ?_)
                · exact ⟨(hb1.cell hbs).trans hc, (hbw.drew.trans (hb1.mono hbw.size))⟩
                clear hK K
                (try simp only [Act.put, List.setIfInBounds_toArray, List.set_cons_zero, List.set_cons_succ])
                (repeat (first | (refine ord_skip (by rfl) (by rfl) hHeld ?_; (try simp only [Act.put, List.setIfInBounds_toArray, List.set_cons_zero, List.set_cons_succ])) | (refine ord_pass (by rfl) (by rfl) (by rfl) hHeld ?_; (try simp only [Act.put, List.setIfInBounds_toArray, List.set_cons_zero, List.set_cons_succ])) | (refine ord_take (v := ?_) (by rfl) (by rfl) ?_ hHeld ?_; rotate_left; (focus (intro w hSw; (try dsimp only at hSw); go_simp; (try with_reducible rfl); done)); (try simp only [Act.put, List.setIfInBounds_toArray, List.set_cons_zero, List.set_cons_succ]))))
                refine ord_done ?_
                go_wp2
                go_roundw
                case rel => exact ⟨k + 1, by go_num, by omega, by rw [Hs.out, Hok.out]; rfl, hHeld.2, Hrel.out⟩
                case measure => simp [intOf]; omega


        · go_wp2_with fail
          go_ret
          exact ⟨rfl, hbw⟩
      · have hkn : k = n := by omega
        have hall : ∀ l ∈ bytesOf xs, l.length ≤ 100 := by
          intro l hl
          unfold bytesOf at hl
          obtain ⟨p, hp, rfl⟩ := List.mem_map.1 hl
          obtain ⟨j, hj, rfl⟩ := List.mem_iff_getElem.1 hp
          have := Hall.out j (by have := Lx.out; omega)
          rw [List.getD_eq_getElem?_getD, List.getElem?_eq_getElem hj] at this
          rw [← Lib.size_eq]
          exact this
        have hbl : (bytesOf xs).length = n := by unfold bytesOf; rw [List.length_map]; exact Lx.out
        have hjl := joinL_bound (bytesOf xs) 100 hall
        rw [hbl] at hjl
        have hsp : okTo (bytesOf xs) n = true → splitL (joinL (bytesOf xs)) = bytesOf xs := split_of_ok (by omega)
        have Hsp := Lib.hid hsp
        subst hkn
        obtain ⟨t, ht⟩ : ∃ t, t = joinL (bytesOf xs) := ⟨_, rfl⟩
        have hcj : ∀ W, Below w.heap.size w W → Calls Try.prog 6 #[.slice A k c] W fun e w' => e = .returned (.string (ba t)) ∧ Below W.heap.size W w' := fun W hW => by
          rw [ht]
          exact join_any A k c xs W ((hx.below hW).more hW.size) hnc (by omega) (by omega)
        have hrj : ∀ W, Below w.heap.size w W → Calls Try.prog 7 #[.slice A k c] W fun e w' => e = .returned (.string (ba t)) ∧ W = w' := fun W hW => by
          rw [ht]
          exact refJoin_any A k c _ xs W (hx.below hW) (by omega) (by omega)
        have Hcj := Lib.hid hcj
        have Hrj := Lib.hid hrj
        have Hx := Lib.hid hx
        have htl : t.length ≤ 5050 := by rw [ht]; omega
        have Ht := Lib.hid ht
        clear hcj hrj ht hjl hbl hall hsp hx
        cases hwh : okTo (bytesOf xs) k with
        | false =>
          clear hwh
          go_wp2_with fail
          refine (Hcj.out _ hbw).mono ?_
          rintro e w1 ⟨rfl, hb1⟩
          have hB1 : Below w.heap.size w w1 := hbw.trans (hb1.mono hbw.size)
          go_wp2_with fail
          refine (Hrj.out _ hB1).mono ?_
          rintro e w2 ⟨rfl, rfl⟩
          go_wp2
          go_ret
          exact ⟨rfl, hB1⟩
        | true =>
          have hspl := Hsp.out hwh
          rw [← Ht.out] at hspl
          have Hspl := Lib.hid hspl
          clear hwh hspl
          go_wp2_with fail
          refine (Hcj.out _ hbw).mono ?_
          rintro e w1 ⟨rfl, hb1⟩
          have hB1 : Below w.heap.size w w1 := hbw.trans (hb1.mono hbw.size)
          go_wp2_with fail
          refine (Hrj.out _ hB1).mono ?_
          rintro e w2 ⟨rfl, rfl⟩
          go_wp2_with fail
          refine (split_slice (ba t) _ (by rw [ba_size]; omega)).mono ?_
          rintro e w3 ⟨A3, c3, rfl, hr3, hc3, hb3⟩
          have hB3 : Below w.heap.size w w3 := hB1.trans (hb3.mono hB1.size)
          rw [ba_data, Hspl.out, strs_of] at hr3
          rw [ba_data, Hspl.out]
          have e3 : (bytesOf xs).map ba = xs := by
            unfold bytesOf
            rw [List.map_map]
            exact (List.map_congr_left fun s _ => ba_of s).trans (List.map_id _)
          rw [e3] at hr3
          have Hr3 := Lib.hid hr3
          have hl3 : (bytesOf xs).length ≤ 50 := by unfold bytesOf; rw [List.length_map, Lx.out]; exact hn
          clear hr3 e3 hb3 hb1
          go_wp2_with fail
          refine (texts_any _ _ _ _ _ _ _ _ xs xs _ Hr3.out (Hx.out.below hB3) (by omega) (by omega)).mono ?_
          rintro e w4 ⟨rfl, d, rfl⟩
          have hst : sameTexts xs xs = true := by unfold sameTexts; simp
          rw [hst]
          go_wp2
          go_ret
          exact ⟨rfl, below_drewN' hB3 d⟩
  · go_enter Try.func3, Try.ntmps3
    go_wp2_with fail
    refine (awake_any _).mono ?_
    rintro e w0 ⟨rfl, hb0⟩
    go_wp2
    go_ret
    exact ⟨rfl, hb0⟩
end Go.Proofs.Ytalcfcemilmgdaa
