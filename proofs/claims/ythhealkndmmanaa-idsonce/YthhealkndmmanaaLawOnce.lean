/-
  What towncrierlaw02.IdsOnce does: it answers true.
-/
import Derived.Test.YthhealkndmmanaaIdsIs
namespace Go.Proofs.Ythhealkndmmanaa
open Go Go.RowKit

set_option maxHeartbeats 1000000 in
theorem idsOnce_any (l t : Int) (w : World) (h0 : 0 ≤ l) (h1 : l ≤ 255) (t0 : 0 ≤ t) (t1 : t ≤ 65535) :
    Calls Try.prog 4 #[.int .u8 l, .int .u16 t] w fun e w' => e = .returned (.bool true) ∧ Below w.heap.size w w' := by
  go_enter Try.func4, Try.ntmps4
  go_wp2_with fail
  refine (awake_any _).mono ?_
  rintro e w0 ⟨rfl, hb0⟩
  go_wp2_with fail
  refine (new_any l w0 (by omega) (by omega)).mono ?_
  rintro e w1 ⟨rfl, hg, hb, hs⟩
  have e1 : max l 0 = l := by omega
  rw [e1] at hg
  have Hs := Lib.hid hs
  have hB : Below w.heap.size w w1 := hb0.trans (hb.mono hb0.size)
  have hlt : w.heap.size ≤ w0.heap.size := hb0.size
  clear hs e1 hb hb0
  go_wp2_with fail
  go_loopw [6, 7] (fun last i wr => ∃ k : Nat, (k : Int) ≤ t % 500 ∧ (k : Int) ≤ l ∧ last = .int .i64 k ∧ i = .int .i64 k ∧ Giver wr w0.heap.size l k ∧ Below w.heap.size w wr) (fun _ i _ => 500 - (intOf i).toNat)
  case atStart => exact ⟨0, by omega, by omega, rfl, rfl, hg, hB⟩
  case round =>
    obtain ⟨k, hk1, hk2, rfl, rfl, hg', hB'⟩ := hrel
    clear hg hB
    by_cases hlt' : (k : Int) < t % 500
    · by_cases hkl : (k : Int) < l
      · go_wp2_with fail
        refine (next_more _ l k _ (by omega) hkl (by omega) hg').mono ?_
        rintro e w2 ⟨rfl, hg2, ho2⟩
        go_wp2
        go_roundw
        case rel => exact ⟨k + 1, by omega, by omega, by go_num, by go_num, hg2, below_then hB' ho2 hB'.size (just_far hlt)⟩
        case measure => simp [intOf]; omega
      · have hkl' : (k : Int) = l := by omega
        subst hkl'
        go_wp2_with fail
        refine (next_none _ _ _ _ (by omega) hg').mono ?_
        rintro e w2 ⟨rfl, n2, rfl⟩
        go_wp2_with fail
        refine (last_any _ _ _ _ (by omega) (by omega) (by omega) (hg'.drewN _)).mono ?_
        rintro e w3 ⟨rfl, n3, rfl⟩
        go_wp2
        go_ret
        exact ⟨rfl, below_draws hB' _⟩
    · go_wp2_with fail
      refine (last_any _ _ _ _ (by omega) (by omega) (by omega) hg').mono ?_
      rintro e w3 ⟨rfl, n3, rfl⟩
      go_wp2
      go_ret
      exact ⟨rfl, below_draws hB' _⟩
end Go.Proofs.Ythhealkndmmanaa
