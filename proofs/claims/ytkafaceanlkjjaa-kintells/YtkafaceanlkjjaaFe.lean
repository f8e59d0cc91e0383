/-
  What towncrierref01.Ints, towncrierref04.One and Same do.
-/
import Derived.Test.YtkafaceanlkjjaaFc
namespace Go.Proofs.Ytkafaceanlkjjaa
open Go Go.RowKit

/-- The same numbers? -/
def sameInts (xs ys : List Int) : Bool := decide (xs = ys)
set_option maxHeartbeats 1000000 in
theorem ints_any (xs ys : List Int) (A1 A2 : Option Addr) (n1 n2 c1 c2 : Nat) (w : World) (h1 : n1 = xs.length) (h2 : n2 = ys.length) (hl : n1 ≤ 1000000) (hx : Nums w w.heap.size A1 .i64 xs) (hy : Nums w w.heap.size A2 .i64 ys) :
    Calls Try.prog 12 #[.slice A1 n1 c1, .slice A2 n2 c2] w fun e w' => e = .returned (.bool (sameInts xs ys)) ∧ Below w.heap.size w w' := by
  have H1 := Lib.hid h1
  have H2 := Lib.hid h2
  have Hx := Lib.hid hx
  have Hy := Lib.hid hy
  clear h1 h2 hx hy
  by_cases hn : n1 = n2
  · subst hn
    go_enter Try.func12, Try.ntmps12
    go_wp2_with fail
    go_loopw [5] (fun i wr => ∃ k : Nat, i = .int .i64 k ∧ k ≤ n1 ∧ xs.take k = ys.take k ∧ Below w.heap.size w wr) (fun i _ => n1 - (intOf i).toNat)
    case atStart => exact ⟨0, rfl, Nat.zero_le _, by simp, Below.refl _ _⟩
    case round =>
      obtain ⟨k, rfl, hk, ht, hbr⟩ := hrel
      have Ht := Lib.hid ht
      clear ht
      by_cases hlt : (k : Int) < n1
      · have hkx : k < xs.length := by rw [← H1.out]; omega
        have hky : k < ys.length := by rw [← H2.out]; omega
        obtain ⟨b, off, rfl, hb, hc⟩ := Hx.out.below hbr k hkx
        obtain ⟨b', off', rfl, hb', hc'⟩ := Hy.out.below hbr k hky
        obtain ⟨x, hxe⟩ : ∃ x, x = xs[k] := ⟨_, rfl⟩
        obtain ⟨y, hye⟩ : ∃ y, y = ys[k] := ⟨_, rfl⟩
        rw [← hxe] at hc
        rw [← hye] at hc'
        have Hxe := Lib.hid hxe
        have Hye := Lib.hid hye
        clear hxe hye hb hb'
        by_cases hxy : x = y
        · have hn2 : xs.take (k + 1) = ys.take (k + 1) := by
            rw [List.take_add_one, List.take_add_one, Ht.out, List.getElem?_eq_getElem hkx, List.getElem?_eq_getElem hky, ← Hxe.out, ← Hye.out, hxy]
          have Hn2 := Lib.hid hn2
          clear hn2
          subst hxy
          go_wp2_with fail
          go_quiet (fail)
          go_wp2
          go_roundw
          case rel => exact ⟨k + 1, by go_num, by omega, Hn2.out, below_draws hbr _⟩
          case measure => simp [intOf]; omega
        · have hxy' : (x != y) = true := by simpa using hxy
          have hxy2 : (x == y) = false := by simpa using hxy
          have e1 : sameInts xs ys = false := by
            rw [sameInts, decide_eq_false_iff_not]
            intro e
            apply hxy
            rw [Hxe.out, Hye.out]
            simp only [e]
          have E1 := Lib.hid e1
          clear e1
          go_wp2_with fail
          go_quiet (fail)
          go_wp2
          go_ret
          rw [E1.out]
          exact ⟨rfl, below_draws hbr _⟩
      · have e1 : sameInts xs ys = true := by
          rw [sameInts, decide_eq_true_iff]
          have := Ht.out
          rw [List.take_of_length_le (by rw [← H1.out]; omega), List.take_of_length_le (by rw [← H2.out]; omega)] at this
          exact this
        have E1 := Lib.hid e1
        clear e1
        go_wp2
        go_ret
        rw [E1.out]
        exact ⟨rfl, hbr⟩
  · have hn' : ((n1 : Int) != (n2 : Int)) = true := by rw [bne_iff_ne]; omega
    have hn2 : ((n1 : Int) == (n2 : Int)) = false := by rw [beq_eq_false_iff_ne]; omega
    have e1 : sameInts xs ys = false := by
      rw [sameInts, decide_eq_false_iff_not]
      intro e
      apply hn
      rw [H1.out, H2.out, e]
    have E1 := Lib.hid e1
    clear e1
    go_enter Try.func12, Try.ntmps12
    go_wp2
    go_ret
    rw [E1.out]
    exact ⟨rfl, Below.refl _ _⟩

/-- The same node? -/
def oneB (d e : Nd) : Bool := (d.kind == e.kind) && (d.parent == e.parent) && (d.host == e.host) && (d.shadow == e.shadow) && (d.mode == e.mode) && (d.slot == e.slot) && (d.name.toList == e.name.toList) && (d.want.toList == e.want.toList) && sameInts d.kids e.kids

end Go.Proofs.Ytkafaceanlkjjaa
