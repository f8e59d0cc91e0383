/-
  What towncrierref01.Ints, towncrierref04.One and Same do.
-/
import Derived.Test.YtlbaahfadfmffaaFc
namespace Go.Proofs.Ytlbaahfadfmffaa
open Go Go.RowKit

/-- The same numbers? -/
def sameInts (xs ys : List Int) : Bool := decide (xs = ys)
set_option maxHeartbeats 1000000 in
theorem ints_any (xs ys : List Int) (A1 A2 : Option Addr) (n1 n2 c1 c2 : Nat) (w : World) (h1 : n1 = xs.length) (h2 : n2 = ys.length) (hl : n1 ≤ 1000000) (hx : Nums w w.heap.size A1 .i64 xs) (hy : Nums w w.heap.size A2 .i64 ys) :
    Calls Try.prog 31 #[.slice A1 n1 c1, .slice A2 n2 c2] w fun e w' => e = .returned (.bool (sameInts xs ys)) ∧ Below w.heap.size w w' := by
  have H1 := Lib.hid h1
  have H2 := Lib.hid h2
  have Hx := Lib.hid hx
  have Hy := Lib.hid hy
  clear h1 h2 hx hy
  by_cases hn : n1 = n2
  · subst hn
    go_enter Try.func31, Try.ntmps31
    go_wp2_with fail
    go_loopw [5] (fun i wr => ∃ k : Nat, i = .int .i64 k ∧ k ≤ n1 ∧ xs.take k = ys.take k ∧ Below w.heap.size w wr) (fun i _ => n1 - (intOf i).toNat)
    case atStart => exact ⟨0, rfl, Nat.zero_le _, by simp, Below.refl _ _⟩
    case round =>
      obtain ⟨k, rfl, hk, ht, hbr⟩ := hrel
      have Ht := Lib.hid ht
      clear ht
      by_cases hlt : (k : Int) < n1
      · have hkx : k < xs.length := by rw [← H1.out]; omega
        have hky : k < ys.length := by rw [← H2.out]; omega
        obtain ⟨b, off, rfl, hb, hc⟩ := Hx.out.below hbr k hkx
        obtain ⟨b', off', rfl, hb', hc'⟩ := Hy.out.below hbr k hky
        obtain ⟨x, hxe⟩ : ∃ x, x = xs[k] := ⟨_, rfl⟩
        obtain ⟨y, hye⟩ : ∃ y, y = ys[k] := ⟨_, rfl⟩
        rw [← hxe] at hc
        rw [← hye] at hc'
        have Hxe := Lib.hid hxe
        have Hye := Lib.hid hye
        clear hxe hye hb hb'
        by_cases hxy : x = y
        · have hn2 : xs.take (k + 1) = ys.take (k + 1) := by
            rw [List.take_add_one, List.take_add_one, Ht.out, List.getElem?_eq_getElem hkx, List.getElem?_eq_getElem hky, ← Hxe.out, ← Hye.out, hxy]
          have Hn2 := Lib.hid hn2
          clear hn2
          subst hxy
          go_wp2_with fail
          go_quiet (fail)
          go_wp2
          go_roundw
          case rel => exact ⟨k + 1, by go_num, by omega, Hn2.out, below_draws hbr _⟩
          case measure => simp [intOf]; omega
        · have hxy' : (x != y) = true := by simpa using hxy
          have hxy2 : (x == y) = false := by simpa using hxy
          have e1 : sameInts xs ys = false := by
            rw [sameInts, decide_eq_false_iff_not]
            intro e
            apply hxy
            rw [Hxe.out, Hye.out]
            simp only [e]
          have E1 := Lib.hid e1
          clear e1
          go_wp2_with fail
          go_quiet (fail)
          go_wp2
          go_ret
          rw [E1.out]
          exact ⟨rfl, below_draws hbr _⟩
      · have e1 : sameInts xs ys = true := by
          rw [sameInts, decide_eq_true_iff]
          have := Ht.out
          rw [List.take_of_length_le (by rw [← H1.out]; omega), List.take_of_length_le (by rw [← H2.out]; omega)] at this
          exact this
        have E1 := Lib.hid e1
        clear e1
        go_wp2
        go_ret
        rw [E1.out]
        exact ⟨rfl, hbr⟩
  · have hn' : ((n1 : Int) != (n2 : Int)) = true := by rw [bne_iff_ne]; omega
    have hn2 : ((n1 : Int) == (n2 : Int)) = false := by rw [beq_eq_false_iff_ne]; omega
    have e1 : sameInts xs ys = false := by
      rw [sameInts, decide_eq_false_iff_not]
      intro e
      apply hn
      rw [H1.out, H2.out, e]
    have E1 := Lib.hid e1
    clear e1
    go_enter Try.func31, Try.ntmps31
    go_wp2
    go_ret
    rw [E1.out]
    exact ⟨rfl, Below.refl _ _⟩

/-- The same node? -/
def oneB (d e : Nd) : Bool := (d.kind == e.kind) && (d.parent == e.parent) && (d.host == e.host) && (d.shadow == e.shadow) && (d.mode == e.mode) && (d.slot == e.slot) && (d.name.toList == e.name.toList) && (d.want.toList == e.want.toList) && sameInts d.kids e.kids

set_option maxHeartbeats 4000000 in
set_option maxRecDepth 100000 in
theorem one_any (k1 p1 h1 s1 m1 k2 p2 h2 s2 m2 : Int) (b1 b2 : Bool) (n1 u1 n2 u2 : ByteArray) (x1 x2 : List Int) (A1 A2 : Option Addr) (c1 c2 : Nat) (w : World) (hl : x1.length ≤ 1000000) (hx : Nums w w.heap.size A1 .i64 x1) (hy : Nums w w.heap.size A2 .i64 x2) :
    Calls Try.prog 14 #[.agg #[.int .i64 k1, .int .i64 p1, .int .i64 h1, .int .i64 s1, .int .i64 m1, .bool b1, .string n1, .string u1, .slice A1 x1.length c1], .agg #[.int .i64 k2, .int .i64 p2, .int .i64 h2, .int .i64 s2, .int .i64 m2, .bool b2, .string n2, .string u2, .slice A2 x2.length c2]] w fun e w' => e = .returned (.bool (oneB ⟨k1, p1, h1, s1, m1, b1, n1, u1, x1⟩ ⟨k2, p2, h2, s2, m2, b2, n2, u2, x2⟩)) ∧ Below w.heap.size w w' := by
  have Hx := Lib.hid hx
  have Hy := Lib.hid hy
  clear hx hy
  have hbb : Below w.heap.size w ((w.alloc (.cells #[.int .i64 k1, .int .i64 p1, .int .i64 h1, .int .i64 s1, .int .i64 m1, .bool b1, .string n1, .string u1, .slice A1 x1.length c1] 33)).alloc (.cells #[.int .i64 k2, .int .i64 p2, .int .i64 h2, .int .i64 s2, .int .i64 m2, .bool b2, .string n2, .string u2, .slice A2 x2.length c2] 33)) := ((Below.refl _ w).alloc (Nat.le_refl _) _).alloc (by simp) _
  cases t0 : (k1 == k2) with
  | false =>
    have e1 : oneB ⟨k1, p1, h1, s1, m1, b1, n1, u1, x1⟩ ⟨k2, p2, h2, s2, m2, b2, n2, u2, x2⟩ = false := by simp only [oneB, t0, Bool.false_and]
    have E1 := Lib.hid e1
    clear e1
    go_enter Try.func14, Try.ntmps14
    go_wp2
    go_ret
    rw [E1.out]
    exact ⟨rfl, hbb⟩
  | true =>
    cases t1 : (p1 == p2) with
    | false =>
      have e1 : oneB ⟨k1, p1, h1, s1, m1, b1, n1, u1, x1⟩ ⟨k2, p2, h2, s2, m2, b2, n2, u2, x2⟩ = false := by simp only [oneB, t0, t1, Bool.true_and, Bool.false_and]
      have E1 := Lib.hid e1
      clear e1
      go_enter Try.func14, Try.ntmps14
      go_wp2
      go_ret
      rw [E1.out]
      exact ⟨rfl, hbb⟩
    | true =>
      cases t2 : (h1 == h2) with
      | false =>
        have e1 : oneB ⟨k1, p1, h1, s1, m1, b1, n1, u1, x1⟩ ⟨k2, p2, h2, s2, m2, b2, n2, u2, x2⟩ = false := by simp only [oneB, t0, t1, t2, Bool.true_and, Bool.false_and]
        have E1 := Lib.hid e1
        clear e1
        go_enter Try.func14, Try.ntmps14
        go_wp2
        go_ret
        rw [E1.out]
        exact ⟨rfl, hbb⟩
      | true =>
        cases t3 : (s1 == s2) with
        | false =>
          have e1 : oneB ⟨k1, p1, h1, s1, m1, b1, n1, u1, x1⟩ ⟨k2, p2, h2, s2, m2, b2, n2, u2, x2⟩ = false := by simp only [oneB, t0, t1, t2, t3, Bool.true_and, Bool.false_and]
          have E1 := Lib.hid e1
          clear e1
          go_enter Try.func14, Try.ntmps14
          go_wp2
          go_ret
          rw [E1.out]
          exact ⟨rfl, hbb⟩
        | true =>
          cases t4 : (m1 == m2) with
          | false =>
            have e1 : oneB ⟨k1, p1, h1, s1, m1, b1, n1, u1, x1⟩ ⟨k2, p2, h2, s2, m2, b2, n2, u2, x2⟩ = false := by simp only [oneB, t0, t1, t2, t3, t4, Bool.true_and, Bool.false_and]
            have E1 := Lib.hid e1
            clear e1
            go_enter Try.func14, Try.ntmps14
            go_wp2
            go_ret
            rw [E1.out]
            exact ⟨rfl, hbb⟩
          | true =>
            cases t5 : (b1 == b2) with
            | false =>
              have e1 : oneB ⟨k1, p1, h1, s1, m1, b1, n1, u1, x1⟩ ⟨k2, p2, h2, s2, m2, b2, n2, u2, x2⟩ = false := by simp only [oneB, t0, t1, t2, t3, t4, t5, Bool.true_and, Bool.false_and]
              have E1 := Lib.hid e1
              clear e1
              go_enter Try.func14, Try.ntmps14
              go_wp2
              go_ret
              rw [E1.out]
              exact ⟨rfl, hbb⟩
            | true =>
              cases t6 : (n1.toList == n2.toList) with
              | false =>
                have e1 : oneB ⟨k1, p1, h1, s1, m1, b1, n1, u1, x1⟩ ⟨k2, p2, h2, s2, m2, b2, n2, u2, x2⟩ = false := by simp only [oneB, t0, t1, t2, t3, t4, t5, t6, Bool.true_and, Bool.false_and]
                have E1 := Lib.hid e1
                clear e1
                go_enter Try.func14, Try.ntmps14
                go_wp2
                go_ret
                rw [E1.out]
                exact ⟨rfl, hbb⟩
              | true =>
                cases t7 : (u1.toList == u2.toList) with
                | false =>
                  have e1 : oneB ⟨k1, p1, h1, s1, m1, b1, n1, u1, x1⟩ ⟨k2, p2, h2, s2, m2, b2, n2, u2, x2⟩ = false := by simp only [oneB, t0, t1, t2, t3, t4, t5, t6, t7, Bool.true_and, Bool.false_and]
                  have E1 := Lib.hid e1
                  clear e1
                  go_enter Try.func14, Try.ntmps14
                  go_wp2
                  go_ret
                  rw [E1.out]
                  exact ⟨rfl, hbb⟩
                | true =>
                  have e1 : oneB ⟨k1, p1, h1, s1, m1, b1, n1, u1, x1⟩ ⟨k2, p2, h2, s2, m2, b2, n2, u2, x2⟩ = sameInts x1 x2 := by simp only [oneB, t0, t1, t2, t3, t4, t5, t6, t7, Bool.true_and]
                  have E1 := Lib.hid e1
                  clear e1
                  go_enter Try.func14, Try.ntmps14
                  go_wp2_with fail
                  refine (ints_any x1 x2 A1 A2 _ _ c1 c2 _ rfl rfl hl ((Hx.out.below hbb).mono hbb.size) ((Hy.out.below hbb).mono hbb.size)).mono ?_
                  rintro e w1 ⟨rfl, hb1⟩
                  go_wp2
                  go_ret
                  rw [E1.out]
                  exact ⟨rfl, hbb.trans (hb1.mono hbb.size)⟩
end Go.Proofs.Ytlbaahfadfmffaa
