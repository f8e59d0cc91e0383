/-
  What towncrierref01.Has and Ints, towncrierref04.There, named and Over do.
-/
import Derived.Test.YtkafaceanlkjjaaFm
namespace Go.Proofs.Ytkafaceanlkjjaa
open Go Go.RowKit

theorem there_any (l : List Nd) (A : Option Addr) (c : Nat) (id : Int) (w : World) :
    Calls Try.prog 33 #[.slice A l.length c, .int .i64 id] w fun e w' => e = .returned (.bool (thereB l id)) ∧ w = w' := by
  by_cases h1 : 1 ≤ id
  · have g1 : decide (1 ≤ id) = true := decide_eq_true h1
    have e1 : thereB l id = decide (id ≤ (l.length : Int)) := by unfold thereB; rw [g1]; rfl
    rw [e1]
    clear e1
    go_enter Try.func33, Try.ntmps33
    go_wp2
    go_ret
    exact ⟨rfl, rfl⟩
  · have g1 : decide (1 ≤ id) = false := decide_eq_false h1
    have e1 : thereB l id = false := by unfold thereB; rw [g1]; rfl
    rw [e1]
    clear e1
    go_enter Try.func33, Try.ntmps33
    go_wp2
    go_ret
    exact ⟨rfl, rfl⟩

theorem has_take {xs : List Int} {x : Int} {k : Nat} (h : hasB (xs.take k) x = false) (hk : k < xs.length) (hx : xs[k] ≠ x) : hasB (xs.take (k + 1)) x = false := by
  unfold hasB at *
  rw [List.take_add_one, List.getElem?_eq_getElem hk]
  simp only [List.mem_append, Option.toList_some, List.mem_singleton, decide_eq_false_iff_not] at *
  rintro (h' | h')
  · exact h h'
  · exact hx h'.symm

set_option maxHeartbeats 1000000 in
theorem has_any (xs : List Int) (A : Option Addr) (n c : Nat) (x : Int) (w : World) {B : Nat} (hn : n = xs.length) (hl : n ≤ 1000000) (h : Nums w B A .i64 xs) :
    Calls Try.prog 35 #[.slice A n c, .int .i64 x] w fun e w' => e = .returned (.bool (hasB xs x)) ∧ w = w' := by
  have Hn := Lib.hid hn
  have H := Lib.hid h
  clear hn h
  go_enter Try.func35, Try.ntmps35
  go_wp2
  go_loop [5] (fun i => ∃ k : Nat, i = .int .i64 k ∧ k ≤ n ∧ hasB (xs.take k) x = false) (fun i => n - (intOf i).toNat)
  case atStart => exact ⟨0, rfl, Nat.zero_le _, by simp [hasB]⟩
  case round =>
    obtain ⟨k, rfl, hk, hc⟩ := hrel
    have Hc := Lib.hid hc
    clear hc
    by_cases hlt : (k : Int) < n
    · have hkl : k < xs.length := by rw [← Hn.out]; omega
      obtain ⟨b, off, rfl, hb, hcell⟩ := H.out k hkl
      obtain ⟨y, hy⟩ : ∃ y, y = xs[k] := ⟨_, rfl⟩
      rw [← hy] at hcell
      have Hy := Lib.hid hy
      clear hy hb
      by_cases hxy : y = x
      · have e1 : hasB xs x = true := by
          rw [hasB, decide_eq_true_iff, ← hxy, Hy.out]
          exact List.getElem_mem hkl
        have E1 := Lib.hid e1
        clear e1
        subst hxy
        go_wp2
        go_ret
        rw [E1.out]
        exact ⟨rfl, rfl⟩
      · have hxy' : (y == x) = false := by simpa using hxy
        have e2 := has_take Hc.out hkl (by rw [← Hy.out]; exact hxy)
        have E2 := Lib.hid e2
        clear e2
        go_wp2
        go_round
        case rel => exact ⟨k + 1, by go_num, by omega, E2.out⟩
        case measure => simp [intOf]; omega
    · have e1 : hasB xs x = false := by
        have := Hc.out
        rw [List.take_of_length_le (by rw [← Hn.out]; omega)] at this
        exact this
      have E1 := Lib.hid e1
      clear e1
      go_wp2
      go_ret
      rw [E1.out]
      exact ⟨rfl, rfl⟩

theorem named_any (s : ByteArray) (w : World) (hs : s.size ≤ 9223372036854775807) :
    Calls Try.prog 55 #[.string s] w fun e w' => e = .returned (.bool (okName s)) ∧ w = w' := by
  cases h0 : s.toList.isEmpty with
  | true =>
    have e1 : okName s = true := by unfold okName; rw [h0]; rfl
    rw [e1]
    go_enter Try.func55, Try.ntmps55
    go_wp2
    go_ret
    exact ⟨rfl, rfl⟩
  | false =>
    have e1 : okName s = rightL s.data.toList := by unfold okName; rw [h0]; rfl
    rw [e1]
    clear e1
    go_enter Try.func55, Try.ntmps55
    go_wp2_with fail
    refine (refRight_any s w hs).mono ?_
    rintro e w1 ⟨rfl, rfl⟩
    go_wp2
    go_ret
    exact ⟨rfl, rfl⟩
end Go.Proofs.Ytkafaceanlkjjaa
