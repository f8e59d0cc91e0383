/-
  What word.Join and towncrierref01.Join do: the same text.
-/
import Derived.Test.YtalcfcemilmgdaaTexts
import Derived.Test.YtalcfcemilmgdaaPlainJoin
import Derived.Test.YtalcfcemilmgdaaShelf
namespace Go.Proofs.Ytalcfcemilmgdaa
open Go Go.RowKit

/-- The texts, as lists of bytes. -/
def bytesOf (xs : List ByteArray) : List (List UInt8) := xs.map (·.data.toList)

theorem bytesOf_at {xs : List ByteArray} {k : Nat} (h : k < xs.length) : (bytesOf xs)[k]? = some (xs.getD k ByteArray.empty).data.toList := by
  unfold bytesOf
  rw [List.getElem?_map, List.getElem?_eq_getElem h, List.getD_eq_getElem?_getD, List.getElem?_eq_getElem h]
  rfl
theorem ba_append (a b : List UInt8) : ba a ++ ba b = ba (a ++ b) := by
  rw [← ba_of (ba a ++ ba b)]
  congr 1

set_option maxHeartbeats 400000 in
theorem join_any (A : Option Addr) (n c : Nat) (xs : List ByteArray) (w : World) (hx : Reads w w.heap.size A n (xs.map Value.string)) (hc : n ≤ c) (hn : n ≤ 1099511627776) (hl : (joinL (bytesOf xs)).length ≤ 1099511627776) :
    Calls Try.prog 6 #[.slice A n c] w fun e w' => e = .returned (.string (ba (joinL (bytesOf xs)))) ∧ Below w.heap.size w w' := by
  have lx : xs.length = n := by simpa using hx.1
  rcases Nat.eq_zero_or_pos n with h0 | h0
  · subst h0
    have : xs = [] := List.eq_nil_of_length_eq_zero lx
    subst this
    clear hx hl hn lx
    go_enter Try.func6, Try.ntmps6
    go_wp2_with fail
    refine (Try.strings_Join_none _ _ _ _).mono ?_
    rintro e w' ⟨rfl, rfl⟩
    go_wp2
    go_ret
    exact ⟨rfl, Below.refl _ _⟩
  · obtain ⟨b, off, rfl, hb, hcell⟩ := hx.2 h0
    have hcells : ∀ (j : Nat) x, xs[j]? = some x → w.cell? ⟨b, off + j, none⟩ = some (.string x) := fun j x h => hcell j _ (by rw [List.getElem?_map, h]; rfl)
    subst lx
    have HC := Lib.hid hcells
    have HL := Lib.hid hl
    clear hx hl hcell hcells
    go_enter Try.func6, Try.ntmps6
    go_wp2_with fail
    refine (Try.strings_Join b off c xs ⟨#[32]⟩ w HC.out hb (by omega) hc (Nat.le_trans HL.out (by decide))).mono ?_
    rintro e w' ⟨rfl, hbw⟩
    go_wp2
    go_ret
    exact ⟨rfl, hbw⟩

def RJoinRel (xs : List ByteArray) (n : Nat) (s i : Value) : Prop :=
  ∃ k : Nat, i = .int .i64 k ∧ k ≤ n ∧ s = .string (ba (joinL ((bytesOf xs).take k)))

set_option maxHeartbeats 1000000 in
set_option maxRecDepth 100000 in
theorem refJoin_any (A : Option Addr) (n c B : Nat) (xs : List ByteArray) (w : World) (hx : Reads w B A n (xs.map Value.string)) (hn : n ≤ 1099511627776) (hl : (joinL (bytesOf xs)).length ≤ 1099511627776) :
    Calls Try.prog 7 #[.slice A n c] w fun e w' => e = .returned (.string (ba (joinL (bytesOf xs)))) ∧ w = w' := by
  have lx : xs.length = n := by simpa using hx.1
  have Lx := Lib.hid lx
  clear lx
  go_enter Try.func7, Try.ntmps7
  go_wp2
  go_loop [3, 4] (fun s i => RJoinRel xs n s i) (fun _ i => n - (intOf i).toNat)
  case atStart => exact ⟨0, rfl, Nat.zero_le _, rfl⟩
  case round =>
    obtain ⟨k, rfl, hk, rfl⟩ := hrel
    obtain ⟨t, ht⟩ : ∃ t, t = joinL ((bytesOf xs).take k) := ⟨_, rfl⟩
    have htl : t.length ≤ (joinL (bytesOf xs)).length := by rw [ht]; exact joinL_take_le _ _
    rw [← ht]
    have Ht := Lib.hid ht
    clear ht
    by_cases hlt : k < n
    · obtain ⟨b, off, rfl, hb, hc⟩ := strings_at hx hlt
      have hat := bytesOf_at (xs := xs) (k := k) (by have := Lx.out; omega)
      obtain ⟨p, hp⟩ : ∃ p, p = xs.getD k ByteArray.empty := ⟨_, rfl⟩
      rw [← hp] at hc hat
      have Hat := Lib.hid hat
      have Hx := Lib.hid hx
      have hnew := joinL_take_le (bytesOf xs) (k + 1)
      clear hp hat hx
      by_cases hk0 : 0 < k
      · have e1 := joinL_succ _ k _ hk0 Hat.out
        rw [← Ht.out] at e1
        rw [e1] at hnew
        have hnl : t.length + 1 + p.size ≤ 1099511627776 := by
          rw [List.length_append, List.length_append, ← Lib.size_eq] at hnew
          simp at hnew
          omega
        have hcat : ba t ++ ⟨#[32]⟩ ++ p = ba (t ++ [32] ++ p.data.toList) := by
          rw [← ba_append, ← ba_append, ba_of]; rfl
        have hsz : (ba t).size ≤ 1099511627776 := by rw [ba_size]; omega
        have hsz2 : (ba t ++ ⟨#[32]⟩).size + p.size ≤ 1099511627776 := by rw [ByteArray.size_append, ba_size]; exact hnl
        have E1 := Lib.hid e1
        have HC := Lib.hid hcat
        clear e1 hnew hcat
        go_wp2
        go_round
        case rel => exact ⟨k + 1, by go_num, by omega, by rw [E1.out]; exact congrArg Value.string HC.out⟩
        case measure => simp [intOf]; omega
      · have hk1 : k = 0 := by omega
        subst hk1
        have e1 := joinL_one _ _ Hat.out
        rw [Nat.add_zero] at hc
        have e0 : t = [] := by rw [Ht.out]; rfl
        subst e0
        have hnl : p.size ≤ 1099511627776 := by
          rw [Nat.zero_add, e1, ← Lib.size_eq] at hnew
          omega
        have hcat : ba [] ++ p = p := by
          rw [← ba_of p, ba_append]; rfl
        have hsz : (ba []).size + p.size ≤ 1099511627776 := by rw [ba_size]; simp; omega
        have E1 := Lib.hid e1
        have HC := Lib.hid hcat
        clear e1 hnew hcat
        go_wp2
        go_round
        case rel => exact ⟨1, rfl, by omega, by rw [E1.out, ba_of]; exact congrArg Value.string HC.out⟩
        case measure => simp [intOf]; omega
    · go_wp2
      go_ret
      have e1 := Ht.out
      rw [List.take_of_length_le (by unfold bytesOf; rw [List.length_map, Lx.out]; omega)] at e1
      rw [e1]
      exact ⟨rfl, rfl⟩
end Go.Proofs.Ytalcfcemilmgdaa
