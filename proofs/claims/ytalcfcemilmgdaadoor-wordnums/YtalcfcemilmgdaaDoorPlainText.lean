/-
  Plain facts on numerals: digits told one by one, from the last. No program is named here.
-/
import Derived.Test.YtalcfcemilmgdaaDoorPlainNum
import Derived.Test.YtalcfcemilmgdaaDoorPlain
namespace Go.Proofs.YtalcfcemilmgdaaDoor
open Go Go.Lib

/-- m is left to be told, ds was told: together they are u's numeral. -/
def TellsOf (u m : Nat) (ds : List UInt8) : Prop := (1 ≤ m ∧ decDigits u = decDigits m ++ ds) ∨ (m = 0 ∧ decDigits u = ds)
theorem TellsOf.start (u : Nat) (h : 1 ≤ u) : TellsOf u u [] := .inl ⟨h, by simp⟩
theorem TellsOf.step {u m : Nat} {ds : List UInt8} (h : TellsOf u m ds) (hm : 1 ≤ m) : TellsOf u (m / 10) (UInt8.ofNat (48 + m % 10) :: ds) := by
  rcases h with ⟨_, h⟩ | ⟨h0, _⟩
  · by_cases h10 : m < 10
    · right
      refine ⟨by omega, ?_⟩
      rw [h, decDigits_small h10, show m % 10 = m by omega]
      rfl
    · left
      refine ⟨by omega, ?_⟩
      rw [h, decDigits_big h10]
      simp
  · omega
theorem TellsOf.done {u : Nat} {ds : List UInt8} (h : TellsOf u 0 ds) : decDigits u = ds := by
  rcases h with ⟨h0, _⟩ | ⟨_, h⟩
  · omega
  · exact h
theorem TellsOf.len {u m : Nat} {ds : List UInt8} (h : TellsOf u m ds) (hu : u ≤ 9223372036854775808) : ds.length ≤ 19 := by
  have hl := decDigits_len 18 u (by omega)
  rcases h with ⟨_, h⟩ | ⟨_, h⟩
  · rw [h, List.length_append] at hl; omega
  · rw [h] at hl; exact hl
/-- u's numeral is m's, and ds behind it. -/
theorem digits_step {u m : Nat} {ds : List UInt8} (h : decDigits u = decDigits m ++ ds) (hm : 10 ≤ m) : decDigits u = decDigits (m / 10) ++ (UInt8.ofNat (48 + m % 10) :: ds) := by
  rw [h, decDigits_big (by omega)]
  simp
/-- The digits' text, cut at a digit. -/
theorem ten_cut (d : Nat) (h : d < 10) : (⟨#[48, 49, 50, 51, 52, 53, 54, 55, 56, 57]⟩ : ByteArray).extract d (d + 1) = ba [UInt8.ofNat (48 + d)] := by
  match d, h with
  | 0, _ => rfl
  | 1, _ => rfl
  | 2, _ => rfl
  | 3, _ => rfl
  | 4, _ => rfl
  | 5, _ => rfl
  | 6, _ => rfl
  | 7, _ => rfl
  | 8, _ => rfl
  | 9, _ => rfl
theorem ba_cons (c : UInt8) (l : List UInt8) : ba [c] ++ ba l = ba (c :: l) := by
  rw [← ba_of (ba [c] ++ ba l)]
  congr 1
end Go.Proofs.YtalcfcemilmgdaaDoor
