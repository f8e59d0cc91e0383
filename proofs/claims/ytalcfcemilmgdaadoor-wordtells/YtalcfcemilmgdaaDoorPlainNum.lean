/-
  Plain facts on numerals: a number has just one text, and which texts tell a number within 1,000,000. No program is named here.
-/
import Derived.Lib.AtoiTie
import Derived.Lib.ItoaMem
namespace Go.Proofs.YtalcfcemilmgdaaDoor
open Go Go.Lib

theorem digit_toNat {d : Nat} (h : d < 10) : (UInt8.ofNat (48 + d)).toNat = 48 + d := by
  rw [UInt8.toNat_ofNat']; omega
theorem digitVal_of {d : Nat} (h : d < 10) : digitVal (UInt8.ofNat (48 + d)) = some d := by
  unfold digitVal
  rw [digit_toNat h, if_pos (by omega)]
  congr 1
  omega
theorem decFrom_snoc (t : List UInt8) (c : UInt8) (acc : Nat) : decFrom acc (t ++ [c]) = (decFrom acc t).bind fun n => (digitVal c).map fun d => n * 10 + d := by
  induction t generalizing acc with
  | nil => simp [decFrom]; cases digitVal c <;> rfl
  | cons b t ih =>
    simp only [List.cons_append, decFrom]
    cases digitVal b with
    | none => rfl
    | some d => exact ih _
theorem decDigits_small {u : Nat} (h : u < 10) : decDigits u = [UInt8.ofNat (48 + u)] := decDigits_one h
theorem decDigits_big {u : Nat} (h : ¬ u < 10) : decDigits u = decDigits (u / 10) ++ [UInt8.ofNat (48 + u % 10)] := by rw [decDigits, dif_neg h]
theorem decFrom_digits (u : Nat) : decFrom 0 (decDigits u) = some u := by
  induction u using Nat.strongRecOn with
  | _ u ih =>
    by_cases h : u < 10
    · rw [decDigits_small h]; unfold decFrom; rw [digitVal_of h]; unfold decFrom; simp
    · rw [decDigits_big h, decFrom_snoc, ih (u / 10) (by omega), digitVal_of (by omega)]
      simp
      omega
theorem decDigits_ne (u : Nat) : decDigits u ≠ [] := by
  by_cases h : u < 10
  · rw [decDigits_small h]; simp
  · rw [decDigits_big h]; simp
theorem decDigits_head (u : Nat) (h1 : 1 ≤ u) : ∃ c r, decDigits u = c :: r ∧ 49 ≤ c.toNat ∧ c.toNat ≤ 57 := by
  induction u using Nat.strongRecOn with
  | _ u ih =>
    by_cases h : u < 10
    · rw [decDigits_small h]; exact ⟨_, _, rfl, by rw [digit_toNat h]; omega, by rw [digit_toNat h]; omega⟩
    · obtain ⟨c, r, e, hc⟩ := ih (u / 10) (by omega) (by omega)
      rw [decDigits_big h, e]
      exact ⟨c, _, rfl, hc⟩
theorem digitVal_some {c : UInt8} {d : Nat} (h : digitVal c = some d) : 48 ≤ c.toNat ∧ c.toNat ≤ 57 ∧ d = c.toNat - 48 := by
  unfold digitVal at h
  split at h
  · rename_i hc; exact ⟨hc.1, hc.2, (Option.some.inj h).symm⟩
  · cases h
theorem digit_back {c : UInt8} {d : Nat} (h : digitVal c = some d) : UInt8.ofNat (48 + d) = c := by
  obtain ⟨h1, h2, h3⟩ := digitVal_some h
  apply UInt8.toNat_inj.1
  rw [digit_toNat (by omega)]
  omega
theorem list_snoc (t : List UInt8) (h : t ≠ []) : ∃ r c, t = r ++ [c] := ⟨t.dropLast, t.getLast h, (List.dropLast_concat_getLast h).symm⟩
theorem dec_pos : ∀ (k : Nat) (t : List UInt8) (n : Nat), t.length = k → t ≠ [] → t.head? ≠ some 48 → decFrom 0 t = some n → 1 ≤ n := by
  intro k
  induction k with
  | zero => intro t n hl hne; exact absurd (List.eq_nil_of_length_eq_zero hl) hne
  | succ k ih =>
    intro t n hl hne hh hd
    obtain ⟨r, c, rfl⟩ := list_snoc t hne
    rw [decFrom_snoc] at hd
    by_cases hr : r = []
    · subst hr
      obtain ⟨m, hm, hd⟩ := Option.bind_eq_some_iff.1 hd
      obtain rfl : 0 = m := Option.some.inj hm
      obtain ⟨d, hd1, rfl⟩ := Option.map_eq_some_iff.1 hd
      rw [Nat.zero_mul, Nat.zero_add]
      obtain ⟨h1, h2, h3⟩ := digitVal_some hd1
      have : c.toNat ≠ 48 := by
        intro e
        apply hh
        simp
        exact UInt8.toNat_inj.1 e
      omega
    · obtain ⟨m, hm, hd⟩ := Option.bind_eq_some_iff.1 hd
      have := ih r m (by simp at hl; exact hl) hr (by
        intro e
        apply hh
        cases r with
        | nil => exact absurd rfl hr
        | cons a r => simpa using e) hm
      obtain ⟨d, _, rfl⟩ := Option.map_eq_some_iff.1 hd
      omega
theorem digits_back : ∀ (k : Nat) (t : List UInt8) (n : Nat), t.length = k → t ≠ [] → (1 < t.length → t.head? ≠ some 48) → decFrom 0 t = some n → decDigits n = t := by
  intro k
  induction k with
  | zero => intro t n hl hne; exact absurd (List.eq_nil_of_length_eq_zero hl) hne
  | succ k ih =>
    intro t n hl hne hh hd
    obtain ⟨r, c, rfl⟩ := list_snoc t hne
    rw [decFrom_snoc] at hd
    by_cases hr : r = []
    · subst hr
      obtain ⟨m, hm, hd⟩ := Option.bind_eq_some_iff.1 hd
      obtain rfl : 0 = m := Option.some.inj hm
      obtain ⟨d, hd1, rfl⟩ := Option.map_eq_some_iff.1 hd
      rw [Nat.zero_mul, Nat.zero_add]
      obtain ⟨h1, h2, h3⟩ := digitVal_some hd1
      rw [decDigits_small (by omega), digit_back hd1]
      rfl
    · obtain ⟨m, hm, hd⟩ := Option.bind_eq_some_iff.1 hd
      have hlr : 0 < r.length := List.length_pos_iff.2 hr
      have hhr : r.head? ≠ some 48 := by
        intro e
        apply hh (by simp; omega)
        cases r with
        | nil => exact absurd rfl hr
        | cons a r => simpa using e
      have h1 := dec_pos _ r m rfl hr hhr hm
      have h2 := ih r m (by simp at hl; exact hl) hr (fun _ => hhr) hm
      obtain ⟨d, hd1, rfl⟩ := Option.map_eq_some_iff.1 hd
      have := digitVal_some hd1
      rw [decDigits_big (by omega), show (m * 10 + d) / 10 = m by omega, show (m * 10 + d) % 10 = d by omega, h2, digit_back hd1]
theorem decDigits_len (k : Nat) : ∀ u, u < 10 ^ (k + 1) → (decDigits u).length ≤ k + 1 := by
  induction k with
  | zero => intro u h; rw [decDigits_small (by simpa using h)]; simp
  | succ k ih =>
    intro u h
    by_cases h10 : u < 10
    · rw [decDigits_small h10]; simp
    · rw [decDigits_big h10, List.length_append]
      have := ih (u / 10) (by rw [Nat.pow_succ] at h; omega)
      simp
      exact this

/-- What a text tells, if it is a number's text within 1,000,000. -/
def numOf (l : List UInt8) : Option Int :=
  match atoiAll l with
  | .ok v => if -1000000 ≤ v ∧ v ≤ 1000000 ∧ itoa v = l then some v else none
  | _ => none
/-- Digits, read as the document's answer reads them. -/
def magOf (t : List UInt8) : Option Nat :=
  if t = [] ∨ 7 < t.length ∨ (1 < t.length ∧ t.head? = some 48) then none
  else (decFrom 0 t).bind fun n => if 1000000 < n then none else some n
def refNum (l : List UInt8) : Option Int :=
  if l.head? = some 45 then (if l.tail = [48] then none else (magOf l.tail).map fun (n : Nat) => -(n : Int))
  else (magOf l).map fun (n : Nat) => (n : Int)
def isNum (v : Int) (l : List UInt8) : Prop := -1000000 ≤ v ∧ v ≤ 1000000 ∧ itoa v = l

theorem magOf_some {t : List UInt8} {n : Nat} : magOf t = some n ↔ n ≤ 1000000 ∧ decDigits n = t := by
  unfold magOf
  constructor
  · intro h
    split at h
    · cases h
    · rename_i hc
      simp only [not_or, not_and] at hc
      obtain ⟨m, hm, h⟩ := Option.bind_eq_some_iff.1 h
      split at h
      · cases h
      · obtain rfl := Option.some.inj h
        exact ⟨by omega, digits_back _ t m rfl hc.1 hc.2.2 hm⟩
  · rintro ⟨h1, rfl⟩
    have hl := decDigits_len 6 n (by omega)
    rw [if_neg ?_, decFrom_digits]
    · simp only [Option.bind_some]
      rw [if_neg (by omega)]
    · rintro (h | h | ⟨h, h2⟩)
      · exact decDigits_ne n h
      · omega
      · by_cases h0 : 1 ≤ n
        · obtain ⟨c, r, e, hc⟩ := decDigits_head n h0
          rw [e] at h2
          simp at h2
          subst h2
          exact absurd hc.1 (by decide)
        · have : n = 0 := by omega
          subst this
          rw [decDigits_small (by omega)] at h
          simp at h
theorem refNum_iff {l : List UInt8} {v : Int} : refNum l = some v ↔ isNum v l := by
  unfold refNum isNum
  constructor
  · intro h
    split at h
    · rename_i hh
      cases l with
      | nil => simp at hh
      | cons c t =>
        simp at hh
        subst hh
        split at h
        · cases h
        · rename_i h48
          obtain ⟨n, hn, rfl⟩ := Option.map_eq_some_iff.1 h
          obtain ⟨h1, h2⟩ := magOf_some.1 hn
          have h0 : 1 ≤ n := by
            rcases Nat.eq_zero_or_pos n with e | e
            · subst e
              rw [decDigits_small (by omega)] at h2
              exact absurd h2.symm h48
            · exact e
          refine ⟨by omega, by omega, ?_⟩
          rw [itoa_neg n h0, h2]
          rfl
    · obtain ⟨n, hn, rfl⟩ := Option.map_eq_some_iff.1 h
      obtain ⟨h1, h2⟩ := magOf_some.1 hn
      exact ⟨by omega, by omega, by rw [itoa_nonneg, h2]⟩
  · rintro ⟨h1, h2, rfl⟩
    by_cases hv : v < 0
    · obtain ⟨u, hu⟩ : ∃ u : Nat, v = -(u : Int) := ⟨v.natAbs, by omega⟩
      subst hu
      rw [itoa_neg u (by omega)]
      rw [if_pos (List.head?_cons), List.tail_cons, if_neg ?_, magOf_some.2 ⟨by omega, rfl⟩]
      · rfl
      · intro e
        have := decFrom_digits u
        rw [e] at this
        simp [decFrom, digitVal] at this
        omega
    · obtain ⟨u, hu⟩ : ∃ u : Nat, v = (u : Int) := ⟨v.toNat, by omega⟩
      subst hu
      rw [itoa_nonneg]
      rw [if_neg ?_, magOf_some.2 ⟨by omega, rfl⟩]
      · rfl
      · intro e
        by_cases h0 : 1 ≤ u
        · obtain ⟨c, r, e2, hc⟩ := decDigits_head u h0
          rw [e2] at e
          simp at e
          subst e
          exact absurd hc.1 (by decide)
        · have : u = 0 := by omega
          subst this
          rw [decDigits_small (by omega)] at e
          simp at e
theorem atoi_itoa {v : Int} (h1 : -1000000 ≤ v) (h2 : v ≤ 1000000) : atoiAll (itoa v) = .ok v := by
  by_cases hv : v < 0
  · obtain ⟨u, hu⟩ : ∃ u : Nat, v = -(u : Int) := ⟨v.natAbs, by omega⟩
    subst hu
    rw [itoa_neg u (by omega)]
    have hl := decDigits_len 6 u (by omega)
    rw [atoiAll_short _ (by simp; omega)]
    have hd : decNat (decDigits u) = some u := by
      unfold decNat
      rw [if_neg (by simp; exact decDigits_ne u), decFrom_digits]
    simp [atoi, hd, NumEnd.ofOption]
  · obtain ⟨u, hu⟩ : ∃ u : Nat, v = (u : Int) := ⟨v.toNat, by omega⟩
    subst hu
    rw [itoa_nonneg]
    have hl := decDigits_len 6 u (by omega)
    rw [atoiAll_short _ (by omega)]
    have hd : decNat (decDigits u) = some u := by
      unfold decNat
      rw [if_neg (by simp; exact decDigits_ne u), decFrom_digits]
    have hh : ∃ c r, decDigits u = c :: r ∧ 48 ≤ c.toNat ∧ c.toNat ≤ 57 := by
      by_cases h0 : 1 ≤ u
      · obtain ⟨c, r, e, hc⟩ := decDigits_head u h0
        exact ⟨c, r, e, by omega, hc.2⟩
      · have : u = 0 := by omega
        subst this
        exact ⟨48, [], by rw [decDigits_small (by omega)]; rfl, by decide, by decide⟩
    obtain ⟨c, r, e, hc⟩ := hh
    rw [e] at hd ⊢
    have h45 : (c == 45) = false := by rw [beq_eq_false_iff_ne]; intro e; subst e; exact absurd hc.1 (by decide)
    have h43 : (c == 43) = false := by rw [beq_eq_false_iff_ne]; intro e; subst e; exact absurd hc.1 (by decide)
    simp [atoi, h45, h43, hd, NumEnd.ofOption]
theorem numOf_iff {l : List UInt8} {v : Int} : numOf l = some v ↔ isNum v l := by
  unfold numOf isNum
  constructor
  · intro h
    split at h
    · split at h
      · rename_i hc
        obtain rfl := Option.some.inj h
        exact hc
      · cases h
    · cases h
  · rintro ⟨h1, h2, rfl⟩
    rw [atoi_itoa h1 h2]
    simp [h1, h2]
theorem num_same (l : List UInt8) : numOf l = refNum l := Option.ext fun _ => numOf_iff.trans refNum_iff.symm

end Go.Proofs.YtalcfcemilmgdaaDoor
