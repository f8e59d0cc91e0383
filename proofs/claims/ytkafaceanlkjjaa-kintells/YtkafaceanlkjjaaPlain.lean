/-
  Plain facts on lists of bytes: what stands between blanks (split), and that a rune that is no blank has no blank among its bytes. No program is named here.
-/
import Derived.Lib.Strings
import Derived.Lib.IndexBytes
import Derived.Lib.Join
import Derived.Laws.RangeAny
namespace Go.Proofs.Ytkafaceanlkjjaa
open Go

/-- A text as a list with one element, or none where it is empty. -/
def filled (l : List UInt8) : List (List UInt8) := if l.isEmpty then [] else [l]
/-- What stands between blanks; cur: what was met since the last one. -/
def splitGo : List UInt8 → List UInt8 → List (List UInt8)
  | cur, [] => filled cur
  | cur, c :: r => if c = 32 then filled cur ++ splitGo [] r else splitGo (cur ++ [c]) r
def splitL (l : List UInt8) : List (List UInt8) := splitGo [] l
/-- A list of bytes as a Go text. -/
def ba (l : List UInt8) : ByteArray := ⟨l.toArray⟩
/-- Texts as cells. -/
def strs (ls : List (List UInt8)) : List Value := ls.map fun l => Value.string (ba l)

theorem strs_append (a b : List (List UInt8)) : strs (a ++ b) = strs a ++ strs b := by simp [strs]
theorem strs_length (a : List (List UInt8)) : (strs a).length = a.length := by simp [strs]
theorem filled_nil : filled [] = [] := rfl
theorem filled_of_ne {l : List UInt8} (h : l ≠ []) : filled l = [l] := by
  unfold filled
  cases l with
  | nil => exact absurd rfl h
  | cons a r => rfl
theorem filled_le (l : List UInt8) : (filled l).length ≤ 1 := by unfold filled; split <;> simp
theorem splitGo_nil (cur : List UInt8) : splitGo cur [] = filled cur := rfl
theorem splitGo_blank (cur r : List UInt8) : splitGo cur (32 :: r) = filled cur ++ splitGo [] r := by simp [splitGo]
theorem splitGo_other (cur r : List UInt8) (c : UInt8) (h : c ≠ 32) : splitGo cur (c :: r) = splitGo (cur ++ [c]) r := by simp [splitGo, h]
theorem splitGo_run (m cur r : List UInt8) (h : ∀ c ∈ m, c ≠ 32) : splitGo cur (m ++ r) = splitGo (cur ++ m) r := by
  induction m generalizing cur with
  | nil => simp
  | cons a m ih =>
    rw [List.cons_append, splitGo_other _ _ _ (h a (by simp)), ih _ (fun c hc => h c (by simp [hc]))]
    simp
theorem splitGo_len (r cur : List UInt8) : (splitGo cur r).length ≤ r.length + 1 := by
  induction r generalizing cur with
  | nil => rw [splitGo_nil]; have := filled_le cur; simp; omega
  | cons c r ih =>
    by_cases h : c = 32
    · subst h
      rw [splitGo_blank, List.length_append]
      have := filled_le cur; have := ih []; simp; omega
    · rw [splitGo_other _ _ _ h]; have := ih (cur ++ [c]); simp; omega
theorem splitL_len (l : List UInt8) : (splitL l).length ≤ l.length + 1 := splitGo_len l []

/-- The bytes of a rune that begins with no blank. -/
theorem decode_blank (s : ByteArray) (pos : Nat) (h : pos < s.size) (hb : s.data.toList[pos]? = some 32) : Utf8.decode s pos = (32, 1) := by
  have e : s[pos]'h = 32 := by
    have h2 : pos < s.data.toList.length := by rw [← Lib.size_eq]; exact h
    rw [List.getElem?_eq_getElem h2] at hb
    exact Option.some.inj hb
  rw [decode_ascii s pos h (by rw [e]; decide), e]
  rfl
theorem get!_at (s : ByteArray) (k : Nat) (h : k < s.size) : s.data.toList[k]? = some (s.get! k) := by
  have h2 : k < s.data.toList.length := by rw [← Lib.size_eq]; exact h
  rw [List.getElem?_eq_getElem h2]
  have := get_at s k h
  simp only [Nat.add_zero] at this
  rw [this]
  rfl
theorem decode_other (s : ByteArray) (pos : Nat) (h : pos < s.size) (hb : s.data.toList[pos]? ≠ some 32) :
    (Utf8.decode s pos).1 ≠ 32 ∧ 1 ≤ (Utf8.decode s pos).2 ∧ pos + (Utf8.decode s pos).2 ≤ s.size ∧
      ∀ k, k < (Utf8.decode s pos).2 → s.data.toList[pos + k]? ≠ some 32 := by
  by_cases ha : (s[pos]'h).toNat < 128
  · rw [decode_ascii s pos h ha]
    have h0 := get!_at s pos h
    have h1 := get_at s pos h
    simp only [Nat.add_zero] at h1
    rw [h1] at h0
    refine ⟨fun e => hb ?_, Nat.le_refl _, by simp only; omega, fun k hk => ?_⟩
    · rw [h0]
      congr 1
      exact UInt8.toNat_inj.1 e
    · have : k = 0 := by simp only at hk; omega
      subst this
      simpa using hb
  · have hh := decode_high s pos h (by omega)
    refine ⟨by omega, hh.2, ?_⟩
    have hc : ∀ k, pos + k < s.size → (s.get! (pos + k)).toNat / 64 = 2 → s.data.toList[pos + k]? ≠ some 32 := by
      intro k hk h2 e
      rw [get!_at s (pos + k) hk] at e
      rw [Option.some.inj e] at h2
      exact absurd h2 (by decide)
    have hn : ¬ (s.get! (pos + 0)).toNat < 128 := by rw [get_at s pos h]; exact ha
    have key : ∀ d, d = (Utf8.decode s pos).2 → pos + d ≤ s.size ∧ ∀ k, k < d → s.data.toList[pos + k]? ≠ some 32 := by
      intro d hd
      simp only [Utf8.decode, hn, if_false] at hd
      repeat' split at hd
      all_goals simp only [Bool.and_eq_true, beq_iff_eq, decide_eq_true_eq] at *
      all_goals subst hd
      all_goals refine ⟨by omega, fun k hk => ?_⟩
      all_goals
        rcases k with _ | _ | _ | _ | k
        · simpa using hb
        · first | omega | (refine hc 1 (by omega) ?_; omega)
        · first | omega | (refine hc 2 (by omega) ?_; omega)
        · first | omega | (refine hc 3 (by omega) ?_; omega)
        · omega
    exact key _ rfl

/-- One round of a walk over the runes of s: at a blank. -/
theorem step_blank (s : ByteArray) (st pos : Nat) (done : List (List UInt8)) (h : pos < s.size) (hb : s.data.toList[pos]? = some 32)
    (hi : done ++ splitGo ((s.data.toList.drop st).take (pos - st)) (s.data.toList.drop pos) = splitL s.data.toList) :
    (done ++ filled ((s.data.toList.drop st).take (pos - st))) ++ splitGo ((s.data.toList.drop (pos + 1)).take (pos + 1 - (pos + 1))) (s.data.toList.drop (pos + 1)) = splitL s.data.toList := by
  rw [← hi]
  have h2 : pos < s.data.toList.length := by rw [← Lib.size_eq]; exact h
  rw [List.drop_eq_getElem_cons h2]
  have e : s.data.toList[pos] = 32 := by
    rw [List.getElem?_eq_getElem h2] at hb; exact Option.some.inj hb
  rw [e, splitGo_blank]
  simp
/-- At another rune. -/
theorem step_other (s : ByteArray) (st pos d : Nat) (done : List (List UInt8)) (h : pos + d ≤ s.size) (hst : st ≤ pos) (hb : ∀ k, k < d → s.data.toList[pos + k]? ≠ some 32)
    (hi : done ++ splitGo ((s.data.toList.drop st).take (pos - st)) (s.data.toList.drop pos) = splitL s.data.toList) :
    done ++ splitGo ((s.data.toList.drop st).take (pos + d - st)) (s.data.toList.drop (pos + d)) = splitL s.data.toList := by
  rw [← hi]
  have h2 : pos + d ≤ s.data.toList.length := by rw [← Lib.size_eq]; exact h
  have e1 : s.data.toList.drop pos = (s.data.toList.drop pos).take d ++ s.data.toList.drop (pos + d) := by
    rw [← List.drop_drop, List.take_append_drop]
  have e2 : (s.data.toList.drop st).take (pos + d - st) = (s.data.toList.drop st).take (pos - st) ++ (s.data.toList.drop pos).take d := by
    have : pos + d - st = (pos - st) + d := by omega
    rw [this, List.take_add, List.drop_drop]
    congr 3
    omega
  rw [e1, splitGo_run _ _ _ ?_, e2]
  intro c hc
  obtain ⟨k, hk, rfl⟩ := List.mem_iff_getElem.1 hc
  rw [List.length_take] at hk
  have := hb k (by omega)
  rw [List.getElem_take, List.getElem_drop]
  intro e
  exact this (by rw [List.getElem?_eq_getElem (by omega), e])
/-- At the end. -/
theorem step_end (s : ByteArray) (st pos : Nat) (done : List (List UInt8)) (h : s.size ≤ pos) (hst : st ≤ pos)
    (hi : done ++ splitGo ((s.data.toList.drop st).take (pos - st)) (s.data.toList.drop pos) = splitL s.data.toList) :
    done ++ filled (s.data.toList.drop st) = splitL s.data.toList := by
  rw [← hi]
  have h2 : s.data.toList.length ≤ pos := by rw [← Lib.size_eq]; exact h
  rw [List.drop_eq_nil_of_le h2, splitGo_nil, List.take_of_length_le (by rw [List.length_drop]; omega)]
theorem byte_ne {c : UInt8} (h : ¬ c = 32) : (c.toNat : Int) ≠ 32 := by
  intro e
  refine h (UInt8.toNat_inj.1 ?_)
  have : c.toNat = 32 := by omega
  rw [this]
  rfl
theorem byte_at (s : ByteArray) (k : Nat) (h : k < s.size) : s.data.toList[k]? = some (s[k]'h) := by
  have h2 : k < s.data.toList.length := by rw [← Lib.size_eq]; exact h
  rw [List.getElem?_eq_getElem h2]
  rfl
theorem drop_at {l : List UInt8} {k : Nat} {c : UInt8} (h : l[k]? = some c) : l.drop k = c :: l.drop (k + 1) := by
  have hk : k < l.length := by
    rcases Nat.lt_or_ge k l.length with h1 | h1
    · exact h1
    · rw [List.getElem?_eq_none h1] at h; cases h
  rw [List.drop_eq_getElem_cons hk]
  rw [List.getElem?_eq_getElem hk] at h
  rw [Option.some.inj h]
theorem ba_toList (l : List UInt8) : (ba l).toList = l := by rw [Lib.toList_data]; rfl
theorem ba_data (l : List UInt8) : (ba l).data.toList = l := rfl
theorem ba_size (l : List UInt8) : (ba l).size = l.length := rfl
theorem ba_of (s : ByteArray) : ba s.data.toList = s := Lib.mk_data s
theorem ba_ne {l : List UInt8} (h : l ≠ []) : (ba l).toList.isEmpty = false := by
  rw [ba_toList]
  cases l with
  | nil => exact absurd rfl h
  | cons a r => rfl
theorem ba_snoc (s : ByteArray) (k : Nat) (h : k < s.size) (l : List UInt8) : ba l ++ s.extract k (k + 1) = ba (l ++ [s[k]'h]) := by
  rw [← ba_of (ba l ++ s.extract k (k + 1))]
  congr 1
  rw [ByteArray.data_append, Array.toList_append, Lib.extract_data, drop_at (byte_at s k h), ba_data]
  simp
/-- One round of the walk over the bytes of s: at a blank. -/
theorem ref_blank (s : ByteArray) (k : Nat) (cur : List UInt8) (done : List (List UInt8)) (hb : s.data.toList[k]? = some 32)
    (hi : done ++ splitGo cur (s.data.toList.drop k) = splitL s.data.toList) : (done ++ filled cur) ++ splitGo [] (s.data.toList.drop (k + 1)) = splitL s.data.toList := by
  rw [← hi, drop_at hb, splitGo_blank, List.append_assoc]
theorem ref_other (s : ByteArray) (k : Nat) (cur : List UInt8) (c : UInt8) (done : List (List UInt8)) (hb : s.data.toList[k]? = some c) (hc : c ≠ 32)
    (hi : done ++ splitGo cur (s.data.toList.drop k) = splitL s.data.toList) : done ++ splitGo (cur ++ [c]) (s.data.toList.drop (k + 1)) = splitL s.data.toList := by
  rw [← hi, drop_at hb, splitGo_other _ _ _ hc]

end Go.Proofs.Ytkafaceanlkjjaa
