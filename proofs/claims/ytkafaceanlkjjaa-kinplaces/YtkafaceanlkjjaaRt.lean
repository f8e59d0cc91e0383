/-
  What word.Right and towncrierref01.Right do: the same truth.
-/
import Derived.Test.YtkafaceanlkjjaaKeep
import Derived.Test.YtkafaceanlkjjaaPlain
namespace Go.Proofs.Ytkafaceanlkjjaa
open Go Go.RowKit

def letterB (r : Int) : Bool := decide (97 ≤ r ∧ r ≤ 122)
def digitB (r : Int) : Bool := decide (48 ≤ r ∧ r ≤ 57)
/-- A letter from a to z or a digit. -/
def okb (c : UInt8) : Bool := letterB (c.toNat : Int) || digitB (c.toNat : Int)
/-- A word. -/
def rightL (l : List UInt8) : Bool := decide (1 ≤ l.length ∧ l.length ≤ 8 ∧ ∀ c ∈ l, okb c = true)

theorem rightL_len {l : List UInt8} (h : ¬ (1 ≤ l.length ∧ l.length ≤ 8)) : rightL l = false := by
  unfold rightL
  rw [decide_eq_false_iff_not]
  exact fun h2 => h ⟨h2.1, h2.2.1⟩
theorem rightL_bad {l : List UInt8} {k : Nat} {c : UInt8} (h : l[k]? = some c) (hc : okb c = false) : rightL l = false := by
  unfold rightL
  rw [decide_eq_false_iff_not]
  intro h2
  have := h2.2.2 c (List.mem_of_getElem? h)
  rw [hc] at this
  cases this
theorem rightL_all {l : List UInt8} (h1 : 1 ≤ l.length) (h8 : l.length ≤ 8) (h : ∀ (k : Nat) (c : UInt8), l[k]? = some c → okb c = true) : rightL l = true := by
  unfold rightL
  rw [decide_eq_true_iff]
  refine ⟨h1, h8, fun c hc => ?_⟩
  obtain ⟨k, hk, rfl⟩ := List.mem_iff_getElem.1 hc
  exact h k _ (List.getElem?_eq_getElem hk)

set_option maxHeartbeats 400000 in
theorem isLetter_any (r : Int) (w : World) : Calls Try.prog 58 #[.int .i32 r] w fun e w' => e = .returned (.bool (letterB r)) ∧ w = w' := by
  by_cases h1 : 97 ≤ r
  · by_cases h2 : r ≤ 122
    · have e : letterB r = true := by unfold letterB; simp; omega
      rw [e]
      go_enter Try.func58, Try.ntmps58
      go_wp2
      go_ret
      exact ⟨rfl, rfl⟩
    · have e : letterB r = false := by unfold letterB; simp; omega
      have hd : decide (r ≤ 122) = false := by simp; omega
      rw [e]
      go_enter Try.func58, Try.ntmps58
      go_wp2
      go_ret
      exact ⟨rfl, rfl⟩
  · have e : letterB r = false := by unfold letterB; simp; omega
    have hd : decide (97 ≤ r) = false := by simp; omega
    rw [e]
    go_enter Try.func58, Try.ntmps58
    go_wp2
    go_ret
    exact ⟨rfl, rfl⟩

set_option maxHeartbeats 400000 in
theorem isDigit_any (r : Int) (w : World) : Calls Try.prog 59 #[.int .i32 r] w fun e w' => e = .returned (.bool (digitB r)) ∧ w = w' := by
  by_cases h1 : 48 ≤ r
  · by_cases h2 : r ≤ 57
    · have e : digitB r = true := by unfold digitB; simp; omega
      rw [e]
      go_enter Try.func59, Try.ntmps59
      go_wp2
      go_ret
      exact ⟨rfl, rfl⟩
    · have e : digitB r = false := by unfold digitB; simp; omega
      have hd : decide (r ≤ 57) = false := by simp; omega
      rw [e]
      go_enter Try.func59, Try.ntmps59
      go_wp2
      go_ret
      exact ⟨rfl, rfl⟩
  · have e : digitB r = false := by unfold digitB; simp; omega
    have hd : decide (48 ≤ r) = false := by simp; omega
    rw [e]
    go_enter Try.func59, Try.ntmps59
    go_wp2
    go_ret
    exact ⟨rfl, rfl⟩

def SaysOver (w : World) (b : Bool) (e : Ending) (w' : World) : Prop := e = .returned (.bool b) ∧ Below w.heap.size w w'

set_option maxHeartbeats 1000000 in
set_option maxRecDepth 100000 in
theorem right_any (s : ByteArray) (w : World) (hs : s.size ≤ 9223372036854775807) : Calls Try.prog 54 #[.string s] w (SaysOver w (rightL s.data.toList)) := by
  have hsz := Lib.size_eq s
  by_cases h0 : s.size = 0
  · rw [rightL_len (by omega)]
    have g0 : ((s.size : Int) == 0) = true := by rw [beq_iff_eq]; omega
    clear hsz
    go_enter Try.func54, Try.ntmps54
    go_wp2
    go_ret
    exact ⟨rfl, Below.refl _ _⟩
  · have g0 : ((s.size : Int) == 0) = false := by rw [beq_eq_false_iff_ne]; omega
    have h1 : 1 ≤ s.size := by omega
    by_cases h8 : s.size ≤ 8
    · have Hsz := Lib.hid hsz
      clear hsz h0
      go_enter Try.func54, Try.ntmps54
      go_wp2
      go_loopw [] (fun wr => ∃ pos, wr = w.iter s pos ∧ pos ≤ s.size ∧ ∀ k c, k < pos → s.data.toList[k]? = some c → okb c = true) (fun wr => s.size - wr.iterPos w.heap.size)
      case atStart => exact ⟨0, rfl, Nat.zero_le _, fun k c hk => by omega⟩
      case round =>
        obtain ⟨pos, rfl, hpos, hall⟩ := hrel
        have Hall := Lib.hid hall
        clear hall
        have hbel : Below w.heap.size w (w.iter s pos) := (Below.refl _ w).alloc (Nat.le_refl _) _
        by_cases hp : pos < s.size
        · have hat := Lib.hid (byte_at s pos hp)
          obtain ⟨r, d, hnx, hr⟩ : ∃ r d : Nat, (∀ ty, (Instr.next (.pointer (some ⟨w.heap.size, 0, none⟩)) true ty).run Try.prog (w.iter s pos) =
              .ok (.tuple #[.bool true, .int .i64 pos, .int .i32 r]) (w.iter s (pos + d))) ∧ ((letterB r || digitB r) = okb (s[pos]'hp) ∧ (okb (s[pos]'hp) = true → d = 1)) := by
            refine ⟨_, _, fun ty => run_next_any w s pos ty hp, ?_⟩
            by_cases ha : (s[pos]'hp).toNat < 128
            · rw [decode_ascii s pos hp ha]
              exact ⟨rfl, fun _ => rfl⟩
            · have hh := (decode_high s pos hp (by omega)).1
              have e1 : okb (s[pos]'hp) = false := by unfold okb letterB digitB; simp; omega
              have e2 : (letterB ((Utf8.decode s pos).1 : Int) || digitB ((Utf8.decode s pos).1 : Int)) = false := by unfold letterB digitB; simp; omega
              exact ⟨by rw [e1, e2], fun h => by rw [e1] at h; cases h⟩
          obtain ⟨hr1, hr2⟩ := hr
          by_cases hok : okb (s[pos]'hp) = true
          · have hd := hr2 hok
            rw [hok] at hr1
            subst hd
            have Hok := Lib.hid hok
            clear hr2 hok
            cases hl : letterB (r : Int) with
            | true =>
              clear hr1
              have Hl := Lib.hid hl
              clear hl
              go_wp2_with fail
              refine (isLetter_any _ _).mono ?_
              rintro e w' ⟨rfl, rfl⟩
              rw [Hl.out]
              go_wp2
              go_roundw
              case rel =>
                refine ⟨pos + 1, rfl, by omega, fun k c hk hkc => ?_⟩
                by_cases hk2 : k = pos
                · subst hk2
                  rw [hat.out] at hkc
                  rw [← Option.some.inj hkc]
                  exact Hok.out
                · exact Hall.out k c (by omega) hkc
              case measure => simp; omega
            | false =>
              rw [hl, Bool.false_or] at hr1
              have Hl := Lib.hid hl
              have Hr := Lib.hid hr1
              clear hl hr1
              go_wp2_with fail
              refine (isLetter_any _ _).mono ?_
              rintro e w' ⟨rfl, rfl⟩
              rw [Hl.out]
              go_wp2_with fail
              refine (isDigit_any _ _).mono ?_
              rintro e w' ⟨rfl, rfl⟩
              rw [Hr.out]
              go_wp2
              go_roundw
              case rel =>
                refine ⟨pos + 1, rfl, by omega, fun k c hk hkc => ?_⟩
                by_cases hk2 : k = pos
                · subst hk2
                  rw [hat.out] at hkc
                  rw [← Option.some.inj hkc]
                  exact Hok.out
                · exact Hall.out k c (by omega) hkc
              case measure => simp; omega
          · have hok2 : okb (s[pos]'hp) = false := by simpa using hok
            rw [hok2, Bool.or_eq_false_iff] at hr1
            have Hr := Lib.hid hr1
            have hfin := Lib.hid (rightL_bad hat.out hok2)
            clear hr1 hr2 hok hok2
            have hbel2 : Below w.heap.size w (w.iter s (pos + d)) := (Below.refl _ w).alloc (Nat.le_refl _) _
            go_wp2_with fail
            refine (isLetter_any _ _).mono ?_
            rintro e w' ⟨rfl, rfl⟩
            rw [Hr.out.1]
            go_wp2_with fail
            refine (isDigit_any _ _).mono ?_
            rintro e w' ⟨rfl, rfl⟩
            rw [Hr.out.2]
            go_wp2
            go_ret
            rw [hfin.out]
            exact ⟨rfl, hbel2⟩
        · have hnx : ∀ ty, (Instr.next (.pointer (some ⟨w.heap.size, 0, none⟩)) true ty).run Try.prog (w.iter s pos) = _ := fun ty => run_next_end w s pos ty hp
          have e1 : rightL s.data.toList = true := rightL_all (by have := Hsz.out; omega) (by have := Hsz.out; omega) (fun k c hkc => Hall.out k c (by
            rcases Nat.lt_or_ge k s.data.toList.length with h | h
            · have := Hsz.out; omega
            · rw [List.getElem?_eq_none h] at hkc; cases hkc) hkc)
          have E1 := Lib.hid e1
          clear e1
          go_wp2
          go_ret
          rw [E1.out]
          exact ⟨rfl, hbel⟩
    · rw [rightL_len (by omega)]
      clear hsz h0
      go_enter Try.func54, Try.ntmps54
      go_wp2
      go_ret
      exact ⟨rfl, Below.refl _ _⟩

set_option maxHeartbeats 2000000 in
set_option maxRecDepth 100000 in
theorem refRight_any (s : ByteArray) (w : World) (hs : s.size ≤ 9223372036854775807) : Calls Try.prog 60 #[.string s] w fun e w' => e = .returned (.bool (rightL s.data.toList)) ∧ w = w' := by
  have hsz := Lib.size_eq s
  by_cases h0 : s.size < 1
  · rw [rightL_len (by omega)]
    have g0 : decide ((s.size : Int) < 1) = true := by simp; omega
    clear hsz
    go_enter Try.func60, Try.ntmps60
    go_wp2
    go_ret
    exact ⟨rfl, rfl⟩
  · have g0 : decide ((s.size : Int) < 1) = false := by simp; omega
    by_cases h8 : s.size ≤ 8
    · have g8 : decide (8 < (s.size : Int)) = false := by simp; omega
      have Hsz := Lib.hid hsz
      clear hsz
      go_enter Try.func60, Try.ntmps60
      go_wp2
      go_loop [3] (fun i => ∃ k : Nat, i = .int .i64 k ∧ k ≤ s.size ∧ ∀ j c, j < k → s.data.toList[j]? = some c → okb c = true) (fun i => s.size - (intOf i).toNat)
      case atStart => exact ⟨0, rfl, Nat.zero_le _, fun k c hk => by omega⟩
      case round =>
        obtain ⟨k, rfl, hk, hall⟩ := hrel
        have Hall := Lib.hid hall
        clear hall
        by_cases hlt : k < s.size
        · have hat := Lib.hid (byte_at s k hlt)
          obtain ⟨x, hx⟩ : ∃ x, x = s[k]'hlt := ⟨_, rfl⟩
          rw [← hx] at hat
          have hstep : okb x = true → ∀ j c, j < k + 1 → s.data.toList[j]? = some c → okb c = true := by
            intro hok j c hj hjc
            by_cases hj2 : j = k
            · subst hj2
              rw [hat.out] at hjc
              rw [← Option.some.inj hjc]
              exact hok
            · exact Hall.out j c (by omega) hjc
          have Hstep := Lib.hid hstep
          have hokb : okb x = true ↔ (97 ≤ (x.toNat : Int) ∧ (x.toNat : Int) ≤ 122) ∨ (48 ≤ (x.toNat : Int) ∧ (x.toNat : Int) ≤ 57) := by
            unfold okb letterB digitB
            simp
          have hbad : okb x = false → rightL s.data.toList = false := fun h => rightL_bad hat.out h
          have Hokb := Lib.hid hokb
          have Hbad := Lib.hid hbad
          subst hx
          clear hstep hokb hbad
          by_cases c1 : 97 ≤ ((s[k]'hlt).toNat : Int)
          · by_cases c2 : ((s[k]'hlt).toNat : Int) ≤ 122
            · go_wp2
              go_round
              case rel => exact ⟨k + 1, by go_num, by omega, Hstep.out (Hokb.out.2 (.inl ⟨c1, c2⟩))⟩
              case measure => simp [intOf]; omega
            · have d2 : decide (((s[k]'hlt).toNat : Int) ≤ 122) = false := by simp; omega
              have d4 : decide (((s[k]'hlt).toNat : Int) ≤ 57) = false := by simp; omega
              go_wp2
              go_ret
              rw [Hbad.out (by rw [Bool.eq_false_iff]; intro h; have := Hokb.out.1 h; omega)]
              exact ⟨rfl, rfl⟩
          · have d1 : decide (97 ≤ ((s[k]'hlt).toNat : Int)) = false := by simp; omega
            by_cases c3 : 48 ≤ ((s[k]'hlt).toNat : Int)
            · by_cases c4 : ((s[k]'hlt).toNat : Int) ≤ 57
              · go_wp2
                go_round
                case rel => exact ⟨k + 1, by go_num, by omega, Hstep.out (Hokb.out.2 (.inr ⟨c3, c4⟩))⟩
                case measure => simp [intOf]; omega
              · have d4 : decide (((s[k]'hlt).toNat : Int) ≤ 57) = false := by simp; omega
                go_wp2
                go_ret
                rw [Hbad.out (by rw [Bool.eq_false_iff]; intro h; have := Hokb.out.1 h; omega)]
                exact ⟨rfl, rfl⟩
            · have d3 : decide (48 ≤ ((s[k]'hlt).toNat : Int)) = false := by simp; omega
              go_wp2
              go_ret
              rw [Hbad.out (by rw [Bool.eq_false_iff]; intro h; have := Hokb.out.1 h; omega)]
              exact ⟨rfl, rfl⟩
        · have e1 : rightL s.data.toList = true := rightL_all (by have := Hsz.out; omega) (by have := Hsz.out; omega) (fun j c hjc => Hall.out j c (by
            rcases Nat.lt_or_ge j s.data.toList.length with h | h
            · have := Hsz.out; omega
            · rw [List.getElem?_eq_none h] at hjc; cases hjc) hjc)
          have E1 := Lib.hid e1
          clear e1
          go_wp2
          go_ret
          rw [E1.out]
          exact ⟨rfl, rfl⟩
    · have g8 : decide (8 < (s.size : Int)) = true := by simp; omega
      rw [rightL_len (by omega)]
      clear hsz
      go_enter Try.func60, Try.ntmps60
      go_wp2
      go_ret
      exact ⟨rfl, rfl⟩
end Go.Proofs.Ytkafaceanlkjjaa
