/-
  What towncrierref01.Num does.
-/
import Derived.Test.YtalcfcemilmgdaaDoorNum
import Derived.Deep.DeepCutAuto
namespace Go.Proofs.YtalcfcemilmgdaaDoor
open Go Go.RowKit

theorem decFrom_bad {l : List UInt8} {k : Nat} {c : UInt8} (h : l[k]? = some c) (hc : Lib.digitVal c = none) (acc : Nat) : Lib.decFrom acc l = none := by
  induction l generalizing k acc with
  | nil => simp at h
  | cons b r ih =>
    unfold Lib.decFrom
    cases k with
    | zero =>
      simp at h
      subst h
      rw [hc]
    | succ k =>
      cases Lib.digitVal b with
      | none => rfl
      | some d => exact ih (by simpa using h) _
/-- Digits that are read so far. -/
structure ReadTo (l : List UInt8) (k m : Nat) : Prop where
  dec : Lib.decFrom 0 (l.take k) = some m
  lt : m < 10 ^ k
theorem ReadTo.zero (l : List UInt8) : ReadTo l 0 0 := ⟨rfl, by decide⟩
theorem ReadTo.step {l : List UInt8} {k m : Nat} {c : UInt8} (h : ReadTo l k m) (hc : l[k]? = some c) (h1 : 48 ≤ c.toNat) (h2 : c.toNat ≤ 57) : ReadTo l (k + 1) (m * 10 + (c.toNat - 48)) := by
  refine ⟨Lib.decFrom_take l k 0 m c (c.toNat - 48) h.dec hc ?_, ?_⟩
  · unfold Lib.digitVal
    rw [if_pos ⟨h1, h2⟩]
  · have := h.lt
    rw [Nat.pow_succ]
    omega
/-- What the number is, the sign and the digits told apart. -/
def signed (neg : Bool) (tl : List UInt8) : Option Int :=
  if neg = true ∧ tl = [48] then none else (magOf tl).map fun (n : Nat) => if neg = true then -(n : Int) else (n : Int)
theorem signed_none {neg : Bool} {tl : List UInt8} (h : magOf tl = none) : signed neg tl = none := by
  unfold signed
  rw [h]
  split <;> rfl
theorem refNum_neg {l : List UInt8} (h : l.head? = some 45) : refNum l = signed true l.tail := by
  unfold refNum signed
  rw [if_pos h]
  by_cases h48 : l.tail = [48]
  · rw [if_pos h48, if_pos ⟨rfl, h48⟩]
  · rw [if_neg h48, if_neg (fun h => h48 h.2)]
    rfl
theorem refNum_plain {l : List UInt8} (h : l.head? ≠ some 45) : refNum l = signed false l := by
  unfold refNum signed
  rw [if_neg h, if_neg (fun h => by cases h.1)]
  rfl
theorem magOf_bad {t : List UInt8} (h : t = [] ∨ 7 < t.length ∨ (1 < t.length ∧ t.head? = some 48)) : magOf t = none := by
  unfold magOf
  rw [if_pos h]
theorem magOf_dec {t : List UInt8} (h : ¬ (t = [] ∨ 7 < t.length ∨ (1 < t.length ∧ t.head? = some 48))) : magOf t = (Lib.decFrom 0 t).bind fun n => if 1000000 < n then none else some n := by
  unfold magOf
  rw [if_neg h]

def NumRel (tb : ByteArray) (n i : Value) : Prop := ∃ k m : Nat, i = .int .i64 k ∧ n = .int .i64 m ∧ k ≤ tb.size ∧ ReadTo tb.data.toList k m

set_option maxHeartbeats 4000000 in
set_option maxRecDepth 100000 in
theorem refNum_minus (s : ByteArray) (w : World) (hs : s.size ≤ 1099511627776) (hneg : s.data.toList.head? = some 45) :
    Calls Tryd.prog 7 #[.string s] w fun e w' => e = .returned (numTuple (refNum s.data.toList)) ∧ w = w' := by
  have hsz := Lib.size_eq s
  obtain ⟨R, hR⟩ : ∃ R, R = numTuple (refNum s.data.toList) := ⟨_, rfl⟩
  rw [← hR]
  rw [refNum_neg hneg] at hR
  have HR := Lib.hid hR
  clear hR
  have h0 : 0 < s.size := by
    rcases Nat.eq_zero_or_pos s.size with h | h
    · have e0 : s.data.toList = [] := List.eq_nil_of_length_eq_zero (by omega)
      rw [e0] at hneg; simp at hneg
    · exact h
  have hb : s[0]'h0 = 45 := by
    have := byte_at s 0 h0
    rw [← List.head?_eq_getElem?, hneg] at this
    exact (Option.some.inj this).symm
  have g1 : (((s[0]'h0).toNat : Int) == 45) = true := by rw [hb]; decide
  have Hb := Lib.hid hb
  have Hn := Lib.hid hneg
  have Hs := Lib.hid hsz
  clear hb hneg hsz
  go_enter Tryd.func7, Tryd.ntmps7
  go_upto_if 17 with (fail)
  go_cut [4] (fun t wx => ∃ tb : ByteArray, t = .string tb ∧ tb.data.toList = s.data.toList.tail ∧ w = wx)
  case first =>
      go_wp2
      go_meet
      exact ⟨_, rfl, by rw [Lib.extract_to_end, List.drop_one], rfl⟩
  case rest =>
      obtain ⟨tb, rfl, htb, rfl⟩ := hcut
      rw [← htb] at HR
      have hts := Lib.size_eq tb
      clear htb
      by_cases t0 : tb.size < 1
      · have e1 : signed true tb.data.toList = none := signed_none (magOf_bad (.inl (List.eq_nil_of_length_eq_zero (by omega))))
        have d1 : decide ((tb.size : Int) < 1) = true := decide_eq_true (by omega)
        have E1 := Lib.hid e1
        clear e1 hts
        go_wp2
        go_ret2
        refine ⟨?_, rfl⟩
        rw [HR.out, E1.out]
        rfl
      · have d1 : decide ((tb.size : Int) < 1) = false := decide_eq_false (by omega)
        by_cases t7 : tb.size ≤ 7
        · have d2 : decide (7 < (tb.size : Int)) = false := decide_eq_false (by omega)
          have hz : 0 < tb.size := by omega
          have hat0 := byte_at tb 0 hz
          rw [← List.head?_eq_getElem?] at hat0
          by_cases tz : 1 < tb.size ∧ tb[0]'hz = 48
          · have e1 : signed true tb.data.toList = none := signed_none (magOf_bad (.inr (.inr ⟨by omega, by rw [hat0, tz.2]⟩)))
            have d3 : decide (1 < (tb.size : Int)) = true := decide_eq_true (by omega)
            have d4 : (((tb[0]'hz).toNat : Int) == 48) = true := by rw [tz.2]; decide
            have Tz := Lib.hid tz.2
            have E1 := Lib.hid e1
            clear e1 hts hat0 tz
            go_wp2
            go_ret2
            refine ⟨?_, rfl⟩
            rw [HR.out, E1.out]
            rfl
          · by_cases t48 : true = true ∧ tb.data.toList = [48]
            · have e1 : signed true tb.data.toList = none := by unfold signed; rw [if_pos t48]
              have hts1 : tb.size = 1 := by rw [hts, t48.2]; rfl
              have d3 : decide (1 < (tb.size : Int)) = false := decide_eq_false (by omega)
              have d5 : (tb.toList == [48]) = true := by rw [Lib.toList_data, t48.2]; rfl
              have T1 := Lib.hid hts1
              have E1 := Lib.hid e1
              clear e1 hts hat0 tz t48 hts1
              go_wp2
              go_ret2
              refine ⟨?_, rfl⟩
              rw [HR.out, E1.out]
              rfl
            · have e1 : signed true tb.data.toList = (magOf tb.data.toList).map fun (n : Nat) => if true = true then -(n : Int) else (n : Int) := by unfold signed; rw [if_neg t48]
              rw [magOf_dec (by
                rintro (h | h | ⟨h, h2⟩)
                · have h9 : tb.size = 0 := by rw [hts, h]; rfl
                  omega
                · omega
                · rw [hat0] at h2
                  exact tz ⟨by omega, Option.some.inj h2⟩)] at e1
              have E1 := Lib.hid e1
              have d5 : (tb.toList == [48]) = false := by rw [beq_eq_false_iff_ne, Lib.toList_data]; exact fun h => t48 ⟨rfl, h⟩
              have d34 : (decide (1 < (tb.size : Int)) = false) ∨ (decide (1 < (tb.size : Int)) = true ∧ (((tb[0]'hz).toNat : Int) == 48) = false) := by
                by_cases h1 : 1 < tb.size
                · right
                  refine ⟨decide_eq_true (by omega), ?_⟩
                  rw [beq_eq_false_iff_ne]
                  intro e
                  exact tz ⟨h1, UInt8.toNat_inj.1 (by rw [show (48 : UInt8).toNat = 48 from rfl]; omega)⟩
                · left; exact decide_eq_false (by omega)
              have Hts := Lib.hid hts
              clear e1 tz t48 hts hat0
              rcases d34 with d3 | ⟨d3, d4⟩
              all_goals
                go_wp2
                go_loop [6, 7] (fun n i => NumRel tb n i) (fun _ i => tb.size - (intOf i).toNat)
                case atStart => exact ⟨0, 0, rfl, rfl, Nat.zero_le _, ReadTo.zero _⟩
                case round =>
                  obtain ⟨k, m, rfl, rfl, hk, hrd⟩ := hrel
                  have hm : m < 10000000 := Nat.lt_of_lt_of_le hrd.lt (Nat.pow_le_pow_right (by decide) (by omega) : 10 ^ k ≤ 10 ^ 7)
                  by_cases hlt : k < tb.size
                  · have hat := Lib.hid (byte_at tb k hlt)
                    by_cases c1 : ((tb[k]'hlt).toNat : Int) < 48
                    · have hbad := Lib.hid (decFrom_bad hat.out (by unfold Lib.digitVal; rw [if_neg (by omega)]) 0)
                      have b1 : decide (((tb[k]'hlt).toNat : Int) < 48) = true := decide_eq_true (by omega)
                      go_wp2
                      go_ret2
                      refine ⟨?_, rfl⟩
                      rw [HR.out, E1.out, hbad.out]
                      rfl
                    · have b1 : decide (((tb[k]'hlt).toNat : Int) < 48) = false := decide_eq_false (by omega)
                      by_cases c2 : 57 < ((tb[k]'hlt).toNat : Int)
                      · have hbad := Lib.hid (decFrom_bad hat.out (by unfold Lib.digitVal; rw [if_neg (by omega)]) 0)
                        have b2 : decide (57 < ((tb[k]'hlt).toNat : Int)) = true := decide_eq_true (by omega)
                        go_wp2
                        go_ret2
                        refine ⟨?_, rfl⟩
                        rw [HR.out, E1.out, hbad.out]
                        rfl
                      · have b2 : decide (57 < ((tb[k]'hlt).toNat : Int)) = false := decide_eq_false (by omega)
                        have hst := hrd.step hat.out (by omega) (by omega)
                        have Hst := Lib.hid hst
                        clear hst
                        go_wp2
                        go_round
                        case rel => exact ⟨k + 1, _, by go_num, by go_num, by omega, Hst.out⟩
                        case measure => simp [intOf]; omega
                  · have hend := hrd.dec
                    rw [List.take_of_length_le (by have := Hts.out; omega)] at hend
                    have Hend := Lib.hid hend
                    clear hend
                    by_cases cbig : 1000000 < m
                    · go_wp2
                      go_ret2
                      refine ⟨?_, rfl⟩
                      rw [HR.out, E1.out, Hend.out, Option.bind_some, if_pos cbig]
                      rfl
                    · go_wp2
                      go_ret2
                      refine ⟨?_, rfl⟩
                      rw [HR.out, E1.out, Hend.out, Option.bind_some, if_neg cbig]
                      rfl
        · have e1 : signed true tb.data.toList = none := signed_none (magOf_bad (.inr (.inl (by omega))))
          have d2 : decide (7 < (tb.size : Int)) = true := decide_eq_true (by omega)
          have E1 := Lib.hid e1
          clear e1 hts
          go_wp2
          go_ret2
          refine ⟨?_, rfl⟩
          rw [HR.out, E1.out]
          rfl

set_option maxHeartbeats 4000000 in
set_option maxRecDepth 100000 in
theorem refNum_bare (s : ByteArray) (w : World) (hs : s.size ≤ 1099511627776) (hneg : s.data.toList.head? ≠ some 45) :
    Calls Tryd.prog 7 #[.string s] w fun e w' => e = .returned (numTuple (refNum s.data.toList)) ∧ w = w' := by
  have hsz := Lib.size_eq s
  obtain ⟨R, hR⟩ : ∃ R, R = numTuple (refNum s.data.toList) := ⟨_, rfl⟩
  rw [← hR]
  rw [refNum_plain hneg] at hR
  have HR := Lib.hid hR
  clear hR
  have gg : s.size < 1 ∨ ∃ h0 : 0 < s.size, (((s[0]'h0).toNat : Int) == 45) = false := by
    rcases Nat.eq_zero_or_pos s.size with h | h
    · left; omega
    · right
      refine ⟨h, ?_⟩
      rw [beq_eq_false_iff_ne]
      intro e
      apply hneg
      rw [List.head?_eq_getElem?, byte_at s 0 h]
      congr 1
      exact UInt8.toNat_inj.1 (by rw [show (45 : UInt8).toNat = 45 from rfl]; omega)
  have gz : s.size < 1 → decide (0 < (s.size : Int)) = false := fun h => decide_eq_false (by omega)
  have Hn := Lib.hid hneg
  have Hg := Lib.hid gg
  have Gz := Lib.hid gz
  clear hneg gg gz hsz
  have hts := Lib.size_eq s
  by_cases t0 : s.size < 1
  · have gz0 := Gz.out t0
    have e1 : signed false s.data.toList = none := signed_none (magOf_bad (.inl (List.eq_nil_of_length_eq_zero (by omega))))
    have d1 : decide ((s.size : Int) < 1) = true := decide_eq_true (by omega)
    have E1 := Lib.hid e1
    clear e1 hts
    go_enter Tryd.func7, Tryd.ntmps7
    go_wp2
    go_ret2
    refine ⟨?_, rfl⟩
    rw [HR.out, E1.out]
    rfl
  · have d1 : decide ((s.size : Int) < 1) = false := decide_eq_false (by omega)
    obtain ⟨h0, g1⟩ : ∃ h0 : 0 < s.size, (((s[0]'h0).toNat : Int) == 45) = false := Hg.out.resolve_left t0
    by_cases t7 : s.size ≤ 7
    · have d2 : decide (7 < (s.size : Int)) = false := decide_eq_false (by omega)
      have hz : 0 < s.size := by omega
      have hat0 := byte_at s 0 hz
      rw [← List.head?_eq_getElem?] at hat0
      by_cases tz : 1 < s.size ∧ s[0]'hz = 48
      · have e1 : signed false s.data.toList = none := signed_none (magOf_bad (.inr (.inr ⟨by omega, by rw [hat0, tz.2]⟩)))
        have d3 : decide (1 < (s.size : Int)) = true := decide_eq_true (by omega)
        have d4 : (((s[0]'hz).toNat : Int) == 48) = true := by rw [tz.2]; decide
        have Tz := Lib.hid tz.2
        have E1 := Lib.hid e1
        clear e1 hts hat0 tz
        go_enter Tryd.func7, Tryd.ntmps7
        go_wp2
        go_ret2
        refine ⟨?_, rfl⟩
        rw [HR.out, E1.out]
        rfl
      · have t48 : ¬ (false = true ∧ s.data.toList = [48]) := fun h => by cases h.1
        have e1 : signed false s.data.toList = (magOf s.data.toList).map fun (n : Nat) => if false = true then -(n : Int) else (n : Int) := by unfold signed; rw [if_neg t48]
        rw [magOf_dec (by
          rintro (h | h | ⟨h, h2⟩)
          · have h9 : s.size = 0 := by rw [hts, h]; rfl
            omega
          · omega
          · rw [hat0] at h2
            exact tz ⟨by omega, Option.some.inj h2⟩)] at e1
        have E1 := Lib.hid e1
        have d34 : (decide (1 < (s.size : Int)) = false) ∨ (decide (1 < (s.size : Int)) = true ∧ (((s[0]'hz).toNat : Int) == 48) = false) := by
          by_cases h1 : 1 < s.size
          · right
            refine ⟨decide_eq_true (by omega), ?_⟩
            rw [beq_eq_false_iff_ne]
            intro e
            exact tz ⟨h1, UInt8.toNat_inj.1 (by rw [show (48 : UInt8).toNat = 48 from rfl]; omega)⟩
          · left; exact decide_eq_false (by omega)
        have Hts := Lib.hid hts
        clear e1 tz t48 hts hat0
        rcases d34 with d3 | ⟨d3, d4⟩
        all_goals
          go_enter Tryd.func7, Tryd.ntmps7
          go_wp2
          go_loop [6, 7] (fun n i => NumRel s n i) (fun _ i => s.size - (intOf i).toNat)
          case atStart => exact ⟨0, 0, rfl, rfl, Nat.zero_le _, ReadTo.zero _⟩
          case round =>
            obtain ⟨k, m, rfl, rfl, hk, hrd⟩ := hrel
            have hm : m < 10000000 := Nat.lt_of_lt_of_le hrd.lt (Nat.pow_le_pow_right (by decide) (by omega) : 10 ^ k ≤ 10 ^ 7)
            by_cases hlt : k < s.size
            · have hat := Lib.hid (byte_at s k hlt)
              by_cases c1 : ((s[k]'hlt).toNat : Int) < 48
              · have hbad := Lib.hid (decFrom_bad hat.out (by unfold Lib.digitVal; rw [if_neg (by omega)]) 0)
                have b1 : decide (((s[k]'hlt).toNat : Int) < 48) = true := decide_eq_true (by omega)
                go_wp2
                go_ret2
                refine ⟨?_, rfl⟩
                rw [HR.out, E1.out, hbad.out]
                rfl
              · have b1 : decide (((s[k]'hlt).toNat : Int) < 48) = false := decide_eq_false (by omega)
                by_cases c2 : 57 < ((s[k]'hlt).toNat : Int)
                · have hbad := Lib.hid (decFrom_bad hat.out (by unfold Lib.digitVal; rw [if_neg (by omega)]) 0)
                  have b2 : decide (57 < ((s[k]'hlt).toNat : Int)) = true := decide_eq_true (by omega)
                  go_wp2
                  go_ret2
                  refine ⟨?_, rfl⟩
                  rw [HR.out, E1.out, hbad.out]
                  rfl
                · have b2 : decide (57 < ((s[k]'hlt).toNat : Int)) = false := decide_eq_false (by omega)
                  have hst := hrd.step hat.out (by omega) (by omega)
                  have Hst := Lib.hid hst
                  clear hst
                  go_wp2
                  go_round
                  case rel => exact ⟨k + 1, _, by go_num, by go_num, by omega, Hst.out⟩
                  case measure => simp [intOf]; omega
            · have hend := hrd.dec
              rw [List.take_of_length_le (by have := Hts.out; omega)] at hend
              have Hend := Lib.hid hend
              clear hend
              by_cases cbig : 1000000 < m
              · go_wp2
                go_ret2
                refine ⟨?_, rfl⟩
                rw [HR.out, E1.out, Hend.out, Option.bind_some, if_pos cbig]
                rfl
              · go_wp2
                go_ret2
                refine ⟨?_, rfl⟩
                rw [HR.out, E1.out, Hend.out, Option.bind_some, if_neg cbig]
                rfl
    · have e1 : signed false s.data.toList = none := signed_none (magOf_bad (.inr (.inl (by omega))))
      have d2 : decide (7 < (s.size : Int)) = true := decide_eq_true (by omega)
      have E1 := Lib.hid e1
      clear e1 hts
      go_enter Tryd.func7, Tryd.ntmps7
      go_wp2
      go_ret2
      refine ⟨?_, rfl⟩
      rw [HR.out, E1.out]
      rfl

theorem refNum_any (s : ByteArray) (w : World) (hs : s.size ≤ 1099511627776) :
    Calls Tryd.prog 7 #[.string s] w fun e w' => e = .returned (numTuple (refNum s.data.toList)) ∧ w = w' := by
  by_cases hneg : s.data.toList.head? = some 45
  · exact refNum_minus s w hs hneg
  · exact refNum_bare s w hs hneg
end Go.Proofs.YtalcfcemilmgdaaDoor
