/-
  What word.Text and word.Num do.
-/
import Derived.Test.YtalcfcemilmgdaaDoorMem
import Derived.Test.YtalcfcemilmgdaaDoorPlainNum
import Derived.Test.YtalcfcemilmgdaaDoorShelf
import Derived.Lib.AtoiErrMem
namespace Go.Proofs.YtalcfcemilmgdaaDoor
open Go Go.RowKit

/-- The library's own variables hold what its text lays. -/
structure Tabs (w : World) : Prop where
  pow : Lib.TabIs Tryd.prog w "internal/strconv.uint64pow10" .u64 Lib.pow10Tab
  synt : ∃ tp p, w.var? Tryd.prog "strconv.ErrSyntax" = some #[.iface tp p]
  rng : ∃ tp p, w.var? Tryd.prog "strconv.ErrRange" = some #[.iface tp p]

theorem var_kept {n : String} {w w' : World} {cs : Array Value} (h : w.var? Tryd.prog n = some cs) (hb : Below w.heap.size w w') : w'.var? Tryd.prog n = some cs := by
  obtain ⟨g, hg, h2⟩ := Option.bind_eq_some_iff.1 h
  refine var?_below hb hg ?_ h
  rcases Nat.lt_or_ge g w.heap.size with hlt | hge
  · exact hlt
  · rw [Array.getElem?_eq_none hge] at h2; cases h2
theorem Tabs.below {w w' : World} (h : Tabs w) (hb : Below w.heap.size w w') : Tabs w' :=
  ⟨var_kept h.pow hb, by obtain ⟨tp, p, h1⟩ := h.synt; exact ⟨tp, p, var_kept h1 hb⟩, by obtain ⟨tp, p, h1⟩ := h.rng; exact ⟨tp, p, var_kept h1 hb⟩⟩

theorem below_grow (w : World) (k : Nat) (os : Array Obj) : Below w.heap.size w (Sort.grow (w.drewN k) os) :=
  ⟨rfl, rfl, rfl, by simp [Sort.grow], fun i hi => by simp [Sort.grow, Array.getElem?_append, hi]⟩

set_option maxHeartbeats 400000 in
theorem text_any (n : Int) (h0 : -9223372036854775808 ≤ n) (h1 : n ≤ 9223372036854775807) (w : World) (ht : Tabs w) :
    Calls Tryd.prog 13 #[.int .i64 n] w fun e w' => e = .returned (.string (ba (Lib.itoa n))) ∧ Below w.heap.size w w' := by
  have Hc := Lib.hid (Tryd.strconv_Itoa n h0 h1 w ht.pow)
  clear h0 h1 ht
  go_enter Tryd.func13, Tryd.ntmps13
  go_wp2_with fail
  refine Hc.out.mono ?_
  rintro e w1 ⟨rfl, k, os, hw⟩
  have hb : Below w.heap.size w w1 := by rw [hw]; exact below_grow w k os
  clear hw
  go_wp2
  go_ret
  exact ⟨rfl, hb⟩

def numTuple : Option Int → Value
  | some v => .tuple #[.int .i64 v, .bool true]
  | none => .tuple #[.int .i64 0, .bool false]

theorem numOf_ok {l : List UInt8} {v : Int} (h : Lib.atoiAll l = .ok v) : numOf l = if -1000000 ≤ v ∧ v ≤ 1000000 ∧ Lib.itoa v = l then some v else none := by
  unfold numOf; rw [h]
theorem numOf_syntax {l : List UInt8} (h : Lib.atoiAll l = Lib.NumEnd.syntax) : numOf l = none := by
  unfold numOf; rw [h]
theorem numOf_range {l : List UInt8} (h : Lib.atoiAll l = .range) : numOf l = none := by
  unfold numOf; rw [h]

set_option maxHeartbeats 1000000 in
theorem num_ok (s : ByteArray) (v : Int) (h : Lib.atoiAll s.data.toList = .ok v) (w : World) (hs : s.size ≤ 1099511627776) (ht : Tabs w) :
    Calls Tryd.prog 6 #[.string s] w fun e w' => e = .returned (numTuple (numOf s.data.toList)) ∧ Below w.heap.size w w' := by
  have hbd := Lib.atoiAll_bounds h
  have Hn := Lib.hid (numOf_ok h)
  have Hc := Lib.hid (Tryd.strconv_Atoi_ok s (by omega) v h w)
  have Ht := Lib.hid ht
  clear h ht
  by_cases hlo : -1000000 ≤ v
  · by_cases hhi : v ≤ 1000000
    · have Htext := Lib.hid (fun (W : World) (hW : Tabs W) => text_any v (by omega) (by omega) W hW)
      by_cases heq : Lib.itoa v = s.data.toList
      · have g1 : ((ba (Lib.itoa v)).toList == s.toList) = true := by rw [ba_toList, Lib.toList_data, heq]; simp
        have e1 : numOf s.data.toList = some v := by rw [Hn.out, if_pos ⟨hlo, hhi, heq⟩]
        rw [e1]
        clear heq Hn e1 hbd
        go_enter Tryd.func6, Tryd.ntmps6
        go_wp2_with fail
        refine Hc.out.mono ?_
        rintro e w1 ⟨rfl, hw⟩
        have hb : Below w.heap.size w w1 := by
          rcases hw with rfl | ⟨t, rfl⟩
          · exact Below.refl _ _
          · exact Lib.bytesWorld_below w _ t
        clear hw
        go_wp2_with fail
        refine (Htext.out _ (Ht.out.below hb)).mono ?_
        rintro e w2 ⟨rfl, hb2⟩
        go_wp2
        go_ret2
        exact ⟨rfl, hb.trans (hb2.mono hb.size)⟩
      · have g1 : ((ba (Lib.itoa v)).toList == s.toList) = false := by rw [ba_toList, Lib.toList_data, beq_eq_false_iff_ne]; exact heq
        have e1 : numOf s.data.toList = none := by rw [Hn.out, if_neg (fun h => heq h.2.2)]
        rw [e1]
        clear heq Hn e1 hbd
        go_enter Tryd.func6, Tryd.ntmps6
        go_wp2_with fail
        refine Hc.out.mono ?_
        rintro e w1 ⟨rfl, hw⟩
        have hb : Below w.heap.size w w1 := by
          rcases hw with rfl | ⟨t, rfl⟩
          · exact Below.refl _ _
          · exact Lib.bytesWorld_below w _ t
        clear hw
        go_wp2_with fail
        refine (Htext.out _ (Ht.out.below hb)).mono ?_
        rintro e w2 ⟨rfl, hb2⟩
        go_wp2
        go_ret2
        exact ⟨rfl, hb.trans (hb2.mono hb.size)⟩
    · have e1 : numOf s.data.toList = none := by rw [Hn.out, if_neg (fun h => hhi h.2.1)]
      rw [e1]
      clear Hn e1 hbd
      go_enter Tryd.func6, Tryd.ntmps6
      go_wp2_with fail
      refine Hc.out.mono ?_
      rintro e w1 ⟨rfl, hw⟩
      have hb : Below w.heap.size w w1 := by
        rcases hw with rfl | ⟨t, rfl⟩
        · exact Below.refl _ _
        · exact Lib.bytesWorld_below w _ t
      clear hw
      go_wp2
      go_ret2
      exact ⟨rfl, hb⟩
  · have e1 : numOf s.data.toList = none := by rw [Hn.out, if_neg (fun h => hlo h.1)]
    rw [e1]
    clear Hn e1 hbd
    go_enter Tryd.func6, Tryd.ntmps6
    go_wp2_with fail
    refine Hc.out.mono ?_
    rintro e w1 ⟨rfl, hw⟩
    have hb : Below w.heap.size w w1 := by
      rcases hw with rfl | ⟨t, rfl⟩
      · exact Below.refl _ _
      · exact Lib.bytesWorld_below w _ t
    clear hw
    go_wp2
    go_ret2
    exact ⟨rfl, hb⟩

/-- Where Atoi answers an error. -/
theorem num_err (s : ByteArray) (x : Int) (w : World) (hn : numOf s.data.toList = none)
    (hc : Calls Tryd.prog 15 #[.string s] w fun e w' => ∃ N : Nat, e = .returned (.tuple #[.int .i64 x, .iface 42 (.pointer (some ⟨N, 0, none⟩))]) ∧ Below w.heap.size w w') :
    Calls Tryd.prog 6 #[.string s] w fun e w' => e = .returned (numTuple (numOf s.data.toList)) ∧ Below w.heap.size w w' := by
  rw [hn]
  have Hc := Lib.hid hc
  clear hc hn
  go_enter Tryd.func6, Tryd.ntmps6
  go_wp2_with fail
  refine Hc.out.mono ?_
  rintro e w1 ⟨N, rfl, hb⟩
  go_wp2
  go_ret2
  exact ⟨rfl, hb⟩

theorem num_any (s : ByteArray) (w : World) (hs : s.size ≤ 1099511627776) (ht : Tabs w) :
    Calls Tryd.prog 6 #[.string s] w fun e w' => e = .returned (numTuple (numOf s.data.toList)) ∧ Below w.heap.size w w' := by
  match h : Lib.atoiAll s.data.toList with
  | .ok v => exact num_ok s v h w hs ht
  | .range =>
    obtain ⟨tp, p, hv⟩ := ht.rng
    exact num_err s _ w (numOf_range h) ((Tryd.strconv_Atoi_range_var s (by omega) h tp p w hv).mono fun e w' ⟨N, he, _, _, hb⟩ => ⟨N, he, hb⟩)
  | Lib.NumEnd.syntax =>
    obtain ⟨tp, p, hv⟩ := ht.synt
    exact num_err s 0 w (numOf_syntax h) ((Tryd.strconv_Atoi_syntax_var s (by omega) h tp p w hv).mono fun e w' ⟨N, he, _, _, hb⟩ => ⟨N, he, hb⟩)
end Go.Proofs.YtalcfcemilmgdaaDoor
