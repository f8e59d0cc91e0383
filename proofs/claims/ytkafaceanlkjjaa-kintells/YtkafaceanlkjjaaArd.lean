/-
  What Make of package arena does.
-/
import Derived.Test.YtkafaceanlkjjaaArb
import Derived.Test.YtkafaceanlkjjaaFk
namespace Go.Proofs.Ytkafaceanlkjjaa
open Go Go.RowKit

section
variable {G : Nat → Prop} {w : World} {c B : Nat} {A : Option Addr} {l : List Nd} {d : Nd}
/-- A block of another kind is written. -/
theorem Nodes.aside {b i : Nat} {u : Value} {cs : Array Value} {t : TypeId} {fr : Nat × Nat} (h : Nodes G w B A c l) (hb : Has w b (.cells cs t fr)) (h1 : t ≠ 41) (h2 : t ≠ 3) : Nodes G (w.setCell ⟨b, i, none⟩ u) B A c l := by
  obtain ⟨rows, rfl, hr, hk, hg⟩ := h
  refine ⟨rows, rfl, own_kept hr (Keeps.storeAt (F := fun j => j = b) (Keeps.refl _ _) rfl i u) fun g' hg' e => ?_, fun p hp => (hk p hp).aside hb h2, hg⟩
  rcases hr.2 with ⟨hv, _⟩ | ⟨g2, cap, cur, hv, _, hh, _⟩
  · rw [hv] at hg'; cases hg'
  · rw [hv] at hg'
    obtain rfl : g2 = g' := by simpa [Value.ownBlock] using hg'
    exact Has.apart hb hh (fun e => h1 (by injection e)) e.symm
/-- A node without children is put behind, in the old row or a new one. -/
theorem wp_pushG {P : Program} {o : Oper} {a : Act} {K : Act → World → Prop} {Q : Exit → Act → World → Prop} (s x : Operand) (t : TypeId)
    (ho : o.op = .call { callee := .builtin .append, args := #[s, x], argTypes := #[t, t] }) (i : TypeInfo) (z : Value) (ht : P.underlying t = some (.slice 41)) (hi : P.info? 41 = some i) (hz : i.zero = some z)
    (hsize : i.size = 9) (hby : i.bytes = 104) (hzs : z.cells.size = 9) (hs : a.eval s = .slice A l.length c) (hN : Nodes G w 0 A c l) {b q : Nat} (hx : a.eval x = .slice (some ⟨b, 0, none⟩) 1 q) {fr : Nat × Nat}
    (hb : Has w b (.cells (d.cells (.slice none 0 0)).toArray 41 fr)) (hd : d.kids = []) (hl : l.length ≤ 1000) (hG : Fut G w.heap.size)
    (h : ∀ g c' w', Nodes G w' 0 (some ⟨g, 0, none⟩) c' (l ++ [d]) → Keeps (fun i => (Value.slice A l.length c).ownBlock = some i) w w' → K (a.put o.dst (.slice (some ⟨g, 0, none⟩) (l.length + 1) c')) w') : o.wp P a w K Q := by
  obtain ⟨rows, h1, h2, h3, h4⟩ := hN
  refine wp_append_lies w s x t ho 0 41 i z 9 104 ht hi hz hsize hby hzs (by decide) _ l.length (flat rows) hs h2 ⟨b, 0, none⟩ 1 q (d.cells (.slice none 0 0)) hx rfl ?_ ?_ (by decide) (by unfold maxLen; omega) (by omega) (Nat.zero_le _) _ rfl ?_
  · exact World.news_of_block hb
  · intro u hu
    exact flat_one (rows := [(d, .slice none 0 0)]) (fun p hp => by obtain rfl := List.mem_singleton.1 hp; rfl) u (by simpa [flat] using hu)
  · intro g c' w' ho' hg hat _
    refine h g c' w' ⟨rows ++ [(d, .slice none 0 0)], by simp [h1], ?_, fun p hp => ?_, fun b off s e => ?_⟩ (Keeps.of_grown hg)
    · rw [List.length_append, flat_append]
      have : flat [(d, Value.slice none 0 0)] = d.cells (.slice none 0 0) := by simp [flat]
      rw [this]
      exact ho'
    · rcases List.mem_append.1 hp with hp | hp
      · exact ⟨own_kept (h3 p hp).1 (Keeps.of_grown hg) fun g hg' e => kids_apart (h3 p hp) h2 (by decide) hg' e, (h3 p hp).2⟩
      · obtain rfl := List.mem_singleton.1 hp
        show Kids G w' _ d.kids
        rw [hd]
        exact ⟨World.ownsRow_nil _ _ _ _, fun _ h => absurd h (by simp [Value.ownBlock])⟩
    · obtain ⟨rfl, _, _⟩ : g = b ∧ 0 = off ∧ none = s := by simpa using e
      rcases hat with hat | rfl
      · cases A with
        | none => cases hat
        | some a =>
          obtain rfl : a.block = g := by simpa [Value.ownBlock] using hat
          exact h4 _ _ _ rfl
      · exact hG _ (Nat.le_refl _)
end

/-- What fitsMode asks, what fitsSlot asks. -/
def modeOk (k m : Int) : Bool := if k = 3 then decide (m = 1 ∨ m = 2) else decide (m = 0)
def slotOk (k : Int) (sl : Bool) (na wa : ByteArray) : Bool := !((decide (k ≠ 2) && (sl || !wa.toList.isEmpty)) || (!sl && !na.toList.isEmpty) || !okName na || !okName wa)
section
variable {k pa ho sh m : Int} {sl : Bool} {na wa : ByteArray} {kv : Value} {w : World}
set_option maxHeartbeats 1000000 in
theorem arMode {x : Bool} (hx : modeOk k m = x) : Calls Try.prog 41 #[.agg #[.int .i64 k, .int .i64 pa, .int .i64 ho, .int .i64 sh, .int .i64 m, .bool sl, .string na, .string wa, kv]] w fun e w' => e = .returned (.bool x) ∧ Below w.heap.size w w' := by
  have hb : Below w.heap.size w (w.alloc (.cells #[.int .i64 k, .int .i64 pa, .int .i64 ho, .int .i64 sh, .int .i64 m, .bool sl, .string na, .string wa, kv] 41)) := (Below.refl _ w).alloc (Nat.le_refl _) _
  subst hx
  by_cases h3 : k = 3
  · subst h3
    by_cases h1 : m = 1
    · subst h1
      have e : modeOk 3 1 = true := rfl
      rw [e]
      go_enter Try.func41, Try.ntmps41
      go_wp2
      go_ret
      exact ⟨rfl, hb⟩
    · have z1 : (m == 1) = false := by simpa using h1
      by_cases h2 : m = 2
      · subst h2
        have e : modeOk 3 2 = true := rfl
        rw [e]
        clear z1
        go_enter Try.func41, Try.ntmps41
        go_wp2
        go_ret
        exact ⟨rfl, hb⟩
      · have z2 : (m == 2) = false := by simpa using h2
        have e : modeOk 3 m = false := by simp [modeOk, h1, h2]
        rw [e]
        go_enter Try.func41, Try.ntmps41
        go_wp2
        go_ret
        exact ⟨rfl, hb⟩
  · have z3 : (k == 3) = false := by simpa using h3
    by_cases h0 : m = 0
    · subst h0
      have e : modeOk k 0 = true := by simp [modeOk, h3]
      rw [e]
      go_enter Try.func41, Try.ntmps41
      go_wp2
      go_ret
      exact ⟨rfl, hb⟩
    · have z0 : (m == 0) = false := by simpa using h0
      have e : modeOk k m = false := by simp [modeOk, h3, h0]
      rw [e]
      go_enter Try.func41, Try.ntmps41
      go_wp2
      go_ret
      exact ⟨rfl, hb⟩

set_option maxHeartbeats 4000000 in
theorem arSlot {x : Bool} (hx : slotOk k sl na wa = x) (hna : na.size ≤ 9223372036854775807) (hwa : wa.size ≤ 9223372036854775807) : Calls Try.prog 42 #[.agg #[.int .i64 k, .int .i64 pa, .int .i64 ho, .int .i64 sh, .int .i64 m, .bool sl, .string na, .string wa, kv]] w fun e w' => e = .returned (.bool x) ∧ Below w.heap.size w w' := by
  have hb : Below w.heap.size w (w.alloc (.cells #[.int .i64 k, .int .i64 pa, .int .i64 ho, .int .i64 sh, .int .i64 m, .bool sl, .string na, .string wa, kv] 41)) := (Below.refl _ w).alloc (Nat.le_refl _) _
  have c7 : (w.alloc (.cells #[.int .i64 k, .int .i64 pa, .int .i64 ho, .int .i64 sh, .int .i64 m, .bool sl, .string na, .string wa, kv] 41)).cell? ⟨w.heap.size, 7, none⟩ = some (.string wa) := Has.cell (Has.fresh _ _) 7
  have hnot : ∀ (x : Bool) (w : World), (Op.unary .not (.bool x)).run Try.prog w = .ok (.bool (!x)) w := fun _ _ => rfl
  subst hx
  have HB := Lib.hid hb
  have HC := Lib.hid c7
  clear hb c7
  by_cases h2 : k = 2
  · subst h2
    cases hn : na.toList.isEmpty with
    | true =>
      cases ho1 : okName na with
      | false =>
        have : okName na = true := okName_empty hn
        rw [ho1] at this
        cases this
      | true =>
        cases ho2 : okName wa with
        | false =>
          have e : slotOk 2 sl na wa = false := by simp [slotOk, ho2]
          rw [e]
          have H1 := Lib.hid ho1
          have H2 := Lib.hid ho2
          clear e ho1 ho2
          go_enter Try.func42, Try.ntmps42
          go_wp2_with fail
          refine (arFits na _ hna H1.out).mono ?_
          rintro e w1 ⟨rfl, hb1⟩
          have c71 := (hb1.cell (p := ⟨w.heap.size, 7, none⟩) (by simp)).trans HC.out
          go_wp2_with fail
          refine (arFits wa _ hwa H2.out).mono ?_
          rintro e w2 ⟨rfl, hb2⟩
          go_wp2
          go_ret
          have hbb := HB.out.trans (hb1.mono HB.out.size)
          exact ⟨rfl, hbb.trans (hb2.mono hbb.size)⟩
        | true =>
          have e : slotOk 2 sl na wa = true := by simp [slotOk, ho1, ho2, hn]
          rw [e]
          have H1 := Lib.hid ho1
          have H2 := Lib.hid ho2
          clear e ho1 ho2
          go_enter Try.func42, Try.ntmps42
          go_wp2_with fail
          refine (arFits na _ hna H1.out).mono ?_
          rintro e w1 ⟨rfl, hb1⟩
          have c71 := (hb1.cell (p := ⟨w.heap.size, 7, none⟩) (by simp)).trans HC.out
          go_wp2_with fail
          refine (arFits wa _ hwa H2.out).mono ?_
          rintro e w2 ⟨rfl, hb2⟩
          go_wp2
          go_ret
          have hbb := HB.out.trans (hb1.mono HB.out.size)
          exact ⟨rfl, hbb.trans (hb2.mono hbb.size)⟩
    | false =>
      cases sl with
      | false =>
        have e : slotOk 2 false na wa = false := by simp [slotOk, hn]
        rw [e]
        clear e
        go_enter Try.func42, Try.ntmps42
        go_wp2
        go_ret
        exact ⟨rfl, HB.out⟩
      | true =>
        cases ho1 : okName na with
        | false =>
          have e : slotOk 2 true na wa = false := by simp [slotOk, ho1]
          rw [e]
          have H1 := Lib.hid ho1
          clear e ho1
          go_enter Try.func42, Try.ntmps42
          go_wp2_with fail
          refine (arFits na _ hna H1.out).mono ?_
          rintro e w1 ⟨rfl, hb1⟩
          go_wp2
          go_ret
          exact ⟨rfl, HB.out.trans (hb1.mono HB.out.size)⟩
        | true =>
          cases ho2 : okName wa with
          | false =>
            have e : slotOk 2 true na wa = false := by simp [slotOk, ho2]
            rw [e]
            have H1 := Lib.hid ho1
            have H2 := Lib.hid ho2
            clear e ho1 ho2
            go_enter Try.func42, Try.ntmps42
            go_wp2_with fail
            refine (arFits na _ hna H1.out).mono ?_
            rintro e w1 ⟨rfl, hb1⟩
            have c71 := (hb1.cell (p := ⟨w.heap.size, 7, none⟩) (by simp)).trans HC.out
            go_wp2_with fail
            refine (arFits wa _ hwa H2.out).mono ?_
            rintro e w2 ⟨rfl, hb2⟩
            go_wp2
            go_ret
            have hbb := HB.out.trans (hb1.mono HB.out.size)
            exact ⟨rfl, hbb.trans (hb2.mono hbb.size)⟩
          | true =>
            have e : slotOk 2 true na wa = true := by simp [slotOk, ho1, ho2]
            rw [e]
            have H1 := Lib.hid ho1
            have H2 := Lib.hid ho2
            clear e ho1 ho2
            go_enter Try.func42, Try.ntmps42
            go_wp2_with fail
            refine (arFits na _ hna H1.out).mono ?_
            rintro e w1 ⟨rfl, hb1⟩
            have c71 := (hb1.cell (p := ⟨w.heap.size, 7, none⟩) (by simp)).trans HC.out
            go_wp2_with fail
            refine (arFits wa _ hwa H2.out).mono ?_
            rintro e w2 ⟨rfl, hb2⟩
            go_wp2
            go_ret
            have hbb := HB.out.trans (hb1.mono HB.out.size)
            exact ⟨rfl, hbb.trans (hb2.mono hbb.size)⟩
  · have z2 : (k == 2) = false := by simpa using h2
    have z2' : (k != 2) = true := by simpa using h2
    cases sl with
    | true =>
      have e : slotOk k true na wa = false := by simp [slotOk, h2]
      rw [e]
      clear e
      go_enter Try.func42, Try.ntmps42
      go_wp2
      go_ret
      exact ⟨rfl, HB.out⟩
    | false =>
      cases hw : wa.toList.isEmpty with
      | false =>
        have e : slotOk k false na wa = false := by simp [slotOk, h2, hw]
        rw [e]
        clear e
        go_enter Try.func42, Try.ntmps42
        go_wp2
        go_ret
        exact ⟨rfl, HB.out⟩
      | true =>
        cases hn : na.toList.isEmpty with
        | false =>
          have e : slotOk k false na wa = false := by simp [slotOk, hn]
          rw [e]
          clear e
          go_enter Try.func42, Try.ntmps42
          go_wp2
          go_ret
          exact ⟨rfl, HB.out⟩
        | true =>
          have ho1 : okName na = true := okName_empty hn
          have ho2 : okName wa = true := okName_empty hw
          have e : slotOk k false na wa = true := by simp [slotOk, ho1, ho2, hn, hw]
          rw [e]
          have H1 := Lib.hid ho1
          have H2 := Lib.hid ho2
          clear e ho1 ho2
          go_enter Try.func42, Try.ntmps42
          go_wp2_with fail
          refine (arFits na _ hna H1.out).mono ?_
          rintro e w1 ⟨rfl, hb1⟩
          have c71 := (hb1.cell (p := ⟨w.heap.size, 7, none⟩) (by simp)).trans HC.out
          go_wp2_with fail
          refine (arFits wa _ hwa H2.out).mono ?_
          rintro e w2 ⟨rfl, hb2⟩
          go_wp2
          go_ret
          have hbb := HB.out.trans (hb1.mono HB.out.size)
          exact ⟨rfl, hbb.trans (hb2.mono hbb.size)⟩
end
end Go.Proofs.Ytkafaceanlkjjaa
