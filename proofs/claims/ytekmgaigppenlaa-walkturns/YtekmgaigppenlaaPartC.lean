/-
  What towncrierref04.Make does.
  What towncrierref04.Put does.
  What towncrierref04.Do does.
  Calls on a forest that came in: a list of them, each with its text, its node and its list of numbers, read cell by cell.
-/
import Derived.Test.YtekmgaigppenlaaPartB

namespace Go.Proofs.Ytekmgaigppenlaa
open Go Go.RowKit
variable {G : Nat → Prop}

section
variable {w w' : World} {B c : Nat} {A : Option Addr} {l : List Nd} {d : Nd}
theorem kids_apart {v v' : Value} {xs : List Int} {us : List Value} {base n size : Nat} {t : TypeId} (h : Kids G w v xs) (h' : w.ownsRow base t size v' n us) (ht : t ≠ 3) {g : Nat} (hg : v.ownBlock = some g) : v'.ownBlock ≠ some g := fun e => by
  rcases h.1.2 with ⟨rfl, _⟩ | ⟨g1, cap, cur, rfl, _, hh, _⟩
  · cases hg
  rcases h'.2 with ⟨rfl, _⟩ | ⟨g2, cap2, cur2, rfl, _, hh2, _⟩
  · cases e
  obtain rfl : g1 = g := by simpa [Value.ownBlock] using hg
  obtain rfl : g2 = g1 := by simpa [Value.ownBlock] using e
  exact Has.apart hh2 hh (fun e => ht (by injection e)) rfl
/-- A node without children is put behind. -/
theorem wp_push {P : Program} {o : Oper} {a : Act} {K : Act → World → Prop} {Q : Exit → Act → World → Prop} (s x : Operand) (t : TypeId)
    (ho : o.op = .call { callee := .builtin .append, args := #[s, x], argTypes := #[t, t] }) (i : TypeInfo) (z : Value) (ht : P.underlying t = some (.slice 57)) (hi : P.info? 57 = some i) (hz : i.zero = some z)
    (hsize : i.size = 9) (hby : i.bytes = 104) (hzs : z.cells.size = 9) (hs : a.eval s = .slice A l.length c) (hN : Nodes G w B A c l) {b q : Nat} (hx : a.eval x = .slice (some ⟨b, 0, none⟩) 1 q) {fr : Nat × Nat}
    (hb : Has w b (.cells (d.cells (.slice none 0 0)).toArray 57 fr)) (hd : d.kids = []) (hl : l.length ≤ 1000) (hB : B ≤ w.heap.size) (hG : Fut G B)
    (h : ∀ A' c' w', Nodes G w' B A' c' (l ++ [d]) → Keeps (fun i => B ≤ i) w w' → K (a.put o.dst (.slice A' (l.length + 1) c')) w') : o.wp P a w K Q := by
  obtain ⟨rows, h1, h2, h3, -⟩ := hN
  refine wp_append_own w s x t ho B 57 i z 9 104 ht hi hz hsize hby hzs (by decide) _ l.length (flat rows) hs h2 ⟨b, 0, none⟩ 1 q (d.cells (.slice none 0 0)) hx rfl ?_ ?_ (by unfold maxLen; omega) (by omega) hB ?_
  · exact World.news_of_block hb
  · intro u hu
    exact flat_one (rows := [(d, .slice none 0 0)]) (fun p hp => by obtain rfl := List.mem_singleton.1 hp; rfl) u (by simpa [flat] using hu)
  · intro v' w' ho' hg _
    obtain ⟨A', c', rfl, _⟩ := own_form ho'
    refine h A' c' w' ⟨rows ++ [(d, .slice none 0 0)], by simp [h1], ?_, fun p hp => ?_, fun b off s e => by subst e; exact hG b (ho'.lt b rfl).1⟩ ((Keeps.of_grown hg).wide fun i _ e => (h2.lt i e).1)
    · rw [List.length_append, flat_append]
      have : flat [(d, Value.slice none 0 0)] = d.cells (.slice none 0 0) := by simp [flat]
      rw [this]
      exact ho'
    · rcases List.mem_append.1 hp with hp | hp
      · exact ⟨own_kept (h3 p hp).1 (Keeps.of_grown hg) fun g hg' e => kids_apart (h3 p hp) h2 (by decide) hg' e, (h3 p hp).2⟩
      · obtain rfl := List.mem_singleton.1 hp
        show Kids G w' _ d.kids
        rw [hd]
        exact ⟨World.ownsRow_nil _ _ _ _, fun _ h => absurd h (by simp [Value.ownBlock])⟩
end

section
variable {n : Nat} {k pa ho sh m : Int} {sl : Bool} {na wa : ByteArray} {ks : List Int}
theorem mkErr_kind (h : k < 1 ∨ 4 < k) : mkErr n ⟨k, pa, ho, sh, m, sl, na, wa, ks⟩ = 2 := by unfold mkErr; rw [if_pos h]
theorem mkErr_mode (h0 : 1 ≤ k) (h1 : k ≤ 4) (h : (k = 3 ∧ m ≠ 1 ∧ m ≠ 2) ∨ (k ≠ 3 ∧ m ≠ 0)) : mkErr n ⟨k, pa, ho, sh, m, sl, na, wa, ks⟩ = 1 := by unfold mkErr; rw [if_neg (by show ¬ (k < 1 ∨ 4 < k); omega), if_pos h]
theorem mkErr_name (h0 : 1 ≤ k) (h1 : k ≤ 4) (h2 : ¬ ((k = 3 ∧ m ≠ 1 ∧ m ≠ 2) ∨ (k ≠ 3 ∧ m ≠ 0))) (h : (k ≠ 2 ∧ (sl = true ∨ wa.toList.isEmpty = false)) ∨ (sl = false ∧ na.toList.isEmpty = false) ∨ okName na = false ∨ okName wa = false) :
    mkErr n ⟨k, pa, ho, sh, m, sl, na, wa, ks⟩ = 1 := by unfold mkErr; rw [if_neg (by show ¬ (k < 1 ∨ 4 < k); omega), if_neg h2, if_pos h]
theorem mkErr_rest (h0 : 1 ≤ k) (h1 : k ≤ 4) (h2 : ¬ ((k = 3 ∧ m ≠ 1 ∧ m ≠ 2) ∨ (k ≠ 3 ∧ m ≠ 0))) (h : ¬ ((k ≠ 2 ∧ (sl = true ∨ wa.toList.isEmpty = false)) ∨ (sl = false ∧ na.toList.isEmpty = false) ∨ okName na = false ∨ okName wa = false)) :
    mkErr n ⟨k, pa, ho, sh, m, sl, na, wa, ks⟩ = if 128 ≤ n then 9 else 0 := by unfold mkErr; rw [if_neg (by show ¬ (k < 1 ∨ 4 < k); omega), if_neg h2, if_neg h]
theorem okName_empty {s : ByteArray} (h : s.toList.isEmpty = true) : okName s = true := by unfold okName; rw [h]; rfl
end

/-- What is read of the node that came in. -/
def Box (b : Nat) (k m : Int) (sl : Bool) (na wa : ByteArray) (w : World) : Prop := w.cell? ⟨b, 0, none⟩ = some (.int .i64 k) ∧ w.cell? ⟨b, 5, none⟩ = some (.bool sl) ∧ w.cell? ⟨b, 6, none⟩ = some (.string na) ∧ w.cell? ⟨b, 7, none⟩ = some (.string wa) ∧ w.cell? ⟨b, 4, none⟩ = some (.int .i64 m)
theorem Box.of {b : Nat} {k pa ho sh m : Int} {sl : Bool} {na wa : ByteArray} {kv : Value} {t : TypeId} {fr : Nat × Nat} {w : World} (h : Has w b (.cells #[.int .i64 k, .int .i64 pa, .int .i64 ho, .int .i64 sh, .int .i64 m, .bool sl, .string na, .string wa, kv] t fr)) : Box b k m sl na wa w :=
  ⟨Has.cell h 0, Has.cell h 5, Has.cell h 6, Has.cell h 7, Has.cell h 4⟩
/-- The nodes then, a number, an error's number. -/
def Gave3 (G : Nat → Prop) (w : World) (l' : List Nd) (no err : Int) (e : Ending) (w' : World) : Prop := ∃ A' c', e = .returned (.tuple #[.slice A' l'.length c', .int .i64 no, .int .i64 err]) ∧ Nodes G w' 0 A' c' l' ∧ Below w.heap.size w w'
theorem Gave3.err {w w' : World} {l : List Nd} {A : Option Addr} {c : Nat} {d : Nd} {e : Int} (he : mkErr l.length d = e) (h0 : e ≠ 0) (h : Nodes G w 0 A c l) (hb : Below w.heap.size w w') : Gave3 G w (mkL l d) (mkNo l d) (mkErr l.length d) (.returned (.tuple #[.slice A l.length c, .int .i64 0, .int .i64 e])) w' := by
  unfold mkL mkNo
  rw [he, if_neg h0, if_neg h0]
  exact ⟨_, _, rfl, h.below hb, hb⟩

set_option maxHeartbeats 4000000 in
set_option maxRecDepth 100000 in
theorem make_kind (l : List Nd) (A : Option Addr) (c : Nat) (k pa ho sh m : Int) (sl : Bool) (na wa : ByteArray) (ks : List Int) (kv : Value) (w : World) (hN : Nodes G w 0 A c l) (hkd : k < 1 ∨ 4 < k) :
    Calls Try.prog 46 #[.slice A l.length c, .agg #[.int .i64 k, .int .i64 pa, .int .i64 ho, .int .i64 sh, .int .i64 m, .bool sl, .string na, .string wa, kv]] w (Gave3 G w (mkL l ⟨k, pa, ho, sh, m, sl, na, wa, ks⟩) (mkNo l ⟨k, pa, ho, sh, m, sl, na, wa, ks⟩) (mkErr l.length ⟨k, pa, ho, sh, m, sl, na, wa, ks⟩)) := by
  have H := Lib.hid hN
  clear hN
  have hnot : ∀ (x : Bool) (w : World), (Op.unary .not (.bool x)).run Try.prog w = .ok (.bool (!x)) w := fun _ _ => rfl
  have hbb : Below w.heap.size w (w.alloc (.cells #[.int .i64 k, .int .i64 pa, .int .i64 ho, .int .i64 sh, .int .i64 m, .bool sl, .string na, .string wa, kv] 57)) := (Below.refl _ w).alloc (Nat.le_refl _) _
  rcases hkd with h1 | h1
  · have f1 : decide (k < 1) = true := decide_eq_true h1
    go_enter Try.func46, Try.ntmps46
    go_wp2
    go_ret3
    exact Gave3.err (mkErr_kind (.inl h1)) (by decide) H.out hbb
  · have f1 : decide (k < 1) = false := decide_eq_false (by omega)
    have f2 : decide (4 < k) = true := decide_eq_true h1
    go_enter Try.func46, Try.ntmps46
    go_wp2
    go_ret3
    exact Gave3.err (mkErr_kind (.inr h1)) (by decide) H.out hbb
set_option maxHeartbeats 4000000 in
set_option maxRecDepth 100000 in
theorem make_mode (l : List Nd) (A : Option Addr) (c : Nat) (k pa ho sh m : Int) (sl : Bool) (na wa : ByteArray) (ks : List Int) (kv : Value) (w : World) (hN : Nodes G w 0 A c l) (h0 : 1 ≤ k) (h4 : k ≤ 4) (hmd : (k = 3 ∧ m ≠ 1 ∧ m ≠ 2) ∨ (k ≠ 3 ∧ m ≠ 0)) :
    Calls Try.prog 46 #[.slice A l.length c, .agg #[.int .i64 k, .int .i64 pa, .int .i64 ho, .int .i64 sh, .int .i64 m, .bool sl, .string na, .string wa, kv]] w (Gave3 G w (mkL l ⟨k, pa, ho, sh, m, sl, na, wa, ks⟩) (mkNo l ⟨k, pa, ho, sh, m, sl, na, wa, ks⟩) (mkErr l.length ⟨k, pa, ho, sh, m, sl, na, wa, ks⟩)) := by
  have H := Lib.hid hN
  clear hN
  have hnot : ∀ (x : Bool) (w : World), (Op.unary .not (.bool x)).run Try.prog w = .ok (.bool (!x)) w := fun _ _ => rfl
  have hbb : Below w.heap.size w (w.alloc (.cells #[.int .i64 k, .int .i64 pa, .int .i64 ho, .int .i64 sh, .int .i64 m, .bool sl, .string na, .string wa, kv] 57)) := (Below.refl _ w).alloc (Nat.le_refl _) _
  have f1 : decide (k < 1) = false := decide_eq_false (by omega)
  have f2 : decide (4 < k) = false := decide_eq_false (by omega)
  have hE := Lib.hid (mkErr_mode (n := l.length) (pa := pa) (ho := ho) (sh := sh) (sl := sl) (na := na) (wa := wa) (ks := ks) h0 h4 hmd)
  rcases hmd with ⟨h1, h2, h3⟩ | ⟨h1, h2⟩
  · subst h1
    have f4 : (m == 1) = false := by simpa using h2
    have f5 : (m == 2) = false := by simpa using h3
    go_enter Try.func46, Try.ntmps46
    go_wp2
    go_ret3
    exact Gave3.err hE.out (by decide) H.out hbb
  · have f3 : (k == 3) = false := by simpa using h1
    have f4 : (m == 0) = false := by simpa using h2
    have f5 : (k != 3) = true := by simpa using h1
    have f6 : (m != 0) = true := by simpa using h2
    go_enter Try.func46, Try.ntmps46
    go_wp2
    go_ret3
    exact Gave3.err hE.out (by decide) H.out hbb
set_option maxHeartbeats 8000000 in
set_option maxRecDepth 100000 in
theorem make_name (l : List Nd) (A : Option Addr) (c : Nat) (k pa ho sh m : Int) (sl : Bool) (na wa : ByteArray) (ks : List Int) (kv : Value) (w : World) (hna : na.size ≤ 9223372036854775807) (hwa : wa.size ≤ 9223372036854775807) (hN : Nodes G w 0 A c l) (h0 : 1 ≤ k) (h4 : k ≤ 4) (hmd : ¬ ((k = 3 ∧ m ≠ 1 ∧ m ≠ 2) ∨ (k ≠ 3 ∧ m ≠ 0)))
    (hnm : (k ≠ 2 ∧ (sl = true ∨ wa.toList.isEmpty = false)) ∨ (sl = false ∧ na.toList.isEmpty = false) ∨ okName na = false ∨ okName wa = false) :
    Calls Try.prog 46 #[.slice A l.length c, .agg #[.int .i64 k, .int .i64 pa, .int .i64 ho, .int .i64 sh, .int .i64 m, .bool sl, .string na, .string wa, kv]] w (Gave3 G w (mkL l ⟨k, pa, ho, sh, m, sl, na, wa, ks⟩) (mkNo l ⟨k, pa, ho, sh, m, sl, na, wa, ks⟩) (mkErr l.length ⟨k, pa, ho, sh, m, sl, na, wa, ks⟩)) := by
  have H := Lib.hid hN
  clear hN
  have hnot : ∀ (x : Bool) (w : World), (Op.unary .not (.bool x)).run Try.prog w = .ok (.bool (!x)) w := fun _ _ => rfl
  have hbb : Below w.heap.size w (w.alloc (.cells #[.int .i64 k, .int .i64 pa, .int .i64 ho, .int .i64 sh, .int .i64 m, .bool sl, .string na, .string wa, kv] 57)) := (Below.refl _ w).alloc (Nat.le_refl _) _
  have f1 : decide (k < 1) = false := decide_eq_false (by omega)
  have f2 : decide (4 < k) = false := decide_eq_false (by omega)
  have hE := Lib.hid (mkErr_name (n := l.length) (pa := pa) (ho := ho) (sh := sh) (ks := ks) h0 h4 hmd hnm)
  have hms : (k = 3 ∧ m = 1) ∨ (k = 3 ∧ m = 2) ∨ ((k == 3) = false ∧ (k == 2) = false ∧ m = 0 ∧ (k != 3) = true ∧ (k != 2) = true) ∨ (k = 2 ∧ m = 0) := by
    simp only [beq_eq_false_iff_ne, bne_iff_ne]
    omega
  have Hnm := Lib.hid hnm
  clear hmd h0 h4 hnm
  rcases hms with ⟨rfl, rfl⟩ | ⟨rfl, rfl⟩ | ⟨m1, m3, rfl, m4, m5⟩ | ⟨rfl, rfl⟩
  · cases sl with
    | true =>
      go_enter Try.func46, Try.ntmps46
      go_wp2
      go_ret3
      exact Gave3.err hE.out (by decide) H.out hbb
    | false =>
      cases hw : wa.toList.isEmpty with
      | false =>
        go_enter Try.func46, Try.ntmps46
        go_wp2
        go_ret3
        exact Gave3.err hE.out (by decide) H.out hbb
      | true =>
        cases hn : na.toList.isEmpty with
        | false =>
          go_enter Try.func46, Try.ntmps46
          go_wp2
          go_ret3
          exact Gave3.err hE.out (by decide) H.out hbb
        | true =>
          exfalso
          have q1 := okName_empty hn
          have q2 := okName_empty hw
          rcases Hnm.out with ⟨_, q | q⟩ | ⟨_, q⟩ | q | q
          all_goals simp_all
  · cases sl with
    | true =>
      go_enter Try.func46, Try.ntmps46
      go_wp2
      go_ret3
      exact Gave3.err hE.out (by decide) H.out hbb
    | false =>
      cases hw : wa.toList.isEmpty with
      | false =>
        go_enter Try.func46, Try.ntmps46
        go_wp2
        go_ret3
        exact Gave3.err hE.out (by decide) H.out hbb
      | true =>
        cases hn : na.toList.isEmpty with
        | false =>
          go_enter Try.func46, Try.ntmps46
          go_wp2
          go_ret3
          exact Gave3.err hE.out (by decide) H.out hbb
        | true =>
          exfalso
          have q1 := okName_empty hn
          have q2 := okName_empty hw
          rcases Hnm.out with ⟨_, q | q⟩ | ⟨_, q⟩ | q | q
          all_goals simp_all
  · cases sl with
    | true =>
      go_enter Try.func46, Try.ntmps46
      go_wp2
      go_ret3
      exact Gave3.err hE.out (by decide) H.out hbb
    | false =>
      cases hw : wa.toList.isEmpty with
      | false =>
        go_enter Try.func46, Try.ntmps46
        go_wp2
        go_ret3
        exact Gave3.err hE.out (by decide) H.out hbb
      | true =>
        cases hn : na.toList.isEmpty with
        | false =>
          go_enter Try.func46, Try.ntmps46
          go_wp2
          go_ret3
          exact Gave3.err hE.out (by decide) H.out hbb
        | true =>
          exfalso
          have q1 := okName_empty hn
          have q2 := okName_empty hw
          rcases Hnm.out with ⟨_, q | q⟩ | ⟨_, q⟩ | q | q
          all_goals simp_all
  · cases sl with
    | true =>
      cases hn : okName na with
      | false =>
        have Hn := Lib.hid hn
        clear hn
        go_enter Try.func46, Try.ntmps46
        go_wp2_with fail
        refine (named_any na _ hna).mono ?_
        rintro e w1 ⟨rfl, rfl⟩
        rw [Hn.out]
        go_wp2
        go_ret3
        exact Gave3.err hE.out (by decide) H.out hbb
      | true =>
        cases hw : okName wa with
        | false =>
          have Hn := Lib.hid hn
          have Hw := Lib.hid hw
          clear hn hw
          go_enter Try.func46, Try.ntmps46
          go_wp2_with fail
          refine (named_any na _ hna).mono ?_
          rintro e w1 ⟨rfl, rfl⟩
          rw [Hn.out]
          go_wp2_with fail
          refine (named_any wa _ hwa).mono ?_
          rintro e w1 ⟨rfl, rfl⟩
          rw [Hw.out]
          go_wp2
          go_ret3
          exact Gave3.err hE.out (by decide) H.out hbb
        | true =>
          exfalso
          rcases Hnm.out with ⟨q, _⟩ | ⟨q, _⟩ | q | q
          all_goals simp_all
    | false =>
      cases hn : na.toList.isEmpty with
      | false =>
        go_enter Try.func46, Try.ntmps46
        go_wp2
        go_ret3
        exact Gave3.err hE.out (by decide) H.out hbb
      | true =>
        cases hw : okName wa with
        | false =>
          have Hn := Lib.hid (okName_empty hn)
          have Hw := Lib.hid hw
          clear hw
          go_enter Try.func46, Try.ntmps46
          go_wp2_with fail
          refine (named_any na _ hna).mono ?_
          rintro e w1 ⟨rfl, rfl⟩
          rw [Hn.out]
          go_wp2_with fail
          refine (named_any wa _ hwa).mono ?_
          rintro e w1 ⟨rfl, rfl⟩
          rw [Hw.out]
          go_wp2
          go_ret3
          exact Gave3.err hE.out (by decide) H.out hbb
        | true =>
          exfalso
          have q1 := okName_empty hn
          rcases Hnm.out with ⟨q, _⟩ | ⟨_, q⟩ | q | q
          all_goals simp_all
set_option linter.unusedSimpArgs false in
set_option maxHeartbeats 8000000 in
set_option maxRecDepth 100000 in
theorem make_rest (l : List Nd) (A : Option Addr) (c : Nat) (k pa ho sh m : Int) (sl : Bool) (na wa : ByteArray) (ks : List Int) (kv : Value) (w : World) (hna : na.size ≤ 9223372036854775807) (hwa : wa.size ≤ 9223372036854775807) (hl : l.length ≤ 1000) (hk : ∀ d ∈ l, d.kids.length ≤ 100000) (hG : Fut G w.heap.size) (hN : Nodes G w 0 A c l) (h0 : 1 ≤ k) (h4 : k ≤ 4) (hmd : ¬ ((k = 3 ∧ m ≠ 1 ∧ m ≠ 2) ∨ (k ≠ 3 ∧ m ≠ 0)))
    (hnm : ¬ ((k ≠ 2 ∧ (sl = true ∨ wa.toList.isEmpty = false)) ∨ (sl = false ∧ na.toList.isEmpty = false) ∨ okName na = false ∨ okName wa = false)) :
    Calls Try.prog 46 #[.slice A l.length c, .agg #[.int .i64 k, .int .i64 pa, .int .i64 ho, .int .i64 sh, .int .i64 m, .bool sl, .string na, .string wa, kv]] w (Gave3 G w (mkL l ⟨k, pa, ho, sh, m, sl, na, wa, ks⟩) (mkNo l ⟨k, pa, ho, sh, m, sl, na, wa, ks⟩) (mkErr l.length ⟨k, pa, ho, sh, m, sl, na, wa, ks⟩)) := by
  have H := Lib.hid hN
  clear hN
  have hnot : ∀ (x : Bool) (w : World), (Op.unary .not (.bool x)).run Try.prog w = .ok (.bool (!x)) w := fun _ _ => rfl
  have hbb : Below w.heap.size w (w.alloc (.cells #[.int .i64 k, .int .i64 pa, .int .i64 ho, .int .i64 sh, .int .i64 m, .bool sl, .string na, .string wa, kv] 57)) := (Below.refl _ w).alloc (Nat.le_refl _) _
  have f1 : decide (k < 1) = false := decide_eq_false (by omega)
  have f2 : decide (4 < k) = false := decide_eq_false (by omega)
  have hE := Lib.hid (mkErr_rest (n := l.length) (pa := pa) (ho := ho) (sh := sh) (ks := ks) h0 h4 hmd hnm)
  have hms : (k = 3 ∧ m = 1) ∨ (k = 3 ∧ m = 2) ∨ ((k == 3) = false ∧ (k == 2) = false ∧ m = 0 ∧ (k != 3) = true ∧ (k != 2) = true) ∨ (k = 2 ∧ m = 0) := by
    simp only [beq_eq_false_iff_ne, bne_iff_ne]
    omega
  have hn : okName na = true := by
    cases h : okName na with
    | true => rfl
    | false => exact absurd (.inr (.inr (.inl h))) hnm
  have hw : okName wa = true := by
    cases h : okName wa with
    | true => rfl
    | false => exact absurd (.inr (.inr (.inr h))) hnm
  have hs1 : sl = false → na.toList.isEmpty = true := fun h => by
    cases h' : na.toList.isEmpty with
    | true => rfl
    | false => exact absurd (.inr (.inl ⟨h, h'⟩)) hnm
  have hs2 : (k == 2) = false → sl = false ∧ wa.toList.isEmpty = true := fun h => by
    have h2 : k ≠ 2 := by simpa using h
    cases h' : wa.toList.isEmpty with
    | false => exact absurd (.inl ⟨h2, .inr h'⟩) hnm
    | true =>
      cases h'' : sl with
      | true => exact absurd (.inl ⟨h2, .inl h''⟩) hnm
      | false => exact ⟨rfl, rfl⟩
  have Hn := Lib.hid hn
  have Hw := Lib.hid hw
  have Hk := Lib.hid hk
  clear hmd h0 h4 hnm hn hw hk
  obtain ⟨j0, qi, qz0, qz1, qz2⟩ := info_parts Try.infoNode
  have Qi := Lib.hid qi
  have Qz0 := Lib.hid qz0
  have Qz1 := Lib.hid qz1
  have Qz2 := Lib.hid qz2
  clear qi qz0 qz1 qz2
  by_cases hfull : 128 ≤ l.length
  · have hfull' : (128 : Int) ≤ l.length := by omega
    rw [if_pos hfull] at hE
    rcases hms with ⟨rfl, rfl⟩ | ⟨rfl, rfl⟩ | ⟨m1, m3, rfl, m4, m5⟩ | ⟨rfl, rfl⟩
    · obtain ⟨rfl, hwe⟩ := hs2 rfl
      have hne := hs1 rfl
      clear hs1 hs2
      go_enter Try.func46, Try.ntmps46
      go_wp2_with fail
      refine (named_any na _ hna).mono ?_
      rintro e w1 ⟨rfl, rfl⟩
      rw [Hn.out]
      go_wp2_with fail
      refine (named_any wa _ hwa).mono ?_
      rintro e w1 ⟨rfl, rfl⟩
      rw [Hw.out]
      go_wp2
      go_ret3
      exact Gave3.err hE.out (by decide) H.out hbb
    · obtain ⟨rfl, hwe⟩ := hs2 rfl
      have hne := hs1 rfl
      clear hs1 hs2
      go_enter Try.func46, Try.ntmps46
      go_wp2_with fail
      refine (named_any na _ hna).mono ?_
      rintro e w1 ⟨rfl, rfl⟩
      rw [Hn.out]
      go_wp2_with fail
      refine (named_any wa _ hwa).mono ?_
      rintro e w1 ⟨rfl, rfl⟩
      rw [Hw.out]
      go_wp2
      go_ret3
      exact Gave3.err hE.out (by decide) H.out hbb
    · obtain ⟨rfl, hwe⟩ := hs2 m3
      have hne := hs1 rfl
      clear hs1 hs2
      go_enter Try.func46, Try.ntmps46
      go_wp2_with fail
      refine (named_any na _ hna).mono ?_
      rintro e w1 ⟨rfl, rfl⟩
      rw [Hn.out]
      go_wp2_with fail
      refine (named_any wa _ hwa).mono ?_
      rintro e w1 ⟨rfl, rfl⟩
      rw [Hw.out]
      go_wp2
      go_ret3
      exact Gave3.err hE.out (by decide) H.out hbb
    · clear hs2
      cases sl with
      | true =>
        clear hs1
        go_enter Try.func46, Try.ntmps46
        go_wp2_with fail
        refine (named_any na _ hna).mono ?_
        rintro e w1 ⟨rfl, rfl⟩
        rw [Hn.out]
        go_wp2_with fail
        refine (named_any wa _ hwa).mono ?_
        rintro e w1 ⟨rfl, rfl⟩
        rw [Hw.out]
        go_wp2
        go_ret3
        exact Gave3.err hE.out (by decide) H.out hbb
      | false =>
        have hne := hs1 rfl
        clear hs1
        go_enter Try.func46, Try.ntmps46
        go_wp2_with fail
        refine (named_any na _ hna).mono ?_
        rintro e w1 ⟨rfl, rfl⟩
        rw [Hn.out]
        go_wp2_with fail
        refine (named_any wa _ hwa).mono ?_
        rintro e w1 ⟨rfl, rfl⟩
        rw [Hw.out]
        go_wp2
        go_ret3
        exact Gave3.err hE.out (by decide) H.out hbb
  · have hfull' : ¬ (128 : Int) ≤ l.length := by omega
    rw [if_neg hfull] at hE
    have hLL : mkL l ⟨k, pa, ho, sh, m, sl, na, wa, ks⟩ = l ++ [bare ⟨k, pa, ho, sh, m, sl, na, wa, ks⟩] := by unfold mkL; rw [if_pos hE.out]
    have hNO : mkNo l ⟨k, pa, ho, sh, m, sl, na, wa, ks⟩ = (l.length : Int) + 1 := by unfold mkNo; rw [if_pos hE.out]
    have HLL := Lib.hid hLL
    have HNO := Lib.hid hNO
    clear hLL hNO
    rcases hms with ⟨rfl, rfl⟩ | ⟨rfl, rfl⟩ | ⟨m1, m3, rfl, m4, m5⟩ | ⟨rfl, rfl⟩
    · obtain ⟨rfl, hwe⟩ := hs2 rfl
      have hne := hs1 rfl
      clear hs1 hs2
      go_enter Try.func46, Try.ntmps46
      go_wp2_with fail
      refine (named_any na _ hna).mono ?_
      rintro e w1 ⟨rfl, rfl⟩
      rw [Hn.out]
      go_wp2_with fail
      refine (named_any wa _ hwa).mono ?_
      rintro e w1 ⟨rfl, rfl⟩
      rw [Hw.out]
      go_wp2_with fail
      have hNb := H.out.below hbb
      have hbox : Has (w.alloc (.cells #[.int .i64 3, .int .i64 pa, .int .i64 ho, .int .i64 sh, .int .i64 1, .bool false, .string na, .string wa, kv] 57)) w.heap.size (.cells #[.int .i64 3, .int .i64 pa, .int .i64 ho, .int .i64 sh, .int .i64 1, .bool false, .string na, .string wa, kv] 57 (0, 0)) := Has.fresh _ _
      have hsz : (w.alloc (.cells #[.int .i64 3, .int .i64 pa, .int .i64 ho, .int .i64 sh, .int .i64 1, .bool false, .string na, .string wa, kv] 57)).heap.size = w.heap.size + 1 := by simp
      obtain ⟨wb, hwb⟩ : ∃ wb, wb = w.alloc (.cells #[.int .i64 3, .int .i64 pa, .int .i64 ho, .int .i64 sh, .int .i64 1, .bool false, .string na, .string wa, kv] 57) := ⟨_, rfl⟩
      rw [← hwb]
      rw [← hwb] at hNb hbox hsz hbb
      have Hsz := Lib.hid hsz
      have Hd : ∀ b : Value, (bare ⟨3, pa, ho, sh, 1, false, na, wa, ks⟩).cells b = [.int .i64 3, .int .i64 0, .int .i64 0, .int .i64 0, .int .i64 1, .bool false, .string na, .string wa, b] := fun _ => rfl
      have Hd := Lib.hid Hd
      have hwbs : w.heap.size ≤ wb.heap.size := by omega
      clear hsz hwb
      refine wp_region_way (late := []) (S := fun w' => w'.cell? ⟨w.heap.size, 0, none⟩ = some (.int .i64 3) ∧ w'.cell? ⟨w.heap.size, 5, none⟩ = some (.bool false) ∧ w'.cell? ⟨w.heap.size, 6, none⟩ = some (.string na) ∧ w'.cell? ⟨w.heap.size, 7, none⟩ = some (.string wa) ∧ w'.cell? ⟨w.heap.size, 4, none⟩ = some (.int .i64 1)) (y := Way.takes [0, 2, 3, 4, 5, 6, 7, 8, 9, 10, 11, 12] (.fork 1 (.run 13 (.run 14 (.take 15 .fin))) 13 (.run 1 (.run 14 (.take 15 .fin))))) (by kernel_rfl) (by kernel_rfl) rfl (by kernel_rfl) (Box.of hbox) (fun hHeld => ?_)
      simp only [Way.takes]
      (repeat (first | (refine way_skip (by simp only [List.getElem?_toArray, List.getElem?_cons_succ, List.getElem?_cons_zero]; rfl) (by rfl) hHeld ?_; (try simp only [Act.put, List.setIfInBounds_toArray, List.set_cons_zero, List.set_cons_succ])) | (refine way_pass (by simp only [List.getElem?_toArray, List.getElem?_cons_succ, List.getElem?_cons_zero]; rfl) (by rfl) hHeld ?_; (try simp only [Act.put, List.setIfInBounds_toArray, List.set_cons_zero, List.set_cons_succ])) | (refine way_take (v := ?_) (by simp only [List.getElem?_toArray, List.getElem?_cons_succ, List.getElem?_cons_zero]; rfl) (by rfl) ?_ hHeld ?_; rotate_left; (focus (intro w hSw; (try dsimp only at hSw); go_simp; (try with_reducible rfl); done)); (try simp only [Act.put, List.setIfInBounds_toArray, List.set_cons_zero, List.set_cons_succ]))))
      refine way_fork ?_ ?_
      · refine way_run (by simp only [List.getElem?_toArray, List.getElem?_cons_succ, List.getElem?_cons_zero]; rfl) (by rfl) (fun K hK => ?_)
        go_simp
        refine (copy_any l _ c wb.drew hl Hk.out (hG.mono hwbs) (hNb.drewN 1)).mono ?_
        rintro e w2 ⟨A2, c2, rfl, hN2, hb2⟩
        have hN2' : Nodes G w2 wb.heap.size A2 c2 l := hN2
        have hb2' : Below wb.heap.size wb w2 := ⟨hb2.os, hb2.tape, hb2.output, hb2.size, hb2.block⟩
        have hbox2 := hbox.below hb2' hbox.inside
        clear hN2 hb2
        go_simp
        refine hK.out _ _ (Box.of hbox2) (fun hHeld => ?_)
        clear hK K
        (try simp only [Act.put, List.setIfInBounds_toArray, List.set_cons_zero, List.set_cons_succ])
        refine way_run (by simp only [List.getElem?_toArray, List.getElem?_cons_succ, List.getElem?_cons_zero]; rfl) (by rfl) (fun K hK => ?_)
        go_simp
        refine hK.out _ _ (Box.of (hbox2.more _)) (fun hHeld => ?_)
        clear hK K
        (try simp only [Act.put, List.setIfInBounds_toArray, List.set_cons_zero, List.set_cons_succ])
        refine way_run (by simp only [List.getElem?_toArray, List.getElem?_cons_succ, List.getElem?_cons_zero]; rfl) (by rfl) (fun K hK => ?_)
        refine wp_push (d := bare ⟨3, pa, ho, sh, 1, false, na, wa, ks⟩) (.tmp 80) (.tmp 92) 40 rfl j0 _ Try.underlying40 Qi.out Qz0.out Qz1.out Qz2.out rfl rfl (hN2'.kept (F := fun _ => False) ((Keeps.refl _ _).alloc _) fun _ _ h => h) rfl (Has.fresh w2 (.cells ((bare ⟨3, pa, ho, sh, 1, false, na, wa, ks⟩).cells (.slice none 0 0)).toArray 57)) rfl hl (Nat.le_trans hb2'.size (by simp)) (hG.mono hwbs) (fun A4 c4 w4 hN4 hk4 => ?_)
        have hb4 : Below w.heap.size w w4 := below_then ((hbb.trans (hb2'.mono hwbs)).alloc (Nat.le_trans hwbs hb2'.size) _) hk4 (Nat.le_trans (Nat.le_trans hwbs hb2'.size) (by simp)) fun i hi hB => by omega
        have hbox4 : Box w.heap.size 3 1 false na wa w4 := Box.of (Has.kept (hbox2.more _) hk4 (by have := hbox.inside; omega))
        refine hK.out _ _ hbox4 (fun hHeld => ?_)
        clear hK K
        (try simp only [Act.put, List.setIfInBounds_toArray, List.set_cons_zero, List.set_cons_succ])
        (repeat (first | (refine way_skip (by simp only [List.getElem?_toArray, List.getElem?_cons_succ, List.getElem?_cons_zero]; rfl) (by rfl) hHeld ?_; (try simp only [Act.put, List.setIfInBounds_toArray, List.set_cons_zero, List.set_cons_succ])) | (refine way_pass (by simp only [List.getElem?_toArray, List.getElem?_cons_succ, List.getElem?_cons_zero]; rfl) (by rfl) hHeld ?_; (try simp only [Act.put, List.setIfInBounds_toArray, List.set_cons_zero, List.set_cons_succ])) | (refine way_take (v := ?_) (by simp only [List.getElem?_toArray, List.getElem?_cons_succ, List.getElem?_cons_zero]; rfl) (by rfl) ?_ hHeld ?_; rotate_left; (focus (intro w hSw; (try dsimp only at hSw); go_simp; (try with_reducible rfl); done)); (try simp only [Act.put, List.setIfInBounds_toArray, List.set_cons_zero, List.set_cons_succ]))))
        refine way_done ?_
        go_wp2
        go_ret3
        rw [Gave3, HLL.out, HNO.out, hE.out]
        exact ⟨A4, c4, by rw [List.length_append]; rfl, hN4.from_ (Nat.zero_le _), hb4⟩
      · refine way_run (by simp only [List.getElem?_toArray, List.getElem?_cons_succ, List.getElem?_cons_zero]; rfl) (by rfl) (fun K hK => ?_)
        go_simp
        have hb1 : Below wb.heap.size wb (wb.alloc (.cells ((bare ⟨3, pa, ho, sh, 1, false, na, wa, ks⟩).cells (.slice none 0 0)).toArray 57)).drew := ((Below.refl _ wb).alloc (Nat.le_refl _) _).drew
        have hbox1 := hbox.below hb1 hbox.inside
        have hnew1 := Has.drewN (Has.fresh wb (.cells ((bare ⟨3, pa, ho, sh, 1, false, na, wa, ks⟩).cells (.slice none 0 0)).toArray 57)) 1
        refine hK.out _ _ (Box.of hbox1) (fun hHeld => ?_)
        clear hK K
        (try simp only [Act.put, List.setIfInBounds_toArray, List.set_cons_zero, List.set_cons_succ])
        refine way_run (by simp only [List.getElem?_toArray, List.getElem?_cons_succ, List.getElem?_cons_zero]; rfl) (by rfl) (fun K hK => ?_)
        go_simp
        refine (copy_any l _ c _ hl Hk.out (hG.mono (Nat.le_trans hwbs hb1.size)) (hNb.below hb1)).mono ?_
        rintro e w2 ⟨A2, c2, rfl, hN2, hb2⟩
        have hbox2 := hbox1.below hb2 hbox1.inside
        have hnew2 := hnew1.below hb2 hnew1.inside
        have hs1 := hb1.size
        have hBB : Below w.heap.size w w2 := (hbb.trans (hb1.mono hwbs)).trans (hb2.mono (Nat.le_trans hwbs hs1))
        have hin : w.heap.size < (wb.alloc (.cells ((bare ⟨3, pa, ho, sh, 1, false, na, wa, ks⟩).cells (.slice none 0 0)).toArray 57)).drew.heap.size := hbox1.inside
        go_simp
        refine hK.out _ _ (Box.of hbox2) (fun hHeld => ?_)
        clear hK K
        (try simp only [Act.put, List.setIfInBounds_toArray, List.set_cons_zero, List.set_cons_succ])
        refine way_run (by simp only [List.getElem?_toArray, List.getElem?_cons_succ, List.getElem?_cons_zero]; rfl) (by rfl) (fun K hK => ?_)
        refine wp_push (d := bare ⟨3, pa, ho, sh, 1, false, na, wa, ks⟩) (.tmp 80) (.tmp 92) 40 rfl j0 _ Try.underlying40 Qi.out Qz0.out Qz1.out Qz2.out rfl rfl hN2 rfl hnew2 rfl hl hb2.size (hG.mono (Nat.le_trans hwbs hs1)) (fun A4 c4 w4 hN4 hk4 => ?_)
        have hb4 : Below w.heap.size w w4 := below_then hBB hk4 hBB.size fun i hi hB => by omega
        have hbox4 : Box w.heap.size 3 1 false na wa w4 := Box.of (Has.kept hbox2 hk4 (Nat.not_le.2 hin))
        refine hK.out _ _ hbox4 (fun hHeld => ?_)
        clear hK K
        (try simp only [Act.put, List.setIfInBounds_toArray, List.set_cons_zero, List.set_cons_succ])
        (repeat (first | (refine way_skip (by simp only [List.getElem?_toArray, List.getElem?_cons_succ, List.getElem?_cons_zero]; rfl) (by rfl) hHeld ?_; (try simp only [Act.put, List.setIfInBounds_toArray, List.set_cons_zero, List.set_cons_succ])) | (refine way_pass (by simp only [List.getElem?_toArray, List.getElem?_cons_succ, List.getElem?_cons_zero]; rfl) (by rfl) hHeld ?_; (try simp only [Act.put, List.setIfInBounds_toArray, List.set_cons_zero, List.set_cons_succ])) | (refine way_take (v := ?_) (by simp only [List.getElem?_toArray, List.getElem?_cons_succ, List.getElem?_cons_zero]; rfl) (by rfl) ?_ hHeld ?_; rotate_left; (focus (intro w hSw; (try dsimp only at hSw); go_simp; (try with_reducible rfl); done)); (try simp only [Act.put, List.setIfInBounds_toArray, List.set_cons_zero, List.set_cons_succ]))))
        refine way_done ?_
        go_wp2
        go_ret3
        rw [Gave3, HLL.out, HNO.out, hE.out]
        exact ⟨A4, c4, by rw [List.length_append]; rfl, hN4.from_ (Nat.zero_le _), hb4⟩
    · obtain ⟨rfl, hwe⟩ := hs2 rfl
      have hne := hs1 rfl
      clear hs1 hs2
      go_enter Try.func46, Try.ntmps46
      go_wp2_with fail
      refine (named_any na _ hna).mono ?_
      rintro e w1 ⟨rfl, rfl⟩
      rw [Hn.out]
      go_wp2_with fail
      refine (named_any wa _ hwa).mono ?_
      rintro e w1 ⟨rfl, rfl⟩
      rw [Hw.out]
      go_wp2_with fail
      have hNb := H.out.below hbb
      have hbox : Has (w.alloc (.cells #[.int .i64 3, .int .i64 pa, .int .i64 ho, .int .i64 sh, .int .i64 2, .bool false, .string na, .string wa, kv] 57)) w.heap.size (.cells #[.int .i64 3, .int .i64 pa, .int .i64 ho, .int .i64 sh, .int .i64 2, .bool false, .string na, .string wa, kv] 57 (0, 0)) := Has.fresh _ _
      have hsz : (w.alloc (.cells #[.int .i64 3, .int .i64 pa, .int .i64 ho, .int .i64 sh, .int .i64 2, .bool false, .string na, .string wa, kv] 57)).heap.size = w.heap.size + 1 := by simp
      obtain ⟨wb, hwb⟩ : ∃ wb, wb = w.alloc (.cells #[.int .i64 3, .int .i64 pa, .int .i64 ho, .int .i64 sh, .int .i64 2, .bool false, .string na, .string wa, kv] 57) := ⟨_, rfl⟩
      rw [← hwb]
      rw [← hwb] at hNb hbox hsz hbb
      have Hsz := Lib.hid hsz
      have Hd : ∀ b : Value, (bare ⟨3, pa, ho, sh, 2, false, na, wa, ks⟩).cells b = [.int .i64 3, .int .i64 0, .int .i64 0, .int .i64 0, .int .i64 2, .bool false, .string na, .string wa, b] := fun _ => rfl
      have Hd := Lib.hid Hd
      have hwbs : w.heap.size ≤ wb.heap.size := by omega
      clear hsz hwb
      refine wp_region_way (late := []) (S := fun w' => w'.cell? ⟨w.heap.size, 0, none⟩ = some (.int .i64 3) ∧ w'.cell? ⟨w.heap.size, 5, none⟩ = some (.bool false) ∧ w'.cell? ⟨w.heap.size, 6, none⟩ = some (.string na) ∧ w'.cell? ⟨w.heap.size, 7, none⟩ = some (.string wa) ∧ w'.cell? ⟨w.heap.size, 4, none⟩ = some (.int .i64 2)) (y := Way.takes [0, 2, 3, 4, 5, 6, 7, 8, 9, 10, 11, 12] (.fork 1 (.run 13 (.run 14 (.take 15 .fin))) 13 (.run 1 (.run 14 (.take 15 .fin))))) (by kernel_rfl) (by kernel_rfl) rfl (by kernel_rfl) (Box.of hbox) (fun hHeld => ?_)
      simp only [Way.takes]
      (repeat (first | (refine way_skip (by simp only [List.getElem?_toArray, List.getElem?_cons_succ, List.getElem?_cons_zero]; rfl) (by rfl) hHeld ?_; (try simp only [Act.put, List.setIfInBounds_toArray, List.set_cons_zero, List.set_cons_succ])) | (refine way_pass (by simp only [List.getElem?_toArray, List.getElem?_cons_succ, List.getElem?_cons_zero]; rfl) (by rfl) hHeld ?_; (try simp only [Act.put, List.setIfInBounds_toArray, List.set_cons_zero, List.set_cons_succ])) | (refine way_take (v := ?_) (by simp only [List.getElem?_toArray, List.getElem?_cons_succ, List.getElem?_cons_zero]; rfl) (by rfl) ?_ hHeld ?_; rotate_left; (focus (intro w hSw; (try dsimp only at hSw); go_simp; (try with_reducible rfl); done)); (try simp only [Act.put, List.setIfInBounds_toArray, List.set_cons_zero, List.set_cons_succ]))))
      refine way_fork ?_ ?_
      · refine way_run (by simp only [List.getElem?_toArray, List.getElem?_cons_succ, List.getElem?_cons_zero]; rfl) (by rfl) (fun K hK => ?_)
        go_simp
        refine (copy_any l _ c wb.drew hl Hk.out (hG.mono hwbs) (hNb.drewN 1)).mono ?_
        rintro e w2 ⟨A2, c2, rfl, hN2, hb2⟩
        have hN2' : Nodes G w2 wb.heap.size A2 c2 l := hN2
        have hb2' : Below wb.heap.size wb w2 := ⟨hb2.os, hb2.tape, hb2.output, hb2.size, hb2.block⟩
        have hbox2 := hbox.below hb2' hbox.inside
        clear hN2 hb2
        go_simp
        refine hK.out _ _ (Box.of hbox2) (fun hHeld => ?_)
        clear hK K
        (try simp only [Act.put, List.setIfInBounds_toArray, List.set_cons_zero, List.set_cons_succ])
        refine way_run (by simp only [List.getElem?_toArray, List.getElem?_cons_succ, List.getElem?_cons_zero]; rfl) (by rfl) (fun K hK => ?_)
        go_simp
        refine hK.out _ _ (Box.of (hbox2.more _)) (fun hHeld => ?_)
        clear hK K
        (try simp only [Act.put, List.setIfInBounds_toArray, List.set_cons_zero, List.set_cons_succ])
        refine way_run (by simp only [List.getElem?_toArray, List.getElem?_cons_succ, List.getElem?_cons_zero]; rfl) (by rfl) (fun K hK => ?_)
        refine wp_push (d := bare ⟨3, pa, ho, sh, 2, false, na, wa, ks⟩) (.tmp 80) (.tmp 92) 40 rfl j0 _ Try.underlying40 Qi.out Qz0.out Qz1.out Qz2.out rfl rfl (hN2'.kept (F := fun _ => False) ((Keeps.refl _ _).alloc _) fun _ _ h => h) rfl (Has.fresh w2 (.cells ((bare ⟨3, pa, ho, sh, 2, false, na, wa, ks⟩).cells (.slice none 0 0)).toArray 57)) rfl hl (Nat.le_trans hb2'.size (by simp)) (hG.mono hwbs) (fun A4 c4 w4 hN4 hk4 => ?_)
        have hb4 : Below w.heap.size w w4 := below_then ((hbb.trans (hb2'.mono hwbs)).alloc (Nat.le_trans hwbs hb2'.size) _) hk4 (Nat.le_trans (Nat.le_trans hwbs hb2'.size) (by simp)) fun i hi hB => by omega
        have hbox4 : Box w.heap.size 3 2 false na wa w4 := Box.of (Has.kept (hbox2.more _) hk4 (by have := hbox.inside; omega))
        refine hK.out _ _ hbox4 (fun hHeld => ?_)
        clear hK K
        (try simp only [Act.put, List.setIfInBounds_toArray, List.set_cons_zero, List.set_cons_succ])
        (repeat (first | (refine way_skip (by simp only [List.getElem?_toArray, List.getElem?_cons_succ, List.getElem?_cons_zero]; rfl) (by rfl) hHeld ?_; (try simp only [Act.put, List.setIfInBounds_toArray, List.set_cons_zero, List.set_cons_succ])) | (refine way_pass (by simp only [List.getElem?_toArray, List.getElem?_cons_succ, List.getElem?_cons_zero]; rfl) (by rfl) hHeld ?_; (try simp only [Act.put, List.setIfInBounds_toArray, List.set_cons_zero, List.set_cons_succ])) | (refine way_take (v := ?_) (by simp only [List.getElem?_toArray, List.getElem?_cons_succ, List.getElem?_cons_zero]; rfl) (by rfl) ?_ hHeld ?_; rotate_left; (focus (intro w hSw; (try dsimp only at hSw); go_simp; (try with_reducible rfl); done)); (try simp only [Act.put, List.setIfInBounds_toArray, List.set_cons_zero, List.set_cons_succ]))))
        refine way_done ?_
        go_wp2
        go_ret3
        rw [Gave3, HLL.out, HNO.out, hE.out]
        exact ⟨A4, c4, by rw [List.length_append]; rfl, hN4.from_ (Nat.zero_le _), hb4⟩
      · refine way_run (by simp only [List.getElem?_toArray, List.getElem?_cons_succ, List.getElem?_cons_zero]; rfl) (by rfl) (fun K hK => ?_)
        go_simp
        have hb1 : Below wb.heap.size wb (wb.alloc (.cells ((bare ⟨3, pa, ho, sh, 2, false, na, wa, ks⟩).cells (.slice none 0 0)).toArray 57)).drew := ((Below.refl _ wb).alloc (Nat.le_refl _) _).drew
        have hbox1 := hbox.below hb1 hbox.inside
        have hnew1 := Has.drewN (Has.fresh wb (.cells ((bare ⟨3, pa, ho, sh, 2, false, na, wa, ks⟩).cells (.slice none 0 0)).toArray 57)) 1
        refine hK.out _ _ (Box.of hbox1) (fun hHeld => ?_)
        clear hK K
        (try simp only [Act.put, List.setIfInBounds_toArray, List.set_cons_zero, List.set_cons_succ])
        refine way_run (by simp only [List.getElem?_toArray, List.getElem?_cons_succ, List.getElem?_cons_zero]; rfl) (by rfl) (fun K hK => ?_)
        go_simp
        refine (copy_any l _ c _ hl Hk.out (hG.mono (Nat.le_trans hwbs hb1.size)) (hNb.below hb1)).mono ?_
        rintro e w2 ⟨A2, c2, rfl, hN2, hb2⟩
        have hbox2 := hbox1.below hb2 hbox1.inside
        have hnew2 := hnew1.below hb2 hnew1.inside
        have hs1 := hb1.size
        have hBB : Below w.heap.size w w2 := (hbb.trans (hb1.mono hwbs)).trans (hb2.mono (Nat.le_trans hwbs hs1))
        have hin : w.heap.size < (wb.alloc (.cells ((bare ⟨3, pa, ho, sh, 2, false, na, wa, ks⟩).cells (.slice none 0 0)).toArray 57)).drew.heap.size := hbox1.inside
        go_simp
        refine hK.out _ _ (Box.of hbox2) (fun hHeld => ?_)
        clear hK K
        (try simp only [Act.put, List.setIfInBounds_toArray, List.set_cons_zero, List.set_cons_succ])
        refine way_run (by simp only [List.getElem?_toArray, List.getElem?_cons_succ, List.getElem?_cons_zero]; rfl) (by rfl) (fun K hK => ?_)
        refine wp_push (d := bare ⟨3, pa, ho, sh, 2, false, na, wa, ks⟩) (.tmp 80) (.tmp 92) 40 rfl j0 _ Try.underlying40 Qi.out Qz0.out Qz1.out Qz2.out rfl rfl hN2 rfl hnew2 rfl hl hb2.size (hG.mono (Nat.le_trans hwbs hs1)) (fun A4 c4 w4 hN4 hk4 => ?_)
        have hb4 : Below w.heap.size w w4 := below_then hBB hk4 hBB.size fun i hi hB => by omega
        have hbox4 : Box w.heap.size 3 2 false na wa w4 := Box.of (Has.kept hbox2 hk4 (Nat.not_le.2 hin))
        refine hK.out _ _ hbox4 (fun hHeld => ?_)
        clear hK K
        (try simp only [Act.put, List.setIfInBounds_toArray, List.set_cons_zero, List.set_cons_succ])
        (repeat (first | (refine way_skip (by simp only [List.getElem?_toArray, List.getElem?_cons_succ, List.getElem?_cons_zero]; rfl) (by rfl) hHeld ?_; (try simp only [Act.put, List.setIfInBounds_toArray, List.set_cons_zero, List.set_cons_succ])) | (refine way_pass (by simp only [List.getElem?_toArray, List.getElem?_cons_succ, List.getElem?_cons_zero]; rfl) (by rfl) hHeld ?_; (try simp only [Act.put, List.setIfInBounds_toArray, List.set_cons_zero, List.set_cons_succ])) | (refine way_take (v := ?_) (by simp only [List.getElem?_toArray, List.getElem?_cons_succ, List.getElem?_cons_zero]; rfl) (by rfl) ?_ hHeld ?_; rotate_left; (focus (intro w hSw; (try dsimp only at hSw); go_simp; (try with_reducible rfl); done)); (try simp only [Act.put, List.setIfInBounds_toArray, List.set_cons_zero, List.set_cons_succ]))))
        refine way_done ?_
        go_wp2
        go_ret3
        rw [Gave3, HLL.out, HNO.out, hE.out]
        exact ⟨A4, c4, by rw [List.length_append]; rfl, hN4.from_ (Nat.zero_le _), hb4⟩
    · obtain ⟨rfl, hwe⟩ := hs2 m3
      have hne := hs1 rfl
      clear hs1 hs2
      go_enter Try.func46, Try.ntmps46
      go_wp2_with fail
      refine (named_any na _ hna).mono ?_
      rintro e w1 ⟨rfl, rfl⟩
      rw [Hn.out]
      go_wp2_with fail
      refine (named_any wa _ hwa).mono ?_
      rintro e w1 ⟨rfl, rfl⟩
      rw [Hw.out]
      go_wp2_with fail
      have hNb := H.out.below hbb
      have hbox : Has (w.alloc (.cells #[.int .i64 k, .int .i64 pa, .int .i64 ho, .int .i64 sh, .int .i64 0, .bool false, .string na, .string wa, kv] 57)) w.heap.size (.cells #[.int .i64 k, .int .i64 pa, .int .i64 ho, .int .i64 sh, .int .i64 0, .bool false, .string na, .string wa, kv] 57 (0, 0)) := Has.fresh _ _
      have hsz : (w.alloc (.cells #[.int .i64 k, .int .i64 pa, .int .i64 ho, .int .i64 sh, .int .i64 0, .bool false, .string na, .string wa, kv] 57)).heap.size = w.heap.size + 1 := by simp
      obtain ⟨wb, hwb⟩ : ∃ wb, wb = w.alloc (.cells #[.int .i64 k, .int .i64 pa, .int .i64 ho, .int .i64 sh, .int .i64 0, .bool false, .string na, .string wa, kv] 57) := ⟨_, rfl⟩
      rw [← hwb]
      rw [← hwb] at hNb hbox hsz hbb
      have Hsz := Lib.hid hsz
      have Hd : ∀ b : Value, (bare ⟨k, pa, ho, sh, 0, false, na, wa, ks⟩).cells b = [.int .i64 k, .int .i64 0, .int .i64 0, .int .i64 0, .int .i64 0, .bool false, .string na, .string wa, b] := fun _ => rfl
      have Hd := Lib.hid Hd
      have hwbs : w.heap.size ≤ wb.heap.size := by omega
      clear hsz hwb
      refine wp_region_way (late := []) (S := fun w' => w'.cell? ⟨w.heap.size, 0, none⟩ = some (.int .i64 k) ∧ w'.cell? ⟨w.heap.size, 5, none⟩ = some (.bool false) ∧ w'.cell? ⟨w.heap.size, 6, none⟩ = some (.string na) ∧ w'.cell? ⟨w.heap.size, 7, none⟩ = some (.string wa) ∧ w'.cell? ⟨w.heap.size, 4, none⟩ = some (.int .i64 0)) (y := Way.takes [0, 2, 3, 4, 5, 6, 7, 8, 9, 10, 11, 12] (.fork 1 (.run 13 (.run 14 (.take 15 .fin))) 13 (.run 1 (.run 14 (.take 15 .fin))))) (by kernel_rfl) (by kernel_rfl) rfl (by kernel_rfl) (Box.of hbox) (fun hHeld => ?_)
      simp only [Way.takes]
      (repeat (first | (refine way_skip (by simp only [List.getElem?_toArray, List.getElem?_cons_succ, List.getElem?_cons_zero]; rfl) (by rfl) hHeld ?_; (try simp only [Act.put, List.setIfInBounds_toArray, List.set_cons_zero, List.set_cons_succ])) | (refine way_pass (by simp only [List.getElem?_toArray, List.getElem?_cons_succ, List.getElem?_cons_zero]; rfl) (by rfl) hHeld ?_; (try simp only [Act.put, List.setIfInBounds_toArray, List.set_cons_zero, List.set_cons_succ])) | (refine way_take (v := ?_) (by simp only [List.getElem?_toArray, List.getElem?_cons_succ, List.getElem?_cons_zero]; rfl) (by rfl) ?_ hHeld ?_; rotate_left; (focus (intro w hSw; (try dsimp only at hSw); go_simp; (try with_reducible rfl); done)); (try simp only [Act.put, List.setIfInBounds_toArray, List.set_cons_zero, List.set_cons_succ]))))
      refine way_fork ?_ ?_
      · refine way_run (by simp only [List.getElem?_toArray, List.getElem?_cons_succ, List.getElem?_cons_zero]; rfl) (by rfl) (fun K hK => ?_)
        go_simp
        refine (copy_any l _ c wb.drew hl Hk.out (hG.mono hwbs) (hNb.drewN 1)).mono ?_
        rintro e w2 ⟨A2, c2, rfl, hN2, hb2⟩
        have hN2' : Nodes G w2 wb.heap.size A2 c2 l := hN2
        have hb2' : Below wb.heap.size wb w2 := ⟨hb2.os, hb2.tape, hb2.output, hb2.size, hb2.block⟩
        have hbox2 := hbox.below hb2' hbox.inside
        clear hN2 hb2
        go_simp
        refine hK.out _ _ (Box.of hbox2) (fun hHeld => ?_)
        clear hK K
        (try simp only [Act.put, List.setIfInBounds_toArray, List.set_cons_zero, List.set_cons_succ])
        refine way_run (by simp only [List.getElem?_toArray, List.getElem?_cons_succ, List.getElem?_cons_zero]; rfl) (by rfl) (fun K hK => ?_)
        go_simp
        refine hK.out _ _ (Box.of (hbox2.more _)) (fun hHeld => ?_)
        clear hK K
        (try simp only [Act.put, List.setIfInBounds_toArray, List.set_cons_zero, List.set_cons_succ])
        refine way_run (by simp only [List.getElem?_toArray, List.getElem?_cons_succ, List.getElem?_cons_zero]; rfl) (by rfl) (fun K hK => ?_)
        refine wp_push (d := bare ⟨k, pa, ho, sh, 0, false, na, wa, ks⟩) (.tmp 80) (.tmp 92) 40 rfl j0 _ Try.underlying40 Qi.out Qz0.out Qz1.out Qz2.out rfl rfl (hN2'.kept (F := fun _ => False) ((Keeps.refl _ _).alloc _) fun _ _ h => h) rfl (Has.fresh w2 (.cells ((bare ⟨k, pa, ho, sh, 0, false, na, wa, ks⟩).cells (.slice none 0 0)).toArray 57)) rfl hl (Nat.le_trans hb2'.size (by simp)) (hG.mono hwbs) (fun A4 c4 w4 hN4 hk4 => ?_)
        have hb4 : Below w.heap.size w w4 := below_then ((hbb.trans (hb2'.mono hwbs)).alloc (Nat.le_trans hwbs hb2'.size) _) hk4 (Nat.le_trans (Nat.le_trans hwbs hb2'.size) (by simp)) fun i hi hB => by omega
        have hbox4 : Box w.heap.size k 0 false na wa w4 := Box.of (Has.kept (hbox2.more _) hk4 (by have := hbox.inside; omega))
        refine hK.out _ _ hbox4 (fun hHeld => ?_)
        clear hK K
        (try simp only [Act.put, List.setIfInBounds_toArray, List.set_cons_zero, List.set_cons_succ])
        (repeat (first | (refine way_skip (by simp only [List.getElem?_toArray, List.getElem?_cons_succ, List.getElem?_cons_zero]; rfl) (by rfl) hHeld ?_; (try simp only [Act.put, List.setIfInBounds_toArray, List.set_cons_zero, List.set_cons_succ])) | (refine way_pass (by simp only [List.getElem?_toArray, List.getElem?_cons_succ, List.getElem?_cons_zero]; rfl) (by rfl) hHeld ?_; (try simp only [Act.put, List.setIfInBounds_toArray, List.set_cons_zero, List.set_cons_succ])) | (refine way_take (v := ?_) (by simp only [List.getElem?_toArray, List.getElem?_cons_succ, List.getElem?_cons_zero]; rfl) (by rfl) ?_ hHeld ?_; rotate_left; (focus (intro w hSw; (try dsimp only at hSw); go_simp; (try with_reducible rfl); done)); (try simp only [Act.put, List.setIfInBounds_toArray, List.set_cons_zero, List.set_cons_succ]))))
        refine way_done ?_
        go_wp2
        go_ret3
        rw [Gave3, HLL.out, HNO.out, hE.out]
        exact ⟨A4, c4, by rw [List.length_append]; rfl, hN4.from_ (Nat.zero_le _), hb4⟩
      · refine way_run (by simp only [List.getElem?_toArray, List.getElem?_cons_succ, List.getElem?_cons_zero]; rfl) (by rfl) (fun K hK => ?_)
        go_simp
        have hb1 : Below wb.heap.size wb (wb.alloc (.cells ((bare ⟨k, pa, ho, sh, 0, false, na, wa, ks⟩).cells (.slice none 0 0)).toArray 57)).drew := ((Below.refl _ wb).alloc (Nat.le_refl _) _).drew
        have hbox1 := hbox.below hb1 hbox.inside
        have hnew1 := Has.drewN (Has.fresh wb (.cells ((bare ⟨k, pa, ho, sh, 0, false, na, wa, ks⟩).cells (.slice none 0 0)).toArray 57)) 1
        refine hK.out _ _ (Box.of hbox1) (fun hHeld => ?_)
        clear hK K
        (try simp only [Act.put, List.setIfInBounds_toArray, List.set_cons_zero, List.set_cons_succ])
        refine way_run (by simp only [List.getElem?_toArray, List.getElem?_cons_succ, List.getElem?_cons_zero]; rfl) (by rfl) (fun K hK => ?_)
        go_simp
        refine (copy_any l _ c _ hl Hk.out (hG.mono (Nat.le_trans hwbs hb1.size)) (hNb.below hb1)).mono ?_
        rintro e w2 ⟨A2, c2, rfl, hN2, hb2⟩
        have hbox2 := hbox1.below hb2 hbox1.inside
        have hnew2 := hnew1.below hb2 hnew1.inside
        have hs1 := hb1.size
        have hBB : Below w.heap.size w w2 := (hbb.trans (hb1.mono hwbs)).trans (hb2.mono (Nat.le_trans hwbs hs1))
        have hin : w.heap.size < (wb.alloc (.cells ((bare ⟨k, pa, ho, sh, 0, false, na, wa, ks⟩).cells (.slice none 0 0)).toArray 57)).drew.heap.size := hbox1.inside
        go_simp
        refine hK.out _ _ (Box.of hbox2) (fun hHeld => ?_)
        clear hK K
        (try simp only [Act.put, List.setIfInBounds_toArray, List.set_cons_zero, List.set_cons_succ])
        refine way_run (by simp only [List.getElem?_toArray, List.getElem?_cons_succ, List.getElem?_cons_zero]; rfl) (by rfl) (fun K hK => ?_)
        refine wp_push (d := bare ⟨k, pa, ho, sh, 0, false, na, wa, ks⟩) (.tmp 80) (.tmp 92) 40 rfl j0 _ Try.underlying40 Qi.out Qz0.out Qz1.out Qz2.out rfl rfl hN2 rfl hnew2 rfl hl hb2.size (hG.mono (Nat.le_trans hwbs hs1)) (fun A4 c4 w4 hN4 hk4 => ?_)
        have hb4 : Below w.heap.size w w4 := below_then hBB hk4 hBB.size fun i hi hB => by omega
        have hbox4 : Box w.heap.size k 0 false na wa w4 := Box.of (Has.kept hbox2 hk4 (Nat.not_le.2 hin))
        refine hK.out _ _ hbox4 (fun hHeld => ?_)
        clear hK K
        (try simp only [Act.put, List.setIfInBounds_toArray, List.set_cons_zero, List.set_cons_succ])
        (repeat (first | (refine way_skip (by simp only [List.getElem?_toArray, List.getElem?_cons_succ, List.getElem?_cons_zero]; rfl) (by rfl) hHeld ?_; (try simp only [Act.put, List.setIfInBounds_toArray, List.set_cons_zero, List.set_cons_succ])) | (refine way_pass (by simp only [List.getElem?_toArray, List.getElem?_cons_succ, List.getElem?_cons_zero]; rfl) (by rfl) hHeld ?_; (try simp only [Act.put, List.setIfInBounds_toArray, List.set_cons_zero, List.set_cons_succ])) | (refine way_take (v := ?_) (by simp only [List.getElem?_toArray, List.getElem?_cons_succ, List.getElem?_cons_zero]; rfl) (by rfl) ?_ hHeld ?_; rotate_left; (focus (intro w hSw; (try dsimp only at hSw); go_simp; (try with_reducible rfl); done)); (try simp only [Act.put, List.setIfInBounds_toArray, List.set_cons_zero, List.set_cons_succ]))))
        refine way_done ?_
        go_wp2
        go_ret3
        rw [Gave3, HLL.out, HNO.out, hE.out]
        exact ⟨A4, c4, by rw [List.length_append]; rfl, hN4.from_ (Nat.zero_le _), hb4⟩
    · clear hs2
      cases sl with
      | true =>
        clear hs1
        go_enter Try.func46, Try.ntmps46
        go_wp2_with fail
        refine (named_any na _ hna).mono ?_
        rintro e w1 ⟨rfl, rfl⟩
        rw [Hn.out]
        go_wp2_with fail
        refine (named_any wa _ hwa).mono ?_
        rintro e w1 ⟨rfl, rfl⟩
        rw [Hw.out]
        go_wp2_with fail
        have hNb := H.out.below hbb
        have hbox : Has (w.alloc (.cells #[.int .i64 2, .int .i64 pa, .int .i64 ho, .int .i64 sh, .int .i64 0, .bool true, .string na, .string wa, kv] 57)) w.heap.size (.cells #[.int .i64 2, .int .i64 pa, .int .i64 ho, .int .i64 sh, .int .i64 0, .bool true, .string na, .string wa, kv] 57 (0, 0)) := Has.fresh _ _
        have hsz : (w.alloc (.cells #[.int .i64 2, .int .i64 pa, .int .i64 ho, .int .i64 sh, .int .i64 0, .bool true, .string na, .string wa, kv] 57)).heap.size = w.heap.size + 1 := by simp
        obtain ⟨wb, hwb⟩ : ∃ wb, wb = w.alloc (.cells #[.int .i64 2, .int .i64 pa, .int .i64 ho, .int .i64 sh, .int .i64 0, .bool true, .string na, .string wa, kv] 57) := ⟨_, rfl⟩
        rw [← hwb]
        rw [← hwb] at hNb hbox hsz hbb
        have Hsz := Lib.hid hsz
        have Hd : ∀ b : Value, (bare ⟨2, pa, ho, sh, 0, true, na, wa, ks⟩).cells b = [.int .i64 2, .int .i64 0, .int .i64 0, .int .i64 0, .int .i64 0, .bool true, .string na, .string wa, b] := fun _ => rfl
        have Hd := Lib.hid Hd
        have hwbs : w.heap.size ≤ wb.heap.size := by omega
        clear hsz hwb
        refine wp_region_way (late := []) (S := fun w' => w'.cell? ⟨w.heap.size, 0, none⟩ = some (.int .i64 2) ∧ w'.cell? ⟨w.heap.size, 5, none⟩ = some (.bool true) ∧ w'.cell? ⟨w.heap.size, 6, none⟩ = some (.string na) ∧ w'.cell? ⟨w.heap.size, 7, none⟩ = some (.string wa) ∧ w'.cell? ⟨w.heap.size, 4, none⟩ = some (.int .i64 0)) (y := Way.takes [0, 2, 3, 4, 5, 6, 7, 8, 9, 10, 11, 12] (.fork 1 (.run 13 (.run 14 (.take 15 .fin))) 13 (.run 1 (.run 14 (.take 15 .fin))))) (by kernel_rfl) (by kernel_rfl) rfl (by kernel_rfl) (Box.of hbox) (fun hHeld => ?_)
        simp only [Way.takes]
        (repeat (first | (refine way_skip (by simp only [List.getElem?_toArray, List.getElem?_cons_succ, List.getElem?_cons_zero]; rfl) (by rfl) hHeld ?_; (try simp only [Act.put, List.setIfInBounds_toArray, List.set_cons_zero, List.set_cons_succ])) | (refine way_pass (by simp only [List.getElem?_toArray, List.getElem?_cons_succ, List.getElem?_cons_zero]; rfl) (by rfl) hHeld ?_; (try simp only [Act.put, List.setIfInBounds_toArray, List.set_cons_zero, List.set_cons_succ])) | (refine way_take (v := ?_) (by simp only [List.getElem?_toArray, List.getElem?_cons_succ, List.getElem?_cons_zero]; rfl) (by rfl) ?_ hHeld ?_; rotate_left; (focus (intro w hSw; (try dsimp only at hSw); go_simp; (try with_reducible rfl); done)); (try simp only [Act.put, List.setIfInBounds_toArray, List.set_cons_zero, List.set_cons_succ]))))
        refine way_fork ?_ ?_
        · refine way_run (by simp only [List.getElem?_toArray, List.getElem?_cons_succ, List.getElem?_cons_zero]; rfl) (by rfl) (fun K hK => ?_)
          go_simp
          refine (copy_any l _ c wb.drew hl Hk.out (hG.mono hwbs) (hNb.drewN 1)).mono ?_
          rintro e w2 ⟨A2, c2, rfl, hN2, hb2⟩
          have hN2' : Nodes G w2 wb.heap.size A2 c2 l := hN2
          have hb2' : Below wb.heap.size wb w2 := ⟨hb2.os, hb2.tape, hb2.output, hb2.size, hb2.block⟩
          have hbox2 := hbox.below hb2' hbox.inside
          clear hN2 hb2
          go_simp
          refine hK.out _ _ (Box.of hbox2) (fun hHeld => ?_)
          clear hK K
          (try simp only [Act.put, List.setIfInBounds_toArray, List.set_cons_zero, List.set_cons_succ])
          refine way_run (by simp only [List.getElem?_toArray, List.getElem?_cons_succ, List.getElem?_cons_zero]; rfl) (by rfl) (fun K hK => ?_)
          go_simp
          refine hK.out _ _ (Box.of (hbox2.more _)) (fun hHeld => ?_)
          clear hK K
          (try simp only [Act.put, List.setIfInBounds_toArray, List.set_cons_zero, List.set_cons_succ])
          refine way_run (by simp only [List.getElem?_toArray, List.getElem?_cons_succ, List.getElem?_cons_zero]; rfl) (by rfl) (fun K hK => ?_)
          refine wp_push (d := bare ⟨2, pa, ho, sh, 0, true, na, wa, ks⟩) (.tmp 80) (.tmp 92) 40 rfl j0 _ Try.underlying40 Qi.out Qz0.out Qz1.out Qz2.out rfl rfl (hN2'.kept (F := fun _ => False) ((Keeps.refl _ _).alloc _) fun _ _ h => h) rfl (Has.fresh w2 (.cells ((bare ⟨2, pa, ho, sh, 0, true, na, wa, ks⟩).cells (.slice none 0 0)).toArray 57)) rfl hl (Nat.le_trans hb2'.size (by simp)) (hG.mono hwbs) (fun A4 c4 w4 hN4 hk4 => ?_)
          have hb4 : Below w.heap.size w w4 := below_then ((hbb.trans (hb2'.mono hwbs)).alloc (Nat.le_trans hwbs hb2'.size) _) hk4 (Nat.le_trans (Nat.le_trans hwbs hb2'.size) (by simp)) fun i hi hB => by omega
          have hbox4 : Box w.heap.size 2 0 true na wa w4 := Box.of (Has.kept (hbox2.more _) hk4 (by have := hbox.inside; omega))
          refine hK.out _ _ hbox4 (fun hHeld => ?_)
          clear hK K
          (try simp only [Act.put, List.setIfInBounds_toArray, List.set_cons_zero, List.set_cons_succ])
          (repeat (first | (refine way_skip (by simp only [List.getElem?_toArray, List.getElem?_cons_succ, List.getElem?_cons_zero]; rfl) (by rfl) hHeld ?_; (try simp only [Act.put, List.setIfInBounds_toArray, List.set_cons_zero, List.set_cons_succ])) | (refine way_pass (by simp only [List.getElem?_toArray, List.getElem?_cons_succ, List.getElem?_cons_zero]; rfl) (by rfl) hHeld ?_; (try simp only [Act.put, List.setIfInBounds_toArray, List.set_cons_zero, List.set_cons_succ])) | (refine way_take (v := ?_) (by simp only [List.getElem?_toArray, List.getElem?_cons_succ, List.getElem?_cons_zero]; rfl) (by rfl) ?_ hHeld ?_; rotate_left; (focus (intro w hSw; (try dsimp only at hSw); go_simp; (try with_reducible rfl); done)); (try simp only [Act.put, List.setIfInBounds_toArray, List.set_cons_zero, List.set_cons_succ]))))
          refine way_done ?_
          go_wp2
          go_ret3
          rw [Gave3, HLL.out, HNO.out, hE.out]
          exact ⟨A4, c4, by rw [List.length_append]; rfl, hN4.from_ (Nat.zero_le _), hb4⟩
        · refine way_run (by simp only [List.getElem?_toArray, List.getElem?_cons_succ, List.getElem?_cons_zero]; rfl) (by rfl) (fun K hK => ?_)
          go_simp
          have hb1 : Below wb.heap.size wb (wb.alloc (.cells ((bare ⟨2, pa, ho, sh, 0, true, na, wa, ks⟩).cells (.slice none 0 0)).toArray 57)).drew := ((Below.refl _ wb).alloc (Nat.le_refl _) _).drew
          have hbox1 := hbox.below hb1 hbox.inside
          have hnew1 := Has.drewN (Has.fresh wb (.cells ((bare ⟨2, pa, ho, sh, 0, true, na, wa, ks⟩).cells (.slice none 0 0)).toArray 57)) 1
          refine hK.out _ _ (Box.of hbox1) (fun hHeld => ?_)
          clear hK K
          (try simp only [Act.put, List.setIfInBounds_toArray, List.set_cons_zero, List.set_cons_succ])
          refine way_run (by simp only [List.getElem?_toArray, List.getElem?_cons_succ, List.getElem?_cons_zero]; rfl) (by rfl) (fun K hK => ?_)
          go_simp
          refine (copy_any l _ c _ hl Hk.out (hG.mono (Nat.le_trans hwbs hb1.size)) (hNb.below hb1)).mono ?_
          rintro e w2 ⟨A2, c2, rfl, hN2, hb2⟩
          have hbox2 := hbox1.below hb2 hbox1.inside
          have hnew2 := hnew1.below hb2 hnew1.inside
          have hs1 := hb1.size
          have hBB : Below w.heap.size w w2 := (hbb.trans (hb1.mono hwbs)).trans (hb2.mono (Nat.le_trans hwbs hs1))
          have hin : w.heap.size < (wb.alloc (.cells ((bare ⟨2, pa, ho, sh, 0, true, na, wa, ks⟩).cells (.slice none 0 0)).toArray 57)).drew.heap.size := hbox1.inside
          go_simp
          refine hK.out _ _ (Box.of hbox2) (fun hHeld => ?_)
          clear hK K
          (try simp only [Act.put, List.setIfInBounds_toArray, List.set_cons_zero, List.set_cons_succ])
          refine way_run (by simp only [List.getElem?_toArray, List.getElem?_cons_succ, List.getElem?_cons_zero]; rfl) (by rfl) (fun K hK => ?_)
          refine wp_push (d := bare ⟨2, pa, ho, sh, 0, true, na, wa, ks⟩) (.tmp 80) (.tmp 92) 40 rfl j0 _ Try.underlying40 Qi.out Qz0.out Qz1.out Qz2.out rfl rfl hN2 rfl hnew2 rfl hl hb2.size (hG.mono (Nat.le_trans hwbs hs1)) (fun A4 c4 w4 hN4 hk4 => ?_)
          have hb4 : Below w.heap.size w w4 := below_then hBB hk4 hBB.size fun i hi hB => by omega
          have hbox4 : Box w.heap.size 2 0 true na wa w4 := Box.of (Has.kept hbox2 hk4 (Nat.not_le.2 hin))
          refine hK.out _ _ hbox4 (fun hHeld => ?_)
          clear hK K
          (try simp only [Act.put, List.setIfInBounds_toArray, List.set_cons_zero, List.set_cons_succ])
          (repeat (first | (refine way_skip (by simp only [List.getElem?_toArray, List.getElem?_cons_succ, List.getElem?_cons_zero]; rfl) (by rfl) hHeld ?_; (try simp only [Act.put, List.setIfInBounds_toArray, List.set_cons_zero, List.set_cons_succ])) | (refine way_pass (by simp only [List.getElem?_toArray, List.getElem?_cons_succ, List.getElem?_cons_zero]; rfl) (by rfl) hHeld ?_; (try simp only [Act.put, List.setIfInBounds_toArray, List.set_cons_zero, List.set_cons_succ])) | (refine way_take (v := ?_) (by simp only [List.getElem?_toArray, List.getElem?_cons_succ, List.getElem?_cons_zero]; rfl) (by rfl) ?_ hHeld ?_; rotate_left; (focus (intro w hSw; (try dsimp only at hSw); go_simp; (try with_reducible rfl); done)); (try simp only [Act.put, List.setIfInBounds_toArray, List.set_cons_zero, List.set_cons_succ]))))
          refine way_done ?_
          go_wp2
          go_ret3
          rw [Gave3, HLL.out, HNO.out, hE.out]
          exact ⟨A4, c4, by rw [List.length_append]; rfl, hN4.from_ (Nat.zero_le _), hb4⟩
      | false =>
        have hne := hs1 rfl
        clear hs1
        go_enter Try.func46, Try.ntmps46
        go_wp2_with fail
        refine (named_any na _ hna).mono ?_
        rintro e w1 ⟨rfl, rfl⟩
        rw [Hn.out]
        go_wp2_with fail
        refine (named_any wa _ hwa).mono ?_
        rintro e w1 ⟨rfl, rfl⟩
        rw [Hw.out]
        go_wp2_with fail
        have hNb := H.out.below hbb
        have hbox : Has (w.alloc (.cells #[.int .i64 2, .int .i64 pa, .int .i64 ho, .int .i64 sh, .int .i64 0, .bool false, .string na, .string wa, kv] 57)) w.heap.size (.cells #[.int .i64 2, .int .i64 pa, .int .i64 ho, .int .i64 sh, .int .i64 0, .bool false, .string na, .string wa, kv] 57 (0, 0)) := Has.fresh _ _
        have hsz : (w.alloc (.cells #[.int .i64 2, .int .i64 pa, .int .i64 ho, .int .i64 sh, .int .i64 0, .bool false, .string na, .string wa, kv] 57)).heap.size = w.heap.size + 1 := by simp
        obtain ⟨wb, hwb⟩ : ∃ wb, wb = w.alloc (.cells #[.int .i64 2, .int .i64 pa, .int .i64 ho, .int .i64 sh, .int .i64 0, .bool false, .string na, .string wa, kv] 57) := ⟨_, rfl⟩
        rw [← hwb]
        rw [← hwb] at hNb hbox hsz hbb
        have Hsz := Lib.hid hsz
        have Hd : ∀ b : Value, (bare ⟨2, pa, ho, sh, 0, false, na, wa, ks⟩).cells b = [.int .i64 2, .int .i64 0, .int .i64 0, .int .i64 0, .int .i64 0, .bool false, .string na, .string wa, b] := fun _ => rfl
        have Hd := Lib.hid Hd
        have hwbs : w.heap.size ≤ wb.heap.size := by omega
        clear hsz hwb
        refine wp_region_way (late := []) (S := fun w' => w'.cell? ⟨w.heap.size, 0, none⟩ = some (.int .i64 2) ∧ w'.cell? ⟨w.heap.size, 5, none⟩ = some (.bool false) ∧ w'.cell? ⟨w.heap.size, 6, none⟩ = some (.string na) ∧ w'.cell? ⟨w.heap.size, 7, none⟩ = some (.string wa) ∧ w'.cell? ⟨w.heap.size, 4, none⟩ = some (.int .i64 0)) (y := Way.takes [0, 2, 3, 4, 5, 6, 7, 8, 9, 10, 11, 12] (.fork 1 (.run 13 (.run 14 (.take 15 .fin))) 13 (.run 1 (.run 14 (.take 15 .fin))))) (by kernel_rfl) (by kernel_rfl) rfl (by kernel_rfl) (Box.of hbox) (fun hHeld => ?_)
        simp only [Way.takes]
        (repeat (first | (refine way_skip (by simp only [List.getElem?_toArray, List.getElem?_cons_succ, List.getElem?_cons_zero]; rfl) (by rfl) hHeld ?_; (try simp only [Act.put, List.setIfInBounds_toArray, List.set_cons_zero, List.set_cons_succ])) | (refine way_pass (by simp only [List.getElem?_toArray, List.getElem?_cons_succ, List.getElem?_cons_zero]; rfl) (by rfl) hHeld ?_; (try simp only [Act.put, List.setIfInBounds_toArray, List.set_cons_zero, List.set_cons_succ])) | (refine way_take (v := ?_) (by simp only [List.getElem?_toArray, List.getElem?_cons_succ, List.getElem?_cons_zero]; rfl) (by rfl) ?_ hHeld ?_; rotate_left; (focus (intro w hSw; (try dsimp only at hSw); go_simp; (try with_reducible rfl); done)); (try simp only [Act.put, List.setIfInBounds_toArray, List.set_cons_zero, List.set_cons_succ]))))
        refine way_fork ?_ ?_
        · refine way_run (by simp only [List.getElem?_toArray, List.getElem?_cons_succ, List.getElem?_cons_zero]; rfl) (by rfl) (fun K hK => ?_)
          go_simp
          refine (copy_any l _ c wb.drew hl Hk.out (hG.mono hwbs) (hNb.drewN 1)).mono ?_
          rintro e w2 ⟨A2, c2, rfl, hN2, hb2⟩
          have hN2' : Nodes G w2 wb.heap.size A2 c2 l := hN2
          have hb2' : Below wb.heap.size wb w2 := ⟨hb2.os, hb2.tape, hb2.output, hb2.size, hb2.block⟩
          have hbox2 := hbox.below hb2' hbox.inside
          clear hN2 hb2
          go_simp
          refine hK.out _ _ (Box.of hbox2) (fun hHeld => ?_)
          clear hK K
          (try simp only [Act.put, List.setIfInBounds_toArray, List.set_cons_zero, List.set_cons_succ])
          refine way_run (by simp only [List.getElem?_toArray, List.getElem?_cons_succ, List.getElem?_cons_zero]; rfl) (by rfl) (fun K hK => ?_)
          go_simp
          refine hK.out _ _ (Box.of (hbox2.more _)) (fun hHeld => ?_)
          clear hK K
          (try simp only [Act.put, List.setIfInBounds_toArray, List.set_cons_zero, List.set_cons_succ])
          refine way_run (by simp only [List.getElem?_toArray, List.getElem?_cons_succ, List.getElem?_cons_zero]; rfl) (by rfl) (fun K hK => ?_)
          refine wp_push (d := bare ⟨2, pa, ho, sh, 0, false, na, wa, ks⟩) (.tmp 80) (.tmp 92) 40 rfl j0 _ Try.underlying40 Qi.out Qz0.out Qz1.out Qz2.out rfl rfl (hN2'.kept (F := fun _ => False) ((Keeps.refl _ _).alloc _) fun _ _ h => h) rfl (Has.fresh w2 (.cells ((bare ⟨2, pa, ho, sh, 0, false, na, wa, ks⟩).cells (.slice none 0 0)).toArray 57)) rfl hl (Nat.le_trans hb2'.size (by simp)) (hG.mono hwbs) (fun A4 c4 w4 hN4 hk4 => ?_)
          have hb4 : Below w.heap.size w w4 := below_then ((hbb.trans (hb2'.mono hwbs)).alloc (Nat.le_trans hwbs hb2'.size) _) hk4 (Nat.le_trans (Nat.le_trans hwbs hb2'.size) (by simp)) fun i hi hB => by omega
          have hbox4 : Box w.heap.size 2 0 false na wa w4 := Box.of (Has.kept (hbox2.more _) hk4 (by have := hbox.inside; omega))
          refine hK.out _ _ hbox4 (fun hHeld => ?_)
          clear hK K
          (try simp only [Act.put, List.setIfInBounds_toArray, List.set_cons_zero, List.set_cons_succ])
          (repeat (first | (refine way_skip (by simp only [List.getElem?_toArray, List.getElem?_cons_succ, List.getElem?_cons_zero]; rfl) (by rfl) hHeld ?_; (try simp only [Act.put, List.setIfInBounds_toArray, List.set_cons_zero, List.set_cons_succ])) | (refine way_pass (by simp only [List.getElem?_toArray, List.getElem?_cons_succ, List.getElem?_cons_zero]; rfl) (by rfl) hHeld ?_; (try simp only [Act.put, List.setIfInBounds_toArray, List.set_cons_zero, List.set_cons_succ])) | (refine way_take (v := ?_) (by simp only [List.getElem?_toArray, List.getElem?_cons_succ, List.getElem?_cons_zero]; rfl) (by rfl) ?_ hHeld ?_; rotate_left; (focus (intro w hSw; (try dsimp only at hSw); go_simp; (try with_reducible rfl); done)); (try simp only [Act.put, List.setIfInBounds_toArray, List.set_cons_zero, List.set_cons_succ]))))
          refine way_done ?_
          go_wp2
          go_ret3
          rw [Gave3, HLL.out, HNO.out, hE.out]
          exact ⟨A4, c4, by rw [List.length_append]; rfl, hN4.from_ (Nat.zero_le _), hb4⟩
        · refine way_run (by simp only [List.getElem?_toArray, List.getElem?_cons_succ, List.getElem?_cons_zero]; rfl) (by rfl) (fun K hK => ?_)
          go_simp
          have hb1 : Below wb.heap.size wb (wb.alloc (.cells ((bare ⟨2, pa, ho, sh, 0, false, na, wa, ks⟩).cells (.slice none 0 0)).toArray 57)).drew := ((Below.refl _ wb).alloc (Nat.le_refl _) _).drew
          have hbox1 := hbox.below hb1 hbox.inside
          have hnew1 := Has.drewN (Has.fresh wb (.cells ((bare ⟨2, pa, ho, sh, 0, false, na, wa, ks⟩).cells (.slice none 0 0)).toArray 57)) 1
          refine hK.out _ _ (Box.of hbox1) (fun hHeld => ?_)
          clear hK K
          (try simp only [Act.put, List.setIfInBounds_toArray, List.set_cons_zero, List.set_cons_succ])
          refine way_run (by simp only [List.getElem?_toArray, List.getElem?_cons_succ, List.getElem?_cons_zero]; rfl) (by rfl) (fun K hK => ?_)
          go_simp
          refine (copy_any l _ c _ hl Hk.out (hG.mono (Nat.le_trans hwbs hb1.size)) (hNb.below hb1)).mono ?_
          rintro e w2 ⟨A2, c2, rfl, hN2, hb2⟩
          have hbox2 := hbox1.below hb2 hbox1.inside
          have hnew2 := hnew1.below hb2 hnew1.inside
          have hs1 := hb1.size
          have hBB : Below w.heap.size w w2 := (hbb.trans (hb1.mono hwbs)).trans (hb2.mono (Nat.le_trans hwbs hs1))
          have hin : w.heap.size < (wb.alloc (.cells ((bare ⟨2, pa, ho, sh, 0, false, na, wa, ks⟩).cells (.slice none 0 0)).toArray 57)).drew.heap.size := hbox1.inside
          go_simp
          refine hK.out _ _ (Box.of hbox2) (fun hHeld => ?_)
          clear hK K
          (try simp only [Act.put, List.setIfInBounds_toArray, List.set_cons_zero, List.set_cons_succ])
          refine way_run (by simp only [List.getElem?_toArray, List.getElem?_cons_succ, List.getElem?_cons_zero]; rfl) (by rfl) (fun K hK => ?_)
          refine wp_push (d := bare ⟨2, pa, ho, sh, 0, false, na, wa, ks⟩) (.tmp 80) (.tmp 92) 40 rfl j0 _ Try.underlying40 Qi.out Qz0.out Qz1.out Qz2.out rfl rfl hN2 rfl hnew2 rfl hl hb2.size (hG.mono (Nat.le_trans hwbs hs1)) (fun A4 c4 w4 hN4 hk4 => ?_)
          have hb4 : Below w.heap.size w w4 := below_then hBB hk4 hBB.size fun i hi hB => by omega
          have hbox4 : Box w.heap.size 2 0 false na wa w4 := Box.of (Has.kept hbox2 hk4 (Nat.not_le.2 hin))
          refine hK.out _ _ hbox4 (fun hHeld => ?_)
          clear hK K
          (try simp only [Act.put, List.setIfInBounds_toArray, List.set_cons_zero, List.set_cons_succ])
          (repeat (first | (refine way_skip (by simp only [List.getElem?_toArray, List.getElem?_cons_succ, List.getElem?_cons_zero]; rfl) (by rfl) hHeld ?_; (try simp only [Act.put, List.setIfInBounds_toArray, List.set_cons_zero, List.set_cons_succ])) | (refine way_pass (by simp only [List.getElem?_toArray, List.getElem?_cons_succ, List.getElem?_cons_zero]; rfl) (by rfl) hHeld ?_; (try simp only [Act.put, List.setIfInBounds_toArray, List.set_cons_zero, List.set_cons_succ])) | (refine way_take (v := ?_) (by simp only [List.getElem?_toArray, List.getElem?_cons_succ, List.getElem?_cons_zero]; rfl) (by rfl) ?_ hHeld ?_; rotate_left; (focus (intro w hSw; (try dsimp only at hSw); go_simp; (try with_reducible rfl); done)); (try simp only [Act.put, List.setIfInBounds_toArray, List.set_cons_zero, List.set_cons_succ]))))
          refine way_done ?_
          go_wp2
          go_ret3
          rw [Gave3, HLL.out, HNO.out, hE.out]
          exact ⟨A4, c4, by rw [List.length_append]; rfl, hN4.from_ (Nat.zero_le _), hb4⟩
theorem make_any (l : List Nd) (A : Option Addr) (c : Nat) (k pa ho sh m : Int) (sl : Bool) (na wa : ByteArray) (ks : List Int) (kv : Value) (w : World) (hna : na.size ≤ 9223372036854775807) (hwa : wa.size ≤ 9223372036854775807) (hl : l.length ≤ 1000) (hk : ∀ d ∈ l, d.kids.length ≤ 100000) (hG : Fut G w.heap.size) (hN : Nodes G w 0 A c l) :
    Calls Try.prog 46 #[.slice A l.length c, .agg #[.int .i64 k, .int .i64 pa, .int .i64 ho, .int .i64 sh, .int .i64 m, .bool sl, .string na, .string wa, kv]] w (Gave3 G w (mkL l ⟨k, pa, ho, sh, m, sl, na, wa, ks⟩) (mkNo l ⟨k, pa, ho, sh, m, sl, na, wa, ks⟩) (mkErr l.length ⟨k, pa, ho, sh, m, sl, na, wa, ks⟩)) := by
  by_cases h1 : k < 1 ∨ 4 < k
  · exact make_kind l A c k pa ho sh m sl na wa ks kv w hN h1
  by_cases h2 : (k = 3 ∧ m ≠ 1 ∧ m ≠ 2) ∨ (k ≠ 3 ∧ m ≠ 0)
  · exact make_mode l A c k pa ho sh m sl na wa ks kv w hN (by omega) (by omega) h2
  by_cases h3 : (k ≠ 2 ∧ (sl = true ∨ wa.toList.isEmpty = false)) ∨ (sl = false ∧ na.toList.isEmpty = false) ∨ okName na = false ∨ okName wa = false
  · exact make_name l A c k pa ho sh m sl na wa ks kv w hna hwa hN (by omega) (by omega) h2 h3
  exact make_rest l A c k pa ho sh m sl na wa ks kv w hna hwa hl hk hG hN (by omega) (by omega) h2 h3
end Go.Proofs.Ytekmgaigppenlaa

namespace Go.Proofs.Ytekmgaigppenlaa
open Go Go.RowKit
variable {G : Nat → Prop}

theorem put_same {l : List Nd} {p : Int} {kids : List Int} {e : Int} (he : putErr l p kids = e) (h0 : e ≠ 0) : putL l p kids = l := by unfold putL; rw [he, if_neg h0]
theorem put_no {l : List Nd} {p : Int} {kids : List Int} (h : thereB l p = false) : putErr l p kids = 1 := by unfold putErr; rw [if_pos h]
theorem put_bad {l : List Nd} {p : Int} {kids : List Int} (h : thereB l p = true) {i : Nat} (hi : i < kids.length) (hb : kidIn l kids i = false) : putErr l p kids = 1 := by
  unfold putErr
  rw [if_neg (by rw [h]; decide), if_pos]
  intro ha
  rw [ha i hi] at hb
  cases hb
theorem put_up {l : List Nd} {p : Int} {kids : List Int} (h : thereB l p = true) (hk : ∀ i, i < kids.length → kidIn l kids i = true) {k : Int} (hi : k ∈ kids) (hb : kidOk l (over l p) p k = false) : putErr l p kids = 3 := by
  unfold putErr
  rw [if_neg (by rw [h]; decide), if_neg (fun h => h hk), if_pos]
  intro ha
  rw [ha k hi] at hb
  cases hb
theorem put_ok {l : List Nd} {p : Int} {kids : List Int} (h : thereB l p = true) (hk : ∀ i, i < kids.length → kidIn l kids i = true) (hb : ∀ k, k ∈ kids → kidOk l (over l p) p k = true) : putErr l p kids = 0 := by
  unfold putErr
  rw [if_neg (by rw [h]; decide), if_neg (fun h => h hk), if_neg (fun h => h hb)]

/-- The first j of them, no longer the parent's. -/
def clrTo (l : List Nd) (p : Int) (j : Nat) : List Nd := clr (l.take j) p ++ l.drop j
theorem clrTo_zero (l : List Nd) (p : Int) : clrTo l p 0 = l := by simp [clrTo, clr]
theorem clrTo_all (l : List Nd) (p : Int) : clrTo l p l.length = clr l p := by simp [clrTo]
theorem clrTo_length (l : List Nd) (p : Int) (j : Nat) : (clrTo l p j).length = l.length := by simp [clrTo, clr]; omega
theorem clrTo_at {l : List Nd} {p : Int} {j : Nat} (hj : j < l.length) : (clrTo l p j)[j]'(by rw [clrTo_length]; exact hj) = l[j] := by
  unfold clrTo
  rw [List.getElem_append_right (by simp [clr]; omega)]
  simp [clr, Nat.min_eq_left (Nat.le_of_lt hj)]
theorem clrTo_step {l : List Nd} {p : Int} {j : Nat} (hj : j < l.length) : clrTo l p (j + 1) = (clrTo l p j).set j (if l[j].parent = p then { l[j] with parent := 0 } else l[j]) := by
  unfold clrTo clr
  rw [List.take_add_one, List.getElem?_eq_getElem hj, List.map_append, List.set_append_right _ _ (by simp; omega), List.drop_eq_getElem_cons hj]
  simp only [List.length_map, List.length_take, Nat.min_eq_left (Nat.le_of_lt hj), Nat.sub_self, List.set_cons_zero, Option.toList_some, List.map_cons, List.map_nil, List.append_assoc, List.singleton_append]
theorem there_is {l : List Nd} {id : Int} {b : Bool} (h : thereB l id = b) (A : Option Addr) (c : Nat) (w : World) : Calls Try.prog 58 #[.slice A l.length c, .int .i64 id] w fun e w' => e = .returned (.bool b) ∧ w' = w :=
  (there_any l A c id w).mono fun _ _ hh => ⟨by rw [hh.1, h], hh.2.symm⟩
theorem has_is {xs : List Int} {x : Int} {b : Bool} (h : hasB xs x = b) (A : Option Addr) {n : Nat} (c : Nat) (w : World) {B : Nat} (hn : n = xs.length) (hl : n ≤ 1000000) (hN : Nums w B A .i64 xs) : Calls Try.prog 59 #[.slice A n c, .int .i64 x] w fun e w' => e = .returned (.bool b) ∧ w' = w :=
  (has_any xs A n c x w hn hl hN).mono fun _ _ hh => ⟨by rw [hh.1, h], hh.2.symm⟩
theorem toPar_snoc (l : List Nd) (p : Int) (ks : List Int) (k : Int) : toPar l p (ks ++ [k]) = modN (toPar l p ks) k fun d => { d with parent := p } := by simp [toPar]
theorem Nodes.kidsSet {w : World} {B g c m : Nat} {l : List Nd} {v : Value} {ks : List Int} (h : Nodes G w B (some ⟨g, 0, none⟩) c l) (hm : m < l.length) (hk : Kids G w v ks) :
    (∃ x, w.cell? ⟨g, m * 9 + 8, none⟩ = some x) ∧ w.frozen? ⟨g, m * 9 + 8, none⟩ = false ∧ Nodes G (w.setCell ⟨g, m * 9 + 8, none⟩ v) B (some ⟨g, 0, none⟩) c (modN l ((m : Int) + 1) fun d => { d with kids := ks }) := by
  obtain ⟨g', k', e, _, _, hf, hc⟩ := h.at_ hm
  obtain rfl : g = g' := by simpa using e
  refine ⟨⟨k', hc 8 (by omega)⟩, hf _, ?_⟩
  rw [modN_at hm]
  exact h.store hm (f := 8) (by omega) (fun k' => ⟨v, rfl, fun _ => hk⟩)
theorem nums_take {w : World} {B : Nat} {A : Option Addr} {k : IntKind} {xs : List Int} (h : Nums w B A k xs) (j : Nat) : Nums w B A k (xs.take j) := fun i hi => by
  rw [List.length_take] at hi
  rw [List.getElem_take]
  exact h i (by omega)

set_option maxHeartbeats 4000000 in
set_option maxRecDepth 100000 in
theorem put_any (l : List Nd) (A : Option Addr) (c : Nat) (p : Int) (kids : List Int) (A2 : Option Addr) (n c2 : Nat) (w : World) (hl : l.length ≤ 1000) (hk : ∀ d ∈ l, d.kids.length ≤ 100000) (hG : Fut G w.heap.size) (hN : Nodes G w 0 A c l)
    (hn : n = kids.length) (hnb : n ≤ 100000) (hnc : n ≤ c2) (h0 : A2 = none → c2 = 0) (hK : Nums w w.heap.size A2 .i64 kids) :
    Calls Try.prog 47 #[.slice A l.length c, .int .i64 p, .slice A2 n c2] w (Gave G w (putL l p kids) (putErr l p kids)) := by
  have H := Lib.hid hN
  have Hk := Lib.hid hk
  have HK := Lib.hid hK
  have Hn := Lib.hid hn
  have H0 := Lib.hid h0
  clear hN hk hK hn h0
  have hnot : ∀ (x : Bool) (w : World), (Op.unary .not (.bool x)).run Try.prog w = .ok (.bool (!x)) w := fun _ _ => rfl
  go_enter Try.func47, Try.ntmps47
  go_wp2_with fail
  refine (there_any l A c p w).mono ?_
  rintro e w1 ⟨rfl, rfl⟩
  cases hth : thereB l p with
  | false =>
    have E1 := Lib.hid (put_no (kids := kids) hth)
    clear hth
    go_wp2
    go_ret2
    exact Gave.same E1.out (put_same E1.out (by decide)) H.out
  | true =>
    have Hth := Lib.hid hth
    clear hth
    go_wp2_with fail
    go_loopw [8] (fun i wr => ∃ j : Nat, i = .int .i64 j ∧ j ≤ n ∧ (∀ i, i < j → kidIn l kids i = true) ∧ Below w.heap.size w wr) (fun i _ => n - (intOf i).toNat)
    case atStart => exact ⟨0, rfl, Nat.zero_le _, fun i hi => absurd hi (Nat.not_lt_zero i), Below.refl _ _⟩
    case round =>
      obtain ⟨j, rfl, hj, hin, hbr⟩ := hrel
      have Hin := Lib.hid hin
      clear hin
      by_cases hjn : (j : Int) < n
      · have hjk : j < kids.length := by rw [← Hn.out]; omega
        obtain ⟨b, off, rfl, hb, hc⟩ := HK.out.below hbr j hjk
        obtain ⟨x, hx⟩ : ∃ x, x = kids[j] := ⟨_, rfl⟩
        rw [← hx] at hc
        have hgx : kids.getD j 0 = x := by rw [List.getD_eq_getElem?_getD, List.getElem?_eq_getElem hjk, hx]; rfl
        have hki : kidIn l kids j = (thereB l x && !hasB (kids.take j) x) := by unfold kidIn; rw [hgx]
        have Hki := Lib.hid hki
        have Hx := Lib.hid hx
        clear hx hgx hki
        have hnt := nums_take (HK.out.below hbr) j
        have htl : j = (kids.take j).length := by rw [List.length_take]; omega
        have Hnt := Lib.hid hnt
        have Htl := Lib.hid htl
        clear hnt htl
        cases htx : thereB l x with
        | false =>
          have E1 := Lib.hid (put_bad Hth.out hjk (by rw [Hki.out, htx]; rfl))
          have Htx := Lib.hid htx
          clear htx
          go_wp2_with fail
          go_quiet ((go_at_call 58; exact Calls.quiet_of_same (there_is Htx.out _ _ _)))
          go_wp2
          go_ret2
          exact Gave.later E1.out (put_same E1.out (by decide)) H.out (below_draws hbr _)
        | true =>
          have Htx := Lib.hid htx
          cases hhs : hasB (kids.take j) x with
          | true =>
            have E1 := Lib.hid (put_bad Hth.out hjk (by rw [Hki.out, htx, hhs]; rfl))
            have Hhs := Lib.hid hhs
            clear htx hhs
            go_wp2_with fail
            go_quiet (first | (go_at_call 58; exact Calls.quiet_of_same (there_is Htx.out _ _ _)) | (go_at_call 59; exact Calls.quiet_of_same (has_is Hhs.out _ _ _ Htl.out (by omega) Hnt.out)))
            go_wp2
            go_ret2
            exact Gave.later E1.out (put_same E1.out (by decide)) H.out (below_draws hbr _)
          | false =>
            have hnext : ∀ i, i < j + 1 → kidIn l kids i = true := fun i hi => by
              by_cases e : i = j
              · subst e
                rw [Hki.out, htx, hhs]
                rfl
              · exact Hin.out i (by omega)
            have Hnext := Lib.hid hnext
            have Hhs := Lib.hid hhs
            clear htx hhs hnext
            go_wp2_with fail
            go_quiet (first | (go_at_call 58; exact Calls.quiet_of_same (there_is Htx.out _ _ _)) | (go_at_call 59; exact Calls.quiet_of_same (has_is Hhs.out _ _ _ Htl.out (by omega) Hnt.out)))
            go_wp2
            go_roundw
            case rel => exact ⟨j + 1, by go_num, by omega, Hnext.out, below_draws hbr _⟩
            case measure => simp [intOf]; omega
      · have hall : ∀ i, i < kids.length → kidIn l kids i = true := fun i hi => Hin.out i (by rw [← Hn.out] at hi; omega)
        have Hall := Lib.hid hall
        clear hall
        have hNr := H.out.below hbr
        go_wp2_with fail
        refine (over_any l A c p wr hl hNr).mono ?_
        rintro e w1 ⟨v, rfl, hKv, hb1⟩
        obtain ⟨Au, cu, rfl, hcu, hnu⟩ := hKv.form
        have hB1 : Below w.heap.size w w1 := hbr.trans (hb1.mono hbr.size)
        have hul : (over l p).length ≤ 1000000 := Nat.le_trans (over_len l (l.length + 1) p) (by omega)
        obtain ⟨up, hup⟩ : ∃ up, up = over l p := ⟨_, rfl⟩
        rw [← hup] at hnu hul hcu
        rw [← hup]
        have Hnu := Lib.hid hnu
        have Hup := Lib.hid hup
        clear hnu hKv hNr hcu hup hb1 hbr Hin
        go_wp2_with fail
        go_loopw [10] (fun i wr' => ∃ j : Nat, i = .int .i64 j ∧ j ≤ n ∧ (∀ k, k ∈ kids.take j → kidOk l up p k = true) ∧ wr' = w1) (fun i _ => n - (intOf i).toNat)
        case atStart => exact ⟨0, rfl, Nat.zero_le _, fun k hk => absurd hk (by simp), rfl⟩
        case round =>
          obtain ⟨j, rfl, hj, hok, rfl⟩ := hrel
          have Hok := Lib.hid hok
          clear hok
          by_cases hjn : (j : Int) < n
          · have hjk : j < kids.length := by rw [← Hn.out]; omega
            obtain ⟨b, off, rfl, hb, hc⟩ := HK.out.below hB1 j hjk
            obtain ⟨x, hx⟩ : ∃ x, x = kids[j] := ⟨_, rfl⟩
            rw [← hx] at hc
            have hmem : x ∈ kids := hx ▸ List.getElem_mem hjk
            have hgx : kids.getD j 0 = x := by rw [List.getD_eq_getElem?_getD, List.getElem?_eq_getElem hjk, hx]; rfl
            have htx : thereB l x = true := by
              have := Hall.out j hjk
              unfold kidIn at this
              rw [hgx, Bool.and_eq_true] at this
              exact this.1
            have hstep : kidOk l up p x = true → ∀ k, k ∈ kids.take (j + 1) → kidOk l up p k = true := fun h k hk => by
              rw [List.take_add_one, List.getElem?_eq_getElem hjk, ← hx] at hk
              rcases List.mem_append.1 hk with hk | hk
              · exact Hok.out k hk
              · obtain rfl : k = x := by simpa using hk
                exact h
            have hbad : kidOk l up p x = false → putErr l p kids = 3 := fun h => put_up Hth.out Hall.out hmem (by rw [← Hup.out]; exact h)
            obtain ⟨m, rfl, hm⟩ := there_at htx
            obtain ⟨g, k, rfl, -, -, -, hcell⟩ := (H.out.below hB1).at_ hm
            have c1 : wr.cell? ⟨g, m * 9, none⟩ = some (.int .i64 (nd l ((m : Int) + 1)).kind) := by rw [nd_at hm]; exact hcell 0 (by omega)
            have c3 : wr.cell? ⟨g, m * 9 + 1, none⟩ = some (.int .i64 (nd l ((m : Int) + 1)).parent) := by rw [nd_at hm]; exact hcell 1 (by omega)
            have hkd : kidOk l up p ((m : Int) + 1) = !(decide ((nd l ((m : Int) + 1)).kind = 1) || decide ((nd l ((m : Int) + 1)).kind = 3) || hasB up ((m : Int) + 1) || (decide ((nd l ((m : Int) + 1)).parent ≠ 0) && decide ((nd l ((m : Int) + 1)).parent ≠ p))) := rfl
            obtain ⟨kd, hkd'⟩ : ∃ kd, kd = (nd l ((m : Int) + 1)).kind := ⟨_, rfl⟩
            obtain ⟨pa, hpa'⟩ : ∃ pa, pa = (nd l ((m : Int) + 1)).parent := ⟨_, rfl⟩
            rw [← hkd'] at c1 hkd
            rw [← hpa'] at c3 hkd
            have Hkd := Lib.hid hkd
            have Hstep := Lib.hid hstep
            have Hbad := Lib.hid hbad
            clear hx hgx htx hstep hbad hcell hkd hkd' hpa' hmem
            by_cases k1 : kd = 1
            · have E1 := Lib.hid (Hbad.out (by rw [Hkd.out]; simp [k1]))
              subst k1
              go_wp2
              go_ret2
              exact Gave.later E1.out (put_same E1.out (by decide)) H.out hB1
            have k1' : (kd == 1) = false := by simpa using k1
            by_cases k3 : kd = 3
            · have E1 := Lib.hid (Hbad.out (by rw [Hkd.out]; simp [k3]))
              subst k3
              go_wp2
              go_ret2
              exact Gave.later E1.out (put_same E1.out (by decide)) H.out hB1
            have k3' : (kd == 3) = false := by simpa using k3
            cases hh : hasB up ((m : Int) + 1) with
            | true =>
              have E1 := Lib.hid (Hbad.out (by rw [Hkd.out, hh]; simp))
              have Hh := Lib.hid hh
              clear hh
              go_wp2_with fail
              refine (has_is Hh.out Au cu _ rfl hul Hnu.out).mono ?_
              rintro e w2 ⟨rfl, rfl⟩
              go_wp2
              go_ret2
              exact Gave.later E1.out (put_same E1.out (by decide)) H.out hB1
            | false =>
              have Hh := Lib.hid hh
              by_cases hbad2 : pa ≠ 0 ∧ pa ≠ p
              · have E1 := Lib.hid (Hbad.out (by rw [Hkd.out]; simp [hbad2.1, hbad2.2]))
                have z1 : (pa != 0) = true := by simpa using hbad2.1
                have z2 : (pa != p) = true := by simpa using hbad2.2
                have z3 : (pa == 0) = false := by simpa using hbad2.1
                have z4 : (pa == p) = false := by simpa using hbad2.2
                clear hh hbad2
                go_wp2_with fail
                refine (has_is Hh.out Au cu _ rfl hul Hnu.out).mono ?_
                rintro e w2 ⟨rfl, rfl⟩
                go_wp2
                go_ret2
                exact Gave.later E1.out (put_same E1.out (by decide)) H.out hB1
              · have hgood : kidOk l up p ((m : Int) + 1) = true := by
                  rw [Hkd.out, hh, decide_eq_false k1, decide_eq_false k3]
                  by_cases hp0 : pa = 0
                  · simp [hp0]
                  · have : pa = p := by
                      by_cases e : pa = p
                      · exact e
                      · exact absurd ⟨hp0, e⟩ hbad2
                    simp [this]
                have Hn2 := Lib.hid (Hstep.out hgood)
                clear hh hgood
                by_cases hp0 : pa = 0
                · subst hp0
                  clear hbad2
                  go_wp2_with fail
                  refine (has_is Hh.out Au cu _ rfl hul Hnu.out).mono ?_
                  rintro e w2 ⟨rfl, rfl⟩
                  go_wp2
                  go_roundw
                  case rel => exact ⟨j + 1, by go_num, by omega, Hn2.out, trivial⟩
                  case measure => simp [intOf]; omega
                · obtain rfl : pa = p := by
                    by_cases e : pa = p
                    · exact e
                    · exact absurd ⟨hp0, e⟩ hbad2
                  have z1 : (pa != 0) = true := by simpa using hp0
                  have z3 : (pa == 0) = false := by simpa using hp0
                  clear hbad2
                  go_wp2_with fail
                  refine (has_is Hh.out Au cu _ rfl hul Hnu.out).mono ?_
                  rintro e w2 ⟨rfl, rfl⟩
                  go_wp2
                  go_roundw
                  case rel => exact ⟨j + 1, by go_num, by omega, Hn2.out, trivial⟩
                  case measure => simp [intOf]; omega
          · have hE : putErr l p kids = 0 := put_ok Hth.out Hall.out fun k hk => by
              rw [← Hup.out]
              exact Hok.out k (by rw [List.take_of_length_le (by rw [← Hn.out]; omega)]; exact hk)
            have HE := Lib.hid hE
            have hN1 := H.out.below hB1
            clear hE Hok
            go_wp2_with fail
            refine (copy_any l A c wr hl Hk.out (hG.mono hB1.size) hN1).mono ?_
            rintro e w3 ⟨A3, c3, rfl, hN3, hb3⟩
            have hB3 : Below w.heap.size w w3 := hB1.trans (hb3.mono hB1.size)
            have hwB : w.heap.size ≤ wr.heap.size := hB1.size
            obtain ⟨mp, hmp, hmpl⟩ := there_at Hth.out
            obtain ⟨g, rfl, hg⟩ := hN3.some_ hmpl
            obtain ⟨B3, hB3'⟩ : ∃ B3, B3 = wr.heap.size := ⟨_, rfl⟩
            rw [← hB3'] at hN3 hg hwB
            have hgw : w.heap.size ≤ g := Nat.le_trans hwB hg
            have Hmp := Lib.hid hmp
            clear hb3 hN1 hB3' hmp
            go_wp2_with fail
            go_loopw [14] (fun i wr' => ∃ j : Nat, i = .int .i64 j ∧ j ≤ l.length ∧ Nodes G wr' B3 (some ⟨g, 0, none⟩) c3 (clrTo l p j) ∧ Below w.heap.size w wr') (fun i _ => l.length - (intOf i).toNat)
            case atStart => exact ⟨0, rfl, Nat.zero_le _, by rw [clrTo_zero]; exact hN3, hB3⟩
            case round =>
              obtain ⟨j, rfl, hj, hNj, hbj⟩ := hrel
              clear hN3 hB3
              by_cases hjl : (j : Int) < l.length
              · have hjl' : j < l.length := by omega
                have hjc : j < (clrTo l p j).length := by rw [clrTo_length]; exact hjl'
                obtain ⟨g', k, e', -, -, hfz, hcell⟩ := hNj.at_ hjc
                obtain rfl : g = g' := by simpa using e'
                rw [clrTo_at hjl'] at hcell
                have c1 : wr.cell? ⟨g, j * 9 + 1, none⟩ = some (.int .i64 l[j].parent) := hcell 1 (by omega)
                have hst := clrTo_step (p := p) hjl'
                have htn := hNj.turn (F := fun d => { d with parent := 0 }) (u := .int .i64 0) (f := 1) hjc (by omega) (fun _ _ => rfl) (fun _ => rfl)
                rw [modN_at hjc, clrTo_at hjl'] at htn
                obtain ⟨pa, hpa⟩ : ∃ pa, pa = l[j].parent := ⟨_, rfl⟩
                rw [← hpa] at c1 hst
                have Hst := Lib.hid hst
                clear hcell hst hpa e' hfz
                by_cases hpp : pa = p
                · subst hpp
                  obtain ⟨-, hz, hN4⟩ := htn
                  have hs := Hst.out
                  rw [if_pos rfl] at hs
                  rw [← hs] at hN4
                  have HN4 := Lib.hid hN4
                  clear hs hN4 Hst
                  go_wp2
                  go_roundw
                  case rel => exact ⟨j + 1, by go_num, by omega, HN4.out, hbj.setCell hgw _⟩
                  case measure => simp [intOf]; omega
                · have hpp' : (pa == p) = false := by simpa using hpp
                  have hs := Hst.out
                  rw [if_neg hpp] at hs
                  have hN4 : Nodes G wr B3 (some ⟨g, 0, none⟩) c3 (clrTo l p (j + 1)) := by
                    rw [hs]
                    have e : (clrTo l p j).set j l[j] = clrTo l p j := by
                      rw [← clrTo_at (p := p) hjl', List.set_getElem_self]
                    rw [e]
                    exact hNj
                  have HN4 := Lib.hid hN4
                  clear hs hN4 htn Hst
                  go_wp2
                  go_roundw
                  case rel => exact ⟨j + 1, by go_num, by omega, HN4.out, hbj⟩
                  case measure => simp [intOf]; omega
              · obtain rfl : j = l.length := by omega
                rw [clrTo_all] at hNj
                clear hjl hj
                go_wp2_with fail
                go_loopw [15] (fun i wr' => ∃ j : Nat, i = .int .i64 j ∧ j ≤ n ∧ Nodes G wr' B3 (some ⟨g, 0, none⟩) c3 (toPar (clr l p) p (kids.take j)) ∧ Below w.heap.size w wr') (fun i _ => n - (intOf i).toNat)
                case atStart => exact ⟨0, rfl, Nat.zero_le _, hNj, hbj⟩
                case round =>
                  obtain ⟨j, rfl, hj, hNj, hbj⟩ := hrel
                  have hll : (toPar (clr l p) p (kids.take j)).length = l.length := by rw [toPar_length, clr_length]
                  have Hll := Lib.hid hll
                  clear hll
                  by_cases hjn : (j : Int) < n
                  · have hjk : j < kids.length := by rw [← Hn.out]; omega
                    obtain ⟨b, off, rfl, hb, hc⟩ := HK.out.below hbj j hjk
                    obtain ⟨x, hx⟩ : ∃ x, x = kids[j] := ⟨_, rfl⟩
                    rw [← hx] at hc
                    have htx : thereB l x = true := by
                      have := Hall.out j hjk
                      unfold kidIn at this
                      rw [List.getD_eq_getElem?_getD, List.getElem?_eq_getElem hjk, Option.getD_some, ← hx, Bool.and_eq_true] at this
                      exact this.1
                    have hsn : toPar (clr l p) p (kids.take (j + 1)) = modN (toPar (clr l p) p (kids.take j)) x fun d => { d with parent := p } := by
                      rw [List.take_add_one, List.getElem?_eq_getElem hjk, ← hx]
                      exact toPar_snoc _ _ _ _
                    obtain ⟨m, rfl, hm⟩ := there_at htx
                    have hm' : m < (toPar (clr l p) p (kids.take j)).length := by rw [Hll.out]; exact hm
                    obtain ⟨⟨y, hy⟩, hz, hN4⟩ := hNj.turn (F := fun d => { d with parent := p }) (u := .int .i64 p) (f := 1) hm' (by omega) (fun _ _ => rfl) (fun _ => rfl)
                    rw [← hsn] at hN4
                    have HN4 := Lib.hid hN4
                    clear hsn hN4 htx hx
                    go_wp2
                    go_roundw
                    case rel => exact ⟨j + 1, by go_num, by omega, HN4.out, hbj.setCell hgw _⟩
                    case measure => simp [intOf]; omega
                  · rw [List.take_of_length_le (by rw [← Hn.out]; omega)] at hNj Hll
                    have hm' : mp < (toPar (clr l p) p kids).length := by rw [Hll.out]; exact hmpl
                    obtain ⟨i0, hi, hz0, hz1, hz2⟩ := info_parts Try.infoInt
                    have Hi := Lib.hid hi
                    have Hz0 := Lib.hid hz0
                    have Hz1 := Lib.hid hz1
                    have Hz2 := Lib.hid hz2
                    have hown : (wr.alloc (.cells #[] 3)).ownsRow wr.heap.size 3 1 (.slice (some ⟨wr.heap.size, 0, none⟩) 0 0) 0 [] := World.ownsRow_lit wr #[] 0 (Nat.le_refl _) (Nat.zero_le _) rfl
                    have hgv : Gives (wr.alloc (.cells #[] 3)) 1 (.slice A2 n c2) n (kids.map (Value.int .i64)) := nums_gives ((HK.out.below hbj).below ((Below.refl _ _).alloc hbj.size _)) Hn.out H0.out
                    have hL : putL l p kids = modN (toPar (clr l p) p kids) p fun d => { d with kids := kids } := by unfold putL; rw [if_pos HE.out]
                    have hLl : (putL l p kids).length = l.length := putL_length l p kids
                    have Hown := Lib.hid hown
                    have Hgv := Lib.hid hgv
                    have HL := Lib.hid hL
                    have HLl := Lib.hid hLl
                    clear hi hz0 hz1 hz2 hown hgv hL hLl
                    have hpm := Hmp.out
                    subst hpm
                    go_wp2_with (at_builtin; refine wpList_append_gives rfl (.tmp 133) (.tmp 134) 55 rfl wr.heap.size 3 i0 _ 1 8 Try.underlying55 Hi.out Hz0.out Hz1.out Hz2.out rfl (by decide) (.slice (some ⟨wr.heap.size, 0, none⟩) 0 0) 0 [] rfl Hown.out _ n (kids.map (Value.int .i64)) rfl Hgv.out (kids_one kids) (by unfold maxLen; omega) (by omega) (by simp) ?_; intro v2 w2 ho2 hg2; obtain ⟨A5, c5, rfl, hc5⟩ := own_form (by rw [Nat.zero_add] at ho2; exact ho2); obtain ⟨hk2, hb2, hs2⟩ := kids_new (G := G) (by rw [← Hn.out]; exact ho2) hg2 (hG.mono hbj.size); obtain ⟨⟨x8, hx8⟩, hz8, hN5⟩ := (hNj.below hb2).kidsSet hm' hk2; have HN5 := Lib.hid hN5; clear hN5)
                    go_ret2
                    rw [Gave, HE.out]
                    refine ⟨some ⟨g, 0, none⟩, c3, ?_, ?_, (hbj.trans (hb2.mono hbj.size)).setCell hgw _⟩
                    · rw [HLl.out]
                      rfl
                    · rw [HL.out]
                      exact HN5.out.from_ (Nat.zero_le _)
end Go.Proofs.Ytekmgaigppenlaa

namespace Go.Proofs.Ytekmgaigppenlaa
open Go Go.RowKit
variable {G : Nat → Prop}

/-- A call as a value: its node's children stand at kv, its list at lv. -/
def actVal (x : Ac) (kv lv : Value) : Value := .agg #[.int .i64 x.kind, .int .i64 x.a, .int .i64 x.b, .string x.s, .int .i64 x.n.kind, .int .i64 x.n.parent, .int .i64 x.n.host, .int .i64 x.n.shadow, .int .i64 x.n.mode, .bool x.n.slot, .string x.n.name, .string x.n.want, kv, lv]
/-- What an argument's texts and list hold. -/
structure ActIn (w : World) (x : Ac) (A : Option Addr) (c : Nat) : Prop where
  s : x.s.size ≤ 9223372036854775807
  name : x.n.name.size ≤ 9223372036854775807
  want : x.n.want.size ≤ 9223372036854775807
  cap : x.l.length ≤ c
  nil : A = none → c = 0
  nums : Nums w w.heap.size A .i64 x.l

theorem ActIn.below {w w' : World} {x : Ac} {A : Option Addr} {c : Nat} (h : ActIn w x A c) (hb : Below w.heap.size w w') : ActIn w' x A c := ⟨h.s, h.name, h.want, h.cap, h.nil, (h.nums.below hb).mono hb.size⟩

theorem Gave.three {w w' wb : World} {l : List Nd} {x : Ac} {l' : List Nd} {err : Int} {e : Ending} (h : Gave G wb l' err e w') (hb : Below w.heap.size w wb) (h1 : actL l x = l') (h2 : actErr l x = err) (h3 : actNo l x = 0) :
    ∃ A' c', e = .returned (.tuple #[.slice A' l'.length c', .int .i64 err]) ∧ Gave3 G w (actL l x) (actNo l x) (actErr l x) (.returned (.tuple #[.slice A' l'.length c', .int .i64 0, .int .i64 err])) w' := by
  obtain ⟨A', c', he, hN, hb'⟩ := h
  refine ⟨A', c', he, A', c', by rw [h1, h2, h3], by rw [h1]; exact hN, hb.trans (hb'.mono hb.size)⟩

set_option maxHeartbeats 4000000 in
set_option maxRecDepth 100000 in
theorem do_any (l : List Nd) (A : Option Addr) (c : Nat) (x : Ac) (kv : Value) (A2 : Option Addr) (c2 : Nat) (w : World) (hl : l.length ≤ 1000) (hk : ∀ d ∈ l, d.kids.length ≤ 100000) (hG : Fut G w.heap.size) (hxl : x.l.length ≤ 100000) (hN : Nodes G w 0 A c l) (hx : ActIn w x A2 c2) :
    Calls Try.prog 33 #[.slice A l.length c, actVal x kv (.slice A2 x.l.length c2)] w (Gave3 G w (actL l x) (actNo l x) (actErr l x)) := by
  obtain ⟨kx, ax, bx, sx, ⟨k, pa, ho, sh, m, sl, na, wa, ks⟩, xs⟩ := x
  have hbb : Below w.heap.size w (w.alloc (.cells #[.int .i64 kx, .int .i64 ax, .int .i64 bx, .string sx, .int .i64 k, .int .i64 pa, .int .i64 ho, .int .i64 sh, .int .i64 m, .bool sl, .string na, .string wa, kv, .slice A2 xs.length c2] 59)) := (Below.refl _ w).alloc (Nat.le_refl _) _
  have hNb := hN.below hbb
  have hGb := hG.mono hbb.size
  have hxb := hx.below hbb
  obtain ⟨q1, q2, q3, q4, q5, q6⟩ := hxb
  have HNb := Lib.hid hNb
  have Hk := Lib.hid hk
  have H5 := Lib.hid q5
  have H6 := Lib.hid q6
  have Hbb := Lib.hid hbb
  simp only at q1 q2 q3 q4 hxl
  unfold actVal
  simp only
  clear hN hx hNb hk q5 q6 hbb
  obtain ⟨X, hX⟩ : ∃ X : Ac, X = ⟨kx, ax, bx, sx, ⟨k, pa, ho, sh, m, sl, na, wa, ks⟩, xs⟩ := ⟨_, rfl⟩
  rw [← hX]
  by_cases h0 : kx = 0
  · subst h0
    have e1 : actL l X = mkL l ⟨k, pa, ho, sh, m, sl, na, wa, ks⟩ := by rw [hX]; rfl
    have e2 : actNo l X = mkNo l ⟨k, pa, ho, sh, m, sl, na, wa, ks⟩ := by rw [hX]; rfl
    have e3 : actErr l X = mkErr l.length ⟨k, pa, ho, sh, m, sl, na, wa, ks⟩ := by rw [hX]; rfl
    rw [e1, e2, e3]
    clear e1 e2 e3 hX
    go_enter Try.func33, Try.ntmps33
    go_wp2_with fail
    refine (make_any l A c k pa ho sh m sl na wa ks kv _ q2 q3 hl Hk.out hGb HNb.out).mono ?_
    rintro e w1 ⟨A', c', rfl, hN', hb'⟩
    go_wp2
    go_ret3
    exact ⟨A', c', rfl, hN', Hbb.out.trans (hb'.mono Hbb.out.size)⟩
  · have h0' : (kx == 0) = false := by simpa using h0
    have n3 : actNo l X = 0 := by rw [hX]; exact if_neg h0
    by_cases h1 : kx = 1
    · subst h1
      have e1 : actL l X = putL l ax xs := by rw [hX]; rfl
      have e2 : actErr l X = putErr l ax xs := by rw [hX]; rfl
      have E1 := Lib.hid e1
      have E2 := Lib.hid e2
      have N3 := Lib.hid n3
      clear e1 e2 n3 hX
      go_enter Try.func33, Try.ntmps33
      go_wp2_with fail
      refine (put_any l A c ax xs A2 xs.length c2 _ hl Hk.out hGb HNb.out rfl hxl q4 H5.out H6.out).mono ?_
      intro e w1 hG
      obtain ⟨A', c', rfl, hG3⟩ := hG.three Hbb.out E1.out E2.out N3.out
      go_wp2
      go_ret3
      exact hG3
    · have h1' : (kx == 1) = false := by simpa using h1
      by_cases h2 : kx = 2
      · subst h2
        have e1 : actL l X = tieL l ax bx := by rw [hX]; rfl
        have e2 : actErr l X = tieErr l ax bx := by rw [hX]; rfl
        have E1 := Lib.hid e1
        have E2 := Lib.hid e2
        have N3 := Lib.hid n3
        clear e1 e2 n3 hX
        go_enter Try.func33, Try.ntmps33
        go_wp2_with fail
        refine (tie_any l A c ax bx _ hl Hk.out hGb HNb.out).mono ?_
        intro e w1 hG
        obtain ⟨A', c', rfl, hG3⟩ := hG.three Hbb.out E1.out E2.out N3.out
        go_wp2
        go_ret3
        exact hG3
      · have h2' : (kx == 2) = false := by simpa using h2
        by_cases h3 : kx = 3
        · subst h3
          have e1 : actL l X = nameL l ax sx := by rw [hX]; rfl
          have e2 : actErr l X = nameErr l ax sx := by rw [hX]; rfl
          have E1 := Lib.hid e1
          have E2 := Lib.hid e2
          have N3 := Lib.hid n3
          clear e1 e2 n3 hX
          go_enter Try.func33, Try.ntmps33
          go_wp2_with fail
          refine (name_any l A c ax sx _ q1 hl Hk.out hGb HNb.out).mono ?_
          intro e w1 hG
          obtain ⟨A', c', rfl, hG3⟩ := hG.three Hbb.out E1.out E2.out N3.out
          go_wp2
          go_ret3
          exact hG3
        · have h3' : (kx == 3) = false := by simpa using h3
          by_cases h4 : kx = 4
          · subst h4
            have e1 : actL l X = wantL l ax sx := by rw [hX]; rfl
            have e2 : actErr l X = wantErr l ax sx := by rw [hX]; rfl
            have E1 := Lib.hid e1
            have E2 := Lib.hid e2
            have N3 := Lib.hid n3
            clear e1 e2 n3 hX
            go_enter Try.func33, Try.ntmps33
            go_wp2_with fail
            refine (want_any l A c ax sx _ q1 hl Hk.out hGb HNb.out).mono ?_
            intro e w1 hG
            obtain ⟨A', c', rfl, hG3⟩ := hG.three Hbb.out E1.out E2.out N3.out
            go_wp2
            go_ret3
            exact hG3
          · have h4' : (kx == 4) = false := by simpa using h4
            have e1 : actL l X = l := by rw [hX]; simp only [actL, if_neg h0, if_neg h1, if_neg h2, if_neg h3, if_neg h4]
            have e2 : actErr l X = 0 := by rw [hX]; simp only [actErr, if_neg h0, if_neg h1, if_neg h2, if_neg h3, if_neg h4]
            rw [e1, e2, n3]
            clear e1 e2 n3 hX
            go_enter Try.func33, Try.ntmps33
            go_wp2
            go_ret3
            exact ⟨_, _, rfl, HNb.out, Hbb.out⟩
end Go.Proofs.Ytekmgaigppenlaa

namespace Go.Proofs.Ytekmgaigppenlaa
open Go Go.ChangeShapes Go.WideShapes Go.ChangeAt Go.RowKit

section
variable {H : Type} {enc : TypeId × Value → H} {W : World} {sp : Nat → Bool} {held : Bool} {fuel : Nat} {cs : List Value} {y : DataW H × List MemPlace}

theorem node_in (h : DataW.trod enc Try.prog W 0 sp held fuel 57 cs = some y) :
    ∃ (d : Nd) (A : Option Addr) (c : Nat), cs = d.cells (.slice A d.kids.length c) ∧ d.name.size ≤ 9223372036854775807 ∧ d.want.size ≤ 9223372036854775807 ∧ ListIn W A c d.kids := by
  obtain ⟨xs, n, _, _, hlen, hxl, hf⟩ := DataW.trod_struct Try.underlying57 h
  have h9 : cs.length = 9 := hlen.trans (by kernel_rfl)
  have hxl' : xs.length = 9 := hxl
  have one : Try.prog.cellsOf 3 = 1 := by kernel_rfl
  have oneB : Try.prog.cellsOf 4 = 1 := by kernel_rfl
  have oneS : Try.prog.cellsOf 9 = 1 := by kernel_rfl
  have oneL : Try.prog.cellsOf 55 = 1 := by kernel_rfl
  have get : ∀ i, i < 9 → ∃ z, xs[i]? = some z := fun i hi => ⟨xs[i]'(by omega), List.getElem?_eq_getElem _⟩
  obtain ⟨z0, g0⟩ := get 0 (by omega)
  obtain ⟨z1, g1⟩ := get 1 (by omega)
  obtain ⟨z2, g2⟩ := get 2 (by omega)
  obtain ⟨z3, g3⟩ := get 3 (by omega)
  obtain ⟨z4, g4⟩ := get 4 (by omega)
  obtain ⟨z5, g5⟩ := get 5 (by omega)
  obtain ⟨z6, g6⟩ := get 6 (by omega)
  obtain ⟨z7, g7⟩ := get 7 (by omega)
  obtain ⟨z8, g8⟩ := get 8 (by omega)
  obtain ⟨a0, e0, _, _⟩ := DataW.trod_int Try.underlying3 ((hf 0 _ rfl).trans g0)
  obtain ⟨a1, e1, _, _⟩ := DataW.trod_int Try.underlying3 ((hf 1 _ rfl).trans g1)
  obtain ⟨a2, e2, _, _⟩ := DataW.trod_int Try.underlying3 ((hf 2 _ rfl).trans g2)
  obtain ⟨a3, e3, _, _⟩ := DataW.trod_int Try.underlying3 ((hf 3 _ rfl).trans g3)
  obtain ⟨a4, e4, _, _⟩ := DataW.trod_int Try.underlying3 ((hf 4 _ rfl).trans g4)
  obtain ⟨a5, e5, _⟩ := DataW.trod_bool Try.underlying4 ((hf 5 _ rfl).trans g5)
  obtain ⟨a6, e6, _, s6⟩ := DataW.trod_string Try.underlying9 ((hf 6 _ rfl).trans g6)
  obtain ⟨a7, e7, _, s7⟩ := DataW.trod_string Try.underlying9 ((hf 7 _ rfl).trans g7)
  obtain ⟨A, c, ks, e8, hL⟩ := list_in ((hf 8 _ rfl).trans g8)
  refine ⟨⟨a0, a1, a2, a3, a4, a5, a6, a7, ks⟩, A, c, ?_, s6, s7, hL⟩
  refine List.ext_getElem? fun i => ?_
  match i with
  | 0 => exact part_one e0 one
  | 1 => exact part_one e1 one
  | 2 => exact part_one e2 one
  | 3 => exact part_one e3 one
  | 4 => exact part_one e4 one
  | 5 => exact part_one e5 oneB
  | 6 => exact part_one e6 oneS
  | 7 => exact part_one e7 oneS
  | 8 => exact part_one e8 oneL
  | i + 9 => rw [List.getElem?_eq_none (by omega), List.getElem?_eq_none (by rw [Nd.cells_length]; omega)]

/-- A call's fourteen cells. -/
def actCells (x : Ac) (kv lv : Value) : List Value := [.int .i64 x.kind, .int .i64 x.a, .int .i64 x.b, .string x.s, .int .i64 x.n.kind, .int .i64 x.n.parent, .int .i64 x.n.host, .int .i64 x.n.shadow, .int .i64 x.n.mode, .bool x.n.slot, .string x.n.name, .string x.n.want, kv, lv]

theorem act_in (h : DataW.trod enc Try.prog W 0 sp held fuel 59 cs = some y) :
    ∃ (x : Ac) (A1 : Option Addr) (c1 : Nat) (A2 : Option Addr) (c2 : Nat), cs = actCells x (.slice A1 x.n.kids.length c1) (.slice A2 x.l.length c2) ∧ ListIn W A1 c1 x.n.kids ∧ ActIn W x A2 c2 := by
  obtain ⟨xs, n, _, _, hlen, hxl, hf⟩ := DataW.trod_struct Try.underlying59 h
  have h14 : cs.length = 14 := hlen.trans (by kernel_rfl)
  have hxl' : xs.length = 6 := hxl
  have one : Try.prog.cellsOf 3 = 1 := by kernel_rfl
  have oneS : Try.prog.cellsOf 9 = 1 := by kernel_rfl
  have oneL : Try.prog.cellsOf 55 = 1 := by kernel_rfl
  have nine : Try.prog.cellsOf 57 = 9 := by kernel_rfl
  have get : ∀ i, i < 6 → ∃ z, xs[i]? = some z := fun i hi => ⟨xs[i]'(by omega), List.getElem?_eq_getElem _⟩
  obtain ⟨z0, g0⟩ := get 0 (by omega)
  obtain ⟨z1, g1⟩ := get 1 (by omega)
  obtain ⟨z2, g2⟩ := get 2 (by omega)
  obtain ⟨z3, g3⟩ := get 3 (by omega)
  obtain ⟨z4, g4⟩ := get 4 (by omega)
  obtain ⟨z5, g5⟩ := get 5 (by omega)
  obtain ⟨a0, e0, _, _⟩ := DataW.trod_int Try.underlying3 ((hf 0 _ rfl).trans g0)
  obtain ⟨a1, e1, _, _⟩ := DataW.trod_int Try.underlying3 ((hf 1 _ rfl).trans g1)
  obtain ⟨a2, e2, _, _⟩ := DataW.trod_int Try.underlying3 ((hf 2 _ rfl).trans g2)
  obtain ⟨a3, e3, _, s3⟩ := DataW.trod_string Try.underlying9 ((hf 3 _ rfl).trans g3)
  obtain ⟨d, A1, c1, e4, s4, s5, hL1⟩ := node_in ((hf 4 _ rfl).trans g4)
  obtain ⟨A2, c2, ls, e5, hL2⟩ := list_in ((hf 5 _ rfl).trans g5)
  refine ⟨⟨a0, a1, a2, a3, d, ls⟩, A1, c1, A2, c2, ?_, hL1, ⟨s3, s4, s5, hL2.cap, hL2.nil, hL2.nums⟩⟩
  have hd : ∀ f, f < 9 → cs[4 + f]? = (d.cells (.slice A1 d.kids.length c1))[f]? := fun f hf => by
    have : ((cs.drop 4).take (Try.prog.cellsOf 57))[f]? = (d.cells (.slice A1 d.kids.length c1))[f]? := congrArg (fun l : List Value => l[f]?) e4
    rw [nine, List.getElem?_take, if_pos hf, List.getElem?_drop] at this
    exact this
  refine List.ext_getElem? fun i => ?_
  match i with
  | 0 => exact part_one e0 one
  | 1 => exact part_one e1 one
  | 2 => exact part_one e2 one
  | 3 => exact part_one e3 oneS
  | 4 => exact hd 0 (by omega)
  | 5 => exact hd 1 (by omega)
  | 6 => exact hd 2 (by omega)
  | 7 => exact hd 3 (by omega)
  | 8 => exact hd 4 (by omega)
  | 9 => exact hd 5 (by omega)
  | 10 => exact hd 6 (by omega)
  | 11 => exact hd 7 (by omega)
  | 12 => exact hd 8 (by omega)
  | 13 => exact part_one e5 oneL
  | i + 14 => rw [List.getElem?_eq_none (by omega), List.getElem?_eq_none (by show 14 ≤ i + 14; omega)]
end

/-- A call that came in, at its place. -/
def ActAt (w : World) (A : Option Addr) (i : Nat) (x : Ac) : Prop :=
  ∃ (b off : Nat) (A1 : Option Addr) (c1 : Nat) (A2 : Option Addr) (c2 : Nat), A = some ⟨b, off, none⟩ ∧ b < w.heap.size ∧ (∀ f, f < 14 → w.cell? ⟨b, off + (i * 14 + f), none⟩ = (actCells x (.slice A1 x.n.kids.length c1) (.slice A2 x.l.length c2))[f]?) ∧ ListIn w A1 c1 x.n.kids ∧ ActIn w x A2 c2
def Acts (w : World) (A : Option Addr) (xs : List Ac) : Prop := ∀ i (h : i < xs.length), ActAt w A i xs[i]

theorem Acts.below {w w' : World} {A : Option Addr} {xs : List Ac} (h : Acts w A xs) (hb : Below w.heap.size w w') : Acts w' A xs := fun i hi => by
  obtain ⟨b, off, A1, c1, A2, c2, e, hB, hc, hL, hA⟩ := h i hi
  exact ⟨b, off, A1, c1, A2, c2, e, Nat.lt_of_lt_of_le hB hb.size, fun f hf => (hb.cell (p := ⟨b, off + (i * 14 + f), none⟩) hB).trans (hc f hf), hL.below hb, hA.below hb⟩

set_option maxRecDepth 100000 in
/-- Out of the row's reading. -/
theorem acts_in {H : Type} {enc : TypeId × Value → H} {W : World} {sp : Nat → Bool} {held : Bool} {fuel : Nat} {A : Option Addr} {n cap : Nat} {y : DataW H × List MemPlace}
    (h : DataW.trod enc Try.prog W 0 sp held fuel 34 [.slice A n cap] = some y) : ∃ xs : List Ac, xs.length = n ∧ Acts W A xs ∧ n ≤ cap ∧ n ≤ maxLen := by
  have c14 : Try.prog.cellsOf 59 = 14 := by kernel_rfl
  rcases DataW.trod_slice Try.underlying34 h with ⟨hv, _⟩ | ⟨a, n', cap', elems, rest, m, _, hv, _, _, hl, hm, hlen, hel, _, _⟩
  · obtain ⟨rfl, rfl, rfl⟩ : A = none ∧ n = 0 ∧ cap = 0 := by simpa using hv
    exact ⟨[], rfl, fun i hi => absurd hi (Nat.not_lt_zero i), Nat.le_refl 0, Nat.zero_le _⟩
  · obtain ⟨rfl, rfl, rfl⟩ : A = some a ∧ n = n' ∧ cap = cap' := by simpa using hv
    have each : ∀ i, i < n → ∃ x, ActAt W (some a) i x := fun i hi => by
      have hb := hel i hi
      rw [List.getElem?_eq_getElem (by omega), c14, Option.bind_eq_some_iff] at hb
      obtain ⟨cs, hcs, ht⟩ := hb
      obtain ⟨x, A1, c1, A2, c2, rfl, hL, hA⟩ := act_in ht
      obtain ⟨_, _, hc⟩ := World.cells?_some hcs
      have h0 := hc 0 (by omega)
      have hz : ∃ v, W.cell? ((a.add (i * 14)).add 0) = some v := ⟨_, h0⟩
      obtain ⟨b, off, spot⟩ := a
      have hs : spot = none := by
        have hb0 := hel 0 (by omega)
        rw [List.getElem?_eq_getElem (by omega), c14, Option.bind_eq_some_iff] at hb0
        obtain ⟨cs0, hcs0, _⟩ := hb0
        obtain ⟨_, hl0, hc0⟩ := World.cells?_some hcs0
        have h1 := hc0 0 (by omega)
        rw [List.getElem?_eq_getElem (by omega)] at h1
        simpa [Addr.add] using World.cell?_spot h1
      subst hs
      have hc' : ∀ f, f < 14 → W.cell? ⟨b, off + (i * 14 + f), none⟩ = (actCells x (.slice A1 x.n.kids.length c1) (.slice A2 x.l.length c2))[f]? := fun f hf => by
        have := hc f hf
        rw [Addr.add_lit, Addr.add_lit] at this
        rw [← this, Nat.add_assoc]
      exact ⟨x, b, off, A1, c1, A2, c2, rfl, cell_in (hc' 0 (by omega)), hc', hL, hA⟩
    refine ⟨(List.range n).attach.map fun i => (each i.1 (List.mem_range.1 i.2)).choose, by simp, fun i hi => ?_, hl, Nat.le_trans hl hm⟩
    have hi' : i < n := by simpa using hi
    have := (each i hi').choose_spec
    simpa using this
end Go.Proofs.Ytekmgaigppenlaa
