/-
  What towncrierref04.Make does.
  What Make of package arena does.
  What Make of package arena does.
  What towncrierref04.Do does.
  Calls on a forest that came in: a list of them, each with its text, its node and its list of numbers, read cell by cell.
-/
import Derived.Test.YtekmgaigppenlaaPartB

namespace Go.Proofs.Ytekmgaigppenlaa
open Go Go.RowKit
variable {G : Nat → Prop}

section
variable {w w' : World} {B c : Nat} {A : Option Addr} {l : List Nd} {d : Nd}
theorem kids_apart {v v' : Value} {xs : List Int} {us : List Value} {base n size : Nat} {t : TypeId} (h : Kids G w v xs) (h' : w.ownsRow base t size v' n us) (ht : t ≠ 3) {g : Nat} (hg : v.ownBlock = some g) : v'.ownBlock ≠ some g := fun e => by
  rcases h.1.2 with ⟨rfl, _⟩ | ⟨g1, cap, cur, rfl, _, hh, _⟩
  · cases hg
  rcases h'.2 with ⟨rfl, _⟩ | ⟨g2, cap2, cur2, rfl, _, hh2, _⟩
  · cases e
  obtain rfl : g1 = g := by simpa [Value.ownBlock] using hg
  obtain rfl : g2 = g1 := by simpa [Value.ownBlock] using e
  exact Has.apart hh2 hh (fun e => ht (by injection e)) rfl
/-- A node without children is put behind. -/
theorem wp_push {P : Program} {o : Oper} {a : Act} {K : Act → World → Prop} {Q : Exit → Act → World → Prop} (s x : Operand) (t : TypeId)
    (ho : o.op = .call { callee := .builtin .append, args := #[s, x], argTypes := #[t, t] }) (i : TypeInfo) (z : Value) (ht : P.underlying t = some (.slice 57)) (hi : P.info? 57 = some i) (hz : i.zero = some z)
    (hsize : i.size = 9) (hby : i.bytes = 104) (hzs : z.cells.size = 9) (hs : a.eval s = .slice A l.length c) (hN : Nodes G w B A c l) {b q : Nat} (hx : a.eval x = .slice (some ⟨b, 0, none⟩) 1 q) {fr : Nat × Nat}
    (hb : Has w b (.cells (d.cells (.slice none 0 0)).toArray 57 fr)) (hd : d.kids = []) (hl : l.length ≤ 1000) (hB : B ≤ w.heap.size) (hG : Fut G B)
    (h : ∀ A' c' w', Nodes G w' B A' c' (l ++ [d]) → Keeps (fun i => B ≤ i) w w' → K (a.put o.dst (.slice A' (l.length + 1) c')) w') : o.wp P a w K Q := by
  obtain ⟨rows, h1, h2, h3, -⟩ := hN
  refine wp_append_own w s x t ho B 57 i z 9 104 ht hi hz hsize hby hzs (by decide) _ l.length (flat rows) hs h2 ⟨b, 0, none⟩ 1 q (d.cells (.slice none 0 0)) hx rfl ?_ ?_ (by unfold maxLen; omega) (by omega) hB ?_
  · exact World.news_of_block hb
  · intro u hu
    exact flat_one (rows := [(d, .slice none 0 0)]) (fun p hp => by obtain rfl := List.mem_singleton.1 hp; rfl) u (by simpa [flat] using hu)
  · intro v' w' ho' hg _
    obtain ⟨A', c', rfl, _⟩ := own_form ho'
    refine h A' c' w' ⟨rows ++ [(d, .slice none 0 0)], by simp [h1], ?_, fun p hp => ?_, fun b off s e => by subst e; exact hG b (ho'.lt b rfl).1⟩ ((Keeps.of_grown hg).wide fun i _ e => (h2.lt i e).1)
    · rw [List.length_append, flat_append]
      have : flat [(d, Value.slice none 0 0)] = d.cells (.slice none 0 0) := by simp [flat]
      rw [this]
      exact ho'
    · rcases List.mem_append.1 hp with hp | hp
      · exact ⟨own_kept (h3 p hp).1 (Keeps.of_grown hg) fun g hg' e => kids_apart (h3 p hp) h2 (by decide) hg' e, (h3 p hp).2⟩
      · obtain rfl := List.mem_singleton.1 hp
        show Kids G w' _ d.kids
        rw [hd]
        exact ⟨World.ownsRow_nil _ _ _ _, fun _ h => absurd h (by simp [Value.ownBlock])⟩
end

section
variable {n : Nat} {k pa ho sh m : Int} {sl : Bool} {na wa : ByteArray} {ks : List Int}
theorem mkErr_kind (h : k < 1 ∨ 4 < k) : mkErr n ⟨k, pa, ho, sh, m, sl, na, wa, ks⟩ = 2 := by unfold mkErr; rw [if_pos h]
theorem mkErr_mode (h0 : 1 ≤ k) (h1 : k ≤ 4) (h : (k = 3 ∧ m ≠ 1 ∧ m ≠ 2) ∨ (k ≠ 3 ∧ m ≠ 0)) : mkErr n ⟨k, pa, ho, sh, m, sl, na, wa, ks⟩ = 1 := by unfold mkErr; rw [if_neg (by show ¬ (k < 1 ∨ 4 < k); omega), if_pos h]
theorem mkErr_name (h0 : 1 ≤ k) (h1 : k ≤ 4) (h2 : ¬ ((k = 3 ∧ m ≠ 1 ∧ m ≠ 2) ∨ (k ≠ 3 ∧ m ≠ 0))) (h : (k ≠ 2 ∧ (sl = true ∨ wa.toList.isEmpty = false)) ∨ (sl = false ∧ na.toList.isEmpty = false) ∨ okName na = false ∨ okName wa = false) :
    mkErr n ⟨k, pa, ho, sh, m, sl, na, wa, ks⟩ = 1 := by unfold mkErr; rw [if_neg (by show ¬ (k < 1 ∨ 4 < k); omega), if_neg h2, if_pos h]
theorem mkErr_rest (h0 : 1 ≤ k) (h1 : k ≤ 4) (h2 : ¬ ((k = 3 ∧ m ≠ 1 ∧ m ≠ 2) ∨ (k ≠ 3 ∧ m ≠ 0))) (h : ¬ ((k ≠ 2 ∧ (sl = true ∨ wa.toList.isEmpty = false)) ∨ (sl = false ∧ na.toList.isEmpty = false) ∨ okName na = false ∨ okName wa = false)) :
    mkErr n ⟨k, pa, ho, sh, m, sl, na, wa, ks⟩ = if 128 ≤ n then 9 else 0 := by unfold mkErr; rw [if_neg (by show ¬ (k < 1 ∨ 4 < k); omega), if_neg h2, if_neg h]
theorem okName_empty {s : ByteArray} (h : s.toList.isEmpty = true) : okName s = true := by unfold okName; rw [h]; rfl
end

/-- What is read of the node that came in. -/
def Box (b : Nat) (k m : Int) (sl : Bool) (na wa : ByteArray) (w : World) : Prop := w.cell? ⟨b, 0, none⟩ = some (.int .i64 k) ∧ w.cell? ⟨b, 5, none⟩ = some (.bool sl) ∧ w.cell? ⟨b, 6, none⟩ = some (.string na) ∧ w.cell? ⟨b, 7, none⟩ = some (.string wa) ∧ w.cell? ⟨b, 4, none⟩ = some (.int .i64 m)
theorem Box.of {b : Nat} {k pa ho sh m : Int} {sl : Bool} {na wa : ByteArray} {kv : Value} {t : TypeId} {fr : Nat × Nat} {w : World} (h : Has w b (.cells #[.int .i64 k, .int .i64 pa, .int .i64 ho, .int .i64 sh, .int .i64 m, .bool sl, .string na, .string wa, kv] t fr)) : Box b k m sl na wa w :=
  ⟨Has.cell h 0, Has.cell h 5, Has.cell h 6, Has.cell h 7, Has.cell h 4⟩
/-- The nodes then, a number, an error's number. -/
def Gave3 (G : Nat → Prop) (w : World) (l' : List Nd) (no err : Int) (e : Ending) (w' : World) : Prop := ∃ A' c', e = .returned (.tuple #[.slice A' l'.length c', .int .i64 no, .int .i64 err]) ∧ Nodes G w' 0 A' c' l' ∧ Below w.heap.size w w'
theorem Gave3.err {w w' : World} {l : List Nd} {A : Option Addr} {c : Nat} {d : Nd} {e : Int} (he : mkErr l.length d = e) (h0 : e ≠ 0) (h : Nodes G w 0 A c l) (hb : Below w.heap.size w w') : Gave3 G w (mkL l d) (mkNo l d) (mkErr l.length d) (.returned (.tuple #[.slice A l.length c, .int .i64 0, .int .i64 e])) w' := by
  unfold mkL mkNo
  rw [he, if_neg h0, if_neg h0]
  exact ⟨_, _, rfl, h.below hb, hb⟩

set_option maxHeartbeats 4000000 in
set_option maxRecDepth 100000 in
theorem make_kind (l : List Nd) (A : Option Addr) (c : Nat) (k pa ho sh m : Int) (sl : Bool) (na wa : ByteArray) (ks : List Int) (kv : Value) (w : World) (hN : Nodes G w 0 A c l) (hkd : k < 1 ∨ 4 < k) :
    Calls Try.prog 46 #[.slice A l.length c, .agg #[.int .i64 k, .int .i64 pa, .int .i64 ho, .int .i64 sh, .int .i64 m, .bool sl, .string na, .string wa, kv]] w (Gave3 G w (mkL l ⟨k, pa, ho, sh, m, sl, na, wa, ks⟩) (mkNo l ⟨k, pa, ho, sh, m, sl, na, wa, ks⟩) (mkErr l.length ⟨k, pa, ho, sh, m, sl, na, wa, ks⟩)) := by
  have H := Lib.hid hN
  clear hN
  have hnot : ∀ (x : Bool) (w : World), (Op.unary .not (.bool x)).run Try.prog w = .ok (.bool (!x)) w := fun _ _ => rfl
  have hbb : Below w.heap.size w (w.alloc (.cells #[.int .i64 k, .int .i64 pa, .int .i64 ho, .int .i64 sh, .int .i64 m, .bool sl, .string na, .string wa, kv] 57)) := (Below.refl _ w).alloc (Nat.le_refl _) _
  rcases hkd with h1 | h1
  · have f1 : decide (k < 1) = true := decide_eq_true h1
    go_enter Try.func46, Try.ntmps46
    go_wp2
    go_ret3
    exact Gave3.err (mkErr_kind (.inl h1)) (by decide) H.out hbb
  · have f1 : decide (k < 1) = false := decide_eq_false (by omega)
    have f2 : decide (4 < k) = true := decide_eq_true h1
    go_enter Try.func46, Try.ntmps46
    go_wp2
    go_ret3
    exact Gave3.err (mkErr_kind (.inr h1)) (by decide) H.out hbb
set_option maxHeartbeats 4000000 in
set_option maxRecDepth 100000 in
theorem make_mode (l : List Nd) (A : Option Addr) (c : Nat) (k pa ho sh m : Int) (sl : Bool) (na wa : ByteArray) (ks : List Int) (kv : Value) (w : World) (hN : Nodes G w 0 A c l) (h0 : 1 ≤ k) (h4 : k ≤ 4) (hmd : (k = 3 ∧ m ≠ 1 ∧ m ≠ 2) ∨ (k ≠ 3 ∧ m ≠ 0)) :
    Calls Try.prog 46 #[.slice A l.length c, .agg #[.int .i64 k, .int .i64 pa, .int .i64 ho, .int .i64 sh, .int .i64 m, .bool sl, .string na, .string wa, kv]] w (Gave3 G w (mkL l ⟨k, pa, ho, sh, m, sl, na, wa, ks⟩) (mkNo l ⟨k, pa, ho, sh, m, sl, na, wa, ks⟩) (mkErr l.length ⟨k, pa, ho, sh, m, sl, na, wa, ks⟩)) := by
  have H := Lib.hid hN
  clear hN
  have hnot : ∀ (x : Bool) (w : World), (Op.unary .not (.bool x)).run Try.prog w = .ok (.bool (!x)) w := fun _ _ => rfl
  have hbb : Below w.heap.size w (w.alloc (.cells #[.int .i64 k, .int .i64 pa, .int .i64 ho, .int .i64 sh, .int .i64 m, .bool sl, .string na, .string wa, kv] 57)) := (Below.refl _ w).alloc (Nat.le_refl _) _
  have f1 : decide (k < 1) = false := decide_eq_false (by omega)
  have f2 : decide (4 < k) = false := decide_eq_false (by omega)
  have hE := Lib.hid (mkErr_mode (n := l.length) (pa := pa) (ho := ho) (sh := sh) (sl := sl) (na := na) (wa := wa) (ks := ks) h0 h4 hmd)
  rcases hmd with ⟨h1, h2, h3⟩ | ⟨h1, h2⟩
  · subst h1
    have f4 : (m == 1) = false := by simpa using h2
    have f5 : (m == 2) = false := by simpa using h3
    go_enter Try.func46, Try.ntmps46
    go_wp2
    go_ret3
    exact Gave3.err hE.out (by decide) H.out hbb
  · have f3 : (k == 3) = false := by simpa using h1
    have f4 : (m == 0) = false := by simpa using h2
    have f5 : (k != 3) = true := by simpa using h1
    have f6 : (m != 0) = true := by simpa using h2
    go_enter Try.func46, Try.ntmps46
    go_wp2
    go_ret3
    exact Gave3.err hE.out (by decide) H.out hbb
set_option maxHeartbeats 8000000 in
set_option maxRecDepth 100000 in
theorem make_name (l : List Nd) (A : Option Addr) (c : Nat) (k pa ho sh m : Int) (sl : Bool) (na wa : ByteArray) (ks : List Int) (kv : Value) (w : World) (hna : na.size ≤ 9223372036854775807) (hwa : wa.size ≤ 9223372036854775807) (hN : Nodes G w 0 A c l) (h0 : 1 ≤ k) (h4 : k ≤ 4) (hmd : ¬ ((k = 3 ∧ m ≠ 1 ∧ m ≠ 2) ∨ (k ≠ 3 ∧ m ≠ 0)))
    (hnm : (k ≠ 2 ∧ (sl = true ∨ wa.toList.isEmpty = false)) ∨ (sl = false ∧ na.toList.isEmpty = false) ∨ okName na = false ∨ okName wa = false) :
    Calls Try.prog 46 #[.slice A l.length c, .agg #[.int .i64 k, .int .i64 pa, .int .i64 ho, .int .i64 sh, .int .i64 m, .bool sl, .string na, .string wa, kv]] w (Gave3 G w (mkL l ⟨k, pa, ho, sh, m, sl, na, wa, ks⟩) (mkNo l ⟨k, pa, ho, sh, m, sl, na, wa, ks⟩) (mkErr l.length ⟨k, pa, ho, sh, m, sl, na, wa, ks⟩)) := by
  have H := Lib.hid hN
  clear hN
  have hnot : ∀ (x : Bool) (w : World), (Op.unary .not (.bool x)).run Try.prog w = .ok (.bool (!x)) w := fun _ _ => rfl
  have hbb : Below w.heap.size w (w.alloc (.cells #[.int .i64 k, .int .i64 pa, .int .i64 ho, .int .i64 sh, .int .i64 m, .bool sl, .string na, .string wa, kv] 57)) := (Below.refl _ w).alloc (Nat.le_refl _) _
  have f1 : decide (k < 1) = false := decide_eq_false (by omega)
  have f2 : decide (4 < k) = false := decide_eq_false (by omega)
  have hE := Lib.hid (mkErr_name (n := l.length) (pa := pa) (ho := ho) (sh := sh) (ks := ks) h0 h4 hmd hnm)
  have hms : (k = 3 ∧ m = 1) ∨ (k = 3 ∧ m = 2) ∨ ((k == 3) = false ∧ (k == 2) = false ∧ m = 0 ∧ (k != 3) = true ∧ (k != 2) = true) ∨ (k = 2 ∧ m = 0) := by
    simp only [beq_eq_false_iff_ne, bne_iff_ne]
    omega
  have Hnm := Lib.hid hnm
  clear hmd h0 h4 hnm
  rcases hms with ⟨rfl, rfl⟩ | ⟨rfl, rfl⟩ | ⟨m1, m3, rfl, m4, m5⟩ | ⟨rfl, rfl⟩
  · cases sl with
    | true =>
      go_enter Try.func46, Try.ntmps46
      go_wp2
      go_ret3
      exact Gave3.err hE.out (by decide) H.out hbb
    | false =>
      cases hw : wa.toList.isEmpty with
      | false =>
        go_enter Try.func46, Try.ntmps46
        go_wp2
        go_ret3
        exact Gave3.err hE.out (by decide) H.out hbb
      | true =>
        cases hn : na.toList.isEmpty with
        | false =>
          go_enter Try.func46, Try.ntmps46
          go_wp2
          go_ret3
          exact Gave3.err hE.out (by decide) H.out hbb
        | true =>
          exfalso
          have q1 := okName_empty hn
          have q2 := okName_empty hw
          rcases Hnm.out with ⟨_, q | q⟩ | ⟨_, q⟩ | q | q
          all_goals simp_all
  · cases sl with
    | true =>
      go_enter Try.func46, Try.ntmps46
      go_wp2
      go_ret3
      exact Gave3.err hE.out (by decide) H.out hbb
    | false =>
      cases hw : wa.toList.isEmpty with
      | false =>
        go_enter Try.func46, Try.ntmps46
        go_wp2
        go_ret3
        exact Gave3.err hE.out (by decide) H.out hbb
      | true =>
        cases hn : na.toList.isEmpty with
        | false =>
          go_enter Try.func46, Try.ntmps46
          go_wp2
          go_ret3
          exact Gave3.err hE.out (by decide) H.out hbb
        | true =>
          exfalso
          have q1 := okName_empty hn
          have q2 := okName_empty hw
          rcases Hnm.out with ⟨_, q | q⟩ | ⟨_, q⟩ | q | q
          all_goals simp_all
  · cases sl with
    | true =>
      go_enter Try.func46, Try.ntmps46
      go_wp2
      go_ret3
      exact Gave3.err hE.out (by decide) H.out hbb
    | false =>
      cases hw : wa.toList.isEmpty with
      | false =>
        go_enter Try.func46, Try.ntmps46
        go_wp2
        go_ret3
        exact Gave3.err hE.out (by decide) H.out hbb
      | true =>
        cases hn : na.toList.isEmpty with
        | false =>
          go_enter Try.func46, Try.ntmps46
          go_wp2
          go_ret3
          exact Gave3.err hE.out (by decide) H.out hbb
        | true =>
          exfalso
          have q1 := okName_empty hn
          have q2 := okName_empty hw
          rcases Hnm.out with ⟨_, q | q⟩ | ⟨_, q⟩ | q | q
          all_goals simp_all
  · cases sl with
    | true =>
      cases hn : okName na with
      | false =>
        have Hn := Lib.hid hn
        clear hn
        go_enter Try.func46, Try.ntmps46
        go_wp2_with fail
        refine (named_any na _ hna).mono ?_
        rintro e w1 ⟨rfl, rfl⟩
        rw [Hn.out]
        go_wp2
        go_ret3
        exact Gave3.err hE.out (by decide) H.out hbb
      | true =>
        cases hw : okName wa with
        | false =>
          have Hn := Lib.hid hn
          have Hw := Lib.hid hw
          clear hn hw
          go_enter Try.func46, Try.ntmps46
          go_wp2_with fail
          refine (named_any na _ hna).mono ?_
          rintro e w1 ⟨rfl, rfl⟩
          rw [Hn.out]
          go_wp2_with fail
          refine (named_any wa _ hwa).mono ?_
          rintro e w1 ⟨rfl, rfl⟩
          rw [Hw.out]
          go_wp2
          go_ret3
          exact Gave3.err hE.out (by decide) H.out hbb
        | true =>
          exfalso
          rcases Hnm.out with ⟨q, _⟩ | ⟨q, _⟩ | q | q
          all_goals simp_all
    | false =>
      cases hn : na.toList.isEmpty with
      | false =>
        go_enter Try.func46, Try.ntmps46
        go_wp2
        go_ret3
        exact Gave3.err hE.out (by decide) H.out hbb
      | true =>
        cases hw : okName wa with
        | false =>
          have Hn := Lib.hid (okName_empty hn)
          have Hw := Lib.hid hw
          clear hw
          go_enter Try.func46, Try.ntmps46
          go_wp2_with fail
          refine (named_any na _ hna).mono ?_
          rintro e w1 ⟨rfl, rfl⟩
          rw [Hn.out]
          go_wp2_with fail
          refine (named_any wa _ hwa).mono ?_
          rintro e w1 ⟨rfl, rfl⟩
          rw [Hw.out]
          go_wp2
          go_ret3
          exact Gave3.err hE.out (by decide) H.out hbb
        | true =>
          exfalso
          have q1 := okName_empty hn
          rcases Hnm.out with ⟨q, _⟩ | ⟨_, q⟩ | q | q
          all_goals simp_all
set_option linter.unusedSimpArgs false in
set_option maxHeartbeats 8000000 in
set_option maxRecDepth 100000 in
theorem make_rest (l : List Nd) (A : Option Addr) (c : Nat) (k pa ho sh m : Int) (sl : Bool) (na wa : ByteArray) (ks : List Int) (kv : Value) (w : World) (hna : na.size ≤ 9223372036854775807) (hwa : wa.size ≤ 9223372036854775807) (hl : l.length ≤ 1000) (hk : ∀ d ∈ l, d.kids.length ≤ 100000) (hG : Fut G w.heap.size) (hN : Nodes G w 0 A c l) (h0 : 1 ≤ k) (h4 : k ≤ 4) (hmd : ¬ ((k = 3 ∧ m ≠ 1 ∧ m ≠ 2) ∨ (k ≠ 3 ∧ m ≠ 0)))
    (hnm : ¬ ((k ≠ 2 ∧ (sl = true ∨ wa.toList.isEmpty = false)) ∨ (sl = false ∧ na.toList.isEmpty = false) ∨ okName na = false ∨ okName wa = false)) :
    Calls Try.prog 46 #[.slice A l.length c, .agg #[.int .i64 k, .int .i64 pa, .int .i64 ho, .int .i64 sh, .int .i64 m, .bool sl, .string na, .string wa, kv]] w (Gave3 G w (mkL l ⟨k, pa, ho, sh, m, sl, na, wa, ks⟩) (mkNo l ⟨k, pa, ho, sh, m, sl, na, wa, ks⟩) (mkErr l.length ⟨k, pa, ho, sh, m, sl, na, wa, ks⟩)) := by
  have H := Lib.hid hN
  clear hN
  have hnot : ∀ (x : Bool) (w : World), (Op.unary .not (.bool x)).run Try.prog w = .ok (.bool (!x)) w := fun _ _ => rfl
  have hbb : Below w.heap.size w (w.alloc (.cells #[.int .i64 k, .int .i64 pa, .int .i64 ho, .int .i64 sh, .int .i64 m, .bool sl, .string na, .string wa, kv] 57)) := (Below.refl _ w).alloc (Nat.le_refl _) _
  have f1 : decide (k < 1) = false := decide_eq_false (by omega)
  have f2 : decide (4 < k) = false := decide_eq_false (by omega)
  have hE := Lib.hid (mkErr_rest (n := l.length) (pa := pa) (ho := ho) (sh := sh) (ks := ks) h0 h4 hmd hnm)
  have hms : (k = 3 ∧ m = 1) ∨ (k = 3 ∧ m = 2) ∨ ((k == 3) = false ∧ (k == 2) = false ∧ m = 0 ∧ (k != 3) = true ∧ (k != 2) = true) ∨ (k = 2 ∧ m = 0) := by
    simp only [beq_eq_false_iff_ne, bne_iff_ne]
    omega
  have hn : okName na = true := by
    cases h : okName na with
    | true => rfl
    | false => exact absurd (.inr (.inr (.inl h))) hnm
  have hw : okName wa = true := by
    cases h : okName wa with
    | true => rfl
    | false => exact absurd (.inr (.inr (.inr h))) hnm
  have hs1 : sl = false → na.toList.isEmpty = true := fun h => by
    cases h' : na.toList.isEmpty with
    | true => rfl
    | false => exact absurd (.inr (.inl ⟨h, h'⟩)) hnm
  have hs2 : (k == 2) = false → sl = false ∧ wa.toList.isEmpty = true := fun h => by
    have h2 : k ≠ 2 := by simpa using h
    cases h' : wa.toList.isEmpty with
    | false => exact absurd (.inl ⟨h2, .inr h'⟩) hnm
    | true =>
      cases h'' : sl with
      | true => exact absurd (.inl ⟨h2, .inl h''⟩) hnm
      | false => exact ⟨rfl, rfl⟩
  have Hn := Lib.hid hn
  have Hw := Lib.hid hw
  have Hk := Lib.hid hk
  clear hmd h0 h4 hnm hn hw hk
  obtain ⟨j0, qi, qz0, qz1, qz2⟩ := info_parts Try.infoNode
  have Qi := Lib.hid qi
  have Qz0 := Lib.hid qz0
  have Qz1 := Lib.hid qz1
  have Qz2 := Lib.hid qz2
  clear qi qz0 qz1 qz2
  by_cases hfull : 128 ≤ l.length
  · have hfull' : (128 : Int) ≤ l.length := by omega
    rw [if_pos hfull] at hE
    rcases hms with ⟨rfl, rfl⟩ | ⟨rfl, rfl⟩ | ⟨m1, m3, rfl, m4, m5⟩ | ⟨rfl, rfl⟩
    · obtain ⟨rfl, hwe⟩ := hs2 rfl
      have hne := hs1 rfl
      clear hs1 hs2
      go_enter Try.func46, Try.ntmps46
      go_wp2_with fail
      refine (named_any na _ hna).mono ?_
      rintro e w1 ⟨rfl, rfl⟩
      rw [Hn.out]
      go_wp2_with fail
      refine (named_any wa _ hwa).mono ?_
      rintro e w1 ⟨rfl, rfl⟩
      rw [Hw.out]
      go_wp2
      go_ret3
      exact Gave3.err hE.out (by decide) H.out hbb
    · obtain ⟨rfl, hwe⟩ := hs2 rfl
      have hne := hs1 rfl
      clear hs1 hs2
      go_enter Try.func46, Try.ntmps46
      go_wp2_with fail
      refine (named_any na _ hna).mono ?_
      rintro e w1 ⟨rfl, rfl⟩
      rw [Hn.out]
      go_wp2_with fail
      refine (named_any wa _ hwa).mono ?_
      rintro e w1 ⟨rfl, rfl⟩
      rw [Hw.out]
      go_wp2
      go_ret3
      exact Gave3.err hE.out (by decide) H.out hbb
    · obtain ⟨rfl, hwe⟩ := hs2 m3
      have hne := hs1 rfl
      clear hs1 hs2
      go_enter Try.func46, Try.ntmps46
      go_wp2_with fail
      refine (named_any na _ hna).mono ?_
      rintro e w1 ⟨rfl, rfl⟩
      rw [Hn.out]
      go_wp2_with fail
      refine (named_any wa _ hwa).mono ?_
      rintro e w1 ⟨rfl, rfl⟩
      rw [Hw.out]
      go_wp2
      go_ret3
      exact Gave3.err hE.out (by decide) H.out hbb
    · clear hs2
      cases sl with
      | true =>
        clear hs1
        go_enter Try.func46, Try.ntmps46
        go_wp2_with fail
        refine (named_any na _ hna).mono ?_
        rintro e w1 ⟨rfl, rfl⟩
        rw [Hn.out]
        go_wp2_with fail
        refine (named_any wa _ hwa).mono ?_
        rintro e w1 ⟨rfl, rfl⟩
        rw [Hw.out]
        go_wp2
        go_ret3
        exact Gave3.err hE.out (by decide) H.out hbb
      | false =>
        have hne := hs1 rfl
        clear hs1
        go_enter Try.func46, Try.ntmps46
        go_wp2_with fail
        refine (named_any na _ hna).mono ?_
        rintro e w1 ⟨rfl, rfl⟩
        rw [Hn.out]
        go_wp2_with fail
        refine (named_any wa _ hwa).mono ?_
        rintro e w1 ⟨rfl, rfl⟩
        rw [Hw.out]
        go_wp2
        go_ret3
        exact Gave3.err hE.out (by decide) H.out hbb
  · have hfull' : ¬ (128 : Int) ≤ l.length := by omega
    rw [if_neg hfull] at hE
    have hLL : mkL l ⟨k, pa, ho, sh, m, sl, na, wa, ks⟩ = l ++ [bare ⟨k, pa, ho, sh, m, sl, na, wa, ks⟩] := by unfold mkL; rw [if_pos hE.out]
    have hNO : mkNo l ⟨k, pa, ho, sh, m, sl, na, wa, ks⟩ = (l.length : Int) + 1 := by unfold mkNo; rw [if_pos hE.out]
    have HLL := Lib.hid hLL
    have HNO := Lib.hid hNO
    clear hLL hNO
    rcases hms with ⟨rfl, rfl⟩ | ⟨rfl, rfl⟩ | ⟨m1, m3, rfl, m4, m5⟩ | ⟨rfl, rfl⟩
    · obtain ⟨rfl, hwe⟩ := hs2 rfl
      have hne := hs1 rfl
      clear hs1 hs2
      go_enter Try.func46, Try.ntmps46
      go_wp2_with fail
      refine (named_any na _ hna).mono ?_
      rintro e w1 ⟨rfl, rfl⟩
      rw [Hn.out]
      go_wp2_with fail
      refine (named_any wa _ hwa).mono ?_
      rintro e w1 ⟨rfl, rfl⟩
      rw [Hw.out]
      go_wp2_with fail
      have hNb := H.out.below hbb
      have hbox : Has (w.alloc (.cells #[.int .i64 3, .int .i64 pa, .int .i64 ho, .int .i64 sh, .int .i64 1, .bool false, .string na, .string wa, kv] 57)) w.heap.size (.cells #[.int .i64 3, .int .i64 pa, .int .i64 ho, .int .i64 sh, .int .i64 1, .bool false, .string na, .string wa, kv] 57 (0, 0)) := Has.fresh _ _
      have hsz : (w.alloc (.cells #[.int .i64 3, .int .i64 pa, .int .i64 ho, .int .i64 sh, .int .i64 1, .bool false, .string na, .string wa, kv] 57)).heap.size = w.heap.size + 1 := by simp
      obtain ⟨wb, hwb⟩ : ∃ wb, wb = w.alloc (.cells #[.int .i64 3, .int .i64 pa, .int .i64 ho, .int .i64 sh, .int .i64 1, .bool false, .string na, .string wa, kv] 57) := ⟨_, rfl⟩
      rw [← hwb]
      rw [← hwb] at hNb hbox hsz hbb
      have Hsz := Lib.hid hsz
      have Hd : ∀ b : Value, (bare ⟨3, pa, ho, sh, 1, false, na, wa, ks⟩).cells b = [.int .i64 3, .int .i64 0, .int .i64 0, .int .i64 0, .int .i64 1, .bool false, .string na, .string wa, b] := fun _ => rfl
      have Hd := Lib.hid Hd
      have hwbs : w.heap.size ≤ wb.heap.size := by omega
      clear hsz hwb
      refine wp_region_way (late := []) (S := fun w' => w'.cell? ⟨w.heap.size, 0, none⟩ = some (.int .i64 3) ∧ w'.cell? ⟨w.heap.size, 5, none⟩ = some (.bool false) ∧ w'.cell? ⟨w.heap.size, 6, none⟩ = some (.string na) ∧ w'.cell? ⟨w.heap.size, 7, none⟩ = some (.string wa) ∧ w'.cell? ⟨w.heap.size, 4, none⟩ = some (.int .i64 1)) (y := Way.takes [0, 2, 3, 4, 5, 6, 7, 8, 9, 10, 11, 12] (.fork 1 (.run 13 (.run 14 (.take 15 .fin))) 13 (.run 1 (.run 14 (.take 15 .fin))))) (by kernel_rfl) (by kernel_rfl) rfl (by kernel_rfl) (Box.of hbox) (fun hHeld => ?_)
      simp only [Way.takes]
      (repeat (first | (refine way_skip (by simp only [List.getElem?_toArray, List.getElem?_cons_succ, List.getElem?_cons_zero]; rfl) (by rfl) hHeld ?_; (try simp only [Act.put, List.setIfInBounds_toArray, List.set_cons_zero, List.set_cons_succ])) | (refine way_pass (by simp only [List.getElem?_toArray, List.getElem?_cons_succ, List.getElem?_cons_zero]; rfl) (by rfl) hHeld ?_; (try simp only [Act.put, List.setIfInBounds_toArray, List.set_cons_zero, List.set_cons_succ])) | (refine way_take (v := ?_) (by simp only [List.getElem?_toArray, List.getElem?_cons_succ, List.getElem?_cons_zero]; rfl) (by rfl) ?_ hHeld ?_; rotate_left; (focus (intro w hSw; (try dsimp only at hSw); go_simp; (try with_reducible rfl); done)); (try simp only [Act.put, List.setIfInBounds_toArray, List.set_cons_zero, List.set_cons_succ]))))
      refine way_fork ?_ ?_
      · refine way_run (by simp only [List.getElem?_toArray, List.getElem?_cons_succ, List.getElem?_cons_zero]; rfl) (by rfl) (fun K hK => ?_)
        go_simp
        refine (copy_any l _ c wb.drew hl Hk.out (hG.mono hwbs) (hNb.drewN 1)).mono ?_
        rintro e w2 ⟨A2, c2, rfl, hN2, hb2⟩
        have hN2' : Nodes G w2 wb.heap.size A2 c2 l := hN2
        have hb2' : Below wb.heap.size wb w2 := ⟨hb2.os, hb2.tape, hb2.output, hb2.size, hb2.block⟩
        have hbox2 := hbox.below hb2' hbox.inside
        clear hN2 hb2
        go_simp
        refine hK.out _ _ (Box.of hbox2) (fun hHeld => ?_)
        clear hK K
        (try simp only [Act.put, List.setIfInBounds_toArray, List.set_cons_zero, List.set_cons_succ])
        refine way_run (by simp only [List.getElem?_toArray, List.getElem?_cons_succ, List.getElem?_cons_zero]; rfl) (by rfl) (fun K hK => ?_)
        go_simp
        refine hK.out _ _ (Box.of (hbox2.more _)) (fun hHeld => ?_)
        clear hK K
        (try simp only [Act.put, List.setIfInBounds_toArray, List.set_cons_zero, List.set_cons_succ])
        refine way_run (by simp only [List.getElem?_toArray, List.getElem?_cons_succ, List.getElem?_cons_zero]; rfl) (by rfl) (fun K hK => ?_)
        refine wp_push (d := bare ⟨3, pa, ho, sh, 1, false, na, wa, ks⟩) (.tmp 80) (.tmp 92) 40 rfl j0 _ Try.underlying40 Qi.out Qz0.out Qz1.out Qz2.out rfl rfl (hN2'.kept (F := fun _ => False) ((Keeps.refl _ _).alloc _) fun _ _ h => h) rfl (Has.fresh w2 (.cells ((bare ⟨3, pa, ho, sh, 1, false, na, wa, ks⟩).cells (.slice none 0 0)).toArray 57)) rfl hl (Nat.le_trans hb2'.size (by simp)) (hG.mono hwbs) (fun A4 c4 w4 hN4 hk4 => ?_)
        have hb4 : Below w.heap.size w w4 := below_then ((hbb.trans (hb2'.mono hwbs)).alloc (Nat.le_trans hwbs hb2'.size) _) hk4 (Nat.le_trans (Nat.le_trans hwbs hb2'.size) (by simp)) fun i hi hB => by omega
        have hbox4 : Box w.heap.size 3 1 false na wa w4 := Box.of (Has.kept (hbox2.more _) hk4 (by have := hbox.inside; omega))
        refine hK.out _ _ hbox4 (fun hHeld => ?_)
        clear hK K
        (try simp only [Act.put, List.setIfInBounds_toArray, List.set_cons_zero, List.set_cons_succ])
        (repeat (first | (refine way_skip (by simp only [List.getElem?_toArray, List.getElem?_cons_succ, List.getElem?_cons_zero]; rfl) (by rfl) hHeld ?_; (try simp only [Act.put, List.setIfInBounds_toArray, List.set_cons_zero, List.set_cons_succ])) | (refine way_pass (by simp only [List.getElem?_toArray, List.getElem?_cons_succ, List.getElem?_cons_zero]; rfl) (by rfl) hHeld ?_; (try simp only [Act.put, List.setIfInBounds_toArray, List.set_cons_zero, List.set_cons_succ])) | (refine way_take (v := ?_) (by simp only [List.getElem?_toArray, List.getElem?_cons_succ, List.getElem?_cons_zero]; rfl) (by rfl) ?_ hHeld ?_; rotate_left; (focus (intro w hSw; (try dsimp only at hSw); go_simp; (try with_reducible rfl); done)); (try simp only [Act.put, List.setIfInBounds_toArray, List.set_cons_zero, List.set_cons_succ]))))
        refine way_done ?_
        go_wp2
        go_ret3
        rw [Gave3, HLL.out, HNO.out, hE.out]
        exact ⟨A4, c4, by rw [List.length_append]; rfl, hN4.from_ (Nat.zero_le _), hb4⟩
      · refine way_run (by simp only [List.getElem?_toArray, List.getElem?_cons_succ, List.getElem?_cons_zero]; rfl) (by rfl) (fun K hK => ?_)
        go_simp
        have hb1 : Below wb.heap.size wb (wb.alloc (.cells ((bare ⟨3, pa, ho, sh, 1, false, na, wa, ks⟩).cells (.slice none 0 0)).toArray 57)).drew := ((Below.refl _ wb).alloc (Nat.le_refl _) _).drew
        have hbox1 := hbox.below hb1 hbox.inside
        have hnew1 := Has.drewN (Has.fresh wb (.cells ((bare ⟨3, pa, ho, sh, 1, false, na, wa, ks⟩).cells (.slice none 0 0)).toArray 57)) 1
        refine hK.out _ _ (Box.of hbox1) (fun hHeld => ?_)
        clear hK K
        (try simp only [Act.put, List.setIfInBounds_toArray, List.set_cons_zero, List.set_cons_succ])
        refine way_run (by simp only [List.getElem?_toArray, List.getElem?_cons_succ, List.getElem?_cons_zero]; rfl) (by rfl) (fun K hK => ?_)
        go_simp
        refine (copy_any l _ c _ hl Hk.out (hG.mono (Nat.le_trans hwbs hb1.size)) (hNb.below hb1)).mono ?_
        rintro e w2 ⟨A2, c2, rfl, hN2, hb2⟩
        have hbox2 := hbox1.below hb2 hbox1.inside
        have hnew2 := hnew1.below hb2 hnew1.inside
        have hs1 := hb1.size
        have hBB : Below w.heap.size w w2 := (hbb.trans (hb1.mono hwbs)).trans (hb2.mono (Nat.le_trans hwbs hs1))
        have hin : w.heap.size < (wb.alloc (.cells ((bare ⟨3, pa, ho, sh, 1, false, na, wa, ks⟩).cells (.slice none 0 0)).toArray 57)).drew.heap.size := hbox1.inside
        go_simp
        refine hK.out _ _ (Box.of hbox2) (fun hHeld => ?_)
        clear hK K
        (try simp only [Act.put, List.setIfInBounds_toArray, List.set_cons_zero, List.set_cons_succ])
        refine way_run (by simp only [List.getElem?_toArray, List.getElem?_cons_succ, List.getElem?_cons_zero]; rfl) (by rfl) (fun K hK => ?_)
        refine wp_push (d := bare ⟨3, pa, ho, sh, 1, false, na, wa, ks⟩) (.tmp 80) (.tmp 92) 40 rfl j0 _ Try.underlying40 Qi.out Qz0.out Qz1.out Qz2.out rfl rfl hN2 rfl hnew2 rfl hl hb2.size (hG.mono (Nat.le_trans hwbs hs1)) (fun A4 c4 w4 hN4 hk4 => ?_)
        have hb4 : Below w.heap.size w w4 := below_then hBB hk4 hBB.size fun i hi hB => by omega
        have hbox4 : Box w.heap.size 3 1 false na wa w4 := Box.of (Has.kept hbox2 hk4 (Nat.not_le.2 hin))
        refine hK.out _ _ hbox4 (fun hHeld => ?_)
        clear hK K
        (try simp only [Act.put, List.setIfInBounds_toArray, List.set_cons_zero, List.set_cons_succ])
        (repeat (first | (refine way_skip (by simp only [List.getElem?_toArray, List.getElem?_cons_succ, List.getElem?_cons_zero]; rfl) (by rfl) hHeld ?_; (try simp only [Act.put, List.setIfInBounds_toArray, List.set_cons_zero, List.set_cons_succ])) | (refine way_pass (by simp only [List.getElem?_toArray, List.getElem?_cons_succ, List.getElem?_cons_zero]; rfl) (by rfl) hHeld ?_; (try simp only [Act.put, List.setIfInBounds_toArray, List.set_cons_zero, List.set_cons_succ])) | (refine way_take (v := ?_) (by simp only [List.getElem?_toArray, List.getElem?_cons_succ, List.getElem?_cons_zero]; rfl) (by rfl) ?_ hHeld ?_; rotate_left; (focus (intro w hSw; (try dsimp only at hSw); go_simp; (try with_reducible rfl); done)); (try simp only [Act.put, List.setIfInBounds_toArray, List.set_cons_zero, List.set_cons_succ]))))
        refine way_done ?_
        go_wp2
        go_ret3
        rw [Gave3, HLL.out, HNO.out, hE.out]
        exact ⟨A4, c4, by rw [List.length_append]; rfl, hN4.from_ (Nat.zero_le _), hb4⟩
    · obtain ⟨rfl, hwe⟩ := hs2 rfl
      have hne := hs1 rfl
      clear hs1 hs2
      go_enter Try.func46, Try.ntmps46
      go_wp2_with fail
      refine (named_any na _ hna).mono ?_
      rintro e w1 ⟨rfl, rfl⟩
      rw [Hn.out]
      go_wp2_with fail
      refine (named_any wa _ hwa).mono ?_
      rintro e w1 ⟨rfl, rfl⟩
      rw [Hw.out]
      go_wp2_with fail
      have hNb := H.out.below hbb
      have hbox : Has (w.alloc (.cells #[.int .i64 3, .int .i64 pa, .int .i64 ho, .int .i64 sh, .int .i64 2, .bool false, .string na, .string wa, kv] 57)) w.heap.size (.cells #[.int .i64 3, .int .i64 pa, .int .i64 ho, .int .i64 sh, .int .i64 2, .bool false, .string na, .string wa, kv] 57 (0, 0)) := Has.fresh _ _
      have hsz : (w.alloc (.cells #[.int .i64 3, .int .i64 pa, .int .i64 ho, .int .i64 sh, .int .i64 2, .bool false, .string na, .string wa, kv] 57)).heap.size = w.heap.size + 1 := by simp
      obtain ⟨wb, hwb⟩ : ∃ wb, wb = w.alloc (.cells #[.int .i64 3, .int .i64 pa, .int .i64 ho, .int .i64 sh, .int .i64 2, .bool false, .string na, .string wa, kv] 57) := ⟨_, rfl⟩
      rw [← hwb]
      rw [← hwb] at hNb hbox hsz hbb
      have Hsz := Lib.hid hsz
      have Hd : ∀ b : Value, (bare ⟨3, pa, ho, sh, 2, false, na, wa, ks⟩).cells b = [.int .i64 3, .int .i64 0, .int .i64 0, .int .i64 0, .int .i64 2, .bool false, .string na, .string wa, b] := fun _ => rfl
      have Hd := Lib.hid Hd
      have hwbs : w.heap.size ≤ wb.heap.size := by omega
      clear hsz hwb
      refine wp_region_way (late := []) (S := fun w' => w'.cell? ⟨w.heap.size, 0, none⟩ = some (.int .i64 3) ∧ w'.cell? ⟨w.heap.size, 5, none⟩ = some (.bool false) ∧ w'.cell? ⟨w.heap.size, 6, none⟩ = some (.string na) ∧ w'.cell? ⟨w.heap.size, 7, none⟩ = some (.string wa) ∧ w'.cell? ⟨w.heap.size, 4, none⟩ = some (.int .i64 2)) (y := Way.takes [0, 2, 3, 4, 5, 6, 7, 8, 9, 10, 11, 12] (.fork 1 (.run 13 (.run 14 (.take 15 .fin))) 13 (.run 1 (.run 14 (.take 15 .fin))))) (by kernel_rfl) (by kernel_rfl) rfl (by kernel_rfl) (Box.of hbox) (fun hHeld => ?_)
      simp only [Way.takes]
      (repeat (first | (refine way_skip (by simp only [List.getElem?_toArray, List.getElem?_cons_succ, List.getElem?_cons_zero]; rfl) (by rfl) hHeld ?_; (try simp only [Act.put, List.setIfInBounds_toArray, List.set_cons_zero, List.set_cons_succ])) | (refine way_pass (by simp only [List.getElem?_toArray, List.getElem?_cons_succ, List.getElem?_cons_zero]; rfl) (by rfl) hHeld ?_; (try simp only [Act.put, List.setIfInBounds_toArray, List.set_cons_zero, List.set_cons_succ])) | (refine way_take (v := ?_) (by simp only [List.getElem?_toArray, List.getElem?_cons_succ, List.getElem?_cons_zero]; rfl) (by rfl) ?_ hHeld ?_; rotate_left; (focus (intro w hSw; (try dsimp only at hSw); go_simp; (try with_reducible rfl); done)); (try simp only [Act.put, List.setIfInBounds_toArray, List.set_cons_zero, List.set_cons_succ]))))
      refine way_fork ?_ ?_
      · refine way_run (by simp only [List.getElem?_toArray, List.getElem?_cons_succ, List.getElem?_cons_zero]; rfl) (by rfl) (fun K hK => ?_)
        go_simp
        refine (copy_any l _ c wb.drew hl Hk.out (hG.mono hwbs) (hNb.drewN 1)).mono ?_
        rintro e w2 ⟨A2, c2, rfl, hN2, hb2⟩
        have hN2' : Nodes G w2 wb.heap.size A2 c2 l := hN2
        have hb2' : Below wb.heap.size wb w2 := ⟨hb2.os, hb2.tape, hb2.output, hb2.size, hb2.block⟩
        have hbox2 := hbox.below hb2' hbox.inside
        clear hN2 hb2
        go_simp
        refine hK.out _ _ (Box.of hbox2) (fun hHeld => ?_)
        clear hK K
        (try simp only [Act.put, List.setIfInBounds_toArray, List.set_cons_zero, List.set_cons_succ])
        refine way_run (by simp only [List.getElem?_toArray, List.getElem?_cons_succ, List.getElem?_cons_zero]; rfl) (by rfl) (fun K hK => ?_)
        go_simp
        refine hK.out _ _ (Box.of (hbox2.more _)) (fun hHeld => ?_)
        clear hK K
        (try simp only [Act.put, List.setIfInBounds_toArray, List.set_cons_zero, List.set_cons_succ])
        refine way_run (by simp only [List.getElem?_toArray, List.getElem?_cons_succ, List.getElem?_cons_zero]; rfl) (by rfl) (fun K hK => ?_)
        refine wp_push (d := bare ⟨3, pa, ho, sh, 2, false, na, wa, ks⟩) (.tmp 80) (.tmp 92) 40 rfl j0 _ Try.underlying40 Qi.out Qz0.out Qz1.out Qz2.out rfl rfl (hN2'.kept (F := fun _ => False) ((Keeps.refl _ _).alloc _) fun _ _ h => h) rfl (Has.fresh w2 (.cells ((bare ⟨3, pa, ho, sh, 2, false, na, wa, ks⟩).cells (.slice none 0 0)).toArray 57)) rfl hl (Nat.le_trans hb2'.size (by simp)) (hG.mono hwbs) (fun A4 c4 w4 hN4 hk4 => ?_)
        have hb4 : Below w.heap.size w w4 := below_then ((hbb.trans (hb2'.mono hwbs)).alloc (Nat.le_trans hwbs hb2'.size) _) hk4 (Nat.le_trans (Nat.le_trans hwbs hb2'.size) (by simp)) fun i hi hB => by omega
        have hbox4 : Box w.heap.size 3 2 false na wa w4 := Box.of (Has.kept (hbox2.more _) hk4 (by have := hbox.inside; omega))
        refine hK.out _ _ hbox4 (fun hHeld => ?_)
        clear hK K
        (try simp only [Act.put, List.setIfInBounds_toArray, List.set_cons_zero, List.set_cons_succ])
        (repeat (first | (refine way_skip (by simp only [List.getElem?_toArray, List.getElem?_cons_succ, List.getElem?_cons_zero]; rfl) (by rfl) hHeld ?_; (try simp only [Act.put, List.setIfInBounds_toArray, List.set_cons_zero, List.set_cons_succ])) | (refine way_pass (by simp only [List.getElem?_toArray, List.getElem?_cons_succ, List.getElem?_cons_zero]; rfl) (by rfl) hHeld ?_; (try simp only [Act.put, List.setIfInBounds_toArray, List.set_cons_zero, List.set_cons_succ])) | (refine way_take (v := ?_) (by simp only [List.getElem?_toArray, List.getElem?_cons_succ, List.getElem?_cons_zero]; rfl) (by rfl) ?_ hHeld ?_; rotate_left; (focus (intro w hSw; (try dsimp only at hSw); go_simp; (try with_reducible rfl); done)); (try simp only [Act.put, List.setIfInBounds_toArray, List.set_cons_zero, List.set_cons_succ]))))
        refine way_done ?_
        go_wp2
        go_ret3
        rw [Gave3, HLL.out, HNO.out, hE.out]
        exact ⟨A4, c4, by rw [List.length_append]; rfl, hN4.from_ (Nat.zero_le _), hb4⟩
      · refine way_run (by simp only [List.getElem?_toArray, List.getElem?_cons_succ, List.getElem?_cons_zero]; rfl) (by rfl) (fun K hK => ?_)
        go_simp
        have hb1 : Below wb.heap.size wb (wb.alloc (.cells ((bare ⟨3, pa, ho, sh, 2, false, na, wa, ks⟩).cells (.slice none 0 0)).toArray 57)).drew := ((Below.refl _ wb).alloc (Nat.le_refl _) _).drew
        have hbox1 := hbox.below hb1 hbox.inside
        have hnew1 := Has.drewN (Has.fresh wb (.cells ((bare ⟨3, pa, ho, sh, 2, false, na, wa, ks⟩).cells (.slice none 0 0)).toArray 57)) 1
        refine hK.out _ _ (Box.of hbox1) (fun hHeld => ?_)
        clear hK K
        (try simp only [Act.put, List.setIfInBounds_toArray, List.set_cons_zero, List.set_cons_succ])
        refine way_run (by simp only [List.getElem?_toArray, List.getElem?_cons_succ, List.getElem?_cons_zero]; rfl) (by rfl) (fun K hK => ?_)
        go_simp
        refine (copy_any l _ c _ hl Hk.out (hG.mono (Nat.le_trans hwbs hb1.size)) (hNb.below hb1)).mono ?_
        rintro e w2 ⟨A2, c2, rfl, hN2, hb2⟩
        have hbox2 := hbox1.below hb2 hbox1.inside
        have hnew2 := hnew1.below hb2 hnew1.inside
        have hs1 := hb1.size
        have hBB : Below w.heap.size w w2 := (hbb.trans (hb1.mono hwbs)).trans (hb2.mono (Nat.le_trans hwbs hs1))
        have hin : w.heap.size < (wb.alloc (.cells ((bare ⟨3, pa, ho, sh, 2, false, na, wa, ks⟩).cells (.slice none 0 0)).toArray 57)).drew.heap.size := hbox1.inside
        go_simp
        refine hK.out _ _ (Box.of hbox2) (fun hHeld => ?_)
        clear hK K
        (try simp only [Act.put, List.setIfInBounds_toArray, List.set_cons_zero, List.set_cons_succ])
        refine way_run (by simp only [List.getElem?_toArray, List.getElem?_cons_succ, List.getElem?_cons_zero]; rfl) (by rfl) (fun K hK => ?_)
        refine wp_push (d := bare ⟨3, pa, ho, sh, 2, false, na, wa, ks⟩) (.tmp 80) (.tmp 92) 40 rfl j0 _ Try.underlying40 Qi.out Qz0.out Qz1.out Qz2.out rfl rfl hN2 rfl hnew2 rfl hl hb2.size (hG.mono (Nat.le_trans hwbs hs1)) (fun A4 c4 w4 hN4 hk4 => ?_)
        have hb4 : Below w.heap.size w w4 := below_then hBB hk4 hBB.size fun i hi hB => by omega
        have hbox4 : Box w.heap.size 3 2 false na wa w4 := Box.of (Has.kept hbox2 hk4 (Nat.not_le.2 hin))
        refine hK.out _ _ hbox4 (fun hHeld => ?_)
        clear hK K
        (try simp only [Act.put, List.setIfInBounds_toArray, List.set_cons_zero, List.set_cons_succ])
        (repeat (first | (refine way_skip (by simp only [List.getElem?_toArray, List.getElem?_cons_succ, List.getElem?_cons_zero]; rfl) (by rfl) hHeld ?_; (try simp only [Act.put, List.setIfInBounds_toArray, List.set_cons_zero, List.set_cons_succ])) | (refine way_pass (by simp only [List.getElem?_toArray, List.getElem?_cons_succ, List.getElem?_cons_zero]; rfl) (by rfl) hHeld ?_; (try simp only [Act.put, List.setIfInBounds_toArray, List.set_cons_zero, List.set_cons_succ])) | (refine way_take (v := ?_) (by simp only [List.getElem?_toArray, List.getElem?_cons_succ, List.getElem?_cons_zero]; rfl) (by rfl) ?_ hHeld ?_; rotate_left; (focus (intro w hSw; (try dsimp only at hSw); go_simp; (try with_reducible rfl); done)); (try simp only [Act.put, List.setIfInBounds_toArray, List.set_cons_zero, List.set_cons_succ]))))
        refine way_done ?_
        go_wp2
        go_ret3
        rw [Gave3, HLL.out, HNO.out, hE.out]
        exact ⟨A4, c4, by rw [List.length_append]; rfl, hN4.from_ (Nat.zero_le _), hb4⟩
    · obtain ⟨rfl, hwe⟩ := hs2 m3
      have hne := hs1 rfl
      clear hs1 hs2
      go_enter Try.func46, Try.ntmps46
      go_wp2_with fail
      refine (named_any na _ hna).mono ?_
      rintro e w1 ⟨rfl, rfl⟩
      rw [Hn.out]
      go_wp2_with fail
      refine (named_any wa _ hwa).mono ?_
      rintro e w1 ⟨rfl, rfl⟩
      rw [Hw.out]
      go_wp2_with fail
      have hNb := H.out.below hbb
      have hbox : Has (w.alloc (.cells #[.int .i64 k, .int .i64 pa, .int .i64 ho, .int .i64 sh, .int .i64 0, .bool false, .string na, .string wa, kv] 57)) w.heap.size (.cells #[.int .i64 k, .int .i64 pa, .int .i64 ho, .int .i64 sh, .int .i64 0, .bool false, .string na, .string wa, kv] 57 (0, 0)) := Has.fresh _ _
      have hsz : (w.alloc (.cells #[.int .i64 k, .int .i64 pa, .int .i64 ho, .int .i64 sh, .int .i64 0, .bool false, .string na, .string wa, kv] 57)).heap.size = w.heap.size + 1 := by simp
      obtain ⟨wb, hwb⟩ : ∃ wb, wb = w.alloc (.cells #[.int .i64 k, .int .i64 pa, .int .i64 ho, .int .i64 sh, .int .i64 0, .bool false, .string na, .string wa, kv] 57) := ⟨_, rfl⟩
      rw [← hwb]
      rw [← hwb] at hNb hbox hsz hbb
      have Hsz := Lib.hid hsz
      have Hd : ∀ b : Value, (bare ⟨k, pa, ho, sh, 0, false, na, wa, ks⟩).cells b = [.int .i64 k, .int .i64 0, .int .i64 0, .int .i64 0, .int .i64 0, .bool false, .string na, .string wa, b] := fun _ => rfl
      have Hd := Lib.hid Hd
      have hwbs : w.heap.size ≤ wb.heap.size := by omega
      clear hsz hwb
      refine wp_region_way (late := []) (S := fun w' => w'.cell? ⟨w.heap.size, 0, none⟩ = some (.int .i64 k) ∧ w'.cell? ⟨w.heap.size, 5, none⟩ = some (.bool false) ∧ w'.cell? ⟨w.heap.size, 6, none⟩ = some (.string na) ∧ w'.cell? ⟨w.heap.size, 7, none⟩ = some (.string wa) ∧ w'.cell? ⟨w.heap.size, 4, none⟩ = some (.int .i64 0)) (y := Way.takes [0, 2, 3, 4, 5, 6, 7, 8, 9, 10, 11, 12] (.fork 1 (.run 13 (.run 14 (.take 15 .fin))) 13 (.run 1 (.run 14 (.take 15 .fin))))) (by kernel_rfl) (by kernel_rfl) rfl (by kernel_rfl) (Box.of hbox) (fun hHeld => ?_)
      simp only [Way.takes]
      (repeat (first | (refine way_skip (by simp only [List.getElem?_toArray, List.getElem?_cons_succ, List.getElem?_cons_zero]; rfl) (by rfl) hHeld ?_; (try simp only [Act.put, List.setIfInBounds_toArray, List.set_cons_zero, List.set_cons_succ])) | (refine way_pass (by simp only [List.getElem?_toArray, List.getElem?_cons_succ, List.getElem?_cons_zero]; rfl) (by rfl) hHeld ?_; (try simp only [Act.put, List.setIfInBounds_toArray, List.set_cons_zero, List.set_cons_succ])) | (refine way_take (v := ?_) (by simp only [List.getElem?_toArray, List.getElem?_cons_succ, List.getElem?_cons_zero]; rfl) (by rfl) ?_ hHeld ?_; rotate_left; (focus (intro w hSw; (try dsimp only at hSw); go_simp; (try with_reducible rfl); done)); (try simp only [Act.put, List.setIfInBounds_toArray, List.set_cons_zero, List.set_cons_succ]))))
      refine way_fork ?_ ?_
      · refine way_run (by simp only [List.getElem?_toArray, List.getElem?_cons_succ, List.getElem?_cons_zero]; rfl) (by rfl) (fun K hK => ?_)
        go_simp
        refine (copy_any l _ c wb.drew hl Hk.out (hG.mono hwbs) (hNb.drewN 1)).mono ?_
        rintro e w2 ⟨A2, c2, rfl, hN2, hb2⟩
        have hN2' : Nodes G w2 wb.heap.size A2 c2 l := hN2
        have hb2' : Below wb.heap.size wb w2 := ⟨hb2.os, hb2.tape, hb2.output, hb2.size, hb2.block⟩
        have hbox2 := hbox.below hb2' hbox.inside
        clear hN2 hb2
        go_simp
        refine hK.out _ _ (Box.of hbox2) (fun hHeld => ?_)
        clear hK K
        (try simp only [Act.put, List.setIfInBounds_toArray, List.set_cons_zero, List.set_cons_succ])
        refine way_run (by simp only [List.getElem?_toArray, List.getElem?_cons_succ, List.getElem?_cons_zero]; rfl) (by rfl) (fun K hK => ?_)
        go_simp
        refine hK.out _ _ (Box.of (hbox2.more _)) (fun hHeld => ?_)
        clear hK K
        (try simp only [Act.put, List.setIfInBounds_toArray, List.set_cons_zero, List.set_cons_succ])
        refine way_run (by simp only [List.getElem?_toArray, List.getElem?_cons_succ, List.getElem?_cons_zero]; rfl) (by rfl) (fun K hK => ?_)
        refine wp_push (d := bare ⟨k, pa, ho, sh, 0, false, na, wa, ks⟩) (.tmp 80) (.tmp 92) 40 rfl j0 _ Try.underlying40 Qi.out Qz0.out Qz1.out Qz2.out rfl rfl (hN2'.kept (F := fun _ => False) ((Keeps.refl _ _).alloc _) fun _ _ h => h) rfl (Has.fresh w2 (.cells ((bare ⟨k, pa, ho, sh, 0, false, na, wa, ks⟩).cells (.slice none 0 0)).toArray 57)) rfl hl (Nat.le_trans hb2'.size (by simp)) (hG.mono hwbs) (fun A4 c4 w4 hN4 hk4 => ?_)
        have hb4 : Below w.heap.size w w4 := below_then ((hbb.trans (hb2'.mono hwbs)).alloc (Nat.le_trans hwbs hb2'.size) _) hk4 (Nat.le_trans (Nat.le_trans hwbs hb2'.size) (by simp)) fun i hi hB => by omega
        have hbox4 : Box w.heap.size k 0 false na wa w4 := Box.of (Has.kept (hbox2.more _) hk4 (by have := hbox.inside; omega))
        refine hK.out _ _ hbox4 (fun hHeld => ?_)
        clear hK K
        (try simp only [Act.put, List.setIfInBounds_toArray, List.set_cons_zero, List.set_cons_succ])
        (repeat (first | (refine way_skip (by simp only [List.getElem?_toArray, List.getElem?_cons_succ, List.getElem?_cons_zero]; rfl) (by rfl) hHeld ?_; (try simp only [Act.put, List.setIfInBounds_toArray, List.set_cons_zero, List.set_cons_succ])) | (refine way_pass (by simp only [List.getElem?_toArray, List.getElem?_cons_succ, List.getElem?_cons_zero]; rfl) (by rfl) hHeld ?_; (try simp only [Act.put, List.setIfInBounds_toArray, List.set_cons_zero, List.set_cons_succ])) | (refine way_take (v := ?_) (by simp only [List.getElem?_toArray, List.getElem?_cons_succ, List.getElem?_cons_zero]; rfl) (by rfl) ?_ hHeld ?_; rotate_left; (focus (intro w hSw; (try dsimp only at hSw); go_simp; (try with_reducible rfl); done)); (try simp only [Act.put, List.setIfInBounds_toArray, List.set_cons_zero, List.set_cons_succ]))))
        refine way_done ?_
        go_wp2
        go_ret3
        rw [Gave3, HLL.out, HNO.out, hE.out]
        exact ⟨A4, c4, by rw [List.length_append]; rfl, hN4.from_ (Nat.zero_le _), hb4⟩
      · refine way_run (by simp only [List.getElem?_toArray, List.getElem?_cons_succ, List.getElem?_cons_zero]; rfl) (by rfl) (fun K hK => ?_)
        go_simp
        have hb1 : Below wb.heap.size wb (wb.alloc (.cells ((bare ⟨k, pa, ho, sh, 0, false, na, wa, ks⟩).cells (.slice none 0 0)).toArray 57)).drew := ((Below.refl _ wb).alloc (Nat.le_refl _) _).drew
        have hbox1 := hbox.below hb1 hbox.inside
        have hnew1 := Has.drewN (Has.fresh wb (.cells ((bare ⟨k, pa, ho, sh, 0, false, na, wa, ks⟩).cells (.slice none 0 0)).toArray 57)) 1
        refine hK.out _ _ (Box.of hbox1) (fun hHeld => ?_)
        clear hK K
        (try simp only [Act.put, List.setIfInBounds_toArray, List.set_cons_zero, List.set_cons_succ])
        refine way_run (by simp only [List.getElem?_toArray, List.getElem?_cons_succ, List.getElem?_cons_zero]; rfl) (by rfl) (fun K hK => ?_)
        go_simp
        refine (copy_any l _ c _ hl Hk.out (hG.mono (Nat.le_trans hwbs hb1.size)) (hNb.below hb1)).mono ?_
        rintro e w2 ⟨A2, c2, rfl, hN2, hb2⟩
        have hbox2 := hbox1.below hb2 hbox1.inside
        have hnew2 := hnew1.below hb2 hnew1.inside
        have hs1 := hb1.size
        have hBB : Below w.heap.size w w2 := (hbb.trans (hb1.mono hwbs)).trans (hb2.mono (Nat.le_trans hwbs hs1))
        have hin : w.heap.size < (wb.alloc (.cells ((bare ⟨k, pa, ho, sh, 0, false, na, wa, ks⟩).cells (.slice none 0 0)).toArray 57)).drew.heap.size := hbox1.inside
        go_simp
        refine hK.out _ _ (Box.of hbox2) (fun hHeld => ?_)
        clear hK K
        (try simp only [Act.put, List.setIfInBounds_toArray, List.set_cons_zero, List.set_cons_succ])
        refine way_run (by simp only [List.getElem?_toArray, List.getElem?_cons_succ, List.getElem?_cons_zero]; rfl) (by rfl) (fun K hK => ?_)
        refine wp_push (d := bare ⟨k, pa, ho, sh, 0, false, na, wa, ks⟩) (.tmp 80) (.tmp 92) 40 rfl j0 _ Try.underlying40 Qi.out Qz0.out Qz1.out Qz2.out rfl rfl hN2 rfl hnew2 rfl hl hb2.size (hG.mono (Nat.le_trans hwbs hs1)) (fun A4 c4 w4 hN4 hk4 => ?_)
        have hb4 : Below w.heap.size w w4 := below_then hBB hk4 hBB.size fun i hi hB => by omega
        have hbox4 : Box w.heap.size k 0 false na wa w4 := Box.of (Has.kept hbox2 hk4 (Nat.not_le.2 hin))
        refine hK.out _ _ hbox4 (fun hHeld => ?_)
        clear hK K
        (try simp only [Act.put, List.setIfInBounds_toArray, List.set_cons_zero, List.set_cons_succ])
        (repeat (first | (refine way_skip (by simp only [List.getElem?_toArray, List.getElem?_cons_succ, List.getElem?_cons_zero]; rfl) (by rfl) hHeld ?_; (try simp only [Act.put, List.setIfInBounds_toArray, List.set_cons_zero, List.set_cons_succ])) | (refine way_pass (by simp only [List.getElem?_toArray, List.getElem?_cons_succ, List.getElem?_cons_zero]; rfl) (by rfl) hHeld ?_; (try simp only [Act.put, List.setIfInBounds_toArray, List.set_cons_zero, List.set_cons_succ])) | (refine way_take (v := ?_) (by simp only [List.getElem?_toArray, List.getElem?_cons_succ, List.getElem?_cons_zero]; rfl) (by rfl) ?_ hHeld ?_; rotate_left; (focus (intro w hSw; (try dsimp only at hSw); go_simp; (try with_reducible rfl); done)); (try simp only [Act.put, List.setIfInBounds_toArray, List.set_cons_zero, List.set_cons_succ]))))
        refine way_done ?_
        go_wp2
        go_ret3
        rw [Gave3, HLL.out, HNO.out, hE.out]
        exact ⟨A4, c4, by rw [List.length_append]; rfl, hN4.from_ (Nat.zero_le _), hb4⟩
    · clear hs2
      cases sl with
      | true =>
        clear hs1
        go_enter Try.func46, Try.ntmps46
        go_wp2_with fail
        refine (named_any na _ hna).mono ?_
        rintro e w1 ⟨rfl, rfl⟩
        rw [Hn.out]
        go_wp2_with fail
        refine (named_any wa _ hwa).mono ?_
        rintro e w1 ⟨rfl, rfl⟩
        rw [Hw.out]
        go_wp2_with fail
        have hNb := H.out.below hbb
        have hbox : Has (w.alloc (.cells #[.int .i64 2, .int .i64 pa, .int .i64 ho, .int .i64 sh, .int .i64 0, .bool true, .string na, .string wa, kv] 57)) w.heap.size (.cells #[.int .i64 2, .int .i64 pa, .int .i64 ho, .int .i64 sh, .int .i64 0, .bool true, .string na, .string wa, kv] 57 (0, 0)) := Has.fresh _ _
        have hsz : (w.alloc (.cells #[.int .i64 2, .int .i64 pa, .int .i64 ho, .int .i64 sh, .int .i64 0, .bool true, .string na, .string wa, kv] 57)).heap.size = w.heap.size + 1 := by simp
        obtain ⟨wb, hwb⟩ : ∃ wb, wb = w.alloc (.cells #[.int .i64 2, .int .i64 pa, .int .i64 ho, .int .i64 sh, .int .i64 0, .bool true, .string na, .string wa, kv] 57) := ⟨_, rfl⟩
        rw [← hwb]
        rw [← hwb] at hNb hbox hsz hbb
        have Hsz := Lib.hid hsz
        have Hd : ∀ b : Value, (bare ⟨2, pa, ho, sh, 0, true, na, wa, ks⟩).cells b = [.int .i64 2, .int .i64 0, .int .i64 0, .int .i64 0, .int .i64 0, .bool true, .string na, .string wa, b] := fun _ => rfl
        have Hd := Lib.hid Hd
        have hwbs : w.heap.size ≤ wb.heap.size := by omega
        clear hsz hwb
        refine wp_region_way (late := []) (S := fun w' => w'.cell? ⟨w.heap.size, 0, none⟩ = some (.int .i64 2) ∧ w'.cell? ⟨w.heap.size, 5, none⟩ = some (.bool true) ∧ w'.cell? ⟨w.heap.size, 6, none⟩ = some (.string na) ∧ w'.cell? ⟨w.heap.size, 7, none⟩ = some (.string wa) ∧ w'.cell? ⟨w.heap.size, 4, none⟩ = some (.int .i64 0)) (y := Way.takes [0, 2, 3, 4, 5, 6, 7, 8, 9, 10, 11, 12] (.fork 1 (.run 13 (.run 14 (.take 15 .fin))) 13 (.run 1 (.run 14 (.take 15 .fin))))) (by kernel_rfl) (by kernel_rfl) rfl (by kernel_rfl) (Box.of hbox) (fun hHeld => ?_)
        simp only [Way.takes]
        (repeat (first | (refine way_skip (by simp only [List.getElem?_toArray, List.getElem?_cons_succ, List.getElem?_cons_zero]; rfl) (by rfl) hHeld ?_; (try simp only [Act.put, List.setIfInBounds_toArray, List.set_cons_zero, List.set_cons_succ])) | (refine way_pass (by simp only [List.getElem?_toArray, List.getElem?_cons_succ, List.getElem?_cons_zero]; rfl) (by rfl) hHeld ?_; (try simp only [Act.put, List.setIfInBounds_toArray, List.set_cons_zero, List.set_cons_succ])) | (refine way_take (v := ?_) (by simp only [List.getElem?_toArray, List.getElem?_cons_succ, List.getElem?_cons_zero]; rfl) (by rfl) ?_ hHeld ?_; rotate_left; (focus (intro w hSw; (try dsimp only at hSw); go_simp; (try with_reducible rfl); done)); (try simp only [Act.put, List.setIfInBounds_toArray, List.set_cons_zero, List.set_cons_succ]))))
        refine way_fork ?_ ?_
        · refine way_run (by simp only [List.getElem?_toArray, List.getElem?_cons_succ, List.getElem?_cons_zero]; rfl) (by rfl) (fun K hK => ?_)
          go_simp
          refine (copy_any l _ c wb.drew hl Hk.out (hG.mono hwbs) (hNb.drewN 1)).mono ?_
          rintro e w2 ⟨A2, c2, rfl, hN2, hb2⟩
          have hN2' : Nodes G w2 wb.heap.size A2 c2 l := hN2
          have hb2' : Below wb.heap.size wb w2 := ⟨hb2.os, hb2.tape, hb2.output, hb2.size, hb2.block⟩
          have hbox2 := hbox.below hb2' hbox.inside
          clear hN2 hb2
          go_simp
          refine hK.out _ _ (Box.of hbox2) (fun hHeld => ?_)
          clear hK K
          (try simp only [Act.put, List.setIfInBounds_toArray, List.set_cons_zero, List.set_cons_succ])
          refine way_run (by simp only [List.getElem?_toArray, List.getElem?_cons_succ, List.getElem?_cons_zero]; rfl) (by rfl) (fun K hK => ?_)
          go_simp
          refine hK.out _ _ (Box.of (hbox2.more _)) (fun hHeld => ?_)
          clear hK K
          (try simp only [Act.put, List.setIfInBounds_toArray, List.set_cons_zero, List.set_cons_succ])
          refine way_run (by simp only [List.getElem?_toArray, List.getElem?_cons_succ, List.getElem?_cons_zero]; rfl) (by rfl) (fun K hK => ?_)
          refine wp_push (d := bare ⟨2, pa, ho, sh, 0, true, na, wa, ks⟩) (.tmp 80) (.tmp 92) 40 rfl j0 _ Try.underlying40 Qi.out Qz0.out Qz1.out Qz2.out rfl rfl (hN2'.kept (F := fun _ => False) ((Keeps.refl _ _).alloc _) fun _ _ h => h) rfl (Has.fresh w2 (.cells ((bare ⟨2, pa, ho, sh, 0, true, na, wa, ks⟩).cells (.slice none 0 0)).toArray 57)) rfl hl (Nat.le_trans hb2'.size (by simp)) (hG.mono hwbs) (fun A4 c4 w4 hN4 hk4 => ?_)
          have hb4 : Below w.heap.size w w4 := below_then ((hbb.trans (hb2'.mono hwbs)).alloc (Nat.le_trans hwbs hb2'.size) _) hk4 (Nat.le_trans (Nat.le_trans hwbs hb2'.size) (by simp)) fun i hi hB => by omega
          have hbox4 : Box w.heap.size 2 0 true na wa w4 := Box.of (Has.kept (hbox2.more _) hk4 (by have := hbox.inside; omega))
          refine hK.out _ _ hbox4 (fun hHeld => ?_)
          clear hK K
          (try simp only [Act.put, List.setIfInBounds_toArray, List.set_cons_zero, List.set_cons_succ])
          (repeat (first | (refine way_skip (by simp only [List.getElem?_toArray, List.getElem?_cons_succ, List.getElem?_cons_zero]; rfl) (by rfl) hHeld ?_; (try simp only [Act.put, List.setIfInBounds_toArray, List.set_cons_zero, List.set_cons_succ])) | (refine way_pass (by simp only [List.getElem?_toArray, List.getElem?_cons_succ, List.getElem?_cons_zero]; rfl) (by rfl) hHeld ?_; (try simp only [Act.put, List.setIfInBounds_toArray, List.set_cons_zero, List.set_cons_succ])) | (refine way_take (v := ?_) (by simp only [List.getElem?_toArray, List.getElem?_cons_succ, List.getElem?_cons_zero]; rfl) (by rfl) ?_ hHeld ?_; rotate_left; (focus (intro w hSw; (try dsimp only at hSw); go_simp; (try with_reducible rfl); done)); (try simp only [Act.put, List.setIfInBounds_toArray, List.set_cons_zero, List.set_cons_succ]))))
          refine way_done ?_
          go_wp2
          go_ret3
          rw [Gave3, HLL.out, HNO.out, hE.out]
          exact ⟨A4, c4, by rw [List.length_append]; rfl, hN4.from_ (Nat.zero_le _), hb4⟩
        · refine way_run (by simp only [List.getElem?_toArray, List.getElem?_cons_succ, List.getElem?_cons_zero]; rfl) (by rfl) (fun K hK => ?_)
          go_simp
          have hb1 : Below wb.heap.size wb (wb.alloc (.cells ((bare ⟨2, pa, ho, sh, 0, true, na, wa, ks⟩).cells (.slice none 0 0)).toArray 57)).drew := ((Below.refl _ wb).alloc (Nat.le_refl _) _).drew
          have hbox1 := hbox.below hb1 hbox.inside
          have hnew1 := Has.drewN (Has.fresh wb (.cells ((bare ⟨2, pa, ho, sh, 0, true, na, wa, ks⟩).cells (.slice none 0 0)).toArray 57)) 1
          refine hK.out _ _ (Box.of hbox1) (fun hHeld => ?_)
          clear hK K
          (try simp only [Act.put, List.setIfInBounds_toArray, List.set_cons_zero, List.set_cons_succ])
          refine way_run (by simp only [List.getElem?_toArray, List.getElem?_cons_succ, List.getElem?_cons_zero]; rfl) (by rfl) (fun K hK => ?_)
          go_simp
          refine (copy_any l _ c _ hl Hk.out (hG.mono (Nat.le_trans hwbs hb1.size)) (hNb.below hb1)).mono ?_
          rintro e w2 ⟨A2, c2, rfl, hN2, hb2⟩
          have hbox2 := hbox1.below hb2 hbox1.inside
          have hnew2 := hnew1.below hb2 hnew1.inside
          have hs1 := hb1.size
          have hBB : Below w.heap.size w w2 := (hbb.trans (hb1.mono hwbs)).trans (hb2.mono (Nat.le_trans hwbs hs1))
          have hin : w.heap.size < (wb.alloc (.cells ((bare ⟨2, pa, ho, sh, 0, true, na, wa, ks⟩).cells (.slice none 0 0)).toArray 57)).drew.heap.size := hbox1.inside
          go_simp
          refine hK.out _ _ (Box.of hbox2) (fun hHeld => ?_)
          clear hK K
          (try simp only [Act.put, List.setIfInBounds_toArray, List.set_cons_zero, List.set_cons_succ])
          refine way_run (by simp only [List.getElem?_toArray, List.getElem?_cons_succ, List.getElem?_cons_zero]; rfl) (by rfl) (fun K hK => ?_)
          refine wp_push (d := bare ⟨2, pa, ho, sh, 0, true, na, wa, ks⟩) (.tmp 80) (.tmp 92) 40 rfl j0 _ Try.underlying40 Qi.out Qz0.out Qz1.out Qz2.out rfl rfl hN2 rfl hnew2 rfl hl hb2.size (hG.mono (Nat.le_trans hwbs hs1)) (fun A4 c4 w4 hN4 hk4 => ?_)
          have hb4 : Below w.heap.size w w4 := below_then hBB hk4 hBB.size fun i hi hB => by omega
          have hbox4 : Box w.heap.size 2 0 true na wa w4 := Box.of (Has.kept hbox2 hk4 (Nat.not_le.2 hin))
          refine hK.out _ _ hbox4 (fun hHeld => ?_)
          clear hK K
          (try simp only [Act.put, List.setIfInBounds_toArray, List.set_cons_zero, List.set_cons_succ])
          (repeat (first | (refine way_skip (by simp only [List.getElem?_toArray, List.getElem?_cons_succ, List.getElem?_cons_zero]; rfl) (by rfl) hHeld ?_; (try simp only [Act.put, List.setIfInBounds_toArray, List.set_cons_zero, List.set_cons_succ])) | (refine way_pass (by simp only [List.getElem?_toArray, List.getElem?_cons_succ, List.getElem?_cons_zero]; rfl) (by rfl) hHeld ?_; (try simp only [Act.put, List.setIfInBounds_toArray, List.set_cons_zero, List.set_cons_succ])) | (refine way_take (v := ?_) (by simp only [List.getElem?_toArray, List.getElem?_cons_succ, List.getElem?_cons_zero]; rfl) (by rfl) ?_ hHeld ?_; rotate_left; (focus (intro w hSw; (try dsimp only at hSw); go_simp; (try with_reducible rfl); done)); (try simp only [Act.put, List.setIfInBounds_toArray, List.set_cons_zero, List.set_cons_succ]))))
          refine way_done ?_
          go_wp2
          go_ret3
          rw [Gave3, HLL.out, HNO.out, hE.out]
          exact ⟨A4, c4, by rw [List.length_append]; rfl, hN4.from_ (Nat.zero_le _), hb4⟩
      | false =>
        have hne := hs1 rfl
        clear hs1
        go_enter Try.func46, Try.ntmps46
        go_wp2_with fail
        refine (named_any na _ hna).mono ?_
        rintro e w1 ⟨rfl, rfl⟩
        rw [Hn.out]
        go_wp2_with fail
        refine (named_any wa _ hwa).mono ?_
        rintro e w1 ⟨rfl, rfl⟩
        rw [Hw.out]
        go_wp2_with fail
        have hNb := H.out.below hbb
        have hbox : Has (w.alloc (.cells #[.int .i64 2, .int .i64 pa, .int .i64 ho, .int .i64 sh, .int .i64 0, .bool false, .string na, .string wa, kv] 57)) w.heap.size (.cells #[.int .i64 2, .int .i64 pa, .int .i64 ho, .int .i64 sh, .int .i64 0, .bool false, .string na, .string wa, kv] 57 (0, 0)) := Has.fresh _ _
        have hsz : (w.alloc (.cells #[.int .i64 2, .int .i64 pa, .int .i64 ho, .int .i64 sh, .int .i64 0, .bool false, .string na, .string wa, kv] 57)).heap.size = w.heap.size + 1 := by simp
        obtain ⟨wb, hwb⟩ : ∃ wb, wb = w.alloc (.cells #[.int .i64 2, .int .i64 pa, .int .i64 ho, .int .i64 sh, .int .i64 0, .bool false, .string na, .string wa, kv] 57) := ⟨_, rfl⟩
        rw [← hwb]
        rw [← hwb] at hNb hbox hsz hbb
        have Hsz := Lib.hid hsz
        have Hd : ∀ b : Value, (bare ⟨2, pa, ho, sh, 0, false, na, wa, ks⟩).cells b = [.int .i64 2, .int .i64 0, .int .i64 0, .int .i64 0, .int .i64 0, .bool false, .string na, .string wa, b] := fun _ => rfl
        have Hd := Lib.hid Hd
        have hwbs : w.heap.size ≤ wb.heap.size := by omega
        clear hsz hwb
        refine wp_region_way (late := []) (S := fun w' => w'.cell? ⟨w.heap.size, 0, none⟩ = some (.int .i64 2) ∧ w'.cell? ⟨w.heap.size, 5, none⟩ = some (.bool false) ∧ w'.cell? ⟨w.heap.size, 6, none⟩ = some (.string na) ∧ w'.cell? ⟨w.heap.size, 7, none⟩ = some (.string wa) ∧ w'.cell? ⟨w.heap.size, 4, none⟩ = some (.int .i64 0)) (y := Way.takes [0, 2, 3, 4, 5, 6, 7, 8, 9, 10, 11, 12] (.fork 1 (.run 13 (.run 14 (.take 15 .fin))) 13 (.run 1 (.run 14 (.take 15 .fin))))) (by kernel_rfl) (by kernel_rfl) rfl (by kernel_rfl) (Box.of hbox) (fun hHeld => ?_)
        simp only [Way.takes]
        (repeat (first | (refine way_skip (by simp only [List.getElem?_toArray, List.getElem?_cons_succ, List.getElem?_cons_zero]; rfl) (by rfl) hHeld ?_; (try simp only [Act.put, List.setIfInBounds_toArray, List.set_cons_zero, List.set_cons_succ])) | (refine way_pass (by simp only [List.getElem?_toArray, List.getElem?_cons_succ, List.getElem?_cons_zero]; rfl) (by rfl) hHeld ?_; (try simp only [Act.put, List.setIfInBounds_toArray, List.set_cons_zero, List.set_cons_succ])) | (refine way_take (v := ?_) (by simp only [List.getElem?_toArray, List.getElem?_cons_succ, List.getElem?_cons_zero]; rfl) (by rfl) ?_ hHeld ?_; rotate_left; (focus (intro w hSw; (try dsimp only at hSw); go_simp; (try with_reducible rfl); done)); (try simp only [Act.put, List.setIfInBounds_toArray, List.set_cons_zero, List.set_cons_succ]))))
        refine way_fork ?_ ?_
        · refine way_run (by simp only [List.getElem?_toArray, List.getElem?_cons_succ, List.getElem?_cons_zero]; rfl) (by rfl) (fun K hK => ?_)
          go_simp
          refine (copy_any l _ c wb.drew hl Hk.out (hG.mono hwbs) (hNb.drewN 1)).mono ?_
          rintro e w2 ⟨A2, c2, rfl, hN2, hb2⟩
          have hN2' : Nodes G w2 wb.heap.size A2 c2 l := hN2
          have hb2' : Below wb.heap.size wb w2 := ⟨hb2.os, hb2.tape, hb2.output, hb2.size, hb2.block⟩
          have hbox2 := hbox.below hb2' hbox.inside
          clear hN2 hb2
          go_simp
          refine hK.out _ _ (Box.of hbox2) (fun hHeld => ?_)
          clear hK K
          (try simp only [Act.put, List.setIfInBounds_toArray, List.set_cons_zero, List.set_cons_succ])
          refine way_run (by simp only [List.getElem?_toArray, List.getElem?_cons_succ, List.getElem?_cons_zero]; rfl) (by rfl) (fun K hK => ?_)
          go_simp
          refine hK.out _ _ (Box.of (hbox2.more _)) (fun hHeld => ?_)
          clear hK K
          (try simp only [Act.put, List.setIfInBounds_toArray, List.set_cons_zero, List.set_cons_succ])
          refine way_run (by simp only [List.getElem?_toArray, List.getElem?_cons_succ, List.getElem?_cons_zero]; rfl) (by rfl) (fun K hK => ?_)
          refine wp_push (d := bare ⟨2, pa, ho, sh, 0, false, na, wa, ks⟩) (.tmp 80) (.tmp 92) 40 rfl j0 _ Try.underlying40 Qi.out Qz0.out Qz1.out Qz2.out rfl rfl (hN2'.kept (F := fun _ => False) ((Keeps.refl _ _).alloc _) fun _ _ h => h) rfl (Has.fresh w2 (.cells ((bare ⟨2, pa, ho, sh, 0, false, na, wa, ks⟩).cells (.slice none 0 0)).toArray 57)) rfl hl (Nat.le_trans hb2'.size (by simp)) (hG.mono hwbs) (fun A4 c4 w4 hN4 hk4 => ?_)
          have hb4 : Below w.heap.size w w4 := below_then ((hbb.trans (hb2'.mono hwbs)).alloc (Nat.le_trans hwbs hb2'.size) _) hk4 (Nat.le_trans (Nat.le_trans hwbs hb2'.size) (by simp)) fun i hi hB => by omega
          have hbox4 : Box w.heap.size 2 0 false na wa w4 := Box.of (Has.kept (hbox2.more _) hk4 (by have := hbox.inside; omega))
          refine hK.out _ _ hbox4 (fun hHeld => ?_)
          clear hK K
          (try simp only [Act.put, List.setIfInBounds_toArray, List.set_cons_zero, List.set_cons_succ])
          (repeat (first | (refine way_skip (by simp only [List.getElem?_toArray, List.getElem?_cons_succ, List.getElem?_cons_zero]; rfl) (by rfl) hHeld ?_; (try simp only [Act.put, List.setIfInBounds_toArray, List.set_cons_zero, List.set_cons_succ])) | (refine way_pass (by simp only [List.getElem?_toArray, List.getElem?_cons_succ, List.getElem?_cons_zero]; rfl) (by rfl) hHeld ?_; (try simp only [Act.put, List.setIfInBounds_toArray, List.set_cons_zero, List.set_cons_succ])) | (refine way_take (v := ?_) (by simp only [List.getElem?_toArray, List.getElem?_cons_succ, List.getElem?_cons_zero]; rfl) (by rfl) ?_ hHeld ?_; rotate_left; (focus (intro w hSw; (try dsimp only at hSw); go_simp; (try with_reducible rfl); done)); (try simp only [Act.put, List.setIfInBounds_toArray, List.set_cons_zero, List.set_cons_succ]))))
          refine way_done ?_
          go_wp2
          go_ret3
          rw [Gave3, HLL.out, HNO.out, hE.out]
          exact ⟨A4, c4, by rw [List.length_append]; rfl, hN4.from_ (Nat.zero_le _), hb4⟩
        · refine way_run (by simp only [List.getElem?_toArray, List.getElem?_cons_succ, List.getElem?_cons_zero]; rfl) (by rfl) (fun K hK => ?_)
          go_simp
          have hb1 : Below wb.heap.size wb (wb.alloc (.cells ((bare ⟨2, pa, ho, sh, 0, false, na, wa, ks⟩).cells (.slice none 0 0)).toArray 57)).drew := ((Below.refl _ wb).alloc (Nat.le_refl _) _).drew
          have hbox1 := hbox.below hb1 hbox.inside
          have hnew1 := Has.drewN (Has.fresh wb (.cells ((bare ⟨2, pa, ho, sh, 0, false, na, wa, ks⟩).cells (.slice none 0 0)).toArray 57)) 1
          refine hK.out _ _ (Box.of hbox1) (fun hHeld => ?_)
          clear hK K
          (try simp only [Act.put, List.setIfInBounds_toArray, List.set_cons_zero, List.set_cons_succ])
          refine way_run (by simp only [List.getElem?_toArray, List.getElem?_cons_succ, List.getElem?_cons_zero]; rfl) (by rfl) (fun K hK => ?_)
          go_simp
          refine (copy_any l _ c _ hl Hk.out (hG.mono (Nat.le_trans hwbs hb1.size)) (hNb.below hb1)).mono ?_
          rintro e w2 ⟨A2, c2, rfl, hN2, hb2⟩
          have hbox2 := hbox1.below hb2 hbox1.inside
          have hnew2 := hnew1.below hb2 hnew1.inside
          have hs1 := hb1.size
          have hBB : Below w.heap.size w w2 := (hbb.trans (hb1.mono hwbs)).trans (hb2.mono (Nat.le_trans hwbs hs1))
          have hin : w.heap.size < (wb.alloc (.cells ((bare ⟨2, pa, ho, sh, 0, false, na, wa, ks⟩).cells (.slice none 0 0)).toArray 57)).drew.heap.size := hbox1.inside
          go_simp
          refine hK.out _ _ (Box.of hbox2) (fun hHeld => ?_)
          clear hK K
          (try simp only [Act.put, List.setIfInBounds_toArray, List.set_cons_zero, List.set_cons_succ])
          refine way_run (by simp only [List.getElem?_toArray, List.getElem?_cons_succ, List.getElem?_cons_zero]; rfl) (by rfl) (fun K hK => ?_)
          refine wp_push (d := bare ⟨2, pa, ho, sh, 0, false, na, wa, ks⟩) (.tmp 80) (.tmp 92) 40 rfl j0 _ Try.underlying40 Qi.out Qz0.out Qz1.out Qz2.out rfl rfl hN2 rfl hnew2 rfl hl hb2.size (hG.mono (Nat.le_trans hwbs hs1)) (fun A4 c4 w4 hN4 hk4 => ?_)
          have hb4 : Below w.heap.size w w4 := below_then hBB hk4 hBB.size fun i hi hB => by omega
          have hbox4 : Box w.heap.size 2 0 false na wa w4 := Box.of (Has.kept hbox2 hk4 (Nat.not_le.2 hin))
          refine hK.out _ _ hbox4 (fun hHeld => ?_)
          clear hK K
          (try simp only [Act.put, List.setIfInBounds_toArray, List.set_cons_zero, List.set_cons_succ])
          (repeat (first | (refine way_skip (by simp only [List.getElem?_toArray, List.getElem?_cons_succ, List.getElem?_cons_zero]; rfl) (by rfl) hHeld ?_; (try simp only [Act.put, List.setIfInBounds_toArray, List.set_cons_zero, List.set_cons_succ])) | (refine way_pass (by simp only [List.getElem?_toArray, List.getElem?_cons_succ, List.getElem?_cons_zero]; rfl) (by rfl) hHeld ?_; (try simp only [Act.put, List.setIfInBounds_toArray, List.set_cons_zero, List.set_cons_succ])) | (refine way_take (v := ?_) (by simp only [List.getElem?_toArray, List.getElem?_cons_succ, List.getElem?_cons_zero]; rfl) (by rfl) ?_ hHeld ?_; rotate_left; (focus (intro w hSw; (try dsimp only at hSw); go_simp; (try with_reducible rfl); done)); (try simp only [Act.put, List.setIfInBounds_toArray, List.set_cons_zero, List.set_cons_succ]))))
          refine way_done ?_
          go_wp2
          go_ret3
          rw [Gave3, HLL.out, HNO.out, hE.out]
          exact ⟨A4, c4, by rw [List.length_append]; rfl, hN4.from_ (Nat.zero_le _), hb4⟩
theorem make_any (l : List Nd) (A : Option Addr) (c : Nat) (k pa ho sh m : Int) (sl : Bool) (na wa : ByteArray) (ks : List Int) (kv : Value) (w : World) (hna : na.size ≤ 9223372036854775807) (hwa : wa.size ≤ 9223372036854775807) (hl : l.length ≤ 1000) (hk : ∀ d ∈ l, d.kids.length ≤ 100000) (hG : Fut G w.heap.size) (hN : Nodes G w 0 A c l) :
    Calls Try.prog 46 #[.slice A l.length c, .agg #[.int .i64 k, .int .i64 pa, .int .i64 ho, .int .i64 sh, .int .i64 m, .bool sl, .string na, .string wa, kv]] w (Gave3 G w (mkL l ⟨k, pa, ho, sh, m, sl, na, wa, ks⟩) (mkNo l ⟨k, pa, ho, sh, m, sl, na, wa, ks⟩) (mkErr l.length ⟨k, pa, ho, sh, m, sl, na, wa, ks⟩)) := by
  by_cases h1 : k < 1 ∨ 4 < k
  · exact make_kind l A c k pa ho sh m sl na wa ks kv w hN h1
  by_cases h2 : (k = 3 ∧ m ≠ 1 ∧ m ≠ 2) ∨ (k ≠ 3 ∧ m ≠ 0)
  · exact make_mode l A c k pa ho sh m sl na wa ks kv w hN (by omega) (by omega) h2
  by_cases h3 : (k ≠ 2 ∧ (sl = true ∨ wa.toList.isEmpty = false)) ∨ (sl = false ∧ na.toList.isEmpty = false) ∨ okName na = false ∨ okName wa = false
  · exact make_name l A c k pa ho sh m sl na wa ks kv w hna hwa hN (by omega) (by omega) h2 h3
  exact make_rest l A c k pa ho sh m sl na wa ks kv w hna hwa hl hk hG hN (by omega) (by omega) h2 h3
end Go.Proofs.Ytekmgaigppenlaa

namespace Go.Proofs.Ytekmgaigppenlaa
open Go Go.RowKit

section
variable {G : Nat → Prop} {w : World} {c B : Nat} {A : Option Addr} {l : List Nd} {d : Nd}
/-- A block of another kind is written. -/
theorem Nodes.aside {b i : Nat} {u : Value} {cs : Array Value} {t : TypeId} {fr : Nat × Nat} (h : Nodes G w B A c l) (hb : Has w b (.cells cs t fr)) (h1 : t ≠ 57) (h2 : t ≠ 3) : Nodes G (w.setCell ⟨b, i, none⟩ u) B A c l := by
  obtain ⟨rows, rfl, hr, hk, hg⟩ := h
  refine ⟨rows, rfl, own_kept hr (Keeps.storeAt (F := fun j => j = b) (Keeps.refl _ _) rfl i u) fun g' hg' e => ?_, fun p hp => (hk p hp).aside hb h2, hg⟩
  rcases hr.2 with ⟨hv, _⟩ | ⟨g2, cap, cur, hv, _, hh, _⟩
  · rw [hv] at hg'; cases hg'
  · rw [hv] at hg'
    obtain rfl : g2 = g' := by simpa [Value.ownBlock] using hg'
    exact Has.apart hb hh (fun e => h1 (by injection e)) e.symm
/-- A node without children is put behind, in the old row or a new one. -/
theorem wp_pushG {P : Program} {o : Oper} {a : Act} {K : Act → World → Prop} {Q : Exit → Act → World → Prop} (s x : Operand) (t : TypeId)
    (ho : o.op = .call { callee := .builtin .append, args := #[s, x], argTypes := #[t, t] }) (i : TypeInfo) (z : Value) (ht : P.underlying t = some (.slice 57)) (hi : P.info? 57 = some i) (hz : i.zero = some z)
    (hsize : i.size = 9) (hby : i.bytes = 104) (hzs : z.cells.size = 9) (hs : a.eval s = .slice A l.length c) (hN : Nodes G w 0 A c l) {b q : Nat} (hx : a.eval x = .slice (some ⟨b, 0, none⟩) 1 q) {fr : Nat × Nat}
    (hb : Has w b (.cells (d.cells (.slice none 0 0)).toArray 57 fr)) (hd : d.kids = []) (hl : l.length ≤ 1000) (hG : Fut G w.heap.size)
    (h : ∀ g c' w', Nodes G w' 0 (some ⟨g, 0, none⟩) c' (l ++ [d]) → Keeps (fun i => (Value.slice A l.length c).ownBlock = some i) w w' → K (a.put o.dst (.slice (some ⟨g, 0, none⟩) (l.length + 1) c')) w') : o.wp P a w K Q := by
  obtain ⟨rows, h1, h2, h3, h4⟩ := hN
  refine wp_append_lies w s x t ho 0 57 i z 9 104 ht hi hz hsize hby hzs (by decide) _ l.length (flat rows) hs h2 ⟨b, 0, none⟩ 1 q (d.cells (.slice none 0 0)) hx rfl ?_ ?_ (by decide) (by unfold maxLen; omega) (by omega) (Nat.zero_le _) _ rfl ?_
  · exact World.news_of_block hb
  · intro u hu
    exact flat_one (rows := [(d, .slice none 0 0)]) (fun p hp => by obtain rfl := List.mem_singleton.1 hp; rfl) u (by simpa [flat] using hu)
  · intro g c' w' ho' hg hat _
    refine h g c' w' ⟨rows ++ [(d, .slice none 0 0)], by simp [h1], ?_, fun p hp => ?_, fun b off s e => ?_⟩ (Keeps.of_grown hg)
    · rw [List.length_append, flat_append]
      have : flat [(d, Value.slice none 0 0)] = d.cells (.slice none 0 0) := by simp [flat]
      rw [this]
      exact ho'
    · rcases List.mem_append.1 hp with hp | hp
      · exact ⟨own_kept (h3 p hp).1 (Keeps.of_grown hg) fun g hg' e => kids_apart (h3 p hp) h2 (by decide) hg' e, (h3 p hp).2⟩
      · obtain rfl := List.mem_singleton.1 hp
        show Kids G w' _ d.kids
        rw [hd]
        exact ⟨World.ownsRow_nil _ _ _ _, fun _ h => absurd h (by simp [Value.ownBlock])⟩
    · obtain ⟨rfl, _, _⟩ : g = b ∧ 0 = off ∧ none = s := by simpa using e
      rcases hat with hat | rfl
      · cases A with
        | none => cases hat
        | some a =>
          obtain rfl : a.block = g := by simpa [Value.ownBlock] using hat
          exact h4 _ _ _ rfl
      · exact hG _ (Nat.le_refl _)
end

/-- What fitsMode asks, what fitsSlot asks. -/
def modeOk (k m : Int) : Bool := if k = 3 then decide (m = 1 ∨ m = 2) else decide (m = 0)
def slotOk (k : Int) (sl : Bool) (na wa : ByteArray) : Bool := !((decide (k ≠ 2) && (sl || !wa.toList.isEmpty)) || (!sl && !na.toList.isEmpty) || !okName na || !okName wa)
section
variable {k pa ho sh m : Int} {sl : Bool} {na wa : ByteArray} {kv : Value} {w : World}
set_option maxHeartbeats 1000000 in
theorem arMode {x : Bool} (hx : modeOk k m = x) : Calls Try.prog 37 #[.agg #[.int .i64 k, .int .i64 pa, .int .i64 ho, .int .i64 sh, .int .i64 m, .bool sl, .string na, .string wa, kv]] w fun e w' => e = .returned (.bool x) ∧ Below w.heap.size w w' := by
  have hb : Below w.heap.size w (w.alloc (.cells #[.int .i64 k, .int .i64 pa, .int .i64 ho, .int .i64 sh, .int .i64 m, .bool sl, .string na, .string wa, kv] 57)) := (Below.refl _ w).alloc (Nat.le_refl _) _
  subst hx
  by_cases h3 : k = 3
  · subst h3
    by_cases h1 : m = 1
    · subst h1
      have e : modeOk 3 1 = true := rfl
      rw [e]
      go_enter Try.func37, Try.ntmps37
      go_wp2
      go_ret
      exact ⟨rfl, hb⟩
    · have z1 : (m == 1) = false := by simpa using h1
      by_cases h2 : m = 2
      · subst h2
        have e : modeOk 3 2 = true := rfl
        rw [e]
        clear z1
        go_enter Try.func37, Try.ntmps37
        go_wp2
        go_ret
        exact ⟨rfl, hb⟩
      · have z2 : (m == 2) = false := by simpa using h2
        have e : modeOk 3 m = false := by simp [modeOk, h1, h2]
        rw [e]
        go_enter Try.func37, Try.ntmps37
        go_wp2
        go_ret
        exact ⟨rfl, hb⟩
  · have z3 : (k == 3) = false := by simpa using h3
    by_cases h0 : m = 0
    · subst h0
      have e : modeOk k 0 = true := by simp [modeOk, h3]
      rw [e]
      go_enter Try.func37, Try.ntmps37
      go_wp2
      go_ret
      exact ⟨rfl, hb⟩
    · have z0 : (m == 0) = false := by simpa using h0
      have e : modeOk k m = false := by simp [modeOk, h3, h0]
      rw [e]
      go_enter Try.func37, Try.ntmps37
      go_wp2
      go_ret
      exact ⟨rfl, hb⟩

set_option maxHeartbeats 4000000 in
theorem arSlot {x : Bool} (hx : slotOk k sl na wa = x) (hna : na.size ≤ 9223372036854775807) (hwa : wa.size ≤ 9223372036854775807) : Calls Try.prog 38 #[.agg #[.int .i64 k, .int .i64 pa, .int .i64 ho, .int .i64 sh, .int .i64 m, .bool sl, .string na, .string wa, kv]] w fun e w' => e = .returned (.bool x) ∧ Below w.heap.size w w' := by
  have hb : Below w.heap.size w (w.alloc (.cells #[.int .i64 k, .int .i64 pa, .int .i64 ho, .int .i64 sh, .int .i64 m, .bool sl, .string na, .string wa, kv] 57)) := (Below.refl _ w).alloc (Nat.le_refl _) _
  have c7 : (w.alloc (.cells #[.int .i64 k, .int .i64 pa, .int .i64 ho, .int .i64 sh, .int .i64 m, .bool sl, .string na, .string wa, kv] 57)).cell? ⟨w.heap.size, 7, none⟩ = some (.string wa) := Has.cell (Has.fresh _ _) 7
  have hnot : ∀ (x : Bool) (w : World), (Op.unary .not (.bool x)).run Try.prog w = .ok (.bool (!x)) w := fun _ _ => rfl
  subst hx
  have HB := Lib.hid hb
  have HC := Lib.hid c7
  clear hb c7
  by_cases h2 : k = 2
  · subst h2
    cases hn : na.toList.isEmpty with
    | true =>
      cases ho1 : okName na with
      | false =>
        have : okName na = true := okName_empty hn
        rw [ho1] at this
        cases this
      | true =>
        cases ho2 : okName wa with
        | false =>
          have e : slotOk 2 sl na wa = false := by simp [slotOk, ho2]
          rw [e]
          have H1 := Lib.hid ho1
          have H2 := Lib.hid ho2
          clear e ho1 ho2
          go_enter Try.func38, Try.ntmps38
          go_wp2_with fail
          refine (arFits na _ hna H1.out).mono ?_
          rintro e w1 ⟨rfl, hb1⟩
          have c71 := (hb1.cell (p := ⟨w.heap.size, 7, none⟩) (by simp)).trans HC.out
          go_wp2_with fail
          refine (arFits wa _ hwa H2.out).mono ?_
          rintro e w2 ⟨rfl, hb2⟩
          go_wp2
          go_ret
          have hbb := HB.out.trans (hb1.mono HB.out.size)
          exact ⟨rfl, hbb.trans (hb2.mono hbb.size)⟩
        | true =>
          have e : slotOk 2 sl na wa = true := by simp [slotOk, ho1, ho2, hn]
          rw [e]
          have H1 := Lib.hid ho1
          have H2 := Lib.hid ho2
          clear e ho1 ho2
          go_enter Try.func38, Try.ntmps38
          go_wp2_with fail
          refine (arFits na _ hna H1.out).mono ?_
          rintro e w1 ⟨rfl, hb1⟩
          have c71 := (hb1.cell (p := ⟨w.heap.size, 7, none⟩) (by simp)).trans HC.out
          go_wp2_with fail
          refine (arFits wa _ hwa H2.out).mono ?_
          rintro e w2 ⟨rfl, hb2⟩
          go_wp2
          go_ret
          have hbb := HB.out.trans (hb1.mono HB.out.size)
          exact ⟨rfl, hbb.trans (hb2.mono hbb.size)⟩
    | false =>
      cases sl with
      | false =>
        have e : slotOk 2 false na wa = false := by simp [slotOk, hn]
        rw [e]
        clear e
        go_enter Try.func38, Try.ntmps38
        go_wp2
        go_ret
        exact ⟨rfl, HB.out⟩
      | true =>
        cases ho1 : okName na with
        | false =>
          have e : slotOk 2 true na wa = false := by simp [slotOk, ho1]
          rw [e]
          have H1 := Lib.hid ho1
          clear e ho1
          go_enter Try.func38, Try.ntmps38
          go_wp2_with fail
          refine (arFits na _ hna H1.out).mono ?_
          rintro e w1 ⟨rfl, hb1⟩
          go_wp2
          go_ret
          exact ⟨rfl, HB.out.trans (hb1.mono HB.out.size)⟩
        | true =>
          cases ho2 : okName wa with
          | false =>
            have e : slotOk 2 true na wa = false := by simp [slotOk, ho2]
            rw [e]
            have H1 := Lib.hid ho1
            have H2 := Lib.hid ho2
            clear e ho1 ho2
            go_enter Try.func38, Try.ntmps38
            go_wp2_with fail
            refine (arFits na _ hna H1.out).mono ?_
            rintro e w1 ⟨rfl, hb1⟩
            have c71 := (hb1.cell (p := ⟨w.heap.size, 7, none⟩) (by simp)).trans HC.out
            go_wp2_with fail
            refine (arFits wa _ hwa H2.out).mono ?_
            rintro e w2 ⟨rfl, hb2⟩
            go_wp2
            go_ret
            have hbb := HB.out.trans (hb1.mono HB.out.size)
            exact ⟨rfl, hbb.trans (hb2.mono hbb.size)⟩
          | true =>
            have e : slotOk 2 true na wa = true := by simp [slotOk, ho1, ho2]
            rw [e]
            have H1 := Lib.hid ho1
            have H2 := Lib.hid ho2
            clear e ho1 ho2
            go_enter Try.func38, Try.ntmps38
            go_wp2_with fail
            refine (arFits na _ hna H1.out).mono ?_
            rintro e w1 ⟨rfl, hb1⟩
            have c71 := (hb1.cell (p := ⟨w.heap.size, 7, none⟩) (by simp)).trans HC.out
            go_wp2_with fail
            refine (arFits wa _ hwa H2.out).mono ?_
            rintro e w2 ⟨rfl, hb2⟩
            go_wp2
            go_ret
            have hbb := HB.out.trans (hb1.mono HB.out.size)
            exact ⟨rfl, hbb.trans (hb2.mono hbb.size)⟩
  · have z2 : (k == 2) = false := by simpa using h2
    have z2' : (k != 2) = true := by simpa using h2
    cases sl with
    | true =>
      have e : slotOk k true na wa = false := by simp [slotOk, h2]
      rw [e]
      clear e
      go_enter Try.func38, Try.ntmps38
      go_wp2
      go_ret
      exact ⟨rfl, HB.out⟩
    | false =>
      cases hw : wa.toList.isEmpty with
      | false =>
        have e : slotOk k false na wa = false := by simp [slotOk, h2, hw]
        rw [e]
        clear e
        go_enter Try.func38, Try.ntmps38
        go_wp2
        go_ret
        exact ⟨rfl, HB.out⟩
      | true =>
        cases hn : na.toList.isEmpty with
        | false =>
          have e : slotOk k false na wa = false := by simp [slotOk, hn]
          rw [e]
          clear e
          go_enter Try.func38, Try.ntmps38
          go_wp2
          go_ret
          exact ⟨rfl, HB.out⟩
        | true =>
          have ho1 : okName na = true := okName_empty hn
          have ho2 : okName wa = true := okName_empty hw
          have e : slotOk k false na wa = true := by simp [slotOk, ho1, ho2, hn, hw]
          rw [e]
          have H1 := Lib.hid ho1
          have H2 := Lib.hid ho2
          clear e ho1 ho2
          go_enter Try.func38, Try.ntmps38
          go_wp2_with fail
          refine (arFits na _ hna H1.out).mono ?_
          rintro e w1 ⟨rfl, hb1⟩
          have c71 := (hb1.cell (p := ⟨w.heap.size, 7, none⟩) (by simp)).trans HC.out
          go_wp2_with fail
          refine (arFits wa _ hwa H2.out).mono ?_
          rintro e w2 ⟨rfl, hb2⟩
          go_wp2
          go_ret
          have hbb := HB.out.trans (hb1.mono HB.out.size)
          exact ⟨rfl, hbb.trans (hb2.mono hbb.size)⟩
end
end Go.Proofs.Ytekmgaigppenlaa

namespace Go.Proofs.Ytekmgaigppenlaa
open Go Go.RowKit

section
variable {n : Nat} {k pa ho sh m : Int} {sl : Bool} {na wa : ByteArray} {ks : List Int}
theorem mode_iff (h : modeOk k m = false) : (k = 3 ∧ m ≠ 1 ∧ m ≠ 2) ∨ (k ≠ 3 ∧ m ≠ 0) := by
  unfold modeOk at h
  split at h
  · rename_i h3
    rw [decide_eq_false_iff_not] at h
    exact .inl ⟨h3, fun e => h (.inl e), fun e => h (.inr e)⟩
  · rename_i h3
    exact .inr ⟨h3, of_decide_eq_false h⟩
theorem mode_not (h : modeOk k m = true) : ¬ ((k = 3 ∧ m ≠ 1 ∧ m ≠ 2) ∨ (k ≠ 3 ∧ m ≠ 0)) := by
  unfold modeOk at h
  split at h
  · have := of_decide_eq_true h
    omega
  · have := of_decide_eq_true h
    omega
theorem slot_eq : slotOk k sl na wa = false ↔ (k ≠ 2 ∧ (sl = true ∨ wa.toList.isEmpty = false)) ∨ (sl = false ∧ na.toList.isEmpty = false) ∨ okName na = false ∨ okName wa = false := by
  unfold slotOk
  cases sl <;> cases wa.toList.isEmpty <;> cases na.toList.isEmpty <;> cases okName na <;> cases okName wa <;> by_cases h : k = 2 <;> simp [h]
theorem slot_iff (h : slotOk k sl na wa = false) : (k ≠ 2 ∧ (sl = true ∨ wa.toList.isEmpty = false)) ∨ (sl = false ∧ na.toList.isEmpty = false) ∨ okName na = false ∨ okName wa = false := slot_eq.1 h
theorem slot_not (h : slotOk k sl na wa = true) : ¬ ((k ≠ 2 ∧ (sl = true ∨ wa.toList.isEmpty = false)) ∨ (sl = false ∧ na.toList.isEmpty = false) ∨ okName na = false ∨ okName wa = false) := fun h' => by
  rw [slot_eq.2 h'] at h
  cases h
end

section
variable {S : Nat → Prop} {w : World} {b : Nat} {l : List Nd}
/-- A number, an error's number, and the forest then. -/
def Told2 (S : Nat → Prop) (w : World) (b : Nat) (l : List Nd) (d : Nd) (e : Ending) (w' : World) : Prop := e = .returned (.tuple #[.int .i64 (mkNo l d), .int .i64 (mkErr l.length d)]) ∧ Frst S w' b (mkL l d) ∧ Keeps S w w'
theorem Told2.err {w' : World} {d : Nd} {e : Int} (he : mkErr l.length d = e) (h0 : e ≠ 0) (h : Frst S w b l) (hb : Below w.heap.size w w') : Told2 S w b l d (.returned (.tuple #[.int .i64 0, .int .i64 e])) w' := by
  unfold Told2 mkL mkNo
  rw [he, if_neg h0, if_neg h0]
  exact ⟨rfl, h.below hb, Keeps.ofBelow hb⟩

set_option maxHeartbeats 4000000 in
set_option maxRecDepth 100000 in
theorem arMake (k pa ho sh m : Int) (sl : Bool) (na wa : ByteArray) (ks : List Int) (kv : Value) (h : Frst S w b l) (hl : l.length ≤ 128) (hS : Fut S w.heap.size) (hna : na.size ≤ 9223372036854775807) (hwa : wa.size ≤ 9223372036854775807) :
    Calls Try.prog 27 #[.pointer (some ⟨b, 0, none⟩), .agg #[.int .i64 k, .int .i64 pa, .int .i64 ho, .int .i64 sh, .int .i64 m, .bool sl, .string na, .string wa, kv]] w (Told2 S w b l ⟨k, pa, ho, sh, m, sl, na, wa, ks⟩) := by
  have H := Lib.hid h
  have HS := Lib.hid hS
  clear h hS
  have hnot : ∀ (x : Bool) (w : World), (Op.unary .not (.bool x)).run Try.prog w = .ok (.bool (!x)) w := fun _ _ => rfl
  have hbb : Below w.heap.size w (w.alloc (.cells #[.int .i64 k, .int .i64 pa, .int .i64 ho, .int .i64 sh, .int .i64 m, .bool sl, .string na, .string wa, kv] 57)) := (Below.refl _ w).alloc (Nat.le_refl _) _
  have hbox : Has (w.alloc (.cells #[.int .i64 k, .int .i64 pa, .int .i64 ho, .int .i64 sh, .int .i64 m, .bool sl, .string na, .string wa, kv] 57)) w.heap.size (.cells #[.int .i64 k, .int .i64 pa, .int .i64 ho, .int .i64 sh, .int .i64 m, .bool sl, .string na, .string wa, kv] 57 (0, 0)) := Has.fresh _ _
  have Hbb := Lib.hid hbb
  have Hbox := Lib.hid hbox
  clear hbb hbox
  by_cases k1 : k < 1
  · have e1 : mkErr l.length ⟨k, pa, ho, sh, m, sl, na, wa, ks⟩ = 2 := mkErr_kind (.inl k1)
    have E1 := Lib.hid e1
    have f1 : decide (k < 1) = true := decide_eq_true k1
    clear e1
    go_enter Try.func27, Try.ntmps27
    go_wp2
    go_ret2
    exact Told2.err E1.out (by decide) H.out Hbb.out
  have f1 : decide (k < 1) = false := decide_eq_false k1
  by_cases k4 : 4 < k
  · have e1 : mkErr l.length ⟨k, pa, ho, sh, m, sl, na, wa, ks⟩ = 2 := mkErr_kind (.inr k4)
    have E1 := Lib.hid e1
    have f2 : decide (4 < k) = true := decide_eq_true k4
    clear e1
    go_enter Try.func27, Try.ntmps27
    go_wp2
    go_ret2
    exact Told2.err E1.out (by decide) H.out Hbb.out
  have f2 : decide (4 < k) = false := decide_eq_false k4
  cases hmo : modeOk k m with
  | false =>
    have E1 := Lib.hid (mkErr_mode (n := l.length) (pa := pa) (ho := ho) (sh := sh) (sl := sl) (na := na) (wa := wa) (ks := ks) (by omega) (by omega) (mode_iff hmo))
    have Hmo := Lib.hid hmo
    clear hmo
    go_enter Try.func27, Try.ntmps27
    go_wp2_with fail
    refine (arMode Hmo.out).mono ?_
    rintro e w1 ⟨rfl, hb1⟩
    go_wp2
    go_ret2
    exact Told2.err E1.out (by decide) H.out (Hbb.out.trans (hb1.mono Hbb.out.size))
  | true =>
    have Hmo := Lib.hid hmo
    cases hso : slotOk k sl na wa with
    | false =>
      have E1 := Lib.hid (mkErr_name (n := l.length) (pa := pa) (ho := ho) (sh := sh) (ks := ks) (by omega) (by omega) (mode_not hmo) (slot_iff hso))
      have Hso := Lib.hid hso
      clear hmo hso
      go_enter Try.func27, Try.ntmps27
      go_wp2_with fail
      refine (arMode Hmo.out).mono ?_
      rintro e w1 ⟨rfl, hb1⟩
      have hbox1 := Hbox.out.below hb1 Hbox.out.inside
      have y0 := hbox1.cell 0
      have y1 := hbox1.cell 1
      have y2 := hbox1.cell 2
      have y3 := hbox1.cell 3
      have y4 := hbox1.cell 4
      have y5 := hbox1.cell 5
      have y6 := hbox1.cell 6
      have y7 := hbox1.cell 7
      have y8 := hbox1.cell 8
      clear hbox1
      go_wp2_with fail
      refine (arSlot Hso.out hna hwa).mono ?_
      rintro e w2 ⟨rfl, hb2⟩
      have hB1 := Hbb.out.trans (hb1.mono Hbb.out.size)
      go_wp2
      go_ret2
      exact Told2.err E1.out (by decide) H.out (hB1.trans (hb2.mono hB1.size))
    | true =>
      have e0 := mkErr_rest (n := l.length) (pa := pa) (ho := ho) (sh := sh) (ks := ks) (by omega) (by omega) (mode_not hmo) (slot_not hso)
      have Hso := Lib.hid hso
      clear hmo hso
      go_enter Try.func27, Try.ntmps27
      go_wp2_with fail
      refine (arMode Hmo.out).mono ?_
      rintro e w1 ⟨rfl, hb1⟩
      have hbox1 := Hbox.out.below hb1 Hbox.out.inside
      have y0 := hbox1.cell 0
      have y1 := hbox1.cell 1
      have y2 := hbox1.cell 2
      have y3 := hbox1.cell 3
      have y4 := hbox1.cell 4
      have y5 := hbox1.cell 5
      have y6 := hbox1.cell 6
      have y7 := hbox1.cell 7
      have y8 := hbox1.cell 8
      have HB1 := Lib.hid hbox1
      clear hbox1
      go_wp2_with fail
      refine (arSlot Hso.out hna hwa).mono ?_
      rintro e w2 ⟨rfl, hb2⟩
      have hbox2 := HB1.out.below hb2 HB1.out.inside
      have hB1 := Hbb.out.trans (hb1.mono Hbb.out.size)
      have hB2 : Below w.heap.size w w2 := hB1.trans (hb2.mono hB1.size)
      obtain ⟨hSb, A, c, hh0, hN0⟩ := H.out
      have hh := hh0.below hB2 hh0.inside
      have hN := hN0.below hB2
      have hrow0 : ∀ i, (Value.slice A l.length c).ownBlock = some i → i < w.heap.size ∧ S i := fun i hi => by
        obtain ⟨rows, -, ho, -, h4⟩ := hN0
        refine ⟨own_in ho i hi, ?_⟩
        cases A with
        | none => cases hi
        | some a =>
          obtain rfl : a.block = i := by simpa [Value.ownBlock] using hi
          exact h4 _ _ _ rfl
      have Hrow0 := Lib.hid hrow0
      have q0 : w2.cell? ⟨b, 0, none⟩ = some (.slice A l.length c) := hh.cell 0
      clear hrow0 hh0 hN0
      clear y0 y1 y2 y3 y4 y5 y6 y7 y8 HB1 hB1 hb1 hb2 w1
      by_cases hfull : 128 ≤ l.length
      · rw [if_pos hfull] at e0
        have E1 := Lib.hid e0
        have hf3 : (128 : Int) ≤ (l.length : Int) := by omega
        clear e0 hh hN hbox2
        go_wp2
        go_ret2
        exact Told2.err E1.out (by decide) H.out hB2
      · rw [if_neg hfull] at e0
        have hL : mkL l ⟨k, pa, ho, sh, m, sl, na, wa, ks⟩ = l ++ [bare ⟨k, pa, ho, sh, m, sl, na, wa, ks⟩] := by unfold mkL; rw [if_pos e0]
        have hNo : mkNo l ⟨k, pa, ho, sh, m, sl, na, wa, ks⟩ = (l.length : Int) + 1 := by unfold mkNo; rw [if_pos e0]
        have HL := Lib.hid hL
        have HNo := Lib.hid hNo
        have E0 := Lib.hid e0
        obtain ⟨j0, qi, qz0, qz1, qz2⟩ := info_parts Try.infoNode
        have Qi := Lib.hid qi
        have Qz0 := Lib.hid qz0
        have Qz1 := Lib.hid qz1
        have Qz2 := Lib.hid qz2
        clear qi qz0 qz1 qz2 e0 hL hNo
        have hf3 : ¬ (128 : Int) ≤ (l.length : Int) := by omega
        have hS0 : ∀ w' : World, Has w' w.heap.size (.cells #[.int .i64 k, .int .i64 pa, .int .i64 ho, .int .i64 sh, .int .i64 m, .bool sl, .string na, .string wa, kv] 57 (0, 0)) → Has w' b (.cells #[.slice A l.length c] 76 (0, 0)) → Box w.heap.size k m sl na wa w' ∧ w'.cell? ⟨b, 0, none⟩ = some (.slice A l.length c) := fun w' h1 h2 => ⟨Box.of h1, h2.cell 0⟩
        have HS0 := Lib.hid hS0
        clear hS0
        go_wp2_with fail
        refine wp_region_way (late := [20]) (S := fun w' => (w'.cell? ⟨w.heap.size, 0, none⟩ = some (.int .i64 k) ∧ w'.cell? ⟨w.heap.size, 5, none⟩ = some (.bool sl) ∧ w'.cell? ⟨w.heap.size, 6, none⟩ = some (.string na) ∧ w'.cell? ⟨w.heap.size, 7, none⟩ = some (.string wa) ∧ w'.cell? ⟨w.heap.size, 4, none⟩ = some (.int .i64 m)) ∧ w'.cell? ⟨b, 0, none⟩ = some (.slice A l.length c)) (y := Way.takes [0, 1, 2, 3, 4, 5, 6, 7, 8, 9, 10, 11, 12, 13, 14, 15] (.run 16 (.run 17 (.run 18 (.run 19 (.run 20 .fin)))))) (by kernel_rfl) (by kernel_rfl) rfl (by kernel_rfl) (HS0.out _ hbox2 hh) (fun hHeld => ?_)
        simp only [Way.takes]
        (repeat (first | (refine way_skip (by simp only [List.getElem?_toArray, List.getElem?_cons_succ, List.getElem?_cons_zero]; rfl) (by rfl) hHeld ?_; (try simp only [Act.put, List.setIfInBounds_toArray, List.set_cons_zero, List.set_cons_succ])) | (refine way_pass (by simp only [List.getElem?_toArray, List.getElem?_cons_succ, List.getElem?_cons_zero]; rfl) (by rfl) hHeld ?_; (try simp only [Act.put, List.setIfInBounds_toArray, List.set_cons_zero, List.set_cons_succ])) | (refine way_take (v := ?_) (by simp only [List.getElem?_toArray, List.getElem?_cons_succ, List.getElem?_cons_zero]; rfl) (by rfl) ?_ hHeld ?_; rotate_left; (focus (intro w hSw; (try dsimp only at hSw); go_simp; (try with_reducible rfl); done)); (try simp only [Act.put, List.setIfInBounds_toArray, List.set_cons_zero, List.set_cons_succ]))))
        refine way_run (by simp only [List.getElem?_toArray, List.getElem?_cons_succ, List.getElem?_cons_zero]; rfl) (by rfl) (fun K hK => ?_)
        go_simp
        have hb3 : Below w2.heap.size w2 (w2.alloc (.cells ((bare ⟨k, pa, ho, sh, m, sl, na, wa, ks⟩).cells (.slice none 0 0)).toArray 57)).drew := ((Below.refl _ w2).alloc (Nat.le_refl _) _).drew
        have hbox3 := hbox2.below hb3 hbox2.inside
        have hh3 := hh.below hb3 hh.inside
        have hN3 := hN.below hb3
        have hnew := Has.drewN (Has.fresh w2 (.cells ((bare ⟨k, pa, ho, sh, m, sl, na, wa, ks⟩).cells (.slice none 0 0)).toArray 57)) 1
        refine hK.out _ _ (HS0.out _ hbox3 hh3) (fun hHeld => ?_)
        clear hK K
        (try simp only [Act.put, List.setIfInBounds_toArray, List.set_cons_zero, List.set_cons_succ])
        refine way_run (by simp only [List.getElem?_toArray, List.getElem?_cons_succ, List.getElem?_cons_zero]; rfl) (by rfl) (fun K hK => ?_)
        refine wp_pushG (d := bare ⟨k, pa, ho, sh, m, sl, na, wa, ks⟩) (.tmp 34) (.tmp 46) 40 rfl j0 _ Try.underlying40 Qi.out Qz0.out Qz1.out Qz2.out rfl rfl hN3 rfl hnew rfl (by omega) (HS.out.mono (Nat.le_trans hB2.size hb3.size)) (fun g c4 w4 hN4 hk4 => ?_)
        have hbl : b ≠ w.heap.size := Has.apart hh hbox2 (by simp)
        have hbs : ¬ (Value.slice A l.length c).ownBlock = some b := fun e => by
          obtain ⟨rows, -, ho, -⟩ := hN3
          rcases ho.2 with ⟨hv, _⟩ | ⟨g2, cap, cur, hv, _, hh2, _⟩
          · rw [hv] at e; cases e
          · rw [hv] at e
            obtain rfl : g2 = b := by simpa [Value.ownBlock] using e
            exact Has.apart hh3 hh2 (by simp) rfl
        have hh4 := hh3.kept hk4 hbs
        have hbox4 := hbox3.kept hk4 fun e => absurd (Hrow0.out _ e).1 (Nat.lt_irrefl _)
        have hK4 : Keeps S w w4 := (((Keeps.ofBelow hB2).also (((Keeps.refl _ w2).alloc (.cells ((bare ⟨k, pa, ho, sh, m, sl, na, wa, ks⟩).cells (.slice none 0 0)).toArray 57)).drew))).trans hk4 fun i _ e => (Hrow0.out _ e).2
        have q4 := HS0.out _ hbox4 hh4
        have q44 := q4.2
        have hz4 := hh4.free 0
        have hnew5 : Frst S (w4.setCell ⟨b, 0, none⟩ (.slice (some ⟨g, 0, none⟩) (l.length + 1) c4)) b (mkL l ⟨k, pa, ho, sh, m, sl, na, wa, ks⟩) := by
          rw [HL.out]
          refine ⟨hSb, some ⟨g, 0, none⟩, c4, ?_, hN4.aside hh4 (by decide) (by decide)⟩
          have := hh4.stored 0 (.slice (some ⟨g, 0, none⟩) (l.length + 1) c4)
          rw [List.length_append]
          exact this
        have c5 : (w4.setCell ⟨b, 0, none⟩ (.slice (some ⟨g, 0, none⟩) (l.length + 1) c4)).cell? ⟨b, 0, none⟩ = some (.slice (some ⟨g, 0, none⟩) (l.length + 1) c4) := (hh4.stored 0 _).cell 0
        have hk5 := Lib.hid (hK4.store (p := ⟨b, 0, none⟩) (.inl hSb) (.slice (some ⟨g, 0, none⟩) (l.length + 1) c4))
        have Hnew5 := Lib.hid hnew5
        have Q4 := Lib.hid q4
        clear hnew5 q4
        refine hK.out _ _ Q4.out (fun hHeld => ?_)
        clear hK K
        (try simp only [Act.put, List.setIfInBounds_toArray, List.set_cons_zero, List.set_cons_succ])
        refine way_run (by simp only [List.getElem?_toArray, List.getElem?_cons_succ, List.getElem?_cons_zero]; rfl) (by rfl) (fun K hK => ?_)
        go_simp
        refine hK.out _ _ Q4.out (fun hHeld => ?_)
        clear hK K
        (try simp only [Act.put, List.setIfInBounds_toArray, List.set_cons_zero, List.set_cons_succ])
        refine way_run (by simp only [List.getElem?_toArray, List.getElem?_cons_succ, List.getElem?_cons_zero]; rfl) (by rfl) (fun K hK => ?_)
        go_simp
        refine hK.out _ _ Q4.out (fun hHeld => ?_)
        clear hK K
        (try simp only [Act.put, List.setIfInBounds_toArray, List.set_cons_zero, List.set_cons_succ])
        refine way_last (by rfl) (by simp only [List.getElem?_toArray, List.getElem?_cons_succ, List.getElem?_cons_zero]; rfl) (by rfl) (fun K hK => ?_)
        go_simp
        refine hK.out _ _ ?_
        clear hK K
        refine way_done ?_
        go_wp2
        go_ret2
        refine ⟨?_, Hnew5.out, hk5.out⟩
        rw [HNo.out, E0.out]
        rfl
end
end Go.Proofs.Ytekmgaigppenlaa

namespace Go.Proofs.Ytekmgaigppenlaa
open Go Go.RowKit
variable {G : Nat → Prop}

/-- A call as a value: its node's children stand at kv, its list at lv. -/
def actVal (x : Ac) (kv lv : Value) : Value := .agg #[.int .i64 x.kind, .int .i64 x.a, .int .i64 x.b, .string x.s, .int .i64 x.n.kind, .int .i64 x.n.parent, .int .i64 x.n.host, .int .i64 x.n.shadow, .int .i64 x.n.mode, .bool x.n.slot, .string x.n.name, .string x.n.want, kv, lv]
/-- What an argument's texts and list hold. -/
structure ActIn (w : World) (x : Ac) (A : Option Addr) (c : Nat) : Prop where
  s : x.s.size ≤ 9223372036854775807
  name : x.n.name.size ≤ 9223372036854775807
  want : x.n.want.size ≤ 9223372036854775807
  cap : x.l.length ≤ c
  nil : A = none → c = 0
  nums : Nums w w.heap.size A .i64 x.l

theorem ActIn.below {w w' : World} {x : Ac} {A : Option Addr} {c : Nat} (h : ActIn w x A c) (hb : Below w.heap.size w w') : ActIn w' x A c := ⟨h.s, h.name, h.want, h.cap, h.nil, (h.nums.below hb).mono hb.size⟩

theorem Gave.three {w w' wb : World} {l : List Nd} {x : Ac} {l' : List Nd} {err : Int} {e : Ending} (h : Gave G wb l' err e w') (hb : Below w.heap.size w wb) (h1 : actL l x = l') (h2 : actErr l x = err) (h3 : actNo l x = 0) :
    ∃ A' c', e = .returned (.tuple #[.slice A' l'.length c', .int .i64 err]) ∧ Gave3 G w (actL l x) (actNo l x) (actErr l x) (.returned (.tuple #[.slice A' l'.length c', .int .i64 0, .int .i64 err])) w' := by
  obtain ⟨A', c', he, hN, hb'⟩ := h
  refine ⟨A', c', he, A', c', by rw [h1, h2, h3], by rw [h1]; exact hN, hb.trans (hb'.mono hb.size)⟩

set_option maxHeartbeats 4000000 in
set_option maxRecDepth 100000 in
theorem do_any (l : List Nd) (A : Option Addr) (c : Nat) (x : Ac) (kv : Value) (A2 : Option Addr) (c2 : Nat) (w : World) (hl : l.length ≤ 1000) (hk : ∀ d ∈ l, d.kids.length ≤ 100000) (hG : Fut G w.heap.size) (hxl : x.l.length ≤ 100000) (hN : Nodes G w 0 A c l) (hx : ActIn w x A2 c2) :
    Calls Try.prog 33 #[.slice A l.length c, actVal x kv (.slice A2 x.l.length c2)] w (Gave3 G w (actL l x) (actNo l x) (actErr l x)) := by
  obtain ⟨kx, ax, bx, sx, ⟨k, pa, ho, sh, m, sl, na, wa, ks⟩, xs⟩ := x
  have hbb : Below w.heap.size w (w.alloc (.cells #[.int .i64 kx, .int .i64 ax, .int .i64 bx, .string sx, .int .i64 k, .int .i64 pa, .int .i64 ho, .int .i64 sh, .int .i64 m, .bool sl, .string na, .string wa, kv, .slice A2 xs.length c2] 59)) := (Below.refl _ w).alloc (Nat.le_refl _) _
  have hNb := hN.below hbb
  have hGb := hG.mono hbb.size
  have hxb := hx.below hbb
  obtain ⟨q1, q2, q3, q4, q5, q6⟩ := hxb
  have HNb := Lib.hid hNb
  have Hk := Lib.hid hk
  have H5 := Lib.hid q5
  have H6 := Lib.hid q6
  have Hbb := Lib.hid hbb
  simp only at q1 q2 q3 q4 hxl
  unfold actVal
  simp only
  clear hN hx hNb hk q5 q6 hbb
  obtain ⟨X, hX⟩ : ∃ X : Ac, X = ⟨kx, ax, bx, sx, ⟨k, pa, ho, sh, m, sl, na, wa, ks⟩, xs⟩ := ⟨_, rfl⟩
  rw [← hX]
  by_cases h0 : kx = 0
  · subst h0
    have e1 : actL l X = mkL l ⟨k, pa, ho, sh, m, sl, na, wa, ks⟩ := by rw [hX]; rfl
    have e2 : actNo l X = mkNo l ⟨k, pa, ho, sh, m, sl, na, wa, ks⟩ := by rw [hX]; rfl
    have e3 : actErr l X = mkErr l.length ⟨k, pa, ho, sh, m, sl, na, wa, ks⟩ := by rw [hX]; rfl
    rw [e1, e2, e3]
    clear e1 e2 e3 hX
    go_enter Try.func33, Try.ntmps33
    go_wp2_with fail
    refine (make_any l A c k pa ho sh m sl na wa ks kv _ q2 q3 hl Hk.out hGb HNb.out).mono ?_
    rintro e w1 ⟨A', c', rfl, hN', hb'⟩
    go_wp2
    go_ret3
    exact ⟨A', c', rfl, hN', Hbb.out.trans (hb'.mono Hbb.out.size)⟩
  · have h0' : (kx == 0) = false := by simpa using h0
    have n3 : actNo l X = 0 := by rw [hX]; exact if_neg h0
    by_cases h1 : kx = 1
    · subst h1
      have e1 : actL l X = putL l ax xs := by rw [hX]; rfl
      have e2 : actErr l X = putErr l ax xs := by rw [hX]; rfl
      have E1 := Lib.hid e1
      have E2 := Lib.hid e2
      have N3 := Lib.hid n3
      clear e1 e2 n3 hX
      go_enter Try.func33, Try.ntmps33
      go_wp2_with fail
      refine (put_any l A c ax xs A2 xs.length c2 _ hl Hk.out hGb HNb.out rfl hxl q4 H5.out H6.out).mono ?_
      intro e w1 hG
      obtain ⟨A', c', rfl, hG3⟩ := hG.three Hbb.out E1.out E2.out N3.out
      go_wp2
      go_ret3
      exact hG3
    · have h1' : (kx == 1) = false := by simpa using h1
      by_cases h2 : kx = 2
      · subst h2
        have e1 : actL l X = tieL l ax bx := by rw [hX]; rfl
        have e2 : actErr l X = tieErr l ax bx := by rw [hX]; rfl
        have E1 := Lib.hid e1
        have E2 := Lib.hid e2
        have N3 := Lib.hid n3
        clear e1 e2 n3 hX
        go_enter Try.func33, Try.ntmps33
        go_wp2_with fail
        refine (tie_any l A c ax bx _ hl Hk.out hGb HNb.out).mono ?_
        intro e w1 hG
        obtain ⟨A', c', rfl, hG3⟩ := hG.three Hbb.out E1.out E2.out N3.out
        go_wp2
        go_ret3
        exact hG3
      · have h2' : (kx == 2) = false := by simpa using h2
        by_cases h3 : kx = 3
        · subst h3
          have e1 : actL l X = nameL l ax sx := by rw [hX]; rfl
          have e2 : actErr l X = nameErr l ax sx := by rw [hX]; rfl
          have E1 := Lib.hid e1
          have E2 := Lib.hid e2
          have N3 := Lib.hid n3
          clear e1 e2 n3 hX
          go_enter Try.func33, Try.ntmps33
          go_wp2_with fail
          refine (name_any l A c ax sx _ q1 hl Hk.out hGb HNb.out).mono ?_
          intro e w1 hG
          obtain ⟨A', c', rfl, hG3⟩ := hG.three Hbb.out E1.out E2.out N3.out
          go_wp2
          go_ret3
          exact hG3
        · have h3' : (kx == 3) = false := by simpa using h3
          by_cases h4 : kx = 4
          · subst h4
            have e1 : actL l X = wantL l ax sx := by rw [hX]; rfl
            have e2 : actErr l X = wantErr l ax sx := by rw [hX]; rfl
            have E1 := Lib.hid e1
            have E2 := Lib.hid e2
            have N3 := Lib.hid n3
            clear e1 e2 n3 hX
            go_enter Try.func33, Try.ntmps33
            go_wp2_with fail
            refine (want_any l A c ax sx _ q1 hl Hk.out hGb HNb.out).mono ?_
            intro e w1 hG
            obtain ⟨A', c', rfl, hG3⟩ := hG.three Hbb.out E1.out E2.out N3.out
            go_wp2
            go_ret3
            exact hG3
          · have h4' : (kx == 4) = false := by simpa using h4
            have e1 : actL l X = l := by rw [hX]; simp only [actL, if_neg h0, if_neg h1, if_neg h2, if_neg h3, if_neg h4]
            have e2 : actErr l X = 0 := by rw [hX]; simp only [actErr, if_neg h0, if_neg h1, if_neg h2, if_neg h3, if_neg h4]
            rw [e1, e2, n3]
            clear e1 e2 n3 hX
            go_enter Try.func33, Try.ntmps33
            go_wp2
            go_ret3
            exact ⟨_, _, rfl, HNb.out, Hbb.out⟩
end Go.Proofs.Ytekmgaigppenlaa

namespace Go.Proofs.Ytekmgaigppenlaa
open Go Go.ChangeShapes Go.WideShapes Go.ChangeAt Go.RowKit

section
variable {H : Type} {enc : TypeId × Value → H} {W : World} {sp : Nat → Bool} {held : Bool} {fuel : Nat} {cs : List Value} {y : DataW H × List MemPlace}

theorem node_in (h : DataW.trod enc Try.prog W 0 sp held fuel 57 cs = some y) :
    ∃ (d : Nd) (A : Option Addr) (c : Nat), cs = d.cells (.slice A d.kids.length c) ∧ d.name.size ≤ 9223372036854775807 ∧ d.want.size ≤ 9223372036854775807 ∧ ListIn W A c d.kids := by
  obtain ⟨xs, n, _, _, hlen, hxl, hf⟩ := DataW.trod_struct Try.underlying57 h
  have h9 : cs.length = 9 := hlen.trans (by kernel_rfl)
  have hxl' : xs.length = 9 := hxl
  have one : Try.prog.cellsOf 3 = 1 := by kernel_rfl
  have oneB : Try.prog.cellsOf 4 = 1 := by kernel_rfl
  have oneS : Try.prog.cellsOf 9 = 1 := by kernel_rfl
  have oneL : Try.prog.cellsOf 55 = 1 := by kernel_rfl
  have get : ∀ i, i < 9 → ∃ z, xs[i]? = some z := fun i hi => ⟨xs[i]'(by omega), List.getElem?_eq_getElem _⟩
  obtain ⟨z0, g0⟩ := get 0 (by omega)
  obtain ⟨z1, g1⟩ := get 1 (by omega)
  obtain ⟨z2, g2⟩ := get 2 (by omega)
  obtain ⟨z3, g3⟩ := get 3 (by omega)
  obtain ⟨z4, g4⟩ := get 4 (by omega)
  obtain ⟨z5, g5⟩ := get 5 (by omega)
  obtain ⟨z6, g6⟩ := get 6 (by omega)
  obtain ⟨z7, g7⟩ := get 7 (by omega)
  obtain ⟨z8, g8⟩ := get 8 (by omega)
  obtain ⟨a0, e0, _, _⟩ := DataW.trod_int Try.underlying3 ((hf 0 _ rfl).trans g0)
  obtain ⟨a1, e1, _, _⟩ := DataW.trod_int Try.underlying3 ((hf 1 _ rfl).trans g1)
  obtain ⟨a2, e2, _, _⟩ := DataW.trod_int Try.underlying3 ((hf 2 _ rfl).trans g2)
  obtain ⟨a3, e3, _, _⟩ := DataW.trod_int Try.underlying3 ((hf 3 _ rfl).trans g3)
  obtain ⟨a4, e4, _, _⟩ := DataW.trod_int Try.underlying3 ((hf 4 _ rfl).trans g4)
  obtain ⟨a5, e5, _⟩ := DataW.trod_bool Try.underlying4 ((hf 5 _ rfl).trans g5)
  obtain ⟨a6, e6, _, s6⟩ := DataW.trod_string Try.underlying9 ((hf 6 _ rfl).trans g6)
  obtain ⟨a7, e7, _, s7⟩ := DataW.trod_string Try.underlying9 ((hf 7 _ rfl).trans g7)
  obtain ⟨A, c, ks, e8, hL⟩ := list_in ((hf 8 _ rfl).trans g8)
  refine ⟨⟨a0, a1, a2, a3, a4, a5, a6, a7, ks⟩, A, c, ?_, s6, s7, hL⟩
  refine List.ext_getElem? fun i => ?_
  match i with
  | 0 => exact part_one e0 one
  | 1 => exact part_one e1 one
  | 2 => exact part_one e2 one
  | 3 => exact part_one e3 one
  | 4 => exact part_one e4 one
  | 5 => exact part_one e5 oneB
  | 6 => exact part_one e6 oneS
  | 7 => exact part_one e7 oneS
  | 8 => exact part_one e8 oneL
  | i + 9 => rw [List.getElem?_eq_none (by omega), List.getElem?_eq_none (by rw [Nd.cells_length]; omega)]

/-- A call's fourteen cells. -/
def actCells (x : Ac) (kv lv : Value) : List Value := [.int .i64 x.kind, .int .i64 x.a, .int .i64 x.b, .string x.s, .int .i64 x.n.kind, .int .i64 x.n.parent, .int .i64 x.n.host, .int .i64 x.n.shadow, .int .i64 x.n.mode, .bool x.n.slot, .string x.n.name, .string x.n.want, kv, lv]

theorem act_in (h : DataW.trod enc Try.prog W 0 sp held fuel 59 cs = some y) :
    ∃ (x : Ac) (A1 : Option Addr) (c1 : Nat) (A2 : Option Addr) (c2 : Nat), cs = actCells x (.slice A1 x.n.kids.length c1) (.slice A2 x.l.length c2) ∧ ListIn W A1 c1 x.n.kids ∧ ActIn W x A2 c2 := by
  obtain ⟨xs, n, _, _, hlen, hxl, hf⟩ := DataW.trod_struct Try.underlying59 h
  have h14 : cs.length = 14 := hlen.trans (by kernel_rfl)
  have hxl' : xs.length = 6 := hxl
  have one : Try.prog.cellsOf 3 = 1 := by kernel_rfl
  have oneS : Try.prog.cellsOf 9 = 1 := by kernel_rfl
  have oneL : Try.prog.cellsOf 55 = 1 := by kernel_rfl
  have nine : Try.prog.cellsOf 57 = 9 := by kernel_rfl
  have get : ∀ i, i < 6 → ∃ z, xs[i]? = some z := fun i hi => ⟨xs[i]'(by omega), List.getElem?_eq_getElem _⟩
  obtain ⟨z0, g0⟩ := get 0 (by omega)
  obtain ⟨z1, g1⟩ := get 1 (by omega)
  obtain ⟨z2, g2⟩ := get 2 (by omega)
  obtain ⟨z3, g3⟩ := get 3 (by omega)
  obtain ⟨z4, g4⟩ := get 4 (by omega)
  obtain ⟨z5, g5⟩ := get 5 (by omega)
  obtain ⟨a0, e0, _, _⟩ := DataW.trod_int Try.underlying3 ((hf 0 _ rfl).trans g0)
  obtain ⟨a1, e1, _, _⟩ := DataW.trod_int Try.underlying3 ((hf 1 _ rfl).trans g1)
  obtain ⟨a2, e2, _, _⟩ := DataW.trod_int Try.underlying3 ((hf 2 _ rfl).trans g2)
  obtain ⟨a3, e3, _, s3⟩ := DataW.trod_string Try.underlying9 ((hf 3 _ rfl).trans g3)
  obtain ⟨d, A1, c1, e4, s4, s5, hL1⟩ := node_in ((hf 4 _ rfl).trans g4)
  obtain ⟨A2, c2, ls, e5, hL2⟩ := list_in ((hf 5 _ rfl).trans g5)
  refine ⟨⟨a0, a1, a2, a3, d, ls⟩, A1, c1, A2, c2, ?_, hL1, ⟨s3, s4, s5, hL2.cap, hL2.nil, hL2.nums⟩⟩
  have hd : ∀ f, f < 9 → cs[4 + f]? = (d.cells (.slice A1 d.kids.length c1))[f]? := fun f hf => by
    have : ((cs.drop 4).take (Try.prog.cellsOf 57))[f]? = (d.cells (.slice A1 d.kids.length c1))[f]? := congrArg (fun l : List Value => l[f]?) e4
    rw [nine, List.getElem?_take, if_pos hf, List.getElem?_drop] at this
    exact this
  refine List.ext_getElem? fun i => ?_
  match i with
  | 0 => exact part_one e0 one
  | 1 => exact part_one e1 one
  | 2 => exact part_one e2 one
  | 3 => exact part_one e3 oneS
  | 4 => exact hd 0 (by omega)
  | 5 => exact hd 1 (by omega)
  | 6 => exact hd 2 (by omega)
  | 7 => exact hd 3 (by omega)
  | 8 => exact hd 4 (by omega)
  | 9 => exact hd 5 (by omega)
  | 10 => exact hd 6 (by omega)
  | 11 => exact hd 7 (by omega)
  | 12 => exact hd 8 (by omega)
  | 13 => exact part_one e5 oneL
  | i + 14 => rw [List.getElem?_eq_none (by omega), List.getElem?_eq_none (by show 14 ≤ i + 14; omega)]
end

/-- A call that came in, at its place. -/
def ActAt (w : World) (A : Option Addr) (i : Nat) (x : Ac) : Prop :=
  ∃ (b off : Nat) (A1 : Option Addr) (c1 : Nat) (A2 : Option Addr) (c2 : Nat), A = some ⟨b, off, none⟩ ∧ b < w.heap.size ∧ (∀ f, f < 14 → w.cell? ⟨b, off + (i * 14 + f), none⟩ = (actCells x (.slice A1 x.n.kids.length c1) (.slice A2 x.l.length c2))[f]?) ∧ ListIn w A1 c1 x.n.kids ∧ ActIn w x A2 c2
def Acts (w : World) (A : Option Addr) (xs : List Ac) : Prop := ∀ i (h : i < xs.length), ActAt w A i xs[i]

theorem Acts.below {w w' : World} {A : Option Addr} {xs : List Ac} (h : Acts w A xs) (hb : Below w.heap.size w w') : Acts w' A xs := fun i hi => by
  obtain ⟨b, off, A1, c1, A2, c2, e, hB, hc, hL, hA⟩ := h i hi
  exact ⟨b, off, A1, c1, A2, c2, e, Nat.lt_of_lt_of_le hB hb.size, fun f hf => (hb.cell (p := ⟨b, off + (i * 14 + f), none⟩) hB).trans (hc f hf), hL.below hb, hA.below hb⟩

set_option maxRecDepth 100000 in
/-- Out of the row's reading. -/
theorem acts_in {H : Type} {enc : TypeId × Value → H} {W : World} {sp : Nat → Bool} {held : Bool} {fuel : Nat} {A : Option Addr} {n cap : Nat} {y : DataW H × List MemPlace}
    (h : DataW.trod enc Try.prog W 0 sp held fuel 34 [.slice A n cap] = some y) : ∃ xs : List Ac, xs.length = n ∧ Acts W A xs ∧ n ≤ cap ∧ n ≤ maxLen := by
  have c14 : Try.prog.cellsOf 59 = 14 := by kernel_rfl
  rcases DataW.trod_slice Try.underlying34 h with ⟨hv, _⟩ | ⟨a, n', cap', elems, rest, m, _, hv, _, _, hl, hm, hlen, hel, _, _⟩
  · obtain ⟨rfl, rfl, rfl⟩ : A = none ∧ n = 0 ∧ cap = 0 := by simpa using hv
    exact ⟨[], rfl, fun i hi => absurd hi (Nat.not_lt_zero i), Nat.le_refl 0, Nat.zero_le _⟩
  · obtain ⟨rfl, rfl, rfl⟩ : A = some a ∧ n = n' ∧ cap = cap' := by simpa using hv
    have each : ∀ i, i < n → ∃ x, ActAt W (some a) i x := fun i hi => by
      have hb := hel i hi
      rw [List.getElem?_eq_getElem (by omega), c14, Option.bind_eq_some_iff] at hb
      obtain ⟨cs, hcs, ht⟩ := hb
      obtain ⟨x, A1, c1, A2, c2, rfl, hL, hA⟩ := act_in ht
      obtain ⟨_, _, hc⟩ := World.cells?_some hcs
      have h0 := hc 0 (by omega)
      have hz : ∃ v, W.cell? ((a.add (i * 14)).add 0) = some v := ⟨_, h0⟩
      obtain ⟨b, off, spot⟩ := a
      have hs : spot = none := by
        have hb0 := hel 0 (by omega)
        rw [List.getElem?_eq_getElem (by omega), c14, Option.bind_eq_some_iff] at hb0
        obtain ⟨cs0, hcs0, _⟩ := hb0
        obtain ⟨_, hl0, hc0⟩ := World.cells?_some hcs0
        have h1 := hc0 0 (by omega)
        rw [List.getElem?_eq_getElem (by omega)] at h1
        simpa [Addr.add] using World.cell?_spot h1
      subst hs
      have hc' : ∀ f, f < 14 → W.cell? ⟨b, off + (i * 14 + f), none⟩ = (actCells x (.slice A1 x.n.kids.length c1) (.slice A2 x.l.length c2))[f]? := fun f hf => by
        have := hc f hf
        rw [Addr.add_lit, Addr.add_lit] at this
        rw [← this, Nat.add_assoc]
      exact ⟨x, b, off, A1, c1, A2, c2, rfl, cell_in (hc' 0 (by omega)), hc', hL, hA⟩
    refine ⟨(List.range n).attach.map fun i => (each i.1 (List.mem_range.1 i.2)).choose, by simp, fun i hi => ?_, hl, Nat.le_trans hl hm⟩
    have hi' : i < n := by simpa using hi
    have := (each i hi').choose_spec
    simpa using this
end Go.Proofs.Ytekmgaigppenlaa
