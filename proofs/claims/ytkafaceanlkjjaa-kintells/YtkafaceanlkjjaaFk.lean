/-
  What towncrierref04.Make does.
-/
import Derived.Test.YtkafaceanlkjjaaFt
import Derived.Test.YtkafaceanlkjjaaWay
namespace Go.Proofs.Ytkafaceanlkjjaa
open Go Go.RowKit
variable {G : Nat → Prop}

section
variable {w w' : World} {B c : Nat} {A : Option Addr} {l : List Nd} {d : Nd}
theorem kids_apart {v v' : Value} {xs : List Int} {us : List Value} {base n size : Nat} {t : TypeId} (h : Kids G w v xs) (h' : w.ownsRow base t size v' n us) (ht : t ≠ 3) {g : Nat} (hg : v.ownBlock = some g) : v'.ownBlock ≠ some g := fun e => by
  rcases h.1.2 with ⟨rfl, _⟩ | ⟨g1, cap, cur, rfl, _, hh, _⟩
  · cases hg
  rcases h'.2 with ⟨rfl, _⟩ | ⟨g2, cap2, cur2, rfl, _, hh2, _⟩
  · cases e
  obtain rfl : g1 = g := by simpa [Value.ownBlock] using hg
  obtain rfl : g2 = g1 := by simpa [Value.ownBlock] using e
  exact Has.apart hh2 hh (fun e => ht (by injection e)) rfl
/-- A node without children is put behind. -/
theorem wp_push {P : Program} {o : Oper} {a : Act} {K : Act → World → Prop} {Q : Exit → Act → World → Prop} (s x : Operand) (t : TypeId)
    (ho : o.op = .call { callee := .builtin .append, args := #[s, x], argTypes := #[t, t] }) (i : TypeInfo) (z : Value) (ht : P.underlying t = some (.slice 41)) (hi : P.info? 41 = some i) (hz : i.zero = some z)
    (hsize : i.size = 9) (hby : i.bytes = 104) (hzs : z.cells.size = 9) (hs : a.eval s = .slice A l.length c) (hN : Nodes G w B A c l) {b q : Nat} (hx : a.eval x = .slice (some ⟨b, 0, none⟩) 1 q) {fr : Nat × Nat}
    (hb : Has w b (.cells (d.cells (.slice none 0 0)).toArray 41 fr)) (hd : d.kids = []) (hl : l.length ≤ 1000) (hB : B ≤ w.heap.size) (hG : Fut G B)
    (h : ∀ A' c' w', Nodes G w' B A' c' (l ++ [d]) → Keeps (fun i => B ≤ i) w w' → K (a.put o.dst (.slice A' (l.length + 1) c')) w') : o.wp P a w K Q := by
  obtain ⟨rows, h1, h2, h3, -⟩ := hN
  refine wp_append_own w s x t ho B 41 i z 9 104 ht hi hz hsize hby hzs (by decide) _ l.length (flat rows) hs h2 ⟨b, 0, none⟩ 1 q (d.cells (.slice none 0 0)) hx rfl ?_ ?_ (by unfold maxLen; omega) (by omega) hB ?_
  · exact World.news_of_block hb
  · intro u hu
    exact flat_one (rows := [(d, .slice none 0 0)]) (fun p hp => by obtain rfl := List.mem_singleton.1 hp; rfl) u (by simpa [flat] using hu)
  · intro v' w' ho' hg _
    obtain ⟨A', c', rfl, _⟩ := own_form ho'
    refine h A' c' w' ⟨rows ++ [(d, .slice none 0 0)], by simp [h1], ?_, fun p hp => ?_, fun b off s e => by subst e; exact hG b (ho'.lt b rfl).1⟩ ((Keeps.of_grown hg).wide fun i _ e => (h2.lt i e).1)
    · rw [List.length_append, flat_append]
      have : flat [(d, Value.slice none 0 0)] = d.cells (.slice none 0 0) := by simp [flat]
      rw [this]
      exact ho'
    · rcases List.mem_append.1 hp with hp | hp
      · exact ⟨own_kept (h3 p hp).1 (Keeps.of_grown hg) fun g hg' e => kids_apart (h3 p hp) h2 (by decide) hg' e, (h3 p hp).2⟩
      · obtain rfl := List.mem_singleton.1 hp
        show Kids G w' _ d.kids
        rw [hd]
        exact ⟨World.ownsRow_nil _ _ _ _, fun _ h => absurd h (by simp [Value.ownBlock])⟩
end

section
variable {n : Nat} {k pa ho sh m : Int} {sl : Bool} {na wa : ByteArray} {ks : List Int}
theorem mkErr_kind (h : k < 1 ∨ 4 < k) : mkErr n ⟨k, pa, ho, sh, m, sl, na, wa, ks⟩ = 2 := by unfold mkErr; rw [if_pos h]
theorem mkErr_mode (h0 : 1 ≤ k) (h1 : k ≤ 4) (h : (k = 3 ∧ m ≠ 1 ∧ m ≠ 2) ∨ (k ≠ 3 ∧ m ≠ 0)) : mkErr n ⟨k, pa, ho, sh, m, sl, na, wa, ks⟩ = 1 := by unfold mkErr; rw [if_neg (by show ¬ (k < 1 ∨ 4 < k); omega), if_pos h]
theorem mkErr_name (h0 : 1 ≤ k) (h1 : k ≤ 4) (h2 : ¬ ((k = 3 ∧ m ≠ 1 ∧ m ≠ 2) ∨ (k ≠ 3 ∧ m ≠ 0))) (h : (k ≠ 2 ∧ (sl = true ∨ wa.toList.isEmpty = false)) ∨ (sl = false ∧ na.toList.isEmpty = false) ∨ okName na = false ∨ okName wa = false) :
    mkErr n ⟨k, pa, ho, sh, m, sl, na, wa, ks⟩ = 1 := by unfold mkErr; rw [if_neg (by show ¬ (k < 1 ∨ 4 < k); omega), if_neg h2, if_pos h]
theorem mkErr_rest (h0 : 1 ≤ k) (h1 : k ≤ 4) (h2 : ¬ ((k = 3 ∧ m ≠ 1 ∧ m ≠ 2) ∨ (k ≠ 3 ∧ m ≠ 0))) (h : ¬ ((k ≠ 2 ∧ (sl = true ∨ wa.toList.isEmpty = false)) ∨ (sl = false ∧ na.toList.isEmpty = false) ∨ okName na = false ∨ okName wa = false)) :
    mkErr n ⟨k, pa, ho, sh, m, sl, na, wa, ks⟩ = if 128 ≤ n then 9 else 0 := by unfold mkErr; rw [if_neg (by show ¬ (k < 1 ∨ 4 < k); omega), if_neg h2, if_neg h]
theorem okName_empty {s : ByteArray} (h : s.toList.isEmpty = true) : okName s = true := by unfold okName; rw [h]; rfl
end

/-- What is read of the node that came in. -/
def Box (b : Nat) (k m : Int) (sl : Bool) (na wa : ByteArray) (w : World) : Prop := w.cell? ⟨b, 0, none⟩ = some (.int .i64 k) ∧ w.cell? ⟨b, 5, none⟩ = some (.bool sl) ∧ w.cell? ⟨b, 6, none⟩ = some (.string na) ∧ w.cell? ⟨b, 7, none⟩ = some (.string wa) ∧ w.cell? ⟨b, 4, none⟩ = some (.int .i64 m)
theorem Box.of {b : Nat} {k pa ho sh m : Int} {sl : Bool} {na wa : ByteArray} {kv : Value} {t : TypeId} {fr : Nat × Nat} {w : World} (h : Has w b (.cells #[.int .i64 k, .int .i64 pa, .int .i64 ho, .int .i64 sh, .int .i64 m, .bool sl, .string na, .string wa, kv] t fr)) : Box b k m sl na wa w :=
  ⟨Has.cell h 0, Has.cell h 5, Has.cell h 6, Has.cell h 7, Has.cell h 4⟩
/-- The nodes then, a number, an error's number. -/
def Gave3 (G : Nat → Prop) (w : World) (l' : List Nd) (no err : Int) (e : Ending) (w' : World) : Prop := ∃ A' c', e = .returned (.tuple #[.slice A' l'.length c', .int .i64 no, .int .i64 err]) ∧ Nodes G w' 0 A' c' l' ∧ Below w.heap.size w w'
theorem Gave3.err {w w' : World} {l : List Nd} {A : Option Addr} {c : Nat} {d : Nd} {e : Int} (he : mkErr l.length d = e) (h0 : e ≠ 0) (h : Nodes G w 0 A c l) (hb : Below w.heap.size w w') : Gave3 G w (mkL l d) (mkNo l d) (mkErr l.length d) (.returned (.tuple #[.slice A l.length c, .int .i64 0, .int .i64 e])) w' := by
  unfold mkL mkNo
  rw [he, if_neg h0, if_neg h0]
  exact ⟨_, _, rfl, h.below hb, hb⟩

set_option maxHeartbeats 4000000 in
set_option maxRecDepth 100000 in
theorem make_kind (l : List Nd) (A : Option Addr) (c : Nat) (k pa ho sh m : Int) (sl : Bool) (na wa : ByteArray) (ks : List Int) (kv : Value) (w : World) (hN : Nodes G w 0 A c l) (hkd : k < 1 ∨ 4 < k) :
    Calls Try.prog 47 #[.slice A l.length c, .agg #[.int .i64 k, .int .i64 pa, .int .i64 ho, .int .i64 sh, .int .i64 m, .bool sl, .string na, .string wa, kv]] w (Gave3 G w (mkL l ⟨k, pa, ho, sh, m, sl, na, wa, ks⟩) (mkNo l ⟨k, pa, ho, sh, m, sl, na, wa, ks⟩) (mkErr l.length ⟨k, pa, ho, sh, m, sl, na, wa, ks⟩)) := by
  have H := Lib.hid hN
  clear hN
  have hnot : ∀ (x : Bool) (w : World), (Op.unary .not (.bool x)).run Try.prog w = .ok (.bool (!x)) w := fun _ _ => rfl
  have hbb : Below w.heap.size w (w.alloc (.cells #[.int .i64 k, .int .i64 pa, .int .i64 ho, .int .i64 sh, .int .i64 m, .bool sl, .string na, .string wa, kv] 41)) := (Below.refl _ w).alloc (Nat.le_refl _) _
  rcases hkd with h1 | h1
  · have f1 : decide (k < 1) = true := decide_eq_true h1
    go_enter Try.func47, Try.ntmps47
    go_wp2
    go_ret3
    exact Gave3.err (mkErr_kind (.inl h1)) (by decide) H.out hbb
  · have f1 : decide (k < 1) = false := decide_eq_false (by omega)
    have f2 : decide (4 < k) = true := decide_eq_true h1
    go_enter Try.func47, Try.ntmps47
    go_wp2
    go_ret3
    exact Gave3.err (mkErr_kind (.inr h1)) (by decide) H.out hbb
set_option maxHeartbeats 4000000 in
set_option maxRecDepth 100000 in
theorem make_mode (l : List Nd) (A : Option Addr) (c : Nat) (k pa ho sh m : Int) (sl : Bool) (na wa : ByteArray) (ks : List Int) (kv : Value) (w : World) (hN : Nodes G w 0 A c l) (h0 : 1 ≤ k) (h4 : k ≤ 4) (hmd : (k = 3 ∧ m ≠ 1 ∧ m ≠ 2) ∨ (k ≠ 3 ∧ m ≠ 0)) :
    Calls Try.prog 47 #[.slice A l.length c, .agg #[.int .i64 k, .int .i64 pa, .int .i64 ho, .int .i64 sh, .int .i64 m, .bool sl, .string na, .string wa, kv]] w (Gave3 G w (mkL l ⟨k, pa, ho, sh, m, sl, na, wa, ks⟩) (mkNo l ⟨k, pa, ho, sh, m, sl, na, wa, ks⟩) (mkErr l.length ⟨k, pa, ho, sh, m, sl, na, wa, ks⟩)) := by
  have H := Lib.hid hN
  clear hN
  have hnot : ∀ (x : Bool) (w : World), (Op.unary .not (.bool x)).run Try.prog w = .ok (.bool (!x)) w := fun _ _ => rfl
  have hbb : Below w.heap.size w (w.alloc (.cells #[.int .i64 k, .int .i64 pa, .int .i64 ho, .int .i64 sh, .int .i64 m, .bool sl, .string na, .string wa, kv] 41)) := (Below.refl _ w).alloc (Nat.le_refl _) _
  have f1 : decide (k < 1) = false := decide_eq_false (by omega)
  have f2 : decide (4 < k) = false := decide_eq_false (by omega)
  have hE := Lib.hid (mkErr_mode (n := l.length) (pa := pa) (ho := ho) (sh := sh) (sl := sl) (na := na) (wa := wa) (ks := ks) h0 h4 hmd)
  rcases hmd with ⟨h1, h2, h3⟩ | ⟨h1, h2⟩
  · subst h1
    have f4 : (m == 1) = false := by simpa using h2
    have f5 : (m == 2) = false := by simpa using h3
    go_enter Try.func47, Try.ntmps47
    go_wp2
    go_ret3
    exact Gave3.err hE.out (by decide) H.out hbb
  · have f3 : (k == 3) = false := by simpa using h1
    have f4 : (m == 0) = false := by simpa using h2
    have f5 : (k != 3) = true := by simpa using h1
    have f6 : (m != 0) = true := by simpa using h2
    go_enter Try.func47, Try.ntmps47
    go_wp2
    go_ret3
    exact Gave3.err hE.out (by decide) H.out hbb
set_option maxHeartbeats 8000000 in
set_option maxRecDepth 100000 in
theorem make_name (l : List Nd) (A : Option Addr) (c : Nat) (k pa ho sh m : Int) (sl : Bool) (na wa : ByteArray) (ks : List Int) (kv : Value) (w : World) (hna : na.size ≤ 9223372036854775807) (hwa : wa.size ≤ 9223372036854775807) (hN : Nodes G w 0 A c l) (h0 : 1 ≤ k) (h4 : k ≤ 4) (hmd : ¬ ((k = 3 ∧ m ≠ 1 ∧ m ≠ 2) ∨ (k ≠ 3 ∧ m ≠ 0)))
    (hnm : (k ≠ 2 ∧ (sl = true ∨ wa.toList.isEmpty = false)) ∨ (sl = false ∧ na.toList.isEmpty = false) ∨ okName na = false ∨ okName wa = false) :
    Calls Try.prog 47 #[.slice A l.length c, .agg #[.int .i64 k, .int .i64 pa, .int .i64 ho, .int .i64 sh, .int .i64 m, .bool sl, .string na, .string wa, kv]] w (Gave3 G w (mkL l ⟨k, pa, ho, sh, m, sl, na, wa, ks⟩) (mkNo l ⟨k, pa, ho, sh, m, sl, na, wa, ks⟩) (mkErr l.length ⟨k, pa, ho, sh, m, sl, na, wa, ks⟩)) := by
  have H := Lib.hid hN
  clear hN
  have hnot : ∀ (x : Bool) (w : World), (Op.unary .not (.bool x)).run Try.prog w = .ok (.bool (!x)) w := fun _ _ => rfl
  have hbb : Below w.heap.size w (w.alloc (.cells #[.int .i64 k, .int .i64 pa, .int .i64 ho, .int .i64 sh, .int .i64 m, .bool sl, .string na, .string wa, kv] 41)) := (Below.refl _ w).alloc (Nat.le_refl _) _
  have f1 : decide (k < 1) = false := decide_eq_false (by omega)
  have f2 : decide (4 < k) = false := decide_eq_false (by omega)
  have hE := Lib.hid (mkErr_name (n := l.length) (pa := pa) (ho := ho) (sh := sh) (ks := ks) h0 h4 hmd hnm)
  have hms : (k = 3 ∧ m = 1) ∨ (k = 3 ∧ m = 2) ∨ ((k == 3) = false ∧ (k == 2) = false ∧ m = 0 ∧ (k != 3) = true ∧ (k != 2) = true) ∨ (k = 2 ∧ m = 0) := by
    simp only [beq_eq_false_iff_ne, bne_iff_ne]
    omega
  have Hnm := Lib.hid hnm
  clear hmd h0 h4 hnm
  rcases hms with ⟨rfl, rfl⟩ | ⟨rfl, rfl⟩ | ⟨m1, m3, rfl, m4, m5⟩ | ⟨rfl, rfl⟩
  · cases sl with
    | true =>
      go_enter Try.func47, Try.ntmps47
      go_wp2
      go_ret3
      exact Gave3.err hE.out (by decide) H.out hbb
    | false =>
      cases hw : wa.toList.isEmpty with
      | false =>
        go_enter Try.func47, Try.ntmps47
        go_wp2
        go_ret3
        exact Gave3.err hE.out (by decide) H.out hbb
      | true =>
        cases hn : na.toList.isEmpty with
        | false =>
          go_enter Try.func47, Try.ntmps47
          go_wp2
          go_ret3
          exact Gave3.err hE.out (by decide) H.out hbb
        | true =>
          exfalso
          have q1 := okName_empty hn
          have q2 := okName_empty hw
          rcases Hnm.out with ⟨_, q | q⟩ | ⟨_, q⟩ | q | q
          all_goals simp_all
  · cases sl with
    | true =>
      go_enter Try.func47, Try.ntmps47
      go_wp2
      go_ret3
      exact Gave3.err hE.out (by decide) H.out hbb
    | false =>
      cases hw : wa.toList.isEmpty with
      | false =>
        go_enter Try.func47, Try.ntmps47
        go_wp2
        go_ret3
        exact Gave3.err hE.out (by decide) H.out hbb
      | true =>
        cases hn : na.toList.isEmpty with
        | false =>
          go_enter Try.func47, Try.ntmps47
          go_wp2
          go_ret3
          exact Gave3.err hE.out (by decide) H.out hbb
        | true =>
          exfalso
          have q1 := okName_empty hn
          have q2 := okName_empty hw
          rcases Hnm.out with ⟨_, q | q⟩ | ⟨_, q⟩ | q | q
          all_goals simp_all
  · cases sl with
    | true =>
      go_enter Try.func47, Try.ntmps47
      go_wp2
      go_ret3
      exact Gave3.err hE.out (by decide) H.out hbb
    | false =>
      cases hw : wa.toList.isEmpty with
      | false =>
        go_enter Try.func47, Try.ntmps47
        go_wp2
        go_ret3
        exact Gave3.err hE.out (by decide) H.out hbb
      | true =>
        cases hn : na.toList.isEmpty with
        | false =>
          go_enter Try.func47, Try.ntmps47
          go_wp2
          go_ret3
          exact Gave3.err hE.out (by decide) H.out hbb
        | true =>
          exfalso
          have q1 := okName_empty hn
          have q2 := okName_empty hw
          rcases Hnm.out with ⟨_, q | q⟩ | ⟨_, q⟩ | q | q
          all_goals simp_all
  · cases sl with
    | true =>
      cases hn : okName na with
      | false =>
        have Hn := Lib.hid hn
        clear hn
        go_enter Try.func47, Try.ntmps47
        go_wp2_with fail
        refine (named_any na _ hna).mono ?_
        rintro e w1 ⟨rfl, rfl⟩
        rw [Hn.out]
        go_wp2
        go_ret3
        exact Gave3.err hE.out (by decide) H.out hbb
      | true =>
        cases hw : okName wa with
        | false =>
          have Hn := Lib.hid hn
          have Hw := Lib.hid hw
          clear hn hw
          go_enter Try.func47, Try.ntmps47
          go_wp2_with fail
          refine (named_any na _ hna).mono ?_
          rintro e w1 ⟨rfl, rfl⟩
          rw [Hn.out]
          go_wp2_with fail
          refine (named_any wa _ hwa).mono ?_
          rintro e w1 ⟨rfl, rfl⟩
          rw [Hw.out]
          go_wp2
          go_ret3
          exact Gave3.err hE.out (by decide) H.out hbb
        | true =>
          exfalso
          rcases Hnm.out with ⟨q, _⟩ | ⟨q, _⟩ | q | q
          all_goals simp_all
    | false =>
      cases hn : na.toList.isEmpty with
      | false =>
        go_enter Try.func47, Try.ntmps47
        go_wp2
        go_ret3
        exact Gave3.err hE.out (by decide) H.out hbb
      | true =>
        cases hw : okName wa with
        | false =>
          have Hn := Lib.hid (okName_empty hn)
          have Hw := Lib.hid hw
          clear hw
          go_enter Try.func47, Try.ntmps47
          go_wp2_with fail
          refine (named_any na _ hna).mono ?_
          rintro e w1 ⟨rfl, rfl⟩
          rw [Hn.out]
          go_wp2_with fail
          refine (named_any wa _ hwa).mono ?_
          rintro e w1 ⟨rfl, rfl⟩
          rw [Hw.out]
          go_wp2
          go_ret3
          exact Gave3.err hE.out (by decide) H.out hbb
        | true =>
          exfalso
          have q1 := okName_empty hn
          rcases Hnm.out with ⟨q, _⟩ | ⟨_, q⟩ | q | q
          all_goals simp_all
set_option linter.unusedSimpArgs false in
set_option maxHeartbeats 8000000 in
set_option maxRecDepth 100000 in
theorem make_rest (l : List Nd) (A : Option Addr) (c : Nat) (k pa ho sh m : Int) (sl : Bool) (na wa : ByteArray) (ks : List Int) (kv : Value) (w : World) (hna : na.size ≤ 9223372036854775807) (hwa : wa.size ≤ 9223372036854775807) (hl : l.length ≤ 1000) (hk : ∀ d ∈ l, d.kids.length ≤ 100000) (hG : Fut G w.heap.size) (hN : Nodes G w 0 A c l) (h0 : 1 ≤ k) (h4 : k ≤ 4) (hmd : ¬ ((k = 3 ∧ m ≠ 1 ∧ m ≠ 2) ∨ (k ≠ 3 ∧ m ≠ 0)))
    (hnm : ¬ ((k ≠ 2 ∧ (sl = true ∨ wa.toList.isEmpty = false)) ∨ (sl = false ∧ na.toList.isEmpty = false) ∨ okName na = false ∨ okName wa = false)) :
    Calls Try.prog 47 #[.slice A l.length c, .agg #[.int .i64 k, .int .i64 pa, .int .i64 ho, .int .i64 sh, .int .i64 m, .bool sl, .string na, .string wa, kv]] w (Gave3 G w (mkL l ⟨k, pa, ho, sh, m, sl, na, wa, ks⟩) (mkNo l ⟨k, pa, ho, sh, m, sl, na, wa, ks⟩) (mkErr l.length ⟨k, pa, ho, sh, m, sl, na, wa, ks⟩)) := by
  have H := Lib.hid hN
  clear hN
  have hnot : ∀ (x : Bool) (w : World), (Op.unary .not (.bool x)).run Try.prog w = .ok (.bool (!x)) w := fun _ _ => rfl
  have hbb : Below w.heap.size w (w.alloc (.cells #[.int .i64 k, .int .i64 pa, .int .i64 ho, .int .i64 sh, .int .i64 m, .bool sl, .string na, .string wa, kv] 41)) := (Below.refl _ w).alloc (Nat.le_refl _) _
  have f1 : decide (k < 1) = false := decide_eq_false (by omega)
  have f2 : decide (4 < k) = false := decide_eq_false (by omega)
  have hE := Lib.hid (mkErr_rest (n := l.length) (pa := pa) (ho := ho) (sh := sh) (ks := ks) h0 h4 hmd hnm)
  have hms : (k = 3 ∧ m = 1) ∨ (k = 3 ∧ m = 2) ∨ ((k == 3) = false ∧ (k == 2) = false ∧ m = 0 ∧ (k != 3) = true ∧ (k != 2) = true) ∨ (k = 2 ∧ m = 0) := by
    simp only [beq_eq_false_iff_ne, bne_iff_ne]
    omega
  have hn : okName na = true := by
    cases h : okName na with
    | true => rfl
    | false => exact absurd (.inr (.inr (.inl h))) hnm
  have hw : okName wa = true := by
    cases h : okName wa with
    | true => rfl
    | false => exact absurd (.inr (.inr (.inr h))) hnm
  have hs1 : sl = false → na.toList.isEmpty = true := fun h => by
    cases h' : na.toList.isEmpty with
    | true => rfl
    | false => exact absurd (.inr (.inl ⟨h, h'⟩)) hnm
  have hs2 : (k == 2) = false → sl = false ∧ wa.toList.isEmpty = true := fun h => by
    have h2 : k ≠ 2 := by simpa using h
    cases h' : wa.toList.isEmpty with
    | false => exact absurd (.inl ⟨h2, .inr h'⟩) hnm
    | true =>
      cases h'' : sl with
      | true => exact absurd (.inl ⟨h2, .inl h''⟩) hnm
      | false => exact ⟨rfl, rfl⟩
  have Hn := Lib.hid hn
  have Hw := Lib.hid hw
  have Hk := Lib.hid hk
  clear hmd h0 h4 hnm hn hw hk
  obtain ⟨j0, qi, qz0, qz1, qz2⟩ := info_parts Try.infoNode
  have Qi := Lib.hid qi
  have Qz0 := Lib.hid qz0
  have Qz1 := Lib.hid qz1
  have Qz2 := Lib.hid qz2
  clear qi qz0 qz1 qz2
  by_cases hfull : 128 ≤ l.length
  · have hfull' : (128 : Int) ≤ l.length := by omega
    rw [if_pos hfull] at hE
    rcases hms with ⟨rfl, rfl⟩ | ⟨rfl, rfl⟩ | ⟨m1, m3, rfl, m4, m5⟩ | ⟨rfl, rfl⟩
    · obtain ⟨rfl, hwe⟩ := hs2 rfl
      have hne := hs1 rfl
      clear hs1 hs2
      go_enter Try.func47, Try.ntmps47
      go_wp2_with fail
      refine (named_any na _ hna).mono ?_
      rintro e w1 ⟨rfl, rfl⟩
      rw [Hn.out]
      go_wp2_with fail
      refine (named_any wa _ hwa).mono ?_
      rintro e w1 ⟨rfl, rfl⟩
      rw [Hw.out]
      go_wp2
      go_ret3
      exact Gave3.err hE.out (by decide) H.out hbb
    · obtain ⟨rfl, hwe⟩ := hs2 rfl
      have hne := hs1 rfl
      clear hs1 hs2
      go_enter Try.func47, Try.ntmps47
      go_wp2_with fail
      refine (named_any na _ hna).mono ?_
      rintro e w1 ⟨rfl, rfl⟩
      rw [Hn.out]
      go_wp2_with fail
      refine (named_any wa _ hwa).mono ?_
      rintro e w1 ⟨rfl, rfl⟩
      rw [Hw.out]
      go_wp2
      go_ret3
      exact Gave3.err hE.out (by decide) H.out hbb
    · obtain ⟨rfl, hwe⟩ := hs2 m3
      have hne := hs1 rfl
      clear hs1 hs2
      go_enter Try.func47, Try.ntmps47
      go_wp2_with fail
      refine (named_any na _ hna).mono ?_
      rintro e w1 ⟨rfl, rfl⟩
      rw [Hn.out]
      go_wp2_with fail
      refine (named_any wa _ hwa).mono ?_
      rintro e w1 ⟨rfl, rfl⟩
      rw [Hw.out]
      go_wp2
      go_ret3
      exact Gave3.err hE.out (by decide) H.out hbb
    · clear hs2
      cases sl with
      | true =>
        clear hs1
        go_enter Try.func47, Try.ntmps47
        go_wp2_with fail
        refine (named_any na _ hna).mono ?_
        rintro e w1 ⟨rfl, rfl⟩
        rw [Hn.out]
        go_wp2_with fail
        refine (named_any wa _ hwa).mono ?_
        rintro e w1 ⟨rfl, rfl⟩
        rw [Hw.out]
        go_wp2
        go_ret3
        exact Gave3.err hE.out (by decide) H.out hbb
      | false =>
        have hne := hs1 rfl
        clear hs1
        go_enter Try.func47, Try.ntmps47
        go_wp2_with fail
        refine (named_any na _ hna).mono ?_
        rintro e w1 ⟨rfl, rfl⟩
        rw [Hn.out]
        go_wp2_with fail
        refine (named_any wa _ hwa).mono ?_
        rintro e w1 ⟨rfl, rfl⟩
        rw [Hw.out]
        go_wp2
        go_ret3
        exact Gave3.err hE.out (by decide) H.out hbb
  · have hfull' : ¬ (128 : Int) ≤ l.length := by omega
    rw [if_neg hfull] at hE
    have hLL : mkL l ⟨k, pa, ho, sh, m, sl, na, wa, ks⟩ = l ++ [bare ⟨k, pa, ho, sh, m, sl, na, wa, ks⟩] := by unfold mkL; rw [if_pos hE.out]
    have hNO : mkNo l ⟨k, pa, ho, sh, m, sl, na, wa, ks⟩ = (l.length : Int) + 1 := by unfold mkNo; rw [if_pos hE.out]
    have HLL := Lib.hid hLL
    have HNO := Lib.hid hNO
    clear hLL hNO
    rcases hms with ⟨rfl, rfl⟩ | ⟨rfl, rfl⟩ | ⟨m1, m3, rfl, m4, m5⟩ | ⟨rfl, rfl⟩
    · obtain ⟨rfl, hwe⟩ := hs2 rfl
      have hne := hs1 rfl
      clear hs1 hs2
      go_enter Try.func47, Try.ntmps47
      go_wp2_with fail
      refine (named_any na _ hna).mono ?_
      rintro e w1 ⟨rfl, rfl⟩
      rw [Hn.out]
      go_wp2_with fail
      refine (named_any wa _ hwa).mono ?_
      rintro e w1 ⟨rfl, rfl⟩
      rw [Hw.out]
      go_wp2_with fail
      have hNb := H.out.below hbb
      have hbox : Has (w.alloc (.cells #[.int .i64 3, .int .i64 pa, .int .i64 ho, .int .i64 sh, .int .i64 1, .bool false, .string na, .string wa, kv] 41)) w.heap.size (.cells #[.int .i64 3, .int .i64 pa, .int .i64 ho, .int .i64 sh, .int .i64 1, .bool false, .string na, .string wa, kv] 41 (0, 0)) := Has.fresh _ _
      have hsz : (w.alloc (.cells #[.int .i64 3, .int .i64 pa, .int .i64 ho, .int .i64 sh, .int .i64 1, .bool false, .string na, .string wa, kv] 41)).heap.size = w.heap.size + 1 := by simp
      obtain ⟨wb, hwb⟩ : ∃ wb, wb = w.alloc (.cells #[.int .i64 3, .int .i64 pa, .int .i64 ho, .int .i64 sh, .int .i64 1, .bool false, .string na, .string wa, kv] 41) := ⟨_, rfl⟩
      rw [← hwb]
      rw [← hwb] at hNb hbox hsz hbb
      have Hsz := Lib.hid hsz
      have Hd : ∀ b : Value, (bare ⟨3, pa, ho, sh, 1, false, na, wa, ks⟩).cells b = [.int .i64 3, .int .i64 0, .int .i64 0, .int .i64 0, .int .i64 1, .bool false, .string na, .string wa, b] := fun _ => rfl
      have Hd := Lib.hid Hd
      have hwbs : w.heap.size ≤ wb.heap.size := by omega
      clear hsz hwb
      refine wp_region_way (late := []) (S := fun w' => w'.cell? ⟨w.heap.size, 0, none⟩ = some (.int .i64 3) ∧ w'.cell? ⟨w.heap.size, 5, none⟩ = some (.bool false) ∧ w'.cell? ⟨w.heap.size, 6, none⟩ = some (.string na) ∧ w'.cell? ⟨w.heap.size, 7, none⟩ = some (.string wa) ∧ w'.cell? ⟨w.heap.size, 4, none⟩ = some (.int .i64 1)) (y := Way.takes [0, 2, 3, 4, 5, 6, 7, 8, 9, 10, 11, 12] (.fork 1 (.run 13 (.run 14 (.take 15 .fin))) 13 (.run 1 (.run 14 (.take 15 .fin))))) (by kernel_rfl) (by kernel_rfl) rfl (by kernel_rfl) (Box.of hbox) (fun hHeld => ?_)
      simp only [Way.takes]
      (repeat (first | (refine way_skip (by simp only [List.getElem?_toArray, List.getElem?_cons_succ, List.getElem?_cons_zero]; rfl) (by rfl) hHeld ?_; (try simp only [Act.put, List.setIfInBounds_toArray, List.set_cons_zero, List.set_cons_succ])) | (refine way_pass (by simp only [List.getElem?_toArray, List.getElem?_cons_succ, List.getElem?_cons_zero]; rfl) (by rfl) hHeld ?_; (try simp only [Act.put, List.setIfInBounds_toArray, List.set_cons_zero, List.set_cons_succ])) | (refine way_take (v := ?_) (by simp only [List.getElem?_toArray, List.getElem?_cons_succ, List.getElem?_cons_zero]; rfl) (by rfl) ?_ hHeld ?_; rotate_left; (focus (intro w hSw; (try dsimp only at hSw); go_simp; (try with_reducible rfl); done)); (try simp only [Act.put, List.setIfInBounds_toArray, List.set_cons_zero, List.set_cons_succ]))))
      refine way_fork ?_ ?_
      · refine way_run (by simp only [List.getElem?_toArray, List.getElem?_cons_succ, List.getElem?_cons_zero]; rfl) (by rfl) (fun K hK => ?_)
        go_simp
        refine (copy_any l _ c wb.drew hl Hk.out (hG.mono hwbs) (hNb.drewN 1)).mono ?_
        rintro e w2 ⟨A2, c2, rfl, hN2, hb2⟩
        have hN2' : Nodes G w2 wb.heap.size A2 c2 l := hN2
        have hb2' : Below wb.heap.size wb w2 := ⟨hb2.os, hb2.tape, hb2.output, hb2.size, hb2.block⟩
        have hbox2 := hbox.below hb2' hbox.inside
        clear hN2 hb2
        go_simp
        refine hK.out _ _ (Box.of hbox2) (fun hHeld => ?_)
        clear hK K
        (try simp only [Act.put, List.setIfInBounds_toArray, List.set_cons_zero, List.set_cons_succ])
        refine way_run (by simp only [List.getElem?_toArray, List.getElem?_cons_succ, List.getElem?_cons_zero]; rfl) (by rfl) (fun K hK => ?_)
        go_simp
        refine hK.out _ _ (Box.of (hbox2.more _)) (fun hHeld => ?_)
        clear hK K
        (try simp only [Act.put, List.setIfInBounds_toArray, List.set_cons_zero, List.set_cons_succ])
        refine way_run (by simp only [List.getElem?_toArray, List.getElem?_cons_succ, List.getElem?_cons_zero]; rfl) (by rfl) (fun K hK => ?_)
        refine wp_push (d := bare ⟨3, pa, ho, sh, 1, false, na, wa, ks⟩) (.tmp 80) (.tmp 92) 27 rfl j0 _ Try.underlying27 Qi.out Qz0.out Qz1.out Qz2.out rfl rfl (hN2'.kept (F := fun _ => False) ((Keeps.refl _ _).alloc _) fun _ _ h => h) rfl (Has.fresh w2 (.cells ((bare ⟨3, pa, ho, sh, 1, false, na, wa, ks⟩).cells (.slice none 0 0)).toArray 41)) rfl hl (Nat.le_trans hb2'.size (by simp)) (hG.mono hwbs) (fun A4 c4 w4 hN4 hk4 => ?_)
        have hb4 : Below w.heap.size w w4 := below_then ((hbb.trans (hb2'.mono hwbs)).alloc (Nat.le_trans hwbs hb2'.size) _) hk4 (Nat.le_trans (Nat.le_trans hwbs hb2'.size) (by simp)) fun i hi hB => by omega
        have hbox4 : Box w.heap.size 3 1 false na wa w4 := Box.of (Has.kept (hbox2.more _) hk4 (by have := hbox.inside; omega))
        refine hK.out _ _ hbox4 (fun hHeld => ?_)
        clear hK K
        (try simp only [Act.put, List.setIfInBounds_toArray, List.set_cons_zero, List.set_cons_succ])
        (repeat (first | (refine way_skip (by simp only [List.getElem?_toArray, List.getElem?_cons_succ, List.getElem?_cons_zero]; rfl) (by rfl) hHeld ?_; (try simp only [Act.put, List.setIfInBounds_toArray, List.set_cons_zero, List.set_cons_succ])) | (refine way_pass (by simp only [List.getElem?_toArray, List.getElem?_cons_succ, List.getElem?_cons_zero]; rfl) (by rfl) hHeld ?_; (try simp only [Act.put, List.setIfInBounds_toArray, List.set_cons_zero, List.set_cons_succ])) | (refine way_take (v := ?_) (by simp only [List.getElem?_toArray, List.getElem?_cons_succ, List.getElem?_cons_zero]; rfl) (by rfl) ?_ hHeld ?_; rotate_left; (focus (intro w hSw; (try dsimp only at hSw); go_simp; (try with_reducible rfl); done)); (try simp only [Act.put, List.setIfInBounds_toArray, List.set_cons_zero, List.set_cons_succ]))))
        refine way_done ?_
        go_wp2
        go_ret3
        rw [Gave3, HLL.out, HNO.out, hE.out]
        exact ⟨A4, c4, by rw [List.length_append]; rfl, hN4.from_ (Nat.zero_le _), hb4⟩
      · refine way_run (by simp only [List.getElem?_toArray, List.getElem?_cons_succ, List.getElem?_cons_zero]; rfl) (by rfl) (fun K hK => ?_)
        go_simp
        have hb1 : Below wb.heap.size wb (wb.alloc (.cells ((bare ⟨3, pa, ho, sh, 1, false, na, wa, ks⟩).cells (.slice none 0 0)).toArray 41)).drew := ((Below.refl _ wb).alloc (Nat.le_refl _) _).drew
        have hbox1 := hbox.below hb1 hbox.inside
        have hnew1 := Has.drewN (Has.fresh wb (.cells ((bare ⟨3, pa, ho, sh, 1, false, na, wa, ks⟩).cells (.slice none 0 0)).toArray 41)) 1
        refine hK.out _ _ (Box.of hbox1) (fun hHeld => ?_)
        clear hK K
        (try simp only [Act.put, List.setIfInBounds_toArray, List.set_cons_zero, List.set_cons_succ])
        refine way_run (by simp only [List.getElem?_toArray, List.getElem?_cons_succ, List.getElem?_cons_zero]; rfl) (by rfl) (fun K hK => ?_)
        go_simp
        refine (copy_any l _ c _ hl Hk.out (hG.mono (Nat.le_trans hwbs hb1.size)) (hNb.below hb1)).mono ?_
        rintro e w2 ⟨A2, c2, rfl, hN2, hb2⟩
        have hbox2 := hbox1.below hb2 hbox1.inside
        have hnew2 := hnew1.below hb2 hnew1.inside
        have hs1 := hb1.size
        have hBB : Below w.heap.size w w2 := (hbb.trans (hb1.mono hwbs)).trans (hb2.mono (Nat.le_trans hwbs hs1))
        have hin : w.heap.size < (wb.alloc (.cells ((bare ⟨3, pa, ho, sh, 1, false, na, wa, ks⟩).cells (.slice none 0 0)).toArray 41)).drew.heap.size := hbox1.inside
        go_simp
        refine hK.out _ _ (Box.of hbox2) (fun hHeld => ?_)
        clear hK K
        (try simp only [Act.put, List.setIfInBounds_toArray, List.set_cons_zero, List.set_cons_succ])
        refine way_run (by simp only [List.getElem?_toArray, List.getElem?_cons_succ, List.getElem?_cons_zero]; rfl) (by rfl) (fun K hK => ?_)
        refine wp_push (d := bare ⟨3, pa, ho, sh, 1, false, na, wa, ks⟩) (.tmp 80) (.tmp 92) 27 rfl j0 _ Try.underlying27 Qi.out Qz0.out Qz1.out Qz2.out rfl rfl hN2 rfl hnew2 rfl hl hb2.size (hG.mono (Nat.le_trans hwbs hs1)) (fun A4 c4 w4 hN4 hk4 => ?_)
        have hb4 : Below w.heap.size w w4 := below_then hBB hk4 hBB.size fun i hi hB => by omega
        have hbox4 : Box w.heap.size 3 1 false na wa w4 := Box.of (Has.kept hbox2 hk4 (Nat.not_le.2 hin))
        refine hK.out _ _ hbox4 (fun hHeld => ?_)
        clear hK K
        (try simp only [Act.put, List.setIfInBounds_toArray, List.set_cons_zero, List.set_cons_succ])
        (repeat (first | (refine way_skip (by simp only [List.getElem?_toArray, List.getElem?_cons_succ, List.getElem?_cons_zero]; rfl) (by rfl) hHeld ?_; (try simp only [Act.put, List.setIfInBounds_toArray, List.set_cons_zero, List.set_cons_succ])) | (refine way_pass (by simp only [List.getElem?_toArray, List.getElem?_cons_succ, List.getElem?_cons_zero]; rfl) (by rfl) hHeld ?_; (try simp only [Act.put, List.setIfInBounds_toArray, List.set_cons_zero, List.set_cons_succ])) | (refine way_take (v := ?_) (by simp only [List.getElem?_toArray, List.getElem?_cons_succ, List.getElem?_cons_zero]; rfl) (by rfl) ?_ hHeld ?_; rotate_left; (focus (intro w hSw; (try dsimp only at hSw); go_simp; (try with_reducible rfl); done)); (try simp only [Act.put, List.setIfInBounds_toArray, List.set_cons_zero, List.set_cons_succ]))))
        refine way_done ?_
        go_wp2
        go_ret3
        rw [Gave3, HLL.out, HNO.out, hE.out]
        exact ⟨A4, c4, by rw [List.length_append]; rfl, hN4.from_ (Nat.zero_le _), hb4⟩
    · obtain ⟨rfl, hwe⟩ := hs2 rfl
      have hne := hs1 rfl
      clear hs1 hs2
      go_enter Try.func47, Try.ntmps47
      go_wp2_with fail
      refine (named_any na _ hna).mono ?_
      rintro e w1 ⟨rfl, rfl⟩
      rw [Hn.out]
      go_wp2_with fail
      refine (named_any wa _ hwa).mono ?_
      rintro e w1 ⟨rfl, rfl⟩
      rw [Hw.out]
      go_wp2_with fail
      have hNb := H.out.below hbb
      have hbox : Has (w.alloc (.cells #[.int .i64 3, .int .i64 pa, .int .i64 ho, .int .i64 sh, .int .i64 2, .bool false, .string na, .string wa, kv] 41)) w.heap.size (.cells #[.int .i64 3, .int .i64 pa, .int .i64 ho, .int .i64 sh, .int .i64 2, .bool false, .string na, .string wa, kv] 41 (0, 0)) := Has.fresh _ _
      have hsz : (w.alloc (.cells #[.int .i64 3, .int .i64 pa, .int .i64 ho, .int .i64 sh, .int .i64 2, .bool false, .string na, .string wa, kv] 41)).heap.size = w.heap.size + 1 := by simp
      obtain ⟨wb, hwb⟩ : ∃ wb, wb = w.alloc (.cells #[.int .i64 3, .int .i64 pa, .int .i64 ho, .int .i64 sh, .int .i64 2, .bool false, .string na, .string wa, kv] 41) := ⟨_, rfl⟩
      rw [← hwb]
      rw [← hwb] at hNb hbox hsz hbb
      have Hsz := Lib.hid hsz
      have Hd : ∀ b : Value, (bare ⟨3, pa, ho, sh, 2, false, na, wa, ks⟩).cells b = [.int .i64 3, .int .i64 0, .int .i64 0, .int .i64 0, .int .i64 2, .bool false, .string na, .string wa, b] := fun _ => rfl
      have Hd := Lib.hid Hd
      have hwbs : w.heap.size ≤ wb.heap.size := by omega
      clear hsz hwb
      refine wp_region_way (late := []) (S := fun w' => w'.cell? ⟨w.heap.size, 0, none⟩ = some (.int .i64 3) ∧ w'.cell? ⟨w.heap.size, 5, none⟩ = some (.bool false) ∧ w'.cell? ⟨w.heap.size, 6, none⟩ = some (.string na) ∧ w'.cell? ⟨w.heap.size, 7, none⟩ = some (.string wa) ∧ w'.cell? ⟨w.heap.size, 4, none⟩ = some (.int .i64 2)) (y := Way.takes [0, 2, 3, 4, 5, 6, 7, 8, 9, 10, 11, 12] (.fork 1 (.run 13 (.run 14 (.take 15 .fin))) 13 (.run 1 (.run 14 (.take 15 .fin))))) (by kernel_rfl) (by kernel_rfl) rfl (by kernel_rfl) (Box.of hbox) (fun hHeld => ?_)
      simp only [Way.takes]
      (repeat (first | (refine way_skip (by simp only [List.getElem?_toArray, List.getElem?_cons_succ, List.getElem?_cons_zero]; rfl) (by rfl) hHeld ?_; (try simp only [Act.put, List.setIfInBounds_toArray, List.set_cons_zero, List.set_cons_succ])) | (refine way_pass (by simp only [List.getElem?_toArray, List.getElem?_cons_succ, List.getElem?_cons_zero]; rfl) (by rfl) hHeld ?_; (try simp only [Act.put, List.setIfInBounds_toArray, List.set_cons_zero, List.set_cons_succ])) | (refine way_take (v := ?_) (by simp only [List.getElem?_toArray, List.getElem?_cons_succ, List.getElem?_cons_zero]; rfl) (by rfl) ?_ hHeld ?_; rotate_left; (focus (intro w hSw; (try dsimp only at hSw); go_simp; (try with_reducible rfl); done)); (try simp only [Act.put, List.setIfInBounds_toArray, List.set_cons_zero, List.set_cons_succ]))))
      refine way_fork ?_ ?_
      · refine way_run (by simp only [List.getElem?_toArray, List.getElem?_cons_succ, List.getElem?_cons_zero]; rfl) (by rfl) (fun K hK => ?_)
        go_simp
        refine (copy_any l _ c wb.drew hl Hk.out (hG.mono hwbs) (hNb.drewN 1)).mono ?_
        rintro e w2 ⟨A2, c2, rfl, hN2, hb2⟩
        have hN2' : Nodes G w2 wb.heap.size A2 c2 l := hN2
        have hb2' : Below wb.heap.size wb w2 := ⟨hb2.os, hb2.tape, hb2.output, hb2.size, hb2.block⟩
        have hbox2 := hbox.below hb2' hbox.inside
        clear hN2 hb2
        go_simp
        refine hK.out _ _ (Box.of hbox2) (fun hHeld => ?_)
        clear hK K
        (try simp only [Act.put, List.setIfInBounds_toArray, List.set_cons_zero, List.set_cons_succ])
        refine way_run (by simp only [List.getElem?_toArray, List.getElem?_cons_succ, List.getElem?_cons_zero]; rfl) (by rfl) (fun K hK => ?_)
        go_simp
        refine hK.out _ _ (Box.of (hbox2.more _)) (fun hHeld => ?_)
        clear hK K
        (try simp only [Act.put, List.setIfInBounds_toArray, List.set_cons_zero, List.set_cons_succ])
        refine way_run (by simp only [List.getElem?_toArray, List.getElem?_cons_succ, List.getElem?_cons_zero]; rfl) (by rfl) (fun K hK => ?_)
        refine wp_push (d := bare ⟨3, pa, ho, sh, 2, false, na, wa, ks⟩) (.tmp 80) (.tmp 92) 27 rfl j0 _ Try.underlying27 Qi.out Qz0.out Qz1.out Qz2.out rfl rfl (hN2'.kept (F := fun _ => False) ((Keeps.refl _ _).alloc _) fun _ _ h => h) rfl (Has.fresh w2 (.cells ((bare ⟨3, pa, ho, sh, 2, false, na, wa, ks⟩).cells (.slice none 0 0)).toArray 41)) rfl hl (Nat.le_trans hb2'.size (by simp)) (hG.mono hwbs) (fun A4 c4 w4 hN4 hk4 => ?_)
        have hb4 : Below w.heap.size w w4 := below_then ((hbb.trans (hb2'.mono hwbs)).alloc (Nat.le_trans hwbs hb2'.size) _) hk4 (Nat.le_trans (Nat.le_trans hwbs hb2'.size) (by simp)) fun i hi hB => by omega
        have hbox4 : Box w.heap.size 3 2 false na wa w4 := Box.of (Has.kept (hbox2.more _) hk4 (by have := hbox.inside; omega))
        refine hK.out _ _ hbox4 (fun hHeld => ?_)
        clear hK K
        (try simp only [Act.put, List.setIfInBounds_toArray, List.set_cons_zero, List.set_cons_succ])
        (repeat (first | (refine way_skip (by simp only [List.getElem?_toArray, List.getElem?_cons_succ, List.getElem?_cons_zero]; rfl) (by rfl) hHeld ?_; (try simp only [Act.put, List.setIfInBounds_toArray, List.set_cons_zero, List.set_cons_succ])) | (refine way_pass (by simp only [List.getElem?_toArray, List.getElem?_cons_succ, List.getElem?_cons_zero]; rfl) (by rfl) hHeld ?_; (try simp only [Act.put, List.setIfInBounds_toArray, List.set_cons_zero, List.set_cons_succ])) | (refine way_take (v := ?_) (by simp only [List.getElem?_toArray, List.getElem?_cons_succ, List.getElem?_cons_zero]; rfl) (by rfl) ?_ hHeld ?_; rotate_left; (focus (intro w hSw; (try dsimp only at hSw); go_simp; (try with_reducible rfl); done)); (try simp only [Act.put, List.setIfInBounds_toArray, List.set_cons_zero, List.set_cons_succ]))))
        refine way_done ?_
        go_wp2
        go_ret3
        rw [Gave3, HLL.out, HNO.out, hE.out]
        exact ⟨A4, c4, by rw [List.length_append]; rfl, hN4.from_ (Nat.zero_le _), hb4⟩
      · refine way_run (by simp only [List.getElem?_toArray, List.getElem?_cons_succ, List.getElem?_cons_zero]; rfl) (by rfl) (fun K hK => ?_)
        go_simp
        have hb1 : Below wb.heap.size wb (wb.alloc (.cells ((bare ⟨3, pa, ho, sh, 2, false, na, wa, ks⟩).cells (.slice none 0 0)).toArray 41)).drew := ((Below.refl _ wb).alloc (Nat.le_refl _) _).drew
        have hbox1 := hbox.below hb1 hbox.inside
        have hnew1 := Has.drewN (Has.fresh wb (.cells ((bare ⟨3, pa, ho, sh, 2, false, na, wa, ks⟩).cells (.slice none 0 0)).toArray 41)) 1
        refine hK.out _ _ (Box.of hbox1) (fun hHeld => ?_)
        clear hK K
        (try simp only [Act.put, List.setIfInBounds_toArray, List.set_cons_zero, List.set_cons_succ])
        refine way_run (by simp only [List.getElem?_toArray, List.getElem?_cons_succ, List.getElem?_cons_zero]; rfl) (by rfl) (fun K hK => ?_)
        go_simp
        refine (copy_any l _ c _ hl Hk.out (hG.mono (Nat.le_trans hwbs hb1.size)) (hNb.below hb1)).mono ?_
        rintro e w2 ⟨A2, c2, rfl, hN2, hb2⟩
        have hbox2 := hbox1.below hb2 hbox1.inside
        have hnew2 := hnew1.below hb2 hnew1.inside
        have hs1 := hb1.size
        have hBB : Below w.heap.size w w2 := (hbb.trans (hb1.mono hwbs)).trans (hb2.mono (Nat.le_trans hwbs hs1))
        have hin : w.heap.size < (wb.alloc (.cells ((bare ⟨3, pa, ho, sh, 2, false, na, wa, ks⟩).cells (.slice none 0 0)).toArray 41)).drew.heap.size := hbox1.inside
        go_simp
        refine hK.out _ _ (Box.of hbox2) (fun hHeld => ?_)
        clear hK K
        (try simp only [Act.put, List.setIfInBounds_toArray, List.set_cons_zero, List.set_cons_succ])
        refine way_run (by simp only [List.getElem?_toArray, List.getElem?_cons_succ, List.getElem?_cons_zero]; rfl) (by rfl) (fun K hK => ?_)
        refine wp_push (d := bare ⟨3, pa, ho, sh, 2, false, na, wa, ks⟩) (.tmp 80) (.tmp 92) 27 rfl j0 _ Try.underlying27 Qi.out Qz0.out Qz1.out Qz2.out rfl rfl hN2 rfl hnew2 rfl hl hb2.size (hG.mono (Nat.le_trans hwbs hs1)) (fun A4 c4 w4 hN4 hk4 => ?_)
        have hb4 : Below w.heap.size w w4 := below_then hBB hk4 hBB.size fun i hi hB => by omega
        have hbox4 : Box w.heap.size 3 2 false na wa w4 := Box.of (Has.kept hbox2 hk4 (Nat.not_le.2 hin))
        refine hK.out _ _ hbox4 (fun hHeld => ?_)
        clear hK K
        (try simp only [Act.put, List.setIfInBounds_toArray, List.set_cons_zero, List.set_cons_succ])
        (repeat (first | (refine way_skip (by simp only [List.getElem?_toArray, List.getElem?_cons_succ, List.getElem?_cons_zero]; rfl) (by rfl) hHeld ?_; (try simp only [Act.put, List.setIfInBounds_toArray, List.set_cons_zero, List.set_cons_succ])) | (refine way_pass (by simp only [List.getElem?_toArray, List.getElem?_cons_succ, List.getElem?_cons_zero]; rfl) (by rfl) hHeld ?_; (try simp only [Act.put, List.setIfInBounds_toArray, List.set_cons_zero, List.set_cons_succ])) | (refine way_take (v := ?_) (by simp only [List.getElem?_toArray, List.getElem?_cons_succ, List.getElem?_cons_zero]; rfl) (by rfl) ?_ hHeld ?_; rotate_left; (focus (intro w hSw; (try dsimp only at hSw); go_simp; (try with_reducible rfl); done)); (try simp only [Act.put, List.setIfInBounds_toArray, List.set_cons_zero, List.set_cons_succ]))))
        refine way_done ?_
        go_wp2
        go_ret3
        rw [Gave3, HLL.out, HNO.out, hE.out]
        exact ⟨A4, c4, by rw [List.length_append]; rfl, hN4.from_ (Nat.zero_le _), hb4⟩
    · obtain ⟨rfl, hwe⟩ := hs2 m3
      have hne := hs1 rfl
      clear hs1 hs2
      go_enter Try.func47, Try.ntmps47
      go_wp2_with fail
      refine (named_any na _ hna).mono ?_
      rintro e w1 ⟨rfl, rfl⟩
      rw [Hn.out]
      go_wp2_with fail
      refine (named_any wa _ hwa).mono ?_
      rintro e w1 ⟨rfl, rfl⟩
      rw [Hw.out]
      go_wp2_with fail
      have hNb := H.out.below hbb
      have hbox : Has (w.alloc (.cells #[.int .i64 k, .int .i64 pa, .int .i64 ho, .int .i64 sh, .int .i64 0, .bool false, .string na, .string wa, kv] 41)) w.heap.size (.cells #[.int .i64 k, .int .i64 pa, .int .i64 ho, .int .i64 sh, .int .i64 0, .bool false, .string na, .string wa, kv] 41 (0, 0)) := Has.fresh _ _
      have hsz : (w.alloc (.cells #[.int .i64 k, .int .i64 pa, .int .i64 ho, .int .i64 sh, .int .i64 0, .bool false, .string na, .string wa, kv] 41)).heap.size = w.heap.size + 1 := by simp
      obtain ⟨wb, hwb⟩ : ∃ wb, wb = w.alloc (.cells #[.int .i64 k, .int .i64 pa, .int .i64 ho, .int .i64 sh, .int .i64 0, .bool false, .string na, .string wa, kv] 41) := ⟨_, rfl⟩
      rw [← hwb]
      rw [← hwb] at hNb hbox hsz hbb
      have Hsz := Lib.hid hsz
      have Hd : ∀ b : Value, (bare ⟨k, pa, ho, sh, 0, false, na, wa, ks⟩).cells b = [.int .i64 k, .int .i64 0, .int .i64 0, .int .i64 0, .int .i64 0, .bool false, .string na, .string wa, b] := fun _ => rfl
      have Hd := Lib.hid Hd
      have hwbs : w.heap.size ≤ wb.heap.size := by omega
      clear hsz hwb
      refine wp_region_way (late := []) (S := fun w' => w'.cell? ⟨w.heap.size, 0, none⟩ = some (.int .i64 k) ∧ w'.cell? ⟨w.heap.size, 5, none⟩ = some (.bool false) ∧ w'.cell? ⟨w.heap.size, 6, none⟩ = some (.string na) ∧ w'.cell? ⟨w.heap.size, 7, none⟩ = some (.string wa) ∧ w'.cell? ⟨w.heap.size, 4, none⟩ = some (.int .i64 0)) (y := Way.takes [0, 2, 3, 4, 5, 6, 7, 8, 9, 10, 11, 12] (.fork 1 (.run 13 (.run 14 (.take 15 .fin))) 13 (.run 1 (.run 14 (.take 15 .fin))))) (by kernel_rfl) (by kernel_rfl) rfl (by kernel_rfl) (Box.of hbox) (fun hHeld => ?_)
      simp only [Way.takes]
      (repeat (first | (refine way_skip (by simp only [List.getElem?_toArray, List.getElem?_cons_succ, List.getElem?_cons_zero]; rfl) (by rfl) hHeld ?_; (try simp only [Act.put, List.setIfInBounds_toArray, List.set_cons_zero, List.set_cons_succ])) | (refine way_pass (by simp only [List.getElem?_toArray, List.getElem?_cons_succ, List.getElem?_cons_zero]; rfl) (by rfl) hHeld ?_; (try simp only [Act.put, List.setIfInBounds_toArray, List.set_cons_zero, List.set_cons_succ])) | (refine way_take (v := ?_) (by simp only [List.getElem?_toArray, List.getElem?_cons_succ, List.getElem?_cons_zero]; rfl) (by rfl) ?_ hHeld ?_; rotate_left; (focus (intro w hSw; (try dsimp only at hSw); go_simp; (try with_reducible rfl); done)); (try simp only [Act.put, List.setIfInBounds_toArray, List.set_cons_zero, List.set_cons_succ]))))
      refine way_fork ?_ ?_
      · refine way_run (by simp only [List.getElem?_toArray, List.getElem?_cons_succ, List.getElem?_cons_zero]; rfl) (by rfl) (fun K hK => ?_)
        go_simp
        refine (copy_any l _ c wb.drew hl Hk.out (hG.mono hwbs) (hNb.drewN 1)).mono ?_
        rintro e w2 ⟨A2, c2, rfl, hN2, hb2⟩
        have hN2' : Nodes G w2 wb.heap.size A2 c2 l := hN2
        have hb2' : Below wb.heap.size wb w2 := ⟨hb2.os, hb2.tape, hb2.output, hb2.size, hb2.block⟩
        have hbox2 := hbox.below hb2' hbox.inside
        clear hN2 hb2
        go_simp
        refine hK.out _ _ (Box.of hbox2) (fun hHeld => ?_)
        clear hK K
        (try simp only [Act.put, List.setIfInBounds_toArray, List.set_cons_zero, List.set_cons_succ])
        refine way_run (by simp only [List.getElem?_toArray, List.getElem?_cons_succ, List.getElem?_cons_zero]; rfl) (by rfl) (fun K hK => ?_)
        go_simp
        refine hK.out _ _ (Box.of (hbox2.more _)) (fun hHeld => ?_)
        clear hK K
        (try simp only [Act.put, List.setIfInBounds_toArray, List.set_cons_zero, List.set_cons_succ])
        refine way_run (by simp only [List.getElem?_toArray, List.getElem?_cons_succ, List.getElem?_cons_zero]; rfl) (by rfl) (fun K hK => ?_)
        refine wp_push (d := bare ⟨k, pa, ho, sh, 0, false, na, wa, ks⟩) (.tmp 80) (.tmp 92) 27 rfl j0 _ Try.underlying27 Qi.out Qz0.out Qz1.out Qz2.out rfl rfl (hN2'.kept (F := fun _ => False) ((Keeps.refl _ _).alloc _) fun _ _ h => h) rfl (Has.fresh w2 (.cells ((bare ⟨k, pa, ho, sh, 0, false, na, wa, ks⟩).cells (.slice none 0 0)).toArray 41)) rfl hl (Nat.le_trans hb2'.size (by simp)) (hG.mono hwbs) (fun A4 c4 w4 hN4 hk4 => ?_)
        have hb4 : Below w.heap.size w w4 := below_then ((hbb.trans (hb2'.mono hwbs)).alloc (Nat.le_trans hwbs hb2'.size) _) hk4 (Nat.le_trans (Nat.le_trans hwbs hb2'.size) (by simp)) fun i hi hB => by omega
        have hbox4 : Box w.heap.size k 0 false na wa w4 := Box.of (Has.kept (hbox2.more _) hk4 (by have := hbox.inside; omega))
        refine hK.out _ _ hbox4 (fun hHeld => ?_)
        clear hK K
        (try simp only [Act.put, List.setIfInBounds_toArray, List.set_cons_zero, List.set_cons_succ])
        (repeat (first | (refine way_skip (by simp only [List.getElem?_toArray, List.getElem?_cons_succ, List.getElem?_cons_zero]; rfl) (by rfl) hHeld ?_; (try simp only [Act.put, List.setIfInBounds_toArray, List.set_cons_zero, List.set_cons_succ])) | (refine way_pass (by simp only [List.getElem?_toArray, List.getElem?_cons_succ, List.getElem?_cons_zero]; rfl) (by rfl) hHeld ?_; (try simp only [Act.put, List.setIfInBounds_toArray, List.set_cons_zero, List.set_cons_succ])) | (refine way_take (v := ?_) (by simp only [List.getElem?_toArray, List.getElem?_cons_succ, List.getElem?_cons_zero]; rfl) (by rfl) ?_ hHeld ?_; rotate_left; (focus (intro w hSw; (try dsimp only at hSw); go_simp; (try with_reducible rfl); done)); (try simp only [Act.put, List.setIfInBounds_toArray, List.set_cons_zero, List.set_cons_succ]))))
        refine way_done ?_
        go_wp2
        go_ret3
        rw [Gave3, HLL.out, HNO.out, hE.out]
        exact ⟨A4, c4, by rw [List.length_append]; rfl, hN4.from_ (Nat.zero_le _), hb4⟩
      · refine way_run (by simp only [List.getElem?_toArray, List.getElem?_cons_succ, List.getElem?_cons_zero]; rfl) (by rfl) (fun K hK => ?_)
        go_simp
        have hb1 : Below wb.heap.size wb (wb.alloc (.cells ((bare ⟨k, pa, ho, sh, 0, false, na, wa, ks⟩).cells (.slice none 0 0)).toArray 41)).drew := ((Below.refl _ wb).alloc (Nat.le_refl _) _).drew
        have hbox1 := hbox.below hb1 hbox.inside
        have hnew1 := Has.drewN (Has.fresh wb (.cells ((bare ⟨k, pa, ho, sh, 0, false, na, wa, ks⟩).cells (.slice none 0 0)).toArray 41)) 1
        refine hK.out _ _ (Box.of hbox1) (fun hHeld => ?_)
        clear hK K
        (try simp only [Act.put, List.setIfInBounds_toArray, List.set_cons_zero, List.set_cons_succ])
        refine way_run (by simp only [List.getElem?_toArray, List.getElem?_cons_succ, List.getElem?_cons_zero]; rfl) (by rfl) (fun K hK => ?_)
        go_simp
        refine (copy_any l _ c _ hl Hk.out (hG.mono (Nat.le_trans hwbs hb1.size)) (hNb.below hb1)).mono ?_
        rintro e w2 ⟨A2, c2, rfl, hN2, hb2⟩
        have hbox2 := hbox1.below hb2 hbox1.inside
        have hnew2 := hnew1.below hb2 hnew1.inside
        have hs1 := hb1.size
        have hBB : Below w.heap.size w w2 := (hbb.trans (hb1.mono hwbs)).trans (hb2.mono (Nat.le_trans hwbs hs1))
        have hin : w.heap.size < (wb.alloc (.cells ((bare ⟨k, pa, ho, sh, 0, false, na, wa, ks⟩).cells (.slice none 0 0)).toArray 41)).drew.heap.size := hbox1.inside
        go_simp
        refine hK.out _ _ (Box.of hbox2) (fun hHeld => ?_)
        clear hK K
        (try simp only [Act.put, List.setIfInBounds_toArray, List.set_cons_zero, List.set_cons_succ])
        refine way_run (by simp only [List.getElem?_toArray, List.getElem?_cons_succ, List.getElem?_cons_zero]; rfl) (by rfl) (fun K hK => ?_)
        refine wp_push (d := bare ⟨k, pa, ho, sh, 0, false, na, wa, ks⟩) (.tmp 80) (.tmp 92) 27 rfl j0 _ Try.underlying27 Qi.out Qz0.out Qz1.out Qz2.out rfl rfl hN2 rfl hnew2 rfl hl hb2.size (hG.mono (Nat.le_trans hwbs hs1)) (fun A4 c4 w4 hN4 hk4 => ?_)
        have hb4 : Below w.heap.size w w4 := below_then hBB hk4 hBB.size fun i hi hB => by omega
        have hbox4 : Box w.heap.size k 0 false na wa w4 := Box.of (Has.kept hbox2 hk4 (Nat.not_le.2 hin))
        refine hK.out _ _ hbox4 (fun hHeld => ?_)
        clear hK K
        (try simp only [Act.put, List.setIfInBounds_toArray, List.set_cons_zero, List.set_cons_succ])
        (repeat (first | (refine way_skip (by simp only [List.getElem?_toArray, List.getElem?_cons_succ, List.getElem?_cons_zero]; rfl) (by rfl) hHeld ?_; (try simp only [Act.put, List.setIfInBounds_toArray, List.set_cons_zero, List.set_cons_succ])) | (refine way_pass (by simp only [List.getElem?_toArray, List.getElem?_cons_succ, List.getElem?_cons_zero]; rfl) (by rfl) hHeld ?_; (try simp only [Act.put, List.setIfInBounds_toArray, List.set_cons_zero, List.set_cons_succ])) | (refine way_take (v := ?_) (by simp only [List.getElem?_toArray, List.getElem?_cons_succ, List.getElem?_cons_zero]; rfl) (by rfl) ?_ hHeld ?_; rotate_left; (focus (intro w hSw; (try dsimp only at hSw); go_simp; (try with_reducible rfl); done)); (try simp only [Act.put, List.setIfInBounds_toArray, List.set_cons_zero, List.set_cons_succ]))))
        refine way_done ?_
        go_wp2
        go_ret3
        rw [Gave3, HLL.out, HNO.out, hE.out]
        exact ⟨A4, c4, by rw [List.length_append]; rfl, hN4.from_ (Nat.zero_le _), hb4⟩
    · clear hs2
      cases sl with
      | true =>
        clear hs1
        go_enter Try.func47, Try.ntmps47
        go_wp2_with fail
        refine (named_any na _ hna).mono ?_
        rintro e w1 ⟨rfl, rfl⟩
        rw [Hn.out]
        go_wp2_with fail
        refine (named_any wa _ hwa).mono ?_
        rintro e w1 ⟨rfl, rfl⟩
        rw [Hw.out]
        go_wp2_with fail
        have hNb := H.out.below hbb
        have hbox : Has (w.alloc (.cells #[.int .i64 2, .int .i64 pa, .int .i64 ho, .int .i64 sh, .int .i64 0, .bool true, .string na, .string wa, kv] 41)) w.heap.size (.cells #[.int .i64 2, .int .i64 pa, .int .i64 ho, .int .i64 sh, .int .i64 0, .bool true, .string na, .string wa, kv] 41 (0, 0)) := Has.fresh _ _
        have hsz : (w.alloc (.cells #[.int .i64 2, .int .i64 pa, .int .i64 ho, .int .i64 sh, .int .i64 0, .bool true, .string na, .string wa, kv] 41)).heap.size = w.heap.size + 1 := by simp
        obtain ⟨wb, hwb⟩ : ∃ wb, wb = w.alloc (.cells #[.int .i64 2, .int .i64 pa, .int .i64 ho, .int .i64 sh, .int .i64 0, .bool true, .string na, .string wa, kv] 41) := ⟨_, rfl⟩
        rw [← hwb]
        rw [← hwb] at hNb hbox hsz hbb
        have Hsz := Lib.hid hsz
        have Hd : ∀ b : Value, (bare ⟨2, pa, ho, sh, 0, true, na, wa, ks⟩).cells b = [.int .i64 2, .int .i64 0, .int .i64 0, .int .i64 0, .int .i64 0, .bool true, .string na, .string wa, b] := fun _ => rfl
        have Hd := Lib.hid Hd
        have hwbs : w.heap.size ≤ wb.heap.size := by omega
        clear hsz hwb
        refine wp_region_way (late := []) (S := fun w' => w'.cell? ⟨w.heap.size, 0, none⟩ = some (.int .i64 2) ∧ w'.cell? ⟨w.heap.size, 5, none⟩ = some (.bool true) ∧ w'.cell? ⟨w.heap.size, 6, none⟩ = some (.string na) ∧ w'.cell? ⟨w.heap.size, 7, none⟩ = some (.string wa) ∧ w'.cell? ⟨w.heap.size, 4, none⟩ = some (.int .i64 0)) (y := Way.takes [0, 2, 3, 4, 5, 6, 7, 8, 9, 10, 11, 12] (.fork 1 (.run 13 (.run 14 (.take 15 .fin))) 13 (.run 1 (.run 14 (.take 15 .fin))))) (by kernel_rfl) (by kernel_rfl) rfl (by kernel_rfl) (Box.of hbox) (fun hHeld => ?_)
        simp only [Way.takes]
        (repeat (first | (refine way_skip (by simp only [List.getElem?_toArray, List.getElem?_cons_succ, List.getElem?_cons_zero]; rfl) (by rfl) hHeld ?_; (try simp only [Act.put, List.setIfInBounds_toArray, List.set_cons_zero, List.set_cons_succ])) | (refine way_pass (by simp only [List.getElem?_toArray, List.getElem?_cons_succ, List.getElem?_cons_zero]; rfl) (by rfl) hHeld ?_; (try simp only [Act.put, List.setIfInBounds_toArray, List.set_cons_zero, List.set_cons_succ])) | (refine way_take (v := ?_) (by simp only [List.getElem?_toArray, List.getElem?_cons_succ, List.getElem?_cons_zero]; rfl) (by rfl) ?_ hHeld ?_; rotate_left; (focus (intro w hSw; (try dsimp only at hSw); go_simp; (try with_reducible rfl); done)); (try simp only [Act.put, List.setIfInBounds_toArray, List.set_cons_zero, List.set_cons_succ]))))
        refine way_fork ?_ ?_
        · refine way_run (by simp only [List.getElem?_toArray, List.getElem?_cons_succ, List.getElem?_cons_zero]; rfl) (by rfl) (fun K hK => ?_)
          go_simp
          refine (copy_any l _ c wb.drew hl Hk.out (hG.mono hwbs) (hNb.drewN 1)).mono ?_
          rintro e w2 ⟨A2, c2, rfl, hN2, hb2⟩
          have hN2' : Nodes G w2 wb.heap.size A2 c2 l := hN2
          have hb2' : Below wb.heap.size wb w2 := ⟨hb2.os, hb2.tape, hb2.output, hb2.size, hb2.block⟩
          have hbox2 := hbox.below hb2' hbox.inside
          clear hN2 hb2
          go_simp
          refine hK.out _ _ (Box.of hbox2) (fun hHeld => ?_)
          clear hK K
          (try simp only [Act.put, List.setIfInBounds_toArray, List.set_cons_zero, List.set_cons_succ])
          refine way_run (by simp only [List.getElem?_toArray, List.getElem?_cons_succ, List.getElem?_cons_zero]; rfl) (by rfl) (fun K hK => ?_)
          go_simp
          refine hK.out _ _ (Box.of (hbox2.more _)) (fun hHeld => ?_)
          clear hK K
          (try simp only [Act.put, List.setIfInBounds_toArray, List.set_cons_zero, List.set_cons_succ])
          refine way_run (by simp only [List.getElem?_toArray, List.getElem?_cons_succ, List.getElem?_cons_zero]; rfl) (by rfl) (fun K hK => ?_)
          refine wp_push (d := bare ⟨2, pa, ho, sh, 0, true, na, wa, ks⟩) (.tmp 80) (.tmp 92) 27 rfl j0 _ Try.underlying27 Qi.out Qz0.out Qz1.out Qz2.out rfl rfl (hN2'.kept (F := fun _ => False) ((Keeps.refl _ _).alloc _) fun _ _ h => h) rfl (Has.fresh w2 (.cells ((bare ⟨2, pa, ho, sh, 0, true, na, wa, ks⟩).cells (.slice none 0 0)).toArray 41)) rfl hl (Nat.le_trans hb2'.size (by simp)) (hG.mono hwbs) (fun A4 c4 w4 hN4 hk4 => ?_)
          have hb4 : Below w.heap.size w w4 := below_then ((hbb.trans (hb2'.mono hwbs)).alloc (Nat.le_trans hwbs hb2'.size) _) hk4 (Nat.le_trans (Nat.le_trans hwbs hb2'.size) (by simp)) fun i hi hB => by omega
          have hbox4 : Box w.heap.size 2 0 true na wa w4 := Box.of (Has.kept (hbox2.more _) hk4 (by have := hbox.inside; omega))
          refine hK.out _ _ hbox4 (fun hHeld => ?_)
          clear hK K
          (try simp only [Act.put, List.setIfInBounds_toArray, List.set_cons_zero, List.set_cons_succ])
          (repeat (first | (refine way_skip (by simp only [List.getElem?_toArray, List.getElem?_cons_succ, List.getElem?_cons_zero]; rfl) (by rfl) hHeld ?_; (try simp only [Act.put, List.setIfInBounds_toArray, List.set_cons_zero, List.set_cons_succ])) | (refine way_pass (by simp only [List.getElem?_toArray, List.getElem?_cons_succ, List.getElem?_cons_zero]; rfl) (by rfl) hHeld ?_; (try simp only [Act.put, List.setIfInBounds_toArray, List.set_cons_zero, List.set_cons_succ])) | (refine way_take (v := ?_) (by simp only [List.getElem?_toArray, List.getElem?_cons_succ, List.getElem?_cons_zero]; rfl) (by rfl) ?_ hHeld ?_; rotate_left; (focus (intro w hSw; (try dsimp only at hSw); go_simp; (try with_reducible rfl); done)); (try simp only [Act.put, List.setIfInBounds_toArray, List.set_cons_zero, List.set_cons_succ]))))
          refine way_done ?_
          go_wp2
          go_ret3
          rw [Gave3, HLL.out, HNO.out, hE.out]
          exact ⟨A4, c4, by rw [List.length_append]; rfl, hN4.from_ (Nat.zero_le _), hb4⟩
        · refine way_run (by simp only [List.getElem?_toArray, List.getElem?_cons_succ, List.getElem?_cons_zero]; rfl) (by rfl) (fun K hK => ?_)
          go_simp
          have hb1 : Below wb.heap.size wb (wb.alloc (.cells ((bare ⟨2, pa, ho, sh, 0, true, na, wa, ks⟩).cells (.slice none 0 0)).toArray 41)).drew := ((Below.refl _ wb).alloc (Nat.le_refl _) _).drew
          have hbox1 := hbox.below hb1 hbox.inside
          have hnew1 := Has.drewN (Has.fresh wb (.cells ((bare ⟨2, pa, ho, sh, 0, true, na, wa, ks⟩).cells (.slice none 0 0)).toArray 41)) 1
          refine hK.out _ _ (Box.of hbox1) (fun hHeld => ?_)
          clear hK K
          (try simp only [Act.put, List.setIfInBounds_toArray, List.set_cons_zero, List.set_cons_succ])
          refine way_run (by simp only [List.getElem?_toArray, List.getElem?_cons_succ, List.getElem?_cons_zero]; rfl) (by rfl) (fun K hK => ?_)
          go_simp
          refine (copy_any l _ c _ hl Hk.out (hG.mono (Nat.le_trans hwbs hb1.size)) (hNb.below hb1)).mono ?_
          rintro e w2 ⟨A2, c2, rfl, hN2, hb2⟩
          have hbox2 := hbox1.below hb2 hbox1.inside
          have hnew2 := hnew1.below hb2 hnew1.inside
          have hs1 := hb1.size
          have hBB : Below w.heap.size w w2 := (hbb.trans (hb1.mono hwbs)).trans (hb2.mono (Nat.le_trans hwbs hs1))
          have hin : w.heap.size < (wb.alloc (.cells ((bare ⟨2, pa, ho, sh, 0, true, na, wa, ks⟩).cells (.slice none 0 0)).toArray 41)).drew.heap.size := hbox1.inside
          go_simp
          refine hK.out _ _ (Box.of hbox2) (fun hHeld => ?_)
          clear hK K
          (try simp only [Act.put, List.setIfInBounds_toArray, List.set_cons_zero, List.set_cons_succ])
          refine way_run (by simp only [List.getElem?_toArray, List.getElem?_cons_succ, List.getElem?_cons_zero]; rfl) (by rfl) (fun K hK => ?_)
          refine wp_push (d := bare ⟨2, pa, ho, sh, 0, true, na, wa, ks⟩) (.tmp 80) (.tmp 92) 27 rfl j0 _ Try.underlying27 Qi.out Qz0.out Qz1.out Qz2.out rfl rfl hN2 rfl hnew2 rfl hl hb2.size (hG.mono (Nat.le_trans hwbs hs1)) (fun A4 c4 w4 hN4 hk4 => ?_)
          have hb4 : Below w.heap.size w w4 := below_then hBB hk4 hBB.size fun i hi hB => by omega
          have hbox4 : Box w.heap.size 2 0 true na wa w4 := Box.of (Has.kept hbox2 hk4 (Nat.not_le.2 hin))
          refine hK.out _ _ hbox4 (fun hHeld => ?_)
          clear hK K
          (try simp only [Act.put, List.setIfInBounds_toArray, List.set_cons_zero, List.set_cons_succ])
          (repeat (first | (refine way_skip (by simp only [List.getElem?_toArray, List.getElem?_cons_succ, List.getElem?_cons_zero]; rfl) (by rfl) hHeld ?_; (try simp only [Act.put, List.setIfInBounds_toArray, List.set_cons_zero, List.set_cons_succ])) | (refine way_pass (by simp only [List.getElem?_toArray, List.getElem?_cons_succ, List.getElem?_cons_zero]; rfl) (by rfl) hHeld ?_; (try simp only [Act.put, List.setIfInBounds_toArray, List.set_cons_zero, List.set_cons_succ])) | (refine way_take (v := ?_) (by simp only [List.getElem?_toArray, List.getElem?_cons_succ, List.getElem?_cons_zero]; rfl) (by rfl) ?_ hHeld ?_; rotate_left; (focus (intro w hSw; (try dsimp only at hSw); go_simp; (try with_reducible rfl); done)); (try simp only [Act.put, List.setIfInBounds_toArray, List.set_cons_zero, List.set_cons_succ]))))
          refine way_done ?_
          go_wp2
          go_ret3
          rw [Gave3, HLL.out, HNO.out, hE.out]
          exact ⟨A4, c4, by rw [List.length_append]; rfl, hN4.from_ (Nat.zero_le _), hb4⟩
      | false =>
        have hne := hs1 rfl
        clear hs1
        go_enter Try.func47, Try.ntmps47
        go_wp2_with fail
        refine (named_any na _ hna).mono ?_
        rintro e w1 ⟨rfl, rfl⟩
        rw [Hn.out]
        go_wp2_with fail
        refine (named_any wa _ hwa).mono ?_
        rintro e w1 ⟨rfl, rfl⟩
        rw [Hw.out]
        go_wp2_with fail
        have hNb := H.out.below hbb
        have hbox : Has (w.alloc (.cells #[.int .i64 2, .int .i64 pa, .int .i64 ho, .int .i64 sh, .int .i64 0, .bool false, .string na, .string wa, kv] 41)) w.heap.size (.cells #[.int .i64 2, .int .i64 pa, .int .i64 ho, .int .i64 sh, .int .i64 0, .bool false, .string na, .string wa, kv] 41 (0, 0)) := Has.fresh _ _
        have hsz : (w.alloc (.cells #[.int .i64 2, .int .i64 pa, .int .i64 ho, .int .i64 sh, .int .i64 0, .bool false, .string na, .string wa, kv] 41)).heap.size = w.heap.size + 1 := by simp
        obtain ⟨wb, hwb⟩ : ∃ wb, wb = w.alloc (.cells #[.int .i64 2, .int .i64 pa, .int .i64 ho, .int .i64 sh, .int .i64 0, .bool false, .string na, .string wa, kv] 41) := ⟨_, rfl⟩
        rw [← hwb]
        rw [← hwb] at hNb hbox hsz hbb
        have Hsz := Lib.hid hsz
        have Hd : ∀ b : Value, (bare ⟨2, pa, ho, sh, 0, false, na, wa, ks⟩).cells b = [.int .i64 2, .int .i64 0, .int .i64 0, .int .i64 0, .int .i64 0, .bool false, .string na, .string wa, b] := fun _ => rfl
        have Hd := Lib.hid Hd
        have hwbs : w.heap.size ≤ wb.heap.size := by omega
        clear hsz hwb
        refine wp_region_way (late := []) (S := fun w' => w'.cell? ⟨w.heap.size, 0, none⟩ = some (.int .i64 2) ∧ w'.cell? ⟨w.heap.size, 5, none⟩ = some (.bool false) ∧ w'.cell? ⟨w.heap.size, 6, none⟩ = some (.string na) ∧ w'.cell? ⟨w.heap.size, 7, none⟩ = some (.string wa) ∧ w'.cell? ⟨w.heap.size, 4, none⟩ = some (.int .i64 0)) (y := Way.takes [0, 2, 3, 4, 5, 6, 7, 8, 9, 10, 11, 12] (.fork 1 (.run 13 (.run 14 (.take 15 .fin))) 13 (.run 1 (.run 14 (.take 15 .fin))))) (by kernel_rfl) (by kernel_rfl) rfl (by kernel_rfl) (Box.of hbox) (fun hHeld => ?_)
        simp only [Way.takes]
        (repeat (first | (refine way_skip (by simp only [List.getElem?_toArray, List.getElem?_cons_succ, List.getElem?_cons_zero]; rfl) (by rfl) hHeld ?_; (try simp only [Act.put, List.setIfInBounds_toArray, List.set_cons_zero, List.set_cons_succ])) | (refine way_pass (by simp only [List.getElem?_toArray, List.getElem?_cons_succ, List.getElem?_cons_zero]; rfl) (by rfl) hHeld ?_; (try simp only [Act.put, List.setIfInBounds_toArray, List.set_cons_zero, List.set_cons_succ])) | (refine way_take (v := ?_) (by simp only [List.getElem?_toArray, List.getElem?_cons_succ, List.getElem?_cons_zero]; rfl) (by rfl) ?_ hHeld ?_; rotate_left; (focus (intro w hSw; (try dsimp only at hSw); go_simp; (try with_reducible rfl); done)); (try simp only [Act.put, List.setIfInBounds_toArray, List.set_cons_zero, List.set_cons_succ]))))
        refine way_fork ?_ ?_
        · refine way_run (by simp only [List.getElem?_toArray, List.getElem?_cons_succ, List.getElem?_cons_zero]; rfl) (by rfl) (fun K hK => ?_)
          go_simp
          refine (copy_any l _ c wb.drew hl Hk.out (hG.mono hwbs) (hNb.drewN 1)).mono ?_
          rintro e w2 ⟨A2, c2, rfl, hN2, hb2⟩
          have hN2' : Nodes G w2 wb.heap.size A2 c2 l := hN2
          have hb2' : Below wb.heap.size wb w2 := ⟨hb2.os, hb2.tape, hb2.output, hb2.size, hb2.block⟩
          have hbox2 := hbox.below hb2' hbox.inside
          clear hN2 hb2
          go_simp
          refine hK.out _ _ (Box.of hbox2) (fun hHeld => ?_)
          clear hK K
          (try simp only [Act.put, List.setIfInBounds_toArray, List.set_cons_zero, List.set_cons_succ])
          refine way_run (by simp only [List.getElem?_toArray, List.getElem?_cons_succ, List.getElem?_cons_zero]; rfl) (by rfl) (fun K hK => ?_)
          go_simp
          refine hK.out _ _ (Box.of (hbox2.more _)) (fun hHeld => ?_)
          clear hK K
          (try simp only [Act.put, List.setIfInBounds_toArray, List.set_cons_zero, List.set_cons_succ])
          refine way_run (by simp only [List.getElem?_toArray, List.getElem?_cons_succ, List.getElem?_cons_zero]; rfl) (by rfl) (fun K hK => ?_)
          refine wp_push (d := bare ⟨2, pa, ho, sh, 0, false, na, wa, ks⟩) (.tmp 80) (.tmp 92) 27 rfl j0 _ Try.underlying27 Qi.out Qz0.out Qz1.out Qz2.out rfl rfl (hN2'.kept (F := fun _ => False) ((Keeps.refl _ _).alloc _) fun _ _ h => h) rfl (Has.fresh w2 (.cells ((bare ⟨2, pa, ho, sh, 0, false, na, wa, ks⟩).cells (.slice none 0 0)).toArray 41)) rfl hl (Nat.le_trans hb2'.size (by simp)) (hG.mono hwbs) (fun A4 c4 w4 hN4 hk4 => ?_)
          have hb4 : Below w.heap.size w w4 := below_then ((hbb.trans (hb2'.mono hwbs)).alloc (Nat.le_trans hwbs hb2'.size) _) hk4 (Nat.le_trans (Nat.le_trans hwbs hb2'.size) (by simp)) fun i hi hB => by omega
          have hbox4 : Box w.heap.size 2 0 false na wa w4 := Box.of (Has.kept (hbox2.more _) hk4 (by have := hbox.inside; omega))
          refine hK.out _ _ hbox4 (fun hHeld => ?_)
          clear hK K
          (try simp only [Act.put, List.setIfInBounds_toArray, List.set_cons_zero, List.set_cons_succ])
          (repeat (first | (refine way_skip (by simp only [List.getElem?_toArray, List.getElem?_cons_succ, List.getElem?_cons_zero]; rfl) (by rfl) hHeld ?_; (try simp only [Act.put, List.setIfInBounds_toArray, List.set_cons_zero, List.set_cons_succ])) | (refine way_pass (by simp only [List.getElem?_toArray, List.getElem?_cons_succ, List.getElem?_cons_zero]; rfl) (by rfl) hHeld ?_; (try simp only [Act.put, List.setIfInBounds_toArray, List.set_cons_zero, List.set_cons_succ])) | (refine way_take (v := ?_) (by simp only [List.getElem?_toArray, List.getElem?_cons_succ, List.getElem?_cons_zero]; rfl) (by rfl) ?_ hHeld ?_; rotate_left; (focus (intro w hSw; (try dsimp only at hSw); go_simp; (try with_reducible rfl); done)); (try simp only [Act.put, List.setIfInBounds_toArray, List.set_cons_zero, List.set_cons_succ]))))
          refine way_done ?_
          go_wp2
          go_ret3
          rw [Gave3, HLL.out, HNO.out, hE.out]
          exact ⟨A4, c4, by rw [List.length_append]; rfl, hN4.from_ (Nat.zero_le _), hb4⟩
        · refine way_run (by simp only [List.getElem?_toArray, List.getElem?_cons_succ, List.getElem?_cons_zero]; rfl) (by rfl) (fun K hK => ?_)
          go_simp
          have hb1 : Below wb.heap.size wb (wb.alloc (.cells ((bare ⟨2, pa, ho, sh, 0, false, na, wa, ks⟩).cells (.slice none 0 0)).toArray 41)).drew := ((Below.refl _ wb).alloc (Nat.le_refl _) _).drew
          have hbox1 := hbox.below hb1 hbox.inside
          have hnew1 := Has.drewN (Has.fresh wb (.cells ((bare ⟨2, pa, ho, sh, 0, false, na, wa, ks⟩).cells (.slice none 0 0)).toArray 41)) 1
          refine hK.out _ _ (Box.of hbox1) (fun hHeld => ?_)
          clear hK K
          (try simp only [Act.put, List.setIfInBounds_toArray, List.set_cons_zero, List.set_cons_succ])
          refine way_run (by simp only [List.getElem?_toArray, List.getElem?_cons_succ, List.getElem?_cons_zero]; rfl) (by rfl) (fun K hK => ?_)
          go_simp
          refine (copy_any l _ c _ hl Hk.out (hG.mono (Nat.le_trans hwbs hb1.size)) (hNb.below hb1)).mono ?_
          rintro e w2 ⟨A2, c2, rfl, hN2, hb2⟩
          have hbox2 := hbox1.below hb2 hbox1.inside
          have hnew2 := hnew1.below hb2 hnew1.inside
          have hs1 := hb1.size
          have hBB : Below w.heap.size w w2 := (hbb.trans (hb1.mono hwbs)).trans (hb2.mono (Nat.le_trans hwbs hs1))
          have hin : w.heap.size < (wb.alloc (.cells ((bare ⟨2, pa, ho, sh, 0, false, na, wa, ks⟩).cells (.slice none 0 0)).toArray 41)).drew.heap.size := hbox1.inside
          go_simp
          refine hK.out _ _ (Box.of hbox2) (fun hHeld => ?_)
          clear hK K
          (try simp only [Act.put, List.setIfInBounds_toArray, List.set_cons_zero, List.set_cons_succ])
          refine way_run (by simp only [List.getElem?_toArray, List.getElem?_cons_succ, List.getElem?_cons_zero]; rfl) (by rfl) (fun K hK => ?_)
          refine wp_push (d := bare ⟨2, pa, ho, sh, 0, false, na, wa, ks⟩) (.tmp 80) (.tmp 92) 27 rfl j0 _ Try.underlying27 Qi.out Qz0.out Qz1.out Qz2.out rfl rfl hN2 rfl hnew2 rfl hl hb2.size (hG.mono (Nat.le_trans hwbs hs1)) (fun A4 c4 w4 hN4 hk4 => ?_)
          have hb4 : Below w.heap.size w w4 := below_then hBB hk4 hBB.size fun i hi hB => by omega
          have hbox4 : Box w.heap.size 2 0 false na wa w4 := Box.of (Has.kept hbox2 hk4 (Nat.not_le.2 hin))
          refine hK.out _ _ hbox4 (fun hHeld => ?_)
          clear hK K
          (try simp only [Act.put, List.setIfInBounds_toArray, List.set_cons_zero, List.set_cons_succ])
          (repeat (first | (refine way_skip (by simp only [List.getElem?_toArray, List.getElem?_cons_succ, List.getElem?_cons_zero]; rfl) (by rfl) hHeld ?_; (try simp only [Act.put, List.setIfInBounds_toArray, List.set_cons_zero, List.set_cons_succ])) | (refine way_pass (by simp only [List.getElem?_toArray, List.getElem?_cons_succ, List.getElem?_cons_zero]; rfl) (by rfl) hHeld ?_; (try simp only [Act.put, List.setIfInBounds_toArray, List.set_cons_zero, List.set_cons_succ])) | (refine way_take (v := ?_) (by simp only [List.getElem?_toArray, List.getElem?_cons_succ, List.getElem?_cons_zero]; rfl) (by rfl) ?_ hHeld ?_; rotate_left; (focus (intro w hSw; (try dsimp only at hSw); go_simp; (try with_reducible rfl); done)); (try simp only [Act.put, List.setIfInBounds_toArray, List.set_cons_zero, List.set_cons_succ]))))
          refine way_done ?_
          go_wp2
          go_ret3
          rw [Gave3, HLL.out, HNO.out, hE.out]
          exact ⟨A4, c4, by rw [List.length_append]; rfl, hN4.from_ (Nat.zero_le _), hb4⟩
theorem make_any (l : List Nd) (A : Option Addr) (c : Nat) (k pa ho sh m : Int) (sl : Bool) (na wa : ByteArray) (ks : List Int) (kv : Value) (w : World) (hna : na.size ≤ 9223372036854775807) (hwa : wa.size ≤ 9223372036854775807) (hl : l.length ≤ 1000) (hk : ∀ d ∈ l, d.kids.length ≤ 100000) (hG : Fut G w.heap.size) (hN : Nodes G w 0 A c l) :
    Calls Try.prog 47 #[.slice A l.length c, .agg #[.int .i64 k, .int .i64 pa, .int .i64 ho, .int .i64 sh, .int .i64 m, .bool sl, .string na, .string wa, kv]] w (Gave3 G w (mkL l ⟨k, pa, ho, sh, m, sl, na, wa, ks⟩) (mkNo l ⟨k, pa, ho, sh, m, sl, na, wa, ks⟩) (mkErr l.length ⟨k, pa, ho, sh, m, sl, na, wa, ks⟩)) := by
  by_cases h1 : k < 1 ∨ 4 < k
  · exact make_kind l A c k pa ho sh m sl na wa ks kv w hN h1
  by_cases h2 : (k = 3 ∧ m ≠ 1 ∧ m ≠ 2) ∨ (k ≠ 3 ∧ m ≠ 0)
  · exact make_mode l A c k pa ho sh m sl na wa ks kv w hN (by omega) (by omega) h2
  by_cases h3 : (k ≠ 2 ∧ (sl = true ∨ wa.toList.isEmpty = false)) ∨ (sl = false ∧ na.toList.isEmpty = false) ∨ okName na = false ∨ okName wa = false
  · exact make_name l A c k pa ho sh m sl na wa ks kv w hna hwa hN (by omega) (by omega) h2 h3
  exact make_rest l A c k pa ho sh m sl na wa ks kv w hna hwa hl hk hG hN (by omega) (by omega) h2 h3
end Go.Proofs.Ytkafaceanlkjjaa
