/-
  Changes of forests, plain: what Before makes of a list of nodes. No program is named here.
  What package valid's Host does with an arena that keeps its promises.
  What package valid's elements, crowds and Check do with an arena that keeps its promises.
  What package valid's Check does with an arena that keeps its promises.
  What package edit's Clear and Remove do with an arena that keeps its promises.
  What package edit's loosen does with an arena that keeps its promises.
  What package edit's Before and Append do with an arena that keeps its promises.
  A forest that a law changes, and what towncrierlaw07.awake does: it answers true.
  What towncrierlaw07.EditBack does with an arena that keeps its promises: it answers true.
-/
import Derived.Test.YtojcchjhimagiaaPartE
import Derived.Deep.DeepCutAuto

namespace Go.Proofs.Ytojcchjhimagiaa
open Go

/-- What is put ahead of c (0: behind all). -/
def insL (xs : List Int) (c : Int) (ms : List Int) : List Int := if c = 0 then xs ++ ms else xs.take (idxL xs c).toNat ++ (ms ++ xs.drop (idxL xs c).toNat)
theorem insL_end (xs ms : List Int) : insL xs 0 ms = xs ++ ms := if_pos rfl
theorem insL_cut {a b ms : List Int} {c : Int} (hc : c ≠ 0) (hi : idxL (a ++ c :: b) c = (a.length : Int)) : insL (a ++ c :: b) c ms = a ++ (ms ++ c :: b) := by
  unfold insL
  rw [if_neg hc, hi, Int.toNat_natCast, List.take_left' rfl, List.drop_left' rfl]
/-- The child that is meant. -/
def seatL (l : List Nd) (n c : Int) : Int := if c = n then nextL (rowL l n) n else c
/-- Before: the nodes. -/
def befL (l : List Nd) (n p c : Int) : List Nd := if chkErr l n p c = 0 then putL (looseL l n) p (insL (nd (looseL l n) p).kids (seatL l n c) (moveL l n)) else l

theorem next_cut {a b : List Int} {x : Int} (hi : idxL (a ++ x :: b) x = (a.length : Int)) : nextL (a ++ x :: b) x = b.headD 0 := by
  unfold nextL
  rw [hi, if_neg (by omega), Int.toNat_natCast, List.getD_eq_getElem?_getD, List.getElem?_append_right (by omega), show a.length + 1 - a.length = 1 by omega]
  cases b <;> rfl

section
variable {l : List Nd} {n p c : Int}
/-- What stands where something is put. -/
theorem insL_form {xs ms : List Int} {s : Int} (hn : xs.Nodup) (hs : s = 0 ∨ s ∈ xs) : ∃ a b, xs = a ++ b ∧ insL xs s ms = a ++ (ms ++ b) ∧ ((s = 0 ∧ b = []) ∨ b.head? = some s) := by
  by_cases h0 : s = 0
  · subst h0
    exact ⟨xs, [], by simp, by rw [insL_end, List.append_nil], .inl ⟨rfl, rfl⟩⟩
  · obtain ⟨a, b, e, h1, h2, h3⟩ := cut_at (hs.resolve_left h0) hn
    subst e
    exact ⟨a, s :: b, rfl, insL_cut h0 h3, .inr rfl⟩
theorem insL_mem {xs ms : List Int} {s y : Int} (hn : xs.Nodup) (hs : s = 0 ∨ s ∈ xs) : y ∈ insL xs s ms ↔ y ∈ xs ∨ y ∈ ms := by
  obtain ⟨a, b, e, h1, -⟩ := insL_form (ms := ms) hn hs
  rw [h1, e]
  simp only [List.mem_append]
  constructor
  · rintro (h | h | h)
    · exact .inl (.inl h)
    · exact .inr h
    · exact .inl (.inr h)
  · rintro ((h | h) | h)
    · exact .inl h
    · exact .inr (.inr h)
    · exact .inr (.inl h)
theorem insL_nodup {xs ms : List Int} {s : Int} (hn : xs.Nodup) (hm : ms.Nodup) (hd : ∀ y, y ∈ ms → y ∉ xs) (hs : s = 0 ∨ s ∈ xs) : (insL xs s ms).Nodup := by
  obtain ⟨a, b, e, h1, -⟩ := insL_form (ms := ms) hn hs
  rw [h1]
  subst e
  obtain ⟨q1, q2, q3⟩ := List.nodup_append.1 hn
  refine List.nodup_append.2 ⟨q1, List.nodup_append.2 ⟨hm, q2, fun x hx y hy e => ?_⟩, fun x hx y hy e => ?_⟩
  · subst e
    exact hd x hx (List.mem_append.2 (.inr hy))
  · subst e
    rcases List.mem_append.1 hy with hy | hy
    · exact hd x hy (List.mem_append.2 (.inl hx))
    · exact q3 x hx x hy rfl
theorem insL_out {xs ms : List Int} {s : Int} (hn : xs.Nodup) (hd : ∀ y, y ∈ ms → y ∉ xs) (hs : s = 0 ∨ s ∈ xs) : (insL xs s ms).filter (fun y => !hasB ms y) = xs ∧ (insL xs s ms).filter (fun y => hasB ms y) = ms := by
  obtain ⟨a, b, e, h1, -⟩ := insL_form (ms := ms) hn hs
  rw [h1]
  subst e
  have ha : ∀ y ∈ a, hasB ms y = false := fun y hy => hasB_no fun h => hd y h (List.mem_append.2 (.inl hy))
  have hb : ∀ y ∈ b, hasB ms y = false := fun y hy => hasB_no fun h => hd y h (List.mem_append.2 (.inr hy))
  have hm : ∀ y ∈ ms, hasB ms y = true := fun y hy => hasB_yes hy
  have f1 : a.filter (fun y => !hasB ms y) = a := List.filter_eq_self.2 fun y hy => by rw [ha y hy]; rfl
  have f2 : b.filter (fun y => !hasB ms y) = b := List.filter_eq_self.2 fun y hy => by rw [hb y hy]; rfl
  have f3 : ms.filter (fun y => !hasB ms y) = [] := List.filter_eq_nil_iff.2 fun y hy => by rw [hm y hy]; decide
  have f4 : a.filter (fun y => hasB ms y) = [] := List.filter_eq_nil_iff.2 fun y hy => by rw [ha y hy]; decide
  have f5 : b.filter (fun y => hasB ms y) = [] := List.filter_eq_nil_iff.2 fun y hy => by rw [hb y hy]; decide
  have f6 : ms.filter (fun y => hasB ms y) = ms := List.filter_eq_self.2 fun y hy => hm y hy
  rw [List.filter_append, List.filter_append, List.filter_append, List.filter_append, f1, f2, f3, f4, f5, f6]
  simp

theorem chk_ne (T : Tree l) (h : chkErr l n p c = 0) : n ≠ p := fun e => by
  obtain ⟨h1, h2, _, h4, _⟩ := chk_zero h
  subst e
  exact h4 (over_self T h1)
theorem move_there (T : Tree l) (hn : thereB l n = true) : ∀ m ∈ moveL l n, thereB l m = true := by
  intro m hm
  unfold moveL at hm
  split at hm
  · exact (T.kid n hn m hm).1
  · rw [List.mem_singleton.1 hm]; exact hn
theorem move_once (T : Tree l) (hn : thereB l n = true) : (moveL l n).Nodup := by
  unfold moveL
  split
  · exact T.once n hn
  · simp
theorem move_over (T : Tree l) (h : chkErr l n p c = 0) : ∀ m ∈ moveL l n, m ∉ over l p := by
  obtain ⟨hn, hp, _, h4, _⟩ := chk_zero h
  intro m hm ho
  unfold moveL at hm
  split at hm
  · obtain ⟨h1, h2⟩ := T.kid n hn m hm
    have e : upOf l m = n := by unfold upOf; rw [if_neg (by rw [h2]; exact there_pos hn), h2]
    have := up_next _ p m ho (by rw [e]; exact hn)
    rw [e] at this
    exact h4 (up_all T.ends this)
  · rw [List.mem_singleton.1 hm] at ho
    exact h4 ho
theorem move_kind (T : Tree l) (h : chkErr l n p c = 0) : ∀ m ∈ moveL l n, (nd l m).kind ≠ 1 ∧ (nd l m).kind ≠ 3 := by
  obtain ⟨hn, hp, _, _, k1, k3⟩ := chk_zero h
  intro m hm
  unfold moveL at hm
  split at hm
  · have := kid_out T hn hm
    exact ⟨this.1, this.2.1⟩
  · rw [List.mem_singleton.1 hm]
    exact ⟨k1, k3⟩
theorem loose_over (T : Tree l) (h : chkErr l n p c = 0) : over (looseL l n) p = over l p := by
  obtain ⟨hn, _⟩ := chk_zero h
  unfold over
  rw [loose_len]
  refine up_same (loose_len n) _ p fun x hx => ?_
  have hm := fun m hm => move_over T h m hm
  have hx' : x ∉ moveL l n := fun e => hm x e hx
  have ht : thereB l x = true := up_there _ _ _ hx
  unfold upOf
  rw [loose_nd T hn ht, if_neg hx']
  rfl
theorem loose_kids (T : Tree l) (h : chkErr l n p c = 0) : (nd (looseL l n) p).kids = (nd l p).kids.filter fun y => !hasB (moveL l n) y := by
  obtain ⟨hn, hp, _⟩ := chk_zero h
  have hne := chk_ne T h
  rw [loose_nd T hn hp]
  show (if (nd l n).kind = 4 then (if p = n then [] else (nd l p).kids) else if p = (nd l n).parent then lessL (nd l p).kids n else (nd l p).kids) = _
  by_cases h4 : (nd l n).kind = 4
  · rw [if_pos h4, if_neg (fun e => hne e.symm)]
    refine (List.filter_eq_self.2 fun y hy => ?_).symm
    have : hasB (moveL l n) y = false := hasB_no fun hm => by
      unfold moveL at hm
      rw [if_pos h4] at hm
      exact hne ((T.kid n hn y hm).2.symm.trans (T.kid p hp y hy).2)
    rw [this]
    rfl
  · have e : (fun y => !hasB (moveL l n) y) = fun y => decide (y ≠ n) := by
      funext y
      unfold moveL hasB
      rw [if_neg h4]
      by_cases q : y = n <;> simp [q]
    rw [if_neg h4, e]
    by_cases q : p = (nd l n).parent
    · rw [if_pos q]; rfl
    · rw [if_neg q]
      exact (lessL_same fun hm => q ((T.kid p hp n hm).2.symm)).symm
theorem loose_once (hg : Good l) (h : chkErr l n p c = 0) : (nd (looseL l n) p).kids.Nodup := by
  obtain ⟨hn, hp, _⟩ := chk_zero h
  exact (good_loose hg).tree.once p (by rw [loose_there]; exact hp)
theorem move_apart (T : Tree l) (h : chkErr l n p c = 0) : ∀ y, y ∈ moveL l n → y ∉ (nd (looseL l n) p).kids := by
  intro y hy hm
  rw [loose_kids T h, List.mem_filter, hasB_yes hy] at hm
  cases hm.2
theorem seat_in (T : Tree l) (h : chkErr l n p c = 0) : seatL l n c = 0 ∨ seatL l n c ∈ (nd (looseL l n) p).kids := by
  obtain ⟨hn, hp, hc, _⟩ := chk_zero h
  have hne := chk_ne T h
  have other : ∀ y, y ∈ (nd l p).kids → y ≠ n → y ∈ (nd (looseL l n) p).kids := fun y hy hyn => by
    rw [loose_kids T h, List.mem_filter]
    refine ⟨hy, ?_⟩
    have : hasB (moveL l n) y = false := hasB_no fun hm => by
      unfold moveL at hm
      split at hm
      · exact hne ((T.kid n hn y hm).2.symm.trans (T.kid p hp y hy).2)
      · exact hyn (List.mem_singleton.1 hm)
    rw [this]
    rfl
  unfold seatL
  by_cases q : c = n
  · rw [if_pos q]
    have hc0 : c ≠ 0 := by rw [q]; exact there_pos hn
    have hpar : (nd l n).parent = p := by have := (hc hc0).2; rwa [q] at this
    have hrow : rowL l n = (nd l p).kids := by unfold rowL; rw [if_pos hn, hpar, if_pos hp]
    have hin : n ∈ (nd l p).kids := (kid_iff T hp hn).2 hpar
    have hnd := T.once p hp
    rw [hrow]
    obtain ⟨a, b, e, h1, h2, h3⟩ := cut_at hin hnd
    rw [e] at h3 other ⊢
    rw [next_cut h3]
    cases b with
    | nil => exact .inl rfl
    | cons y b =>
      refine .inr (other y (by simp) fun ey => h2 (by rw [← ey]; simp))
  · rw [if_neg q]
    by_cases h0 : c = 0
    · exact .inl h0
    · exact .inr (other c ((kid_iff T hp (hc h0).1).2 (hc h0).2) q)

/-- The children then. -/
def newK (l : List Nd) (n p c : Int) : List Int := insL (nd (looseL l n) p).kids (seatL l n c) (moveL l n)
theorem newK_mem (hg : Good l) (h : chkErr l n p c = 0) {y : Int} : y ∈ newK l n p c ↔ y ∈ (nd (looseL l n) p).kids ∨ y ∈ moveL l n := insL_mem (loose_once hg h) (seat_in hg.tree h)
theorem newK_once (hg : Good l) (h : chkErr l n p c = 0) : (newK l n p c).Nodup := insL_nodup (loose_once hg h) (move_once hg.tree (chk_zero h).1) (move_apart hg.tree h) (seat_in hg.tree h)
theorem newK_there (hg : Good l) (h : chkErr l n p c = 0) : ∀ y ∈ newK l n p c, thereB l y = true := by
  obtain ⟨hn, hp, _⟩ := chk_zero h
  intro y hy
  rcases (newK_mem hg h).1 hy with hy | hy
  · have := ((good_loose hg).tree.kid p (by rw [loose_there (l := l) n]; exact hp) y hy).1
    rwa [loose_there] at this
  · exact move_there hg.tree hn y hy
theorem newK_len (hg : Good l) (h : chkErr l n p c = 0) : (newK l n p c).length ≤ 128 := Nat.le_trans (nodup_len (newK_once hg h) (newK_there hg h)) hg.len
theorem newK_err (hg : Good l) (h : chkErr l n p c = 0) : putErr (looseL l n) p (newK l n p c) = 0 := by
  obtain ⟨hn, hp, _⟩ := chk_zero h
  have T1 := (good_loose (n := n) hg).tree
  have hp1 : thereB (looseL l n) p = true := by rw [loose_there]; exact hp
  refine put_fits hp1 (newK_once hg h) (fun k hk => by rw [loose_there]; exact newK_there hg h k hk) fun k hk => ?_
  rcases (newK_mem hg h).1 hk with hk | hk
  · exact kid_out T1 hp1 hk
  · have hkt := move_there hg.tree hn k hk
    have hkk := move_kind hg.tree h k hk
    rw [loose_over hg.tree h, loose_nd hg.tree hn hkt]
    exact ⟨hkk.1, hkk.2, move_over hg.tree h k hk, .inl (if_pos hk)⟩
theorem bef_zero (h : chkErr l n p c = 0) : befL l n p c = putL (looseL l n) p (newK l n p c) := if_pos h
theorem bef_err (h : chkErr l n p c ≠ 0) : befL l n p c = l := if_neg h
theorem good_bef (hg : Good l) : Good (befL l n p c) := by
  by_cases h : chkErr l n p c = 0
  · rw [bef_zero h]
    exact good_put (good_loose hg) (Nat.le_trans (newK_len hg h) (by decide))
  · rw [bef_err h]
    exact hg
theorem bef_len : (befL l n p c).length = l.length := by
  unfold befL
  split
  · rw [putL_length, loose_len]
  · rfl
theorem bef_there (k : Int) : thereB (befL l n p c) k = thereB l k := there_len bef_len
theorem bef_nd (hg : Good l) (h : chkErr l n p c = 0) {k : Int} (hk : thereB l k = true) :
    nd (befL l n p c) k = (nd l k).re (if k ∈ moveL l n then p else (nd l k).parent) (if k = p then newK l n p c else if (nd l n).kind = 4 then (if k = n then [] else (nd l k).kids) else if k = (nd l n).parent then lessL (nd l k).kids n else (nd l k).kids) := by
  obtain ⟨hn, hp, _⟩ := chk_zero h
  have T1 := (good_loose (n := n) hg).tree
  have hp1 : thereB (looseL l n) p = true := by rw [loose_there]; exact hp
  have hk1 : thereB (looseL l n) k = true := by rw [loose_there]; exact hk
  have e1 : (if k ∈ newK l n p c then p else if (nd (looseL l n) k).parent = p then 0 else (nd (looseL l n) k).parent) = if k ∈ moveL l n then p else (nd l k).parent := by
    by_cases m : k ∈ moveL l n
    · rw [if_pos m, if_pos ((newK_mem hg h).2 (.inr m))]
    · have e : (nd (looseL l n) k).parent = (nd l k).parent := by rw [loose_nd hg.tree hn hk]; exact if_neg m
      rw [if_neg m]
      by_cases q : k ∈ (nd (looseL l n) p).kids
      · rw [if_pos ((newK_mem hg h).2 (.inl q)), ← e]
        exact (T1.kid p hp1 k q).2.symm
      · rw [if_neg (fun hm => ((newK_mem hg h).1 hm).elim q m), if_neg (fun e' => q ((kid_iff T1 hp1 hk1).2 e')), e]
  rw [bef_zero h, put_re (newK_err hg h) hk1, e1, loose_nd hg.tree hn hk]
  rfl
theorem newK_sorted (hg : Good l) (h : chkErr l n p c = 0) : (newK l n p c).filter (fun y => !hasB (moveL l n) y) = (nd l p).kids.filter (fun y => !hasB (moveL l n) y) ∧ (newK l n p c).filter (fun y => hasB (moveL l n) y) = moveL l n := by
  have := insL_out (ms := moveL l n) (loose_once hg h) (move_apart hg.tree h) (seat_in hg.tree h)
  rw [← loose_kids hg.tree h]
  exact this
end
end Go.Proofs.Ytojcchjhimagiaa

namespace Go.Proofs.Ytojcchjhimagiaa
open Go Go.RowKit

/-- One more to go. -/
def oneIf (i : Int) : Nat := if i = 0 then 0 else 1
theorem oneIf_ne {i : Int} (h : i ≠ 0) : oneIf i = 1 := if_neg h
theorem oneIf_le (i : Int) : oneIf i ≤ 1 := by unfold oneIf; split <;> omega
section
variable {Rep : (Nat → Prop) → World → Nat → List Nd → Prop} {S : Nat → Prop} {w : World} {b : Nat} {l : List Nd}
set_option maxHeartbeats 4000000 in
set_option maxRecDepth 100000 in
theorem vaHost (O : ForestOk Rep) (M : ForestMore Rep) (x id : Int) (h : Rep S w b l) (hg : Good l) :
    Calls Try.prog 61 #[at_ b, .int .i64 x, .int .i64 id] w fun e w' => e = .returned (.bool (hasB (over l id) x)) ∧ Below w.heap.size w w' := by
  have H := Lib.hid h
  have Hg := Lib.hid hg
  obtain ⟨R, hR⟩ : ∃ R, R = hasB (over l id) x := ⟨_, rfl⟩
  rw [← hR]
  have HR := Lib.hid hR.symm
  clear h hg hR
  go_enter Try.func61, Try.ntmps61
  go_wp2_with fail
  go_loopw [2] (fun a wr => ∃ i : Int, a = .int .i64 i ∧ hasB (over l i) x = R ∧ Below w.heap.size w wr) (fun a _ => (over l (intOf a)).length + oneIf (intOf a))
  case atStart => exact ⟨id, rfl, HR.out, Below.refl _ _⟩
  case round =>
    obtain ⟨i, rfl, hi, hb⟩ := hrel
    have Hi := Lib.hid hi
    have Hb := Lib.hid hb
    have Hrep := Lib.hid (O.since H.out hb)
    clear hi hb HR
    by_cases h0 : i = 0
    · subst h0
      have e0 : R = false := by
        rw [← Hi.out, over_zero]
        rfl
      subst e0
      go_wp2
      go_ret
      exact ⟨rfl, Hb.out⟩
    · have z0 : (i != 0) = true := by simpa using h0
      go_wp2_with fail
      refine (kinAbove O M x i Hrep.out Hg.out).mono ?_
      rintro e w1 ⟨rfl, hb1⟩
      have Hb1 := Lib.hid (Hb.out.trans (hb1.mono Hb.out.size))
      have Hrep1 := Lib.hid (O.since Hrep.out hb1)
      clear hb1 Hrep
      cases ha : hasB (parL l i) x with
      | true =>
        have e0 : R = true := by
          rw [← Hi.out]
          exact over_hit Hg.out.tree ha
        subst e0
        clear ha
        go_wp2
        go_ret
        exact ⟨rfl, Hb1.out⟩
      | false =>
        have Ha := Lib.hid ha
        clear ha
        go_wp2_with fail
        refine (kinRoot O M i Hrep1.out Hg.out).mono ?_
        rintro e w2 ⟨rfl, hb2⟩
        have Hb2 := Lib.hid (Hb1.out.trans (hb2.mono Hb1.out.size))
        have Hrep2 := Lib.hid (O.since Hrep1.out hb2)
        clear hb2 Hrep1 Hb1
        cases ht : thereB l i with
        | true =>
          have hrt := rootL_there Hg.out.tree ht
          have e1 := over_miss Hg.out.tree ht Ha.out
          have e2 := over_less Hg.out.tree ht
          obtain ⟨r, hr⟩ : ∃ r, r = rootL l i := ⟨_, rfl⟩
          rw [← hr] at hrt e1 e2
          rw [← hr]
          have E1 := Lib.hid (e1.symm.trans Hi.out)
          have E2 := Lib.hid e2
          have Hrt := Lib.hid hrt
          clear hr hrt e1 e2 ht
          go_wp2_with fail
          refine (nodeYes M Hrep2.out Hg.out Hrt.out).mono ?_
          rintro e w3 ⟨A3, c3, rfl, -, hb3⟩
          obtain ⟨d, hd⟩ : ∃ d, d = nd l r := ⟨_, rfl⟩
          rw [← hd] at E1 E2
          rw [← hd]
          have HB3 : Hid (Below w.heap.size w (w3.alloc (.cells #[.int .i64 d.kind, .int .i64 d.parent, .int .i64 d.host, .int .i64 d.shadow, .int .i64 d.mode, .bool d.slot, .string d.name, .string d.want, .slice A3 d.kids.length c3] 45))) := Lib.hid ((Hb2.out.trans (hb3.mono Hb2.out.size)).alloc (Nat.le_trans Hb2.out.size hb3.size) _)
          clear hd hb3
          go_wp2
          go_roundw
          case rel => exact ⟨_, rfl, E1.out, HB3.out⟩
          case measure =>
            simp only [intOf]
            have := E2.out
            have := oneIf_le d.host
            rw [oneIf_ne h0]
            omega
        | false =>
          have e1 := rootL_no ht
          have e2 : R = false := by rw [← Hi.out, over_none ht]; rfl
          rw [e1]
          have E2 := Lib.hid e2
          clear e1 e2 ht
          go_wp2_with fail
          refine (nodeNo M Hrep2.out Hg.out (there_zero l)).mono ?_
          rintro e w3 ⟨A3, c3, rfl, -, hb3⟩
          have HB3 : Hid (Below w.heap.size w (w3.alloc (.cells #[.int .i64 0, .int .i64 0, .int .i64 0, .int .i64 0, .int .i64 0, .bool false, .string ⟨#[]⟩, .string ⟨#[]⟩, .slice A3 0 c3] 45))) := Lib.hid ((Hb2.out.trans (hb3.mono Hb2.out.size)).alloc (Nat.le_trans Hb2.out.size hb3.size) _)
          clear hb3
          go_wp2
          go_roundw
          case rel => exact ⟨0, rfl, by rw [over_zero, E2.out]; rfl, HB3.out⟩
          case measure =>
            simp only [intOf]
            rw [over_zero, oneIf_ne h0, show oneIf 0 = 0 from rfl]
            exact Nat.succ_pos _
end
end Go.Proofs.Ytojcchjhimagiaa

namespace Go.Proofs.Ytojcchjhimagiaa
open Go Go.RowKit

section
variable {Rep : (Nat → Prop) → World → Nat → List Nd → Prop} {S : Nat → Prop} {w : World} {b : Nat} {l : List Nd}
set_option maxHeartbeats 2000000 in
theorem vaElements (O : ForestOk Rep) (M : ForestMore Rep) (n : Int) (h : Rep S w b l) (hg : Good l) (ht : thereB l n = true) :
    Calls Try.prog 71 #[at_ b, .int .i64 n] w fun e w' => e = .returned (.int .i64 (moreL l n)) ∧ Below w.heap.size w w' := by
  have H := Lib.hid h
  have Hg := Lib.hid hg
  have Ht := Lib.hid ht
  obtain ⟨R, hR⟩ : ∃ R, R = moreL l n := ⟨_, rfl⟩
  rw [← hR]
  unfold moreL at hR
  obtain ⟨d, hd⟩ : ∃ d, d = nd l n := ⟨_, rfl⟩
  rw [← hd] at hR
  have Hd := Lib.hid hd
  clear h hg ht hd
  go_enter Try.func71, Try.ntmps71
  go_wp2_with fail
  refine (nodeYes M H.out Hg.out Ht.out).mono ?_
  rintro e w1 ⟨A1, c1, rfl, -, hb1⟩
  rw [← Hd.out]
  have hb2 : Below w.heap.size w (w1.alloc (.cells #[.int .i64 d.kind, .int .i64 d.parent, .int .i64 d.host, .int .i64 d.shadow, .int .i64 d.mode, .bool d.slot, .string d.name, .string d.want, .slice A1 d.kids.length c1] 45)) := hb1.alloc hb1.size _
  have Hb2 := Lib.hid hb2
  have HR2 := Lib.hid (O.since H.out hb2)
  clear hb1 hb2
  by_cases hk : d.kind = 4
  · rw [if_pos hk] at hR
    have HR := Lib.hid hR
    have z1 : (d.kind == 4) = true := by simpa using hk
    clear hR hk
    go_wp2_with fail
    refine (kinCount O M n 2 HR2.out Hg.out).mono ?_
    rintro e w3 ⟨rfl, hb3⟩
    have Hb3 := Lib.hid (Hb2.out.trans (hb3.mono Hb2.out.size))
    clear hb3
    go_wp2
    go_ret
    rw [HR.out]
    exact ⟨rfl, Hb3.out⟩
  · rw [if_neg hk] at hR
    have z1 : (d.kind == 4) = false := by simpa using hk
    subst hR
    clear hk
    go_wp2
    go_ret
    exact ⟨rfl, Hb2.out⟩
set_option maxHeartbeats 2000000 in
theorem vaCrowds (O : ForestOk Rep) (M : ForestMore Rep) (n p : Int) (h : Rep S w b l) (hg : Good l) (ht : thereB l n = true) :
    Calls Try.prog 62 #[at_ b, .int .i64 n, .int .i64 p] w fun e w' => e = .returned (.bool (crowdB l n p)) ∧ Below w.heap.size w w' := by
  have H := Lib.hid h
  have Hg := Lib.hid hg
  have Ht := Lib.hid ht
  obtain ⟨R, hR⟩ : ∃ R, R = crowdB l n p := ⟨_, rfl⟩
  rw [← hR]
  unfold crowdB at hR
  have hm1 : moreL l n ≤ 200 := by
    unfold moreL
    split
    · exact cntL_few hg.few _ _
    · omega
  have hm2 : cntL l 2 (kidsL l p) ≤ 200 := cntL_few hg.few _ _
  have C1 := Lib.hid (vaElements O M n h hg ht)
  have C2 := Lib.hid (fun (w1 : World) (hb : Below w.heap.size w w1) => kinCount O M p 2 (O.since h hb) hg)
  obtain ⟨k, hk⟩ : ∃ k, k = moreL l n := ⟨_, rfl⟩
  obtain ⟨m, hm⟩ : ∃ m, m = cntL l 2 (kidsL l p) := ⟨_, rfl⟩
  rw [← hk] at hm1 hR C1
  rw [← hm] at hm2 hR C2
  clear h hg ht hk hm
  go_enter Try.func62, Try.ntmps62
  go_wp2_with fail
  refine C1.out.mono ?_
  rintro e w1 ⟨rfl, hb1⟩
  have Hb1 := Lib.hid hb1
  clear hb1
  by_cases h0 : k = 0
  · subst h0
    have e0 : R = false := by rw [hR]; exact decide_eq_false (by omega)
    subst e0
    clear hR
    go_wp2
    go_ret
    exact ⟨rfl, Hb1.out⟩
  · have e0 : R = decide ((1 : Int) < (k : Int) + m) := by
      rw [hR, decide_eq_decide]
      omega
    have E0 := Lib.hid e0
    have z1 : (0 : Int) < k := by omega
    clear hR h0 e0
    go_wp2_with fail
    refine (C2.out w1 Hb1.out).mono ?_
    rintro e w2 ⟨rfl, hb2⟩
    have Hb2 := Lib.hid (Hb1.out.trans (hb2.mono Hb1.out.size))
    clear hb2
    go_wp2
    go_ret
    rw [E0.out]
    exact ⟨rfl, Hb2.out⟩
end
end Go.Proofs.Ytojcchjhimagiaa

namespace Go.Proofs.Ytojcchjhimagiaa
open Go Go.RowKit

theorem chk_arg {l : List Nd} {n p c : Int} (h : thereB l n = false ∨ thereB l p = false ∨ (c ≠ 0 ∧ thereB l c = false)) : chkErr l n p c = 1 := if_pos h
theorem chk_on {l : List Nd} {n p c : Int} (h : ¬ (thereB l n = false ∨ thereB l p = false ∨ (c ≠ 0 ∧ thereB l c = false))) : chkErr l n p c = if hasB (over l p) n = true then 3 else if c ≠ 0 ∧ (nd l c).parent ≠ p then 4 else if (nd l n).kind = 1 ∨ (nd l n).kind = 3 then 3 else if (nd l p).kind = 1 ∧ crowdB l n p = true then 3 else 0 := if_neg h

section
variable {Rep : (Nat → Prop) → World → Nat → List Nd → Prop} {S : Nat → Prop} {w : World} {b : Nat} {l : List Nd}
set_option maxHeartbeats 4000000 in
set_option maxRecDepth 100000 in
theorem vaCheck (O : ForestOk Rep) (M : ForestMore Rep) (n p c : Int) (h : Rep S w b l) (hg : Good l) :
    Calls Try.prog 35 #[at_ b, .int .i64 n, .int .i64 p, .int .i64 c] w fun e w' => e = .returned (.int .i64 (chkErr l n p c)) ∧ Below w.heap.size w w' := by
  have H := Lib.hid h
  have Hg := Lib.hid hg
  have hnot : ∀ (x : Bool) (w : World), (Op.unary .not (.bool x)).run Try.prog w = .ok (.bool (!x)) w := fun _ _ => rfl
  obtain ⟨R, hR⟩ : ∃ R, R = chkErr l n p c := ⟨_, rfl⟩
  rw [← hR]
  have HR := Lib.hid hR
  clear h hg hR
  go_enter Try.func35, Try.ntmps35
  go_wp2_with fail
  refine (M.node S w b l n H.out Hg.out).mono ?_
  rintro e w1 ⟨d1, A1, k1, rfl, hd1, -, hb1⟩
  have hB1 : Below w.heap.size w (w1.alloc (.cells #[.int .i64 d1.kind, .int .i64 d1.parent, .int .i64 d1.host, .int .i64 d1.shadow, .int .i64 d1.mode, .bool d1.slot, .string d1.name, .string d1.want, .slice A1 d1.kids.length k1] 45)) := hb1.alloc hb1.size _
  have hX1 : Has (w1.alloc (.cells #[.int .i64 d1.kind, .int .i64 d1.parent, .int .i64 d1.host, .int .i64 d1.shadow, .int .i64 d1.mode, .bool d1.slot, .string d1.name, .string d1.want, .slice A1 d1.kids.length k1] 45)) w1.heap.size (.cells #[.int .i64 d1.kind, .int .i64 d1.parent, .int .i64 d1.host, .int .i64 d1.shadow, .int .i64 d1.mode, .bool d1.slot, .string d1.name, .string d1.want, .slice A1 d1.kids.length k1] 45 (0, 0)) := Has.fresh _ _
  have B1 := Lib.hid hB1
  have X1 := Lib.hid hX1
  have D1 := Lib.hid hd1
  clear hb1 hB1 hX1 hd1
  go_wp2_with fail
  obtain ⟨W1, hW1⟩ : ∃ W, W = w1.alloc (.cells #[.int .i64 d1.kind, .int .i64 d1.parent, .int .i64 d1.host, .int .i64 d1.shadow, .int .i64 d1.mode, .bool d1.slot, .string d1.name, .string d1.want, .slice A1 d1.kids.length k1] 45) := ⟨_, rfl⟩
  rw [← hW1] at B1 X1
  rw [← hW1]
  clear hW1
  obtain ⟨g1, hg1⟩ : ∃ g, g = w1.heap.size := ⟨_, rfl⟩
  rw [← hg1] at X1
  rw [← hg1]
  clear hg1
  refine (M.node S W1 b l p (O.since H.out B1.out) Hg.out).mono ?_
  rintro e w2 ⟨d2, A2, k2, rfl, hd2, -, hb2⟩
  have hbb2 := B1.out.trans (hb2.mono B1.out.size)
  have hB2 : Below w.heap.size w (w2.alloc (.cells #[.int .i64 d2.kind, .int .i64 d2.parent, .int .i64 d2.host, .int .i64 d2.shadow, .int .i64 d2.mode, .bool d2.slot, .string d2.name, .string d2.want, .slice A2 d2.kids.length k2] 45)) := hbb2.alloc hbb2.size _
  have hX2 : Has (w2.alloc (.cells #[.int .i64 d2.kind, .int .i64 d2.parent, .int .i64 d2.host, .int .i64 d2.shadow, .int .i64 d2.mode, .bool d2.slot, .string d2.name, .string d2.want, .slice A2 d2.kids.length k2] 45)) w2.heap.size (.cells #[.int .i64 d2.kind, .int .i64 d2.parent, .int .i64 d2.host, .int .i64 d2.shadow, .int .i64 d2.mode, .bool d2.slot, .string d2.name, .string d2.want, .slice A2 d2.kids.length k2] 45 (0, 0)) := Has.fresh _ _
  have hX1 : Has (w2.alloc (.cells #[.int .i64 d2.kind, .int .i64 d2.parent, .int .i64 d2.host, .int .i64 d2.shadow, .int .i64 d2.mode, .bool d2.slot, .string d2.name, .string d2.want, .slice A2 d2.kids.length k2] 45)) g1 (.cells #[.int .i64 d1.kind, .int .i64 d1.parent, .int .i64 d1.host, .int .i64 d1.shadow, .int .i64 d1.mode, .bool d1.slot, .string d1.name, .string d1.want, .slice A1 d1.kids.length k1] 45 (0, 0)) := (X1.out.below hb2 X1.out.inside).more _
  have B2 := Lib.hid hB2
  have X2 := Lib.hid hX2
  have D2 := Lib.hid hd2
  clear X1
  have X1 := Lib.hid hX1
  clear hb2 hB2 hX2 hd2 hX1 hbb2 B1
  go_wp2_with fail
  obtain ⟨W2, hW2⟩ : ∃ W, W = w2.alloc (.cells #[.int .i64 d2.kind, .int .i64 d2.parent, .int .i64 d2.host, .int .i64 d2.shadow, .int .i64 d2.mode, .bool d2.slot, .string d2.name, .string d2.want, .slice A2 d2.kids.length k2] 45) := ⟨_, rfl⟩
  rw [← hW2] at B2 X1 X2
  rw [← hW2]
  clear hW2
  obtain ⟨g2, hg2⟩ : ∃ g, g = w2.heap.size := ⟨_, rfl⟩
  rw [← hg2] at X2
  rw [← hg2]
  clear hg2
  refine (M.node S W2 b l c (O.since H.out B2.out) Hg.out).mono ?_
  rintro e w3 ⟨d3, A3, k3, rfl, hd3, -, hb3⟩
  have hbb3 := B2.out.trans (hb3.mono B2.out.size)
  have hB3 : Below w.heap.size w (w3.alloc (.cells #[.int .i64 d3.kind, .int .i64 d3.parent, .int .i64 d3.host, .int .i64 d3.shadow, .int .i64 d3.mode, .bool d3.slot, .string d3.name, .string d3.want, .slice A3 d3.kids.length k3] 45)) := hbb3.alloc hbb3.size _
  have hX3 : Has (w3.alloc (.cells #[.int .i64 d3.kind, .int .i64 d3.parent, .int .i64 d3.host, .int .i64 d3.shadow, .int .i64 d3.mode, .bool d3.slot, .string d3.name, .string d3.want, .slice A3 d3.kids.length k3] 45)) w3.heap.size (.cells #[.int .i64 d3.kind, .int .i64 d3.parent, .int .i64 d3.host, .int .i64 d3.shadow, .int .i64 d3.mode, .bool d3.slot, .string d3.name, .string d3.want, .slice A3 d3.kids.length k3] 45 (0, 0)) := Has.fresh _ _
  have hX2 : Has (w3.alloc (.cells #[.int .i64 d3.kind, .int .i64 d3.parent, .int .i64 d3.host, .int .i64 d3.shadow, .int .i64 d3.mode, .bool d3.slot, .string d3.name, .string d3.want, .slice A3 d3.kids.length k3] 45)) g2 (.cells #[.int .i64 d2.kind, .int .i64 d2.parent, .int .i64 d2.host, .int .i64 d2.shadow, .int .i64 d2.mode, .bool d2.slot, .string d2.name, .string d2.want, .slice A2 d2.kids.length k2] 45 (0, 0)) := (X2.out.below hb3 X2.out.inside).more _
  have hX1 : Has (w3.alloc (.cells #[.int .i64 d3.kind, .int .i64 d3.parent, .int .i64 d3.host, .int .i64 d3.shadow, .int .i64 d3.mode, .bool d3.slot, .string d3.name, .string d3.want, .slice A3 d3.kids.length k3] 45)) g1 (.cells #[.int .i64 d1.kind, .int .i64 d1.parent, .int .i64 d1.host, .int .i64 d1.shadow, .int .i64 d1.mode, .bool d1.slot, .string d1.name, .string d1.want, .slice A1 d1.kids.length k1] 45 (0, 0)) := (X1.out.below hb3 X1.out.inside).more _
  have B3 := Lib.hid hB3
  have X3 := Lib.hid hX3
  have D3 := Lib.hid hd3
  clear X1 X2
  have X1 := Lib.hid hX1
  have X2 := Lib.hid hX2
  clear hb3 hB3 hX3 hd3 hX2 hX1 hbb3 B2
  have HR3 := Lib.hid (O.since H.out B3.out)
  cases t1 : thereB l n with
  | false =>
    have e0 := HR.out.trans (chk_arg (.inl t1))
    subst e0
    go_wp2
    go_ret
    exact ⟨rfl, B3.out⟩
  | true =>
    cases t2 : thereB l p with
    | false =>
      have e0 := HR.out.trans (chk_arg (.inr (.inl t2)))
      subst e0
      go_wp2
      go_ret
      exact ⟨rfl, B3.out⟩
    | true =>
      cases zc : (c != 0) with
      | true =>
        have hc0 : c ≠ 0 := by simpa using zc
        cases t3 : thereB l c with
        | false =>
          have e0 := HR.out.trans (chk_arg (.inr (.inr ⟨hc0, t3⟩)))
          subst e0
          clear hc0
          go_wp2
          go_ret
          exact ⟨rfl, B3.out⟩
        | true =>
          have ed1 : d1 = nd l n := D1.out.trans (if_pos t1)
          have ed2 : d2 = nd l p := D2.out.trans (if_pos t2)
          have ed3 : d3 = nd l c := D3.out.trans (if_pos t3)
          have e0 := HR.out.trans (chk_on (by rw [t1, t2, t3]; simp))
          rw [← ed1, ← ed2, ← ed3] at e0
          have HT1 := Lib.hid t1
          have E0 := Lib.hid e0
          clear e0 ed1 ed2 ed3 t3 t1 t2
          go_wp2_with fail
          refine (vaHost O M n p HR3.out Hg.out).mono ?_
          rintro e w4 ⟨rfl, hb4⟩
          have B4 := Lib.hid (B3.out.trans (hb4.mono B3.out.size))
          have HR4 := Lib.hid (O.since HR3.out hb4)
          have x1 : w4.cell? ⟨g1, 0, none⟩ = some (.int .i64 d1.kind) := (X1.out.below hb4 X1.out.inside).cell 0
          have x2 : w4.cell? ⟨g2, 0, none⟩ = some (.int .i64 d2.kind) := (X2.out.below hb4 X2.out.inside).cell 0
          have x3 : w4.cell? ⟨w3.heap.size, 1, none⟩ = some (.int .i64 d3.parent) := (X3.out.below hb4 X3.out.inside).cell 1
          clear hb4
          cases hh : hasB (over l p) n with
          | true =>
            have e1 := E0.out
            rw [if_pos hh] at e1
            subst e1
            clear x1 x2 x3
            go_wp2
            go_ret
            exact ⟨rfl, B4.out⟩
          | false =>
            have e0 := E0.out
            rw [if_neg (by rw [hh]; decide)] at e0
            clear E0 hh
            by_cases qp : d3.parent = p
            · have zp : (d3.parent != p) = false := by simpa using qp
              rw [if_neg (fun h => h.2 qp)] at e0
              clear qp hc0
              obtain ⟨Y, hY⟩ : ∃ Y, Y = crowdB l n p := ⟨_, rfl⟩
              have HY := Lib.hid hY
              rw [← hY] at e0
              have E0 := Lib.hid e0
              clear e0 hY
              by_cases q1 : d1.kind = 1
              · have e1 := E0.out
                rw [if_pos (.inl q1)] at e1
                subst e1
                have z1 : (d1.kind == 1) = true := by simpa using q1
                clear q1 x2
                go_wp2
                go_ret
                exact ⟨rfl, B4.out⟩
              · have z1 : (d1.kind == 1) = false := by simpa using q1
                by_cases q3 : d1.kind = 3
                · have e1 := E0.out
                  rw [if_pos (.inr q3)] at e1
                  subst e1
                  have z3 : (d1.kind == 3) = true := by simpa using q3
                  clear q1 q3 x2
                  go_wp2
                  go_ret
                  exact ⟨rfl, B4.out⟩
                · have z3 : (d1.kind == 3) = false := by simpa using q3
                  have e1 := E0.out
                  rw [if_neg (fun h => h.elim q1 q3)] at e1
                  clear q1 q3 E0
                  by_cases q2 : d2.kind = 1
                  · have z2 : (d2.kind == 1) = true := by simpa using q2
                    have E1 := Lib.hid e1
                    have Q2 := Lib.hid q2
                    clear e1 q2
                    go_wp2_with fail
                    refine (vaCrowds O M n p HR4.out Hg.out HT1.out).mono ?_
                    rintro e w5 ⟨rfl, hb5⟩
                    rw [← HY.out]
                    have B5 := Lib.hid (B4.out.trans (hb5.mono B4.out.size))
                    clear hb5
                    cases Y with
                    | true =>
                      have e1 := E1.out
                      rw [if_pos ⟨Q2.out, rfl⟩] at e1
                      subst e1
                      go_wp2
                      go_ret
                      exact ⟨rfl, B5.out⟩
                    | false =>
                      have e1 := E1.out
                      rw [if_neg (fun h => absurd h.2 (by decide))] at e1
                      subst e1
                      go_wp2
                      go_ret
                      exact ⟨rfl, B5.out⟩
                  · have z2 : (d2.kind == 1) = false := by simpa using q2
                    rw [if_neg (fun h => q2 h.1)] at e1
                    subst e1
                    clear q2
                    go_wp2
                    go_ret
                    exact ⟨rfl, B4.out⟩
            · have zp : (d3.parent != p) = true := by simpa using qp
              rw [if_pos ⟨hc0, qp⟩] at e0
              subst e0
              clear qp hc0 x1 x2
              go_wp2
              go_ret
              exact ⟨rfl, B4.out⟩
      | false =>
        have hc0 : c = 0 := by simpa using zc
        have ed1 : d1 = nd l n := D1.out.trans (if_pos t1)
        have ed2 : d2 = nd l p := D2.out.trans (if_pos t2)
        have e0 := HR.out.trans (chk_on (by rw [t1, t2]; simp [hc0]))
        rw [← ed1, ← ed2] at e0
        have HT1 := Lib.hid t1
        have E0 := Lib.hid e0
        clear e0 ed1 ed2 t1 t2
        go_wp2_with fail
        refine (vaHost O M n p HR3.out Hg.out).mono ?_
        rintro e w4 ⟨rfl, hb4⟩
        have B4 := Lib.hid (B3.out.trans (hb4.mono B3.out.size))
        have HR4 := Lib.hid (O.since HR3.out hb4)
        have x1 : w4.cell? ⟨g1, 0, none⟩ = some (.int .i64 d1.kind) := (X1.out.below hb4 X1.out.inside).cell 0
        have x2 : w4.cell? ⟨g2, 0, none⟩ = some (.int .i64 d2.kind) := (X2.out.below hb4 X2.out.inside).cell 0
        have x3 : w4.cell? ⟨w3.heap.size, 1, none⟩ = some (.int .i64 d3.parent) := (X3.out.below hb4 X3.out.inside).cell 1
        clear hb4
        cases hh : hasB (over l p) n with
        | true =>
          have e1 := E0.out
          rw [if_pos hh] at e1
          subst e1
          clear x1 x2 x3
          go_wp2
          go_ret
          exact ⟨rfl, B4.out⟩
        | false =>
          have e0 := E0.out
          rw [if_neg (by rw [hh]; decide)] at e0
          clear E0 hh
          rw [if_neg (fun h => h.1 hc0)] at e0
          clear hc0 x3
          obtain ⟨Y, hY⟩ : ∃ Y, Y = crowdB l n p := ⟨_, rfl⟩
          have HY := Lib.hid hY
          rw [← hY] at e0
          have E0 := Lib.hid e0
          clear e0 hY
          by_cases q1 : d1.kind = 1
          · have e1 := E0.out
            rw [if_pos (.inl q1)] at e1
            subst e1
            have z1 : (d1.kind == 1) = true := by simpa using q1
            clear q1 x2
            go_wp2
            go_ret
            exact ⟨rfl, B4.out⟩
          · have z1 : (d1.kind == 1) = false := by simpa using q1
            by_cases q3 : d1.kind = 3
            · have e1 := E0.out
              rw [if_pos (.inr q3)] at e1
              subst e1
              have z3 : (d1.kind == 3) = true := by simpa using q3
              clear q1 q3 x2
              go_wp2
              go_ret
              exact ⟨rfl, B4.out⟩
            · have z3 : (d1.kind == 3) = false := by simpa using q3
              have e1 := E0.out
              rw [if_neg (fun h => h.elim q1 q3)] at e1
              clear q1 q3 E0
              by_cases q2 : d2.kind = 1
              · have z2 : (d2.kind == 1) = true := by simpa using q2
                have E1 := Lib.hid e1
                have Q2 := Lib.hid q2
                clear e1 q2
                go_wp2_with fail
                refine (vaCrowds O M n p HR4.out Hg.out HT1.out).mono ?_
                rintro e w5 ⟨rfl, hb5⟩
                rw [← HY.out]
                have B5 := Lib.hid (B4.out.trans (hb5.mono B4.out.size))
                clear hb5
                cases Y with
                | true =>
                  have e1 := E1.out
                  rw [if_pos ⟨Q2.out, rfl⟩] at e1
                  subst e1
                  go_wp2
                  go_ret
                  exact ⟨rfl, B5.out⟩
                | false =>
                  have e1 := E1.out
                  rw [if_neg (fun h => absurd h.2 (by decide))] at e1
                  subst e1
                  go_wp2
                  go_ret
                  exact ⟨rfl, B5.out⟩
              · have z2 : (d2.kind == 1) = false := by simpa using q2
                rw [if_neg (fun h => q2 h.1)] at e1
                subst e1
                clear q2
                go_wp2
                go_ret
                exact ⟨rfl, B4.out⟩
end
end Go.Proofs.Ytojcchjhimagiaa

namespace Go.Proofs.Ytojcchjhimagiaa
open Go Go.RowKit

section
variable {Rep : (Nat → Prop) → World → Nat → List Nd → Prop} {S : Nat → Prop} {w w1 : World} {b : Nat} {l : List Nd}
/-- A list of the call's own, as one that came in. -/
theorem own_list {base : Nat} {v : Value} {xs : List Int} (h : w.ownsRow base 3 1 v xs.length (xs.map (Value.int .i64))) : ∃ A c, v = .slice A xs.length c ∧ ListIn w A c xs ∧ ∀ g off s, A = some ⟨g, off, s⟩ → base ≤ g ∧ g < w.heap.size := by
  obtain ⟨A, c, rfl, hL⟩ := Kids.list (G := fun _ => True) ⟨own_base h (Nat.zero_le _), fun _ _ => trivial⟩
  refine ⟨A, c, rfl, hL, fun g off s e => ?_⟩
  subst e
  exact h.lt g rfl
theorem Keeps.ofUnder {F : Nat → Prop} (hb : Below w.heap.size w w1) : Keeps F w w1 := Keeps.of_below hb fun _ hi h => absurd hi (Nat.not_lt.2 h)
theorem Keeps.cell {F : Nat → Prop} (k : Keeps F w w1) {p : Addr} (hp : p.block < w.heap.size) (hF : ¬ F p.block) : w1.cell? p = w.cell? p := World.cell?_of_block (w := w) (k.old p.block hp hF)
/-- Put, with a list that was made on the way. -/
theorem ForestOk.putNew (O : ForestOk Rep) (p : Int) (ks : List Int) {A : Option Addr} {c : Nat} (h : Rep S w b l) (hg : Good l) (hS : Fut S w.heap.size) (hb : Below w.heap.size w w1) (hL : ListIn w1 A c ks) (hA : ∀ g off s, A = some ⟨g, off, s⟩ → w.heap.size ≤ g ∧ g < w1.heap.size) (hk : ks.length ≤ 200) :
    Calls Try.prog 30 #[at_ b, .int .i64 p, .slice A ks.length c] w1 fun e w' => e = .returned (.int .i64 (putErr l p ks)) ∧ Rep S w' b (putL l p ks) ∧ Keeps S w w' ∧ Keeps (fun i => S i ∧ i < w.heap.size) w1 w' := by
  have hR0 : Rep (fun i => S i ∧ i < w.heap.size) w b l := O.wide h fun _ hi hlt => ⟨hi, hlt⟩
  have hR1 : Rep (fun i => (S i ∧ i < w.heap.size) ∨ w1.heap.size ≤ i) w1 b l := O.wide (O.below hR0 hb) fun _ hi _ => .inl hi
  refine (O.put _ w1 b l p ks A c hR1 hg (fun i hi => .inr hi) hk hL fun _ g off s e hlt hh => ?_).mono ?_
  · have := hA g off s e
    rcases hh with ⟨_, h⟩ | h <;> omega
  · rintro e w2 ⟨rfl, hR2, hk2⟩
    have hsub : ∀ i, (S i ∧ i < w.heap.size) ∨ w1.heap.size ≤ i → S i := fun i hi => by
      rcases hi with h | h
      · exact h.1
      · exact hS i (Nat.le_trans hb.size h)
    exact ⟨rfl, O.wide hR2 fun i hi _ => hsub i hi, (Keeps.ofUnder hb).trans hk2 fun i _ hi => hsub i hi, hk2.wide fun i hlt hi => hi.resolve_right (Nat.not_le.2 hlt)⟩

/-- What a cut gives. -/
theorem elem_ints : Try.prog.elem 43 = 3 := by kernel_rfl
theorem cut_low (A : Option Addr) (N k a : Nat) (ha : a ≤ k) (w : World) : (Instr.slice 43 (.slice A N k) none (some (.int .i64 (a : Int))) none).run Try.prog w = .ok (.slice A a k) w := by
  have hu : Try.prog.underlying 43 = some (.slice (Try.prog.elem 43)) := by rw [elem_ints]; exact Try.underlying43
  have hs : (sizeOf (Try.prog.elem 43)).run Try.prog w = .ok 1 w := by kernel_rfl
  rw [run_slice_h _ _ _ _ _ hu _ _ (by omega) (by omega), hs]
  simp only [Result.andThen, sliced, Int.toNat_natCast, Nat.sub_zero, Nat.zero_mul]
  by_cases h : k = 0
  · rw [if_pos h]
  · rw [if_neg h]
    cases A with
    | none => rfl
    | some x => simp [Addr.add]
theorem cut_high (A : Option Addr) (N k a : Nat) (ha : a ≤ N) (w : World) : (Instr.slice 43 (.slice A N k) (some (.int .i64 (a : Int))) none none).run Try.prog w = .ok (.slice (if k = a then A else A.map (·.add a)) (N - a) (k - a)) w := by
  have hu : Try.prog.underlying 43 = some (.slice (Try.prog.elem 43)) := by rw [elem_ints]; exact Try.underlying43
  have hs : (sizeOf (Try.prog.elem 43)).run Try.prog w = .ok 1 w := by kernel_rfl
  rw [run_slice_l _ _ _ _ _ hu _ _ (by omega) (by omega), hs]
  simp only [Result.andThen, sliced, Int.toNat_natCast, Nat.mul_one]
theorem ListIn.low {A : Option Addr} {k : Nat} {xa xb : List Int} (h : ListIn w A k (xa ++ xb)) : ListIn w A k xa := by
  refine ⟨Nat.le_trans (by simp) h.cap, h.nil, fun i hi => ?_⟩
  have := h.nums i (by rw [List.length_append]; omega)
  rwa [List.getElem_append_left hi] at this
theorem ListIn.high {A : Option Addr} {k : Nat} {xa xb : List Int} (h : ListIn w A k (xa ++ xb)) : ListIn w (if k = xa.length then A else A.map (·.add xa.length)) (k - xa.length) xb := by
  have hc := h.cap
  rw [List.length_append] at hc
  refine ⟨by omega, fun e => ?_, fun i hi => ?_⟩
  · by_cases hk : k = xa.length
    · omega
    · rw [if_neg hk] at e
      have : A = none := by cases A with
        | none => rfl
        | some x => cases e
      have := h.nil this
      omega
  · obtain ⟨g, off, rfl, hg, hcell⟩ := h.nums (xa.length + i) (by rw [List.length_append]; omega)
    rw [List.getElem_append_right (by omega)] at hcell
    simp only [Nat.add_sub_cancel_left] at hcell
    refine ⟨g, off + xa.length, ?_, hg, by rw [Nat.add_assoc]; exact hcell⟩
    rw [if_neg (by omega)]
    simp [Addr.add]
theorem parts_lit {W : World} {g : Nat} {t : TypeId} {fr : Nat × Nat} {rows : List (List Int × Option Addr × Nat)} (hh : Has W g (.cells (rows.map fun r => Value.slice r.2.1 r.1.length r.2.2).toArray t fr)) (h : ∀ r ∈ rows, ListIn W r.2.1 r.2.2 r.1) : Parts W (some ⟨g, 0, none⟩) (rows.map Prod.fst) := fun i hi => by
  rw [List.length_map] at hi
  refine ⟨g, 0, rows[i].2.1, rows[i].2.2, rfl, hh.inside, ?_, ?_⟩
  · rw [Nat.zero_add, hh.cell i, List.getElem?_toArray, List.getElem?_map, List.getElem?_eq_getElem hi, List.getElem_map]
    rfl
  · rw [List.getElem_map]
    exact h _ (List.getElem_mem hi)

theorem edClear (O : ForestOk Rep) (p : Int) (h : Rep S w b l) (hg : Good l) (hS : Fut S w.heap.size) :
    Calls Try.prog 16 #[at_ b, .int .i64 p] w fun e w' => e = .returned (.int .i64 (putErr l p [])) ∧ Rep S w' b (putL l p []) ∧ Keeps S w w' := by
  have H := Lib.hid (O.put S w b l p [] none 0 h hg hS (Nat.zero_le _) ⟨Nat.le_refl _, fun _ => rfl, fun i hi => absurd hi (Nat.not_lt_zero i)⟩ fun h0 => absurd h0 (by simp))
  clear h hg hS
  go_enter Try.func16, Try.ntmps16
  go_wp2_with fail
  refine H.out.mono ?_
  rintro e w1 ⟨rfl, hR, hk⟩
  go_wp2
  go_ret
  exact ⟨rfl, hR, hk⟩

set_option maxHeartbeats 8000000 in
set_option maxRecDepth 100000 in
theorem edRemove (O : ForestOk Rep) (M : ForestMore Rep) (n p : Int) (h : Rep S w b l) (hg : Good l) (hS : Fut S w.heap.size) :
    Calls Try.prog 14 #[at_ b, .int .i64 n, .int .i64 p] w fun e w' => e = .returned (.int .i64 (rmErr l n p)) ∧ Rep S w' b (rmL l n p) ∧ Keeps S w w' := by
  have H := Lib.hid h
  have Hg := Lib.hid hg
  have HS := Lib.hid hS
  have hnot : ∀ (x : Bool) (w : World), (Op.unary .not (.bool x)).run Try.prog w = .ok (.bool (!x)) w := fun _ _ => rfl
  obtain ⟨R, hR⟩ : ∃ R, R = rmErr l n p := ⟨_, rfl⟩
  obtain ⟨l', hl'⟩ : ∃ l', l' = rmL l n p := ⟨_, rfl⟩
  rw [← hR, ← hl']
  have HR := Lib.hid hR
  have HL := Lib.hid hl'
  clear h hg hS hR hl'
  go_enter Try.func14, Try.ntmps14
  go_wp2_with fail
  refine (M.node S w b l n H.out Hg.out).mono ?_
  rintro e w1 ⟨d1, A1, k1, rfl, hd1, -, hb1⟩
  have hB1 : Below w.heap.size w (w1.alloc (.cells #[.int .i64 d1.kind, .int .i64 d1.parent, .int .i64 d1.host, .int .i64 d1.shadow, .int .i64 d1.mode, .bool d1.slot, .string d1.name, .string d1.want, .slice A1 d1.kids.length k1] 45)) := hb1.alloc hb1.size _
  have hX1 : Has (w1.alloc (.cells #[.int .i64 d1.kind, .int .i64 d1.parent, .int .i64 d1.host, .int .i64 d1.shadow, .int .i64 d1.mode, .bool d1.slot, .string d1.name, .string d1.want, .slice A1 d1.kids.length k1] 45)) w1.heap.size (.cells #[.int .i64 d1.kind, .int .i64 d1.parent, .int .i64 d1.host, .int .i64 d1.shadow, .int .i64 d1.mode, .bool d1.slot, .string d1.name, .string d1.want, .slice A1 d1.kids.length k1] 45 (0, 0)) := Has.fresh _ _
  have B1 := Lib.hid hB1
  have X1 := Lib.hid hX1
  have D1 := Lib.hid hd1
  clear hb1 hB1 hX1 hd1
  go_wp2_with fail
  obtain ⟨W1, hW1⟩ : ∃ W, W = w1.alloc (.cells #[.int .i64 d1.kind, .int .i64 d1.parent, .int .i64 d1.host, .int .i64 d1.shadow, .int .i64 d1.mode, .bool d1.slot, .string d1.name, .string d1.want, .slice A1 d1.kids.length k1] 45) := ⟨_, rfl⟩
  rw [← hW1] at B1 X1
  rw [← hW1]
  clear hW1
  obtain ⟨g1, hg1⟩ : ∃ g, g = w1.heap.size := ⟨_, rfl⟩
  rw [← hg1] at X1
  rw [← hg1]
  clear hg1
  refine (M.node S W1 b l p (O.since H.out B1.out) Hg.out).mono ?_
  rintro e w2 ⟨d2, A2, k2, rfl, hd2, hk2, hb2⟩
  have hbb2 := B1.out.trans (hb2.mono B1.out.size)
  have hB2 : Below w.heap.size w (w2.alloc (.cells #[.int .i64 d2.kind, .int .i64 d2.parent, .int .i64 d2.host, .int .i64 d2.shadow, .int .i64 d2.mode, .bool d2.slot, .string d2.name, .string d2.want, .slice A2 d2.kids.length k2] 45)) := hbb2.alloc hbb2.size _
  have hX2 : Has (w2.alloc (.cells #[.int .i64 d2.kind, .int .i64 d2.parent, .int .i64 d2.host, .int .i64 d2.shadow, .int .i64 d2.mode, .bool d2.slot, .string d2.name, .string d2.want, .slice A2 d2.kids.length k2] 45)) w2.heap.size (.cells #[.int .i64 d2.kind, .int .i64 d2.parent, .int .i64 d2.host, .int .i64 d2.shadow, .int .i64 d2.mode, .bool d2.slot, .string d2.name, .string d2.want, .slice A2 d2.kids.length k2] 45 (0, 0)) := Has.fresh _ _
  have hX1 : Has (w2.alloc (.cells #[.int .i64 d2.kind, .int .i64 d2.parent, .int .i64 d2.host, .int .i64 d2.shadow, .int .i64 d2.mode, .bool d2.slot, .string d2.name, .string d2.want, .slice A2 d2.kids.length k2] 45)) g1 (.cells #[.int .i64 d1.kind, .int .i64 d1.parent, .int .i64 d1.host, .int .i64 d1.shadow, .int .i64 d1.mode, .bool d1.slot, .string d1.name, .string d1.want, .slice A1 d1.kids.length k1] 45 (0, 0)) := (X1.out.below hb2 X1.out.inside).more _
  have hL2 : ListIn (w2.alloc (.cells #[.int .i64 d2.kind, .int .i64 d2.parent, .int .i64 d2.host, .int .i64 d2.shadow, .int .i64 d2.mode, .bool d2.slot, .string d2.name, .string d2.want, .slice A2 d2.kids.length k2] 45)) A2 k2 d2.kids := by
    obtain ⟨A', c', e, hL⟩ := hk2.list
    obtain ⟨rfl, rfl⟩ : A2 = A' ∧ k2 = c' := by injection e with e1 _ e3; exact ⟨e1, e3⟩
    exact hL.below ((Below.refl _ _).alloc (Nat.le_refl _) _)
  have B2 := Lib.hid hB2
  have X2 := Lib.hid hX2
  have D2 := Lib.hid hd2
  have L2 := Lib.hid hL2
  have Hs2 := Lib.hid hbb2.size
  clear X1
  have X1 := Lib.hid hX1
  clear hb2 hB2 hX2 hd2 hX1 hbb2 B1 hk2 hL2
  cases t1 : thereB l n with
  | false =>
    have e0 : R = 1 := by rw [HR.out]; unfold rmErr; rw [if_pos (.inl t1)]
    have e1 : l' = l := by rw [HL.out]; unfold rmL; rw [← HR.out, e0]; rfl
    subst e0
    subst e1
    go_wp2
    go_ret
    exact ⟨rfl, O.since H.out B2.out, Keeps.ofUnder B2.out⟩
  | true =>
    cases t2 : thereB l p with
    | false =>
      have e0 : R = 1 := by rw [HR.out]; unfold rmErr; rw [if_pos (.inr t2)]
      have e1 : l' = l := by rw [HL.out]; unfold rmL; rw [← HR.out, e0]; rfl
      subst e0
      subst e1
      go_wp2
      go_ret
      exact ⟨rfl, O.since H.out B2.out, Keeps.ofUnder B2.out⟩
    | true =>
      have ed1 : d1 = nd l n := D1.out.trans (if_pos t1)
      have ed2 : d2 = nd l p := D2.out.trans (if_pos t2)
      by_cases hp : d1.parent = p
      · have hz : rmErr l n p = 0 := by unfold rmErr; rw [if_neg (by rw [t1, t2]; simp), if_neg (by rw [← ed1]; exact fun h => h hp)]
        have e0 : R = 0 := HR.out.trans hz
        have e1 : l' = putL l p (lessL d2.kids n) := by rw [HL.out]; unfold rmL; rw [if_pos hz, ed2]
        have hin : n ∈ d2.kids := by rw [ed2]; exact (kid_iff Hg.out.tree t2 t1).2 (by rw [← ed1]; exact hp)
        have hrow : rowL l n = d2.kids := by unfold rowL; rw [if_pos t1, ← ed1, hp, if_pos t2, ed2]
        have hput : putErr l p (lessL d2.kids n) = 0 := by rw [ed2]; exact rm_put Hg.out.tree hz
        have hlen : d2.kids.length ≤ 200 := by rw [ed2]; exact few_nd Hg.out.few p
        obtain ⟨xa, xb, hcut, ha, hb, hidx⟩ := cut_at hin (by rw [ed2]; exact Hg.out.tree.once p t2)
        have hless : lessL d2.kids n = xa ++ xb := by rw [hcut]; exact lessL_cut ha hb
        have hi : idxL (rowL l n) n = (xa.length : Int) := by rw [hrow]; exact hidx
        rw [hless] at hput e1
        have x1 := X1.out.cell 1
        subst e0
        subst e1
        have zp : (d1.parent != p) = false := by simpa using hp
        have HI := Lib.hid hi
        have HP := Lib.hid hput
        have HC := Lib.hid hcut
        have R2 := Lib.hid (O.since H.out B2.out)
        clear ed1 ed2 hz hin hrow hput hcut ha hb hidx hless hi t1 t2 hp
        go_wp2_with fail
        refine (kinIndex O M n R2.out Hg.out).mono ?_
        rintro e w3 ⟨rfl, hb3⟩
        rw [HI.out]
        obtain ⟨N, hN⟩ : ∃ N, N = d2.kids.length := ⟨_, rfl⟩
        have hN2 : N = xa.length + 1 + xb.length := by rw [hN, HC.out]; simp; omega
        obtain ⟨ga, off, eA, hga, -⟩ := L2.out.nums xa.length (by rw [← hN]; omega)
        have hcap : N ≤ k2 := by rw [hN]; exact L2.out.cap
        have L3 := L2.out.below hb3
        rw [HC.out] at L3
        have La : ListIn w3 A2 k2 xa := L3.low
        have Lb : ListIn w3 (if k2 = xa.length + 1 then A2 else A2.map (·.add (xa.length + 1))) (k2 - (xa.length + 1)) xb := by
          have e : xa ++ n :: xb = (xa ++ [n]) ++ xb := by simp
          rw [e] at L3
          have := L3.high
          rw [List.length_append] at this
          exact this
        have hflat : ([xa, xb] : List (List Int)).flatten = xa ++ xb := by simp
        obtain ⟨a, ha⟩ : ∃ a, a = xa.length := ⟨_, rfl⟩
        obtain ⟨c, hc⟩ : ∃ c, c = xb.length := ⟨_, rfl⟩
        have x2 : w3.cell? ⟨w2.heap.size, 8, none⟩ = some (.slice A2 d2.kids.length k2) := (X2.out.below hb3 X2.out.inside).cell 8
        rw [← hN] at x2 hlen
        rw [← ha, ← hc] at hN2
        rw [← ha] at Lb
        rw [← ha, ← hN]
        have c1 := cut_low A2 N k2 a (by omega)
        have c2 := cut_high A2 N k2 (a + 1) (by omega)
        rw [show N - (a + 1) = c by omega] at c2
        obtain ⟨A5, hA5⟩ : ∃ A5, A5 = if k2 = a + 1 then A2 else A2.map (·.add (a + 1)) := ⟨_, rfl⟩
        obtain ⟨k5, hk5⟩ : ∃ k5, k5 = k2 - (a + 1) := ⟨_, rfl⟩
        rw [← hA5, ← hk5] at c2 Lb
        have c2' : ∀ w, (Instr.slice 43 (.slice A2 N k2) (some (.int .i64 ((a : Int) + 1))) none none).run Try.prog w = .ok (.slice A5 c k5) w := c2
        have hwr : IntKind.i64.wrap ((a : Int) + 1) = (a : Int) + 1 := wrap_small (by omega) (by omega)
        have HA := Lib.hid ha
        have HCC := Lib.hid hc
        have HLa := Lib.hid La
        have HLb := Lib.hid Lb
        have hl2 : a + c ≤ 200 := by omega
        have B3 := Lib.hid (B2.out.trans (hb3.mono B2.out.size))
        have HN2 := Lib.hid hN2
        have R3 := Lib.hid (O.since R2.out hb3)
        clear hN ha hc La Lb L3 eA hga hA5 hk5 c2 hN2 hcap hb3 x1 zp
        go_wp2_with fail
        refine wp_region_way (late := []) (S := fun w' => w'.cell? ⟨w2.heap.size, 8, none⟩ = some (.slice A2 N k2)) (y := Way.takes [0, 1, 2, 3, 4, 5, 6, 7, 8, 9, 10] (.run 11 (.run 12 (.run 13 (.take 14 .fin))))) (by kernel_rfl) (by kernel_rfl) rfl (by kernel_rfl) x2 (fun hHeld => ?_)
        simp only [Way.takes]
        (repeat (first | (refine way_skip (by simp only [List.getElem?_toArray, List.getElem?_cons_succ, List.getElem?_cons_zero]; rfl) (by rfl) hHeld ?_; (try simp only [Act.put, List.setIfInBounds_toArray, List.set_cons_zero, List.set_cons_succ])) | (refine way_pass (by simp only [List.getElem?_toArray, List.getElem?_cons_succ, List.getElem?_cons_zero]; rfl) (by rfl) hHeld ?_; (try simp only [Act.put, List.setIfInBounds_toArray, List.set_cons_zero, List.set_cons_succ])) | (refine way_take (v := ?_) (by simp only [List.getElem?_toArray, List.getElem?_cons_succ, List.getElem?_cons_zero]; rfl) (by rfl) ?_ hHeld ?_; rotate_left; (focus (intro w hSw; (try dsimp only at hSw); go_simp; (try with_reducible rfl); done)); (try simp only [Act.put, List.setIfInBounds_toArray, List.set_cons_zero, List.set_cons_succ]))))
        have hb4 : Below w3.heap.size w3 ((w3.alloc (.cells #[.slice A2 a k2, .slice A5 c k5] 43)).drew) := ((Below.refl _ w3).alloc (Nat.le_refl _) _).drew
        have hP4 : Parts ((w3.alloc (.cells #[.slice A2 a k2, .slice A5 c k5] 43)).drew) (some ⟨w3.heap.size, 0, none⟩) [xa, xb] := by
          have hh : Has ((w3.alloc (.cells #[.slice A2 a k2, .slice A5 c k5] 43)).drew) w3.heap.size (.cells #[.slice A2 a k2, .slice A5 c k5] 43 (0, 0)) := Has.fresh w3 _
          rw [HA.out, HCC.out] at hh ⊢
          refine parts_lit (rows := [(xa, A2, k2), (xb, A5, k5)]) hh fun r hr => ?_
          have hb4 : Below w3.heap.size w3 ((w3.alloc (.cells #[.slice A2 xa.length k2, .slice A5 xb.length k5] 43)).drew) := ((Below.refl _ w3).alloc (Nat.le_refl _) _).drew
          rcases List.mem_cons.1 hr with rfl | hr
          · exact HLa.out.below hb4
          · rw [List.mem_singleton.1 hr]
            exact HLb.out.below hb4
        have x4 : ((w3.alloc (.cells #[.slice A2 a k2, .slice A5 c k5] 43)).drew).cell? ⟨w2.heap.size, 8, none⟩ = some (.slice A2 N k2) := (hb4.cell (p := ⟨w2.heap.size, 8, none⟩) (cell_in x2)).trans x2
        have HB4 := Lib.hid hb4
        have HP4 := Lib.hid hP4
        clear hb4 hP4
        refine way_run (by simp only [List.getElem?_toArray, List.getElem?_cons_succ, List.getElem?_cons_zero]; rfl) (by rfl) (fun K hK => ?_)
        go_simp
        refine hK.out _ _ x4 (fun hHeld => ?_)
        clear hK K
        (try simp only [Act.put, List.setIfInBounds_toArray, List.set_cons_zero, List.set_cons_succ])
        refine way_run (by simp only [List.getElem?_toArray, List.getElem?_cons_succ, List.getElem?_cons_zero]; rfl) (by rfl) (fun K hK => ?_)
        go_simp
        obtain ⟨w4, hw4⟩ : ∃ w4, w4 = (w3.alloc (.cells #[.slice A2 a k2, .slice A5 c k5] 43)).drew := ⟨_, rfl⟩
        rw [← hw4] at HB4 HP4 x4 hHeld
        rw [← hw4]
        clear hw4
        have hflen : ([xa, xb] : List (List Int)).flatten.length ≤ 1000 := by rw [hflat, List.length_append, ← HA.out, ← HCC.out]; omega
        refine (edJoined [xa, xb] _ 2 2 w4 rfl (by decide) hflen HP4.out).mono ?_
        rintro e w5 ⟨v5, rfl, ho5, hb5⟩
        rw [hflat] at ho5
        obtain ⟨A6, c6, rfl, hL6, hA6⟩ := own_list ho5
        have x5 : w5.cell? ⟨w2.heap.size, 8, none⟩ = some (.slice A2 N k2) := (hb5.cell (p := ⟨w2.heap.size, 8, none⟩) (cell_in x4)).trans x4
        have hl6 : (xa ++ xb).length ≤ 200 := by rw [List.length_append, ← HA.out, ← HCC.out]; exact hl2
        have hb6 := B3.out.trans (HB4.out.mono B3.out.size)
        have hB5 := hb6.trans (hb5.mono hb6.size)
        have hg2 : w.heap.size ≤ w2.heap.size := Hs2.out
        have C6 := O.putNew p (xa ++ xb) H.out Hg.out HS.out hB5 hL6 (fun g off s e => ⟨Nat.le_trans hb6.size (hA6 g off s e).1, (hA6 g off s e).2⟩) hl6
        rw [List.length_append] at C6
        have HC6 := Lib.hid C6
        clear ho5 hL6 hA6 hb5 HP4 hflen C6 hb6 hB5
        refine hK.out _ _ x5 (fun hHeld => ?_)
        clear hK K
        (try simp only [Act.put, List.setIfInBounds_toArray, List.set_cons_zero, List.set_cons_succ])
        refine way_run (by simp only [List.getElem?_toArray, List.getElem?_cons_succ, List.getElem?_cons_zero]; rfl) (by rfl) (fun K hK => ?_)
        go_simp
        refine HC6.out.mono ?_
        rintro e w6 ⟨rfl, hR6, hk6, hk7⟩
        have x6 : w6.cell? ⟨w2.heap.size, 8, none⟩ = some (.slice A2 N k2) := by
          rw [← x5]
          exact (hk7.cell (p := ⟨w2.heap.size, 8, none⟩) (cell_in x5) (fun h => absurd h.2 (Nat.not_lt.2 hg2)))
        have HR6 := Lib.hid hR6
        have HK6 := Lib.hid hk6
        clear hR6 hk6 hk7
        refine hK.out _ _ x6 (fun hHeld => ?_)
        clear hK K
        (try simp only [Act.put, List.setIfInBounds_toArray, List.set_cons_zero, List.set_cons_succ])
        (repeat (first | (refine way_skip (by simp only [List.getElem?_toArray, List.getElem?_cons_succ, List.getElem?_cons_zero]; rfl) (by rfl) hHeld ?_; (try simp only [Act.put, List.setIfInBounds_toArray, List.set_cons_zero, List.set_cons_succ])) | (refine way_pass (by simp only [List.getElem?_toArray, List.getElem?_cons_succ, List.getElem?_cons_zero]; rfl) (by rfl) hHeld ?_; (try simp only [Act.put, List.setIfInBounds_toArray, List.set_cons_zero, List.set_cons_succ])) | (refine way_take (v := ?_) (by simp only [List.getElem?_toArray, List.getElem?_cons_succ, List.getElem?_cons_zero]; rfl) (by rfl) ?_ hHeld ?_; rotate_left; (focus (intro w hSw; (try dsimp only at hSw); go_simp; (try with_reducible rfl); done)); (try simp only [Act.put, List.setIfInBounds_toArray, List.set_cons_zero, List.set_cons_succ]))))
        refine way_done ?_
        go_wp2
        go_ret
        rw [HP.out]
        exact ⟨rfl, HR6.out, HK6.out⟩
      · have e0 : R = 4 := by rw [HR.out]; unfold rmErr; rw [if_neg (by rw [t1, t2]; simp), if_pos (by rw [← ed1]; exact hp)]
        have e1 : l' = l := by rw [HL.out]; unfold rmL; rw [← HR.out, e0]; rfl
        have x1 := X1.out.cell 1
        have zp : (d1.parent != p) = true := by simpa using hp
        subst e0
        subst e1
        clear ed1 ed2 hp
        go_wp2
        go_ret
        exact ⟨rfl, O.since H.out B2.out, Keeps.ofUnder B2.out⟩
end
end Go.Proofs.Ytojcchjhimagiaa

namespace Go.Proofs.Ytojcchjhimagiaa
open Go Go.RowKit

section
variable {Rep : (Nat → Prop) → World → Nat → List Nd → Prop} {S : Nat → Prop} {w w1 : World} {b : Nat} {l : List Nd}
set_option maxHeartbeats 8000000 in
set_option maxRecDepth 100000 in
theorem edLoosen (O : ForestOk Rep) (M : ForestMore Rep) (n : Int) (h : Rep S w b l) (hg : Good l) (hS : Fut S w.heap.size) (ht : thereB l n = true) :
    Calls Try.prog 36 #[at_ b, .int .i64 n] w fun e w' => ∃ A c, e = .returned (.slice A (moveL l n).length c) ∧ ListIn w' A c (moveL l n) ∧ Rep S w' b (looseL l n) ∧ Keeps S w w' := by
  have H := Lib.hid h
  have Hg := Lib.hid hg
  have HS := Lib.hid hS
  have Ht := Lib.hid ht
  obtain ⟨m, hm⟩ : ∃ m, m = moveL l n := ⟨_, rfl⟩
  obtain ⟨l', hl'⟩ : ∃ l', l' = looseL l n := ⟨_, rfl⟩
  rw [← hm, ← hl']
  have HM := Lib.hid hm
  have HL := Lib.hid hl'
  clear h hg hS hm hl' ht
  go_enter Try.func36, Try.ntmps36
  go_wp2_with fail
  refine (nodeYes M H.out Hg.out Ht.out).mono ?_
  rintro e w1 ⟨A1, k1, rfl, hk1, hb1⟩
  obtain ⟨d, hd⟩ : ∃ d, d = nd l n := ⟨_, rfl⟩
  rw [← hd] at hk1
  rw [← hd]
  have hB1 : Below w.heap.size w (w1.alloc (.cells #[.int .i64 d.kind, .int .i64 d.parent, .int .i64 d.host, .int .i64 d.shadow, .int .i64 d.mode, .bool d.slot, .string d.name, .string d.want, .slice A1 d.kids.length k1] 45)) := hb1.alloc hb1.size _
  have hX1 : Has (w1.alloc (.cells #[.int .i64 d.kind, .int .i64 d.parent, .int .i64 d.host, .int .i64 d.shadow, .int .i64 d.mode, .bool d.slot, .string d.name, .string d.want, .slice A1 d.kids.length k1] 45)) w1.heap.size (.cells #[.int .i64 d.kind, .int .i64 d.parent, .int .i64 d.host, .int .i64 d.shadow, .int .i64 d.mode, .bool d.slot, .string d.name, .string d.want, .slice A1 d.kids.length k1] 45 (0, 0)) := Has.fresh _ _
  have hL1 : ListIn (w1.alloc (.cells #[.int .i64 d.kind, .int .i64 d.parent, .int .i64 d.host, .int .i64 d.shadow, .int .i64 d.mode, .bool d.slot, .string d.name, .string d.want, .slice A1 d.kids.length k1] 45)) A1 k1 d.kids ∧ ∀ g off s, A1 = some ⟨g, off, s⟩ → w.heap.size ≤ g := by
    obtain ⟨A', c', e, hL⟩ := hk1.list
    obtain ⟨rfl, rfl⟩ : A1 = A' ∧ k1 = c' := by injection e with e1 _ e3; exact ⟨e1, e3⟩
    exact ⟨hL.below ((Below.refl _ _).alloc (Nat.le_refl _) _), fun g off s e => by subst e; exact hk1.2 g rfl⟩
  have B1 := Lib.hid hB1
  have X1 := Lib.hid hX1
  have L1 := Lib.hid hL1
  have Hd := Lib.hid hd
  have x0 : (w1.alloc (.cells #[.int .i64 d.kind, .int .i64 d.parent, .int .i64 d.host, .int .i64 d.shadow, .int .i64 d.mode, .bool d.slot, .string d.name, .string d.want, .slice A1 d.kids.length k1] 45)).cell? ⟨w1.heap.size, 0, none⟩ = some (.int .i64 d.kind) := hX1.cell 0
  have hs1 := hb1.size
  clear hb1 hB1 hX1 hd hL1 hk1
  obtain ⟨W1, hW1⟩ : ∃ W, W = w1.alloc (.cells #[.int .i64 d.kind, .int .i64 d.parent, .int .i64 d.host, .int .i64 d.shadow, .int .i64 d.mode, .bool d.slot, .string d.name, .string d.want, .slice A1 d.kids.length k1] 45) := ⟨_, rfl⟩
  by_cases h4 : d.kind = 4
  · have z4 : (d.kind == 4) = true := by simpa using h4
    have em : m = d.kids := by rw [HM.out]; unfold moveL; rw [← Hd.out, if_pos h4]
    have el : l' = putL l n [] := by rw [HL.out]; unfold looseL; rw [← Hd.out, if_pos h4]
    subst em
    subst el
    clear h4
    go_wp2_with fail
    rw [← hW1] at B1 X1 L1
    rw [← hW1]
    clear x0
    have hR0 : Rep (fun i => S i ∧ i < w.heap.size) w b l := O.wide H.out fun _ hi hlt => ⟨hi, hlt⟩
    have hR1 : Rep (fun i => (S i ∧ i < w.heap.size) ∨ W1.heap.size ≤ i) W1 b l := O.wide (O.below hR0 B1.out) fun _ hi _ => .inl hi
    refine (edClear O n hR1 Hg.out (fun i hi => .inr hi)).mono ?_
    rintro e w2 ⟨rfl, hR2, hk2⟩
    have hsub : ∀ i, (S i ∧ i < w.heap.size) ∨ W1.heap.size ≤ i → S i := fun i hi => by
      rcases hi with h | h
      · exact h.1
      · exact HS.out i (Nat.le_trans B1.out.size h)
    have hk3 : Keeps (fun i => S i ∧ i < w.heap.size) W1 w2 := hk2.wide fun i hlt hi => hi.resolve_right (Nat.not_le.2 hlt)
    have x8 : w2.cell? ⟨w1.heap.size, 8, none⟩ = some (.slice A1 d.kids.length k1) := (hk3.cell (p := ⟨w1.heap.size, 8, none⟩) X1.out.inside (fun h => absurd h.2 (Nat.not_lt.2 hs1))).trans (X1.out.cell 8)
    have hL2 : ListIn w2 A1 k1 d.kids := L1.out.1.kept hk3 fun _ g off s e _ hh => absurd hh.2 (Nat.not_lt.2 (L1.out.2 g off s e))
    have F := Lib.hid (And.intro hL2 (And.intro (O.wide (S' := S) hR2 fun i hi _ => hsub i hi) ((Keeps.ofUnder B1.out).trans hk2 fun i _ hi => hsub i hi)))
    clear hR0 hR1 hR2 hk2 hsub hk3 hL2
    go_wp2
    go_ret
    exact ⟨_, _, rfl, F.out.1, F.out.2.1, F.out.2.2⟩
  · have z4 : (d.kind == 4) = false := by simpa using h4
    have em : m = [n] := by rw [HM.out]; unfold moveL; rw [← Hd.out, if_neg h4]
    have el : l' = rmL l n d.parent := by rw [HL.out]; unfold looseL; rw [← Hd.out, if_neg h4]
    subst em
    subst el
    have x1 : (w1.alloc (.cells #[.int .i64 d.kind, .int .i64 d.parent, .int .i64 d.host, .int .i64 d.shadow, .int .i64 d.mode, .bool d.slot, .string d.name, .string d.want, .slice A1 d.kids.length k1] 45)).cell? ⟨w1.heap.size, 1, none⟩ = some (.int .i64 d.parent) := X1.out.cell 1
    clear h4
    go_wp2_with fail
    rw [← hW1] at B1
    rw [← hW1]
    clear x0 x1
    refine (edRemove O M n d.parent (O.since H.out B1.out) Hg.out (HS.out.mono B1.out.size)).mono ?_
    rintro e w2 ⟨rfl, hR2, hk2⟩
    have hb3 : Below w2.heap.size w2 (w2.alloc (.cells #[.int .i64 n] 3)) := (Below.refl _ w2).alloc (Nat.le_refl _) _
    have hL3 : ListIn (w2.alloc (.cells #[.int .i64 n] 3)) (some ⟨w2.heap.size, 0, none⟩) 1 [n] := listLit (xs := [n]) (Has.fresh w2 _)
    have F := Lib.hid (And.intro hL3 (And.intro (O.since hR2 hb3) (((Keeps.ofUnder (F := S) B1.out).also hk2).alloc (.cells #[.int .i64 n] 3))))
    clear hR2 hk2 hb3 hL3
    go_wp2
    go_ret
    exact ⟨_, _, rfl, F.out.1, F.out.2.1, F.out.2.2⟩
end
end Go.Proofs.Ytojcchjhimagiaa

namespace Go.Proofs.Ytojcchjhimagiaa
open Go Go.RowKit

/-- Where something is put, by its place. -/
theorem insL_place {xs ms : List Int} {s : Int} (hn : xs.Nodup) (hs : s = 0 ∨ s ∈ xs) : ∃ xa xb, xs = xa ++ xb ∧ insL xs s ms = xa ++ (ms ++ xb) ∧ (s = 0 → xa.length = xs.length) ∧ (s ≠ 0 → idxL xs s = (xa.length : Int)) := by
  by_cases h0 : s = 0
  · subst h0
    exact ⟨xs, [], by simp, by rw [insL_end, List.append_nil], fun _ => rfl, fun h => absurd rfl h⟩
  · obtain ⟨a, b, e, h1, h2, h3⟩ := cut_at (hs.resolve_left h0) hn
    subst e
    exact ⟨a, s :: b, rfl, insL_cut h0 h3, fun h => absurd h h0, fun _ => h3⟩

section
variable {Rep : (Nat → Prop) → World → Nat → List Nd → Prop} {S : Nat → Prop} {w w1 : World} {b : Nat} {l : List Nd}
set_option maxHeartbeats 8000000 in
set_option maxRecDepth 100000 in
theorem edBefore (O : ForestOk Rep) (M : ForestMore Rep) (n p c : Int) (h : Rep S w b l) (hg : Good l) (hS : Fut S w.heap.size) :
    Calls Try.prog 11 #[at_ b, .int .i64 n, .int .i64 p, .int .i64 c] w fun e w' => e = .returned (.int .i64 (chkErr l n p c)) ∧ Rep S w' b (befL l n p c) ∧ Keeps S w w' := by
  have H := Lib.hid h
  have Hg := Lib.hid hg
  have HS := Lib.hid hS
  obtain ⟨E, hE⟩ : ∃ E, E = chkErr l n p c := ⟨_, rfl⟩
  obtain ⟨l', hl'⟩ : ∃ l', l' = befL l n p c := ⟨_, rfl⟩
  have C1 := vaCheck O M n p c h hg
  rw [← hE] at C1
  rw [← hE, ← hl']
  have HC1 := Lib.hid C1
  have HE := Lib.hid hE
  have HL := Lib.hid hl'
  clear h hg hS hE hl' C1
  go_enter Try.func11, Try.ntmps11
  go_wp2_with fail
  refine HC1.out.mono ?_
  rintro e w1 ⟨rfl, hb1⟩
  by_cases hz : E = 0
  · subst hz
    have hchk : chkErr l n p c = 0 := HE.out.symm
    have el : l' = putL (looseL l n) p (newK l n p c) := HL.out.trans (bef_zero hchk)
    have herr : putErr (looseL l n) p (newK l n p c) = 0 := newK_err Hg.out hchk
    have hnl : (newK l n p c).length ≤ 200 := Nat.le_trans (newK_len Hg.out hchk) (by decide)
    obtain ⟨hn, hp, -⟩ := chk_zero hchk
    have hp1 : thereB (looseL l n) p = true := by rw [loose_there]; exact hp
    have hg1 : Good (looseL l n) := good_loose Hg.out
    obtain ⟨xa, xb, hk, hnew, hs0, hs1⟩ := insL_place (ms := moveL l n) (loose_once Hg.out hchk) (seat_in Hg.out.tree hchk)
    have hnew' : newK l n p c = xa ++ (moveL l n ++ xb) := hnew
    have hrow : seatL l n c ≠ 0 → idxL (rowL (looseL l n) (seatL l n c)) (seatL l n c) = (xa.length : Int) := fun hne => by
      have hin := (seat_in Hg.out.tree hchk).resolve_left hne
      obtain ⟨q1, q2⟩ := hg1.tree.kid p hp1 _ hin
      have : rowL (looseL l n) (seatL l n c) = (nd (looseL l n) p).kids := by unfold rowL; rw [if_pos q1, q2, if_pos hp1]
      rw [this]
      exact hs1 hne
    obtain ⟨ks, hks⟩ : ∃ ks, ks = newK l n p c := ⟨_, rfl⟩
    rw [← hks] at hnl herr hnew' el
    have hseat : seatL l n c = if c = n then nextL (rowL l n) n else c := rfl
    obtain ⟨s, hs⟩ : ∃ s, s = seatL l n c := ⟨_, rfl⟩
    rw [← hs] at hrow hseat hs0
    obtain ⟨l1, hl1⟩ : ∃ l1, l1 = looseL l n := ⟨_, rfl⟩
    obtain ⟨mv, hmv⟩ : ∃ mv, mv = moveL l n := ⟨_, rfl⟩
    have C2 := fun (w' : World) (hR : Rep S w' b l) (hS : Fut S w'.heap.size) => edLoosen O M n hR Hg.out hS hn
    rw [← hl1, ← hmv] at C2
    rw [← hl1] at hrow hs0 hk herr hp1 hg1 el
    rw [← hmv] at hnew'
    have Hrow := Lib.hid hrow
    have Hs0 := Lib.hid hs0
    have Hk := Lib.hid hk
    have Hnl := Lib.hid hnl
    have Herr := Lib.hid herr
    have Hp1 := Lib.hid hp1
    have Hg1 := Lib.hid hg1
    have HC2 := Lib.hid C2
    have Hnew := Lib.hid hnew'
    have Hseat := Lib.hid hseat
    have Hel := Lib.hid el
    clear el hrow hs0 hk hnl herr hp1 hg1 C2 hnew hnew' hseat hs hl1 hmv hs1 hn hp hks hchk HL HE HC1
    go_upto_if 24 with (fail)
    go_cut [3] (fun t wx => t = .int .i64 s ∧ Below w.heap.size w wx)
    case first =>
      by_cases hcn : c = n
      · have e0 := Hseat.out
        rw [if_pos hcn] at e0
        subst hcn
        have E0 := Lib.hid e0
        clear e0
        go_wp2_with fail
        refine (kinNext O M c (O.since H.out hb1) Hg.out).mono ?_
        rintro e w2 ⟨rfl, hb2⟩
        go_wp2
        go_meet
        exact ⟨by rw [E0.out], hb1.trans (hb2.mono hb1.size)⟩
      · have e0 := Hseat.out
        rw [if_neg hcn] at e0
        subst e0
        have z0 : (s == n) = false := by simpa using hcn
        clear hcn
        go_wp2
        go_meet
        exact ⟨rfl, hb1⟩
    case rest =>
      obtain ⟨rfl, hb2⟩ := hcut
      have B2 := Lib.hid hb2
      clear hb2 hb1
      go_wp2_with fail
      refine (HC2.out wc (O.since H.out B2.out) (HS.out.mono B2.out.size)).mono ?_
      rintro e w3 ⟨Am, cm, rfl, hLm, hR3, hk3⟩
      have K3 := Lib.hid ((Keeps.ofUnder (F := S) B2.out).also hk3)
      have R3 := Lib.hid hR3
      have LM := Lib.hid hLm
      have S3 := Lib.hid (HS.out.mono K3.out.grows)
      clear hLm hR3 hk3 HC2
      go_wp2_with fail
      refine (nodeYes M R3.out Hg1.out Hp1.out).mono ?_
      rintro e w4 ⟨A4, k4, rfl, hk4, hb4⟩
      obtain ⟨d, hd⟩ : ∃ d, d = nd l1 p := ⟨_, rfl⟩
      rw [← hd] at hk4 Hk Hs0
      rw [← hd]
      have hB4 : Below w3.heap.size w3 (w4.alloc (.cells #[.int .i64 d.kind, .int .i64 d.parent, .int .i64 d.host, .int .i64 d.shadow, .int .i64 d.mode, .bool d.slot, .string d.name, .string d.want, .slice A4 d.kids.length k4] 45)) := hb4.alloc hb4.size _
      have hX4 : Has (w4.alloc (.cells #[.int .i64 d.kind, .int .i64 d.parent, .int .i64 d.host, .int .i64 d.shadow, .int .i64 d.mode, .bool d.slot, .string d.name, .string d.want, .slice A4 d.kids.length k4] 45)) w4.heap.size (.cells #[.int .i64 d.kind, .int .i64 d.parent, .int .i64 d.host, .int .i64 d.shadow, .int .i64 d.mode, .bool d.slot, .string d.name, .string d.want, .slice A4 d.kids.length k4] 45 (0, 0)) := Has.fresh _ _
      have hL4 : ListIn (w4.alloc (.cells #[.int .i64 d.kind, .int .i64 d.parent, .int .i64 d.host, .int .i64 d.shadow, .int .i64 d.mode, .bool d.slot, .string d.name, .string d.want, .slice A4 d.kids.length k4] 45)) A4 k4 d.kids := by
        obtain ⟨A', c', e, hL⟩ := hk4.list
        obtain ⟨rfl, rfl⟩ : A4 = A' ∧ k4 = c' := by injection e with e1 _ e3; exact ⟨e1, e3⟩
        exact hL.below ((Below.refl _ _).alloc (Nat.le_refl _) _)
      have hs4 : w3.heap.size ≤ w4.heap.size := hb4.size
      have x4 : (w4.alloc (.cells #[.int .i64 d.kind, .int .i64 d.parent, .int .i64 d.host, .int .i64 d.shadow, .int .i64 d.mode, .bool d.slot, .string d.name, .string d.want, .slice A4 d.kids.length k4] 45)).cell? ⟨w4.heap.size, 8, none⟩ = some (.slice A4 d.kids.length k4) := hX4.cell 8
      obtain ⟨N, hN⟩ : ∃ N, N = d.kids.length := ⟨_, rfl⟩
      have hlen : N = xa.length + xb.length := by rw [hN, Hk.out]; simp
      have hcap : N ≤ k4 := by rw [hN]; exact hL4.cap
      have hs0 : s = 0 → xa.length = N := fun e => by rw [hN]; exact Hs0.out e
      obtain ⟨W4, hW4⟩ : ∃ W, W = w4.alloc (.cells #[.int .i64 d.kind, .int .i64 d.parent, .int .i64 d.host, .int .i64 d.shadow, .int .i64 d.mode, .bool d.slot, .string d.name, .string d.want, .slice A4 d.kids.length k4] 45) := ⟨_, rfl⟩
      obtain ⟨a, ha⟩ : ∃ a, a = xa.length := ⟨_, rfl⟩
      have hsum : a + mv.length + xb.length ≤ 200 := by
        have := Hnl.out
        rw [Hnew.out] at this
        simp only [List.length_append] at this
        omega
      rw [← ha] at hlen hs0 Hrow
      rw [← hN] at hB4 hL4 x4 hW4
      rw [← hN]
      have B4 := Lib.hid hB4
      have L4 := Lib.hid hL4
      have HA := Lib.hid ha
      have HN := Lib.hid hN
      have Hs0' := Lib.hid hs0
      have Hlen := Lib.hid hlen
      clear hb4 hB4 hX4 hL4 hd hk4 hN ha hs0 hlen Hs0
      go_upto_if 41 with (fail)
      rw [← hW4] at B4 L4 x4
      rw [← hW4]
      clear hW4
      go_cut [13] (fun t wx => t = .int .i64 a ∧ Below W4.heap.size W4 wx)
      case first =>
        by_cases h0 : s = 0
        · have e0 := Hs0'.out h0
          subst h0
          subst e0
          go_wp2
          go_meet
          exact ⟨rfl, Below.refl _ _⟩
        · have z0 : (s != 0) = true := by simpa using h0
          have E1 := Lib.hid (Hrow.out h0)
          clear h0
          go_wp2_with fail
          refine (kinIndex O M s (O.since R3.out B4.out) Hg1.out).mono ?_
          rintro e w5 ⟨rfl, hb5⟩
          go_wp2
          go_meet
          exact ⟨by rw [E1.out], hb5⟩
      case rest =>
        obtain ⟨rfl, hb5⟩ := hcut
        have L5 := L4.out.below hb5
        rw [Hk.out] at L5
        have La : ListIn wc A4 k4 xa := L5.low
        have Lb := L5.high
        rw [← HA.out] at Lb
        have hN2 := Hlen.out
        have c1 := cut_low A4 N k4 a (by omega)
        have c2 := cut_high A4 N k4 a (by omega)
        obtain ⟨c5, hc5⟩ : ∃ c5, c5 = xb.length := ⟨_, rfl⟩
        obtain ⟨m, hm⟩ : ∃ m, m = mv.length := ⟨_, rfl⟩
        rw [← hc5] at hN2 hsum
        rw [← hm] at hsum
        rw [← hm]
        rw [show N - a = c5 by omega] at c2
        obtain ⟨A5, hA5⟩ : ∃ A5, A5 = if k4 = a then A4 else A4.map (·.add a) := ⟨_, rfl⟩
        obtain ⟨k5, hk5⟩ : ∃ k5, k5 = k4 - a := ⟨_, rfl⟩
        rw [← hA5, ← hk5] at c2 Lb
        have Lm := LM.out.below (B4.out.trans (hb5.mono B4.out.size))
        have x5 : wc.cell? ⟨w4.heap.size, 8, none⟩ = some (.slice A4 N k4) := (hb5.cell (p := ⟨w4.heap.size, 8, none⟩) (cell_in x4)).trans x4
        have hflat : ([xa, mv, xb] : List (List Int)).flatten = ks := by rw [Hnew.out]; simp
        have HCC := Lib.hid hc5
        have HM := Lib.hid hm
        have HLa := Lib.hid La
        have HLb := Lib.hid Lb
        have HLm := Lib.hid Lm
        have B5 := Lib.hid (B4.out.trans (hb5.mono B4.out.size))
        have Hflat := Lib.hid hflat
        clear hc5 hm La Lb Lm L5 hA5 hk5 hN2 hcap hb5 hflat x4
        obtain ⟨w5, hw5⟩ : ∃ w5, w5 = wc := ⟨_, rfl⟩
        rw [← hw5] at HLa HLb HLm B5 x5
        rw [← hw5]
        clear hw5
        go_wp2_with fail
        refine wp_region_way (late := []) (S := fun w' => w'.cell? ⟨w4.heap.size, 8, none⟩ = some (.slice A4 N k4)) (y := Way.takes [0, 1, 2, 3, 4, 5, 6, 7, 8, 9, 10] (.run 11 (.run 12 (.run 13 (.take 14 .fin))))) (by kernel_rfl) (by kernel_rfl) rfl (by kernel_rfl) x5 (fun hHeld => ?_)
        simp only [Way.takes]
        (repeat (first | (refine way_skip (by simp only [List.getElem?_toArray, List.getElem?_cons_succ, List.getElem?_cons_zero]; rfl) (by rfl) hHeld ?_; (try simp only [Act.put, List.setIfInBounds_toArray, List.set_cons_zero, List.set_cons_succ])) | (refine way_pass (by simp only [List.getElem?_toArray, List.getElem?_cons_succ, List.getElem?_cons_zero]; rfl) (by rfl) hHeld ?_; (try simp only [Act.put, List.setIfInBounds_toArray, List.set_cons_zero, List.set_cons_succ])) | (refine way_take (v := ?_) (by simp only [List.getElem?_toArray, List.getElem?_cons_succ, List.getElem?_cons_zero]; rfl) (by rfl) ?_ hHeld ?_; rotate_left; (focus (intro w hSw; (try dsimp only at hSw); go_simp; (try with_reducible rfl); done)); (try simp only [Act.put, List.setIfInBounds_toArray, List.set_cons_zero, List.set_cons_succ]))))
        have hb6 : Below w5.heap.size w5 (w5.alloc (.cells #[.slice A4 a k4, .slice Am m cm, .slice A5 c5 k5] 43)).drew := ((Below.refl _ w5).alloc (Nat.le_refl _) _).drew
        have hP6 : Parts (w5.alloc (.cells #[.slice A4 a k4, .slice Am m cm, .slice A5 c5 k5] 43)).drew (some ⟨w5.heap.size, 0, none⟩) [xa, mv, xb] := by
          have hh : Has (w5.alloc (.cells #[.slice A4 a k4, .slice Am m cm, .slice A5 c5 k5] 43)).drew w5.heap.size (.cells #[.slice A4 a k4, .slice Am m cm, .slice A5 c5 k5] 43 (0, 0)) := Has.fresh w5 _
          have q1 := HLa.out.below hb6
          have q2 := HLm.out.below hb6
          have q3 := HLb.out.below hb6
          generalize (w5.alloc (.cells #[.slice A4 a k4, .slice Am m cm, .slice A5 c5 k5] 43)).drew = W at hh q1 q2 q3 ⊢
          rw [HA.out, HCC.out, HM.out] at hh
          refine parts_lit (rows := [(xa, A4, k4), (mv, Am, cm), (xb, A5, k5)]) hh fun r hr => ?_
          simp only [List.mem_cons, List.not_mem_nil, or_false] at hr
          rcases hr with rfl | rfl | rfl
          · exact q1
          · exact q2
          · exact q3
        have x6 : (w5.alloc (.cells #[.slice A4 a k4, .slice Am m cm, .slice A5 c5 k5] 43)).drew.cell? ⟨w4.heap.size, 8, none⟩ = some (.slice A4 N k4) := (hb6.cell (p := ⟨w4.heap.size, 8, none⟩) (cell_in x5)).trans x5
        have HB6 := Lib.hid hb6
        have HP6 := Lib.hid hP6
        clear hb6 hP6
        refine way_run (by simp only [List.getElem?_toArray, List.getElem?_cons_succ, List.getElem?_cons_zero]; rfl) (by rfl) (fun K hK => ?_)
        go_simp
        refine hK.out _ _ x6 (fun hHeld => ?_)
        clear hK K
        (try simp only [Act.put, List.setIfInBounds_toArray, List.set_cons_zero, List.set_cons_succ])
        refine way_run (by simp only [List.getElem?_toArray, List.getElem?_cons_succ, List.getElem?_cons_zero]; rfl) (by rfl) (fun K hK => ?_)
        go_simp
        obtain ⟨w6, hw6⟩ : ∃ w6, w6 = (w5.alloc (.cells #[.slice A4 a k4, .slice Am m cm, .slice A5 c5 k5] 43)).drew := ⟨_, rfl⟩
        rw [← hw6] at HB6 HP6 x6 hHeld
        rw [← hw6]
        clear hw6
        have hflen : ([xa, mv, xb] : List (List Int)).flatten.length ≤ 1000 := by rw [Hflat.out]; exact Nat.le_trans Hnl.out (by decide)
        refine (edJoined [xa, mv, xb] _ 3 3 w6 rfl (by decide) hflen HP6.out).mono ?_
        rintro e w7 ⟨v7, rfl, ho7, hb7⟩
        rw [Hflat.out] at ho7
        obtain ⟨A7, c7, rfl, hL7, hA7⟩ := own_list ho7
        have x7 : w7.cell? ⟨w4.heap.size, 8, none⟩ = some (.slice A4 N k4) := (hb7.cell (p := ⟨w4.heap.size, 8, none⟩) (cell_in x6)).trans x6
        have hb8 := B5.out.trans (HB6.out.mono B5.out.size)
        have hB7 := hb8.trans (hb7.mono hb8.size)
        have C7 := O.putNew p ks R3.out Hg1.out S3.out hB7 hL7 (fun g off s e => ⟨Nat.le_trans hb8.size (hA7 g off s e).1, (hA7 g off s e).2⟩) Hnl.out
        have HC7 := Lib.hid C7
        clear ho7 hL7 hA7 hb7 HP6 hflen C7 hb8 hB7
        refine hK.out _ _ x7 (fun hHeld => ?_)
        clear hK K
        (try simp only [Act.put, List.setIfInBounds_toArray, List.set_cons_zero, List.set_cons_succ])
        refine way_run (by simp only [List.getElem?_toArray, List.getElem?_cons_succ, List.getElem?_cons_zero]; rfl) (by rfl) (fun K hK => ?_)
        go_simp
        refine HC7.out.mono ?_
        rintro e w8 ⟨rfl, hR8, hk8, hk9⟩
        have x8 : w8.cell? ⟨w4.heap.size, 8, none⟩ = some (.slice A4 N k4) := by
          rw [← x7]
          exact (hk9.cell (p := ⟨w4.heap.size, 8, none⟩) (cell_in x7) (fun h => absurd h.2 (Nat.not_lt.2 hs4)))
        have HR8 := Lib.hid hR8
        have HK8 := Lib.hid (K3.out.also hk8)
        clear hR8 hk8 hk9
        refine hK.out _ _ x8 (fun hHeld => ?_)
        clear hK K
        (try simp only [Act.put, List.setIfInBounds_toArray, List.set_cons_zero, List.set_cons_succ])
        (repeat (first | (refine way_skip (by simp only [List.getElem?_toArray, List.getElem?_cons_succ, List.getElem?_cons_zero]; rfl) (by rfl) hHeld ?_; (try simp only [Act.put, List.setIfInBounds_toArray, List.set_cons_zero, List.set_cons_succ])) | (refine way_pass (by simp only [List.getElem?_toArray, List.getElem?_cons_succ, List.getElem?_cons_zero]; rfl) (by rfl) hHeld ?_; (try simp only [Act.put, List.setIfInBounds_toArray, List.set_cons_zero, List.set_cons_succ])) | (refine way_take (v := ?_) (by simp only [List.getElem?_toArray, List.getElem?_cons_succ, List.getElem?_cons_zero]; rfl) (by rfl) ?_ hHeld ?_; rotate_left; (focus (intro w hSw; (try dsimp only at hSw); go_simp; (try with_reducible rfl); done)); (try simp only [Act.put, List.setIfInBounds_toArray, List.set_cons_zero, List.set_cons_succ]))))
        refine way_done ?_
        go_wp2
        go_ret
        rw [Herr.out, Hel.out]
        exact ⟨rfl, HR8.out, HK8.out⟩
  · have el : l' = l := HL.out.trans (bef_err fun h => hz (HE.out.trans h))
    subst el
    have zE : (E != 0) = true := by simpa using hz
    clear hz
    go_wp2
    go_ret
    exact ⟨rfl, O.since H.out hb1, Keeps.ofUnder hb1⟩
theorem edAppend (O : ForestOk Rep) (M : ForestMore Rep) (n p : Int) (h : Rep S w b l) (hg : Good l) (hS : Fut S w.heap.size) :
    Calls Try.prog 13 #[at_ b, .int .i64 n, .int .i64 p] w fun e w' => e = .returned (.int .i64 (chkErr l n p 0)) ∧ Rep S w' b (befL l n p 0) ∧ Keeps S w w' := by
  have H := Lib.hid (edBefore O M n p 0 h hg hS)
  clear h hg hS
  go_enter Try.func13, Try.ntmps13
  go_wp2_with fail
  refine H.out.mono ?_
  rintro e w1 ⟨rfl, hR, hk⟩
  go_wp2
  go_ret
  exact ⟨rfl, hR, hk⟩
end
end Go.Proofs.Ytojcchjhimagiaa

namespace Go.Proofs.Ytojcchjhimagiaa
open Go Go.RowKit

section
variable {Rep : (Nat → Prop) → World → Nat → List Nd → Prop}
/-- A forest in blocks that S names, all of them made since w. -/
structure Live (Rep : (Nat → Prop) → World → Nat → List Nd → Prop) (w : World) (S : Nat → Prop) (b : Nat) (l : List Nd) (v : World) : Prop where
  rep : Rep S v b l
  low : ∀ i, S i → w.heap.size ≤ i ∧ i < v.heap.size
  below : Below w.heap.size w v
section
variable {w v v' : World} {S : Nat → Prop} {b : Nat} {l : List Nd}
theorem Live.next (O : ForestOk Rep) (h : Live Rep w S b l v) (hb : Below v.heap.size v v') : Live Rep w S b l v' :=
  ⟨O.since h.rep hb, fun i hi => ⟨(h.low i hi).1, Nat.lt_of_lt_of_le (h.low i hi).2 hb.size⟩, h.below.trans (hb.mono h.below.size)⟩
theorem Live.keep (O : ForestOk Rep) {F : Nat → Prop} (h : Live Rep w S b l v) (k : Keeps F v v') (hF : ∀ i, S i → ¬ F i) (hw : ∀ i, i < w.heap.size → ¬ F i) : Live Rep w S b l v' :=
  ⟨O.keep h.rep k fun i hi _ => hF i hi, fun i hi => ⟨(h.low i hi).1, Nat.lt_of_lt_of_le (h.low i hi).2 k.grows⟩, below_then h.below k h.below.size hw⟩
theorem keepsBox (w : World) (g : Nat) (u0 u1 u2 u3 u4 u5 u6 u7 u8 : Value) : Keeps (fun i => i = g) w (((((((((w.setCell ⟨g, 0, none⟩ u0).setCell ⟨g, 1, none⟩ u1).setCell ⟨g, 2, none⟩ u2).setCell ⟨g, 3, none⟩ u3).setCell ⟨g, 4, none⟩ u4).setCell ⟨g, 5, none⟩ u5).setCell ⟨g, 6, none⟩ u6).setCell ⟨g, 7, none⟩ u7).setCell ⟨g, 8, none⟩ u8) :=
  (((((((((Keeps.refl (fun i => i = g) w).store (p := ⟨g, 0, none⟩) (.inl rfl) _).store (p := ⟨g, 1, none⟩) (.inl rfl) _).store (p := ⟨g, 2, none⟩) (.inl rfl) _).store (p := ⟨g, 3, none⟩) (.inl rfl) _).store (p := ⟨g, 4, none⟩) (.inl rfl) _).store (p := ⟨g, 5, none⟩) (.inl rfl) _).store (p := ⟨g, 6, none⟩) (.inl rfl) _).store (p := ⟨g, 7, none⟩) (.inl rfl) _).store (p := ⟨g, 8, none⟩) (.inl rfl) _
theorem live_new (O : ForestOk Rep) {w1 : World} (h : Rep (fun i => w1.heap.size ≤ i) v b l) (hw : Below w.heap.size w w1) (hb : Below w1.heap.size w1 v) : ∃ S, Live Rep w S b l v :=
  ⟨fun i => w1.heap.size ≤ i ∧ i < v.heap.size, O.wide h fun _ hi hlt => ⟨hi, hlt⟩, fun _ hi => ⟨Nat.le_trans hw.size hi.1, hi.2⟩, hw.trans (hb.mono hw.size)⟩
/-- A change. -/
theorem Live.turned (O : ForestOk Rep) {l' : List Nd} (h : Live Rep w S b l v) (hR : Rep (fun i => S i ∨ v.heap.size ≤ i) v' b l') (hk : Keeps (fun i => S i ∨ v.heap.size ≤ i) v v') :
    (∃ S', Live Rep w S' b l' v' ∧ ∀ i, i < v.heap.size → ¬ S i → ¬ S' i) ∧ Keeps S v v' := by
  have hk' : Keeps S v v' := hk.wide fun i hi hh => hh.resolve_right (Nat.not_le.2 hi)
  refine ⟨⟨fun i => (S i ∨ v.heap.size ≤ i) ∧ i < v'.heap.size, ⟨O.wide hR fun _ hi hlt => ⟨hi, hlt⟩, fun i hi => ⟨?_, hi.2⟩, below_then h.below hk' h.below.size fun i hi hS => ?_⟩, fun i hi hn hh => ?_⟩, hk'⟩
  · rcases hi.1 with h1 | h1
    · exact (h.low i h1).1
    · exact Nat.le_trans h.below.size h1
  · have := (h.low i hS).1
    omega
  · rcases hh.1 with h1 | h1
    · exact hn h1
    · omega
theorem liveBefore (O : ForestOk Rep) (M : ForestMore Rep) (n p c : Int) (h : Live Rep w S b l v) (hg : Good l) :
    Calls Try.prog 11 #[at_ b, .int .i64 n, .int .i64 p, .int .i64 c] v fun e v' => e = .returned (.int .i64 (chkErr l n p c)) ∧ (∃ S', Live Rep w S' b (befL l n p c) v' ∧ ∀ i, i < v.heap.size → ¬ S i → ¬ S' i) ∧ Keeps S v v' :=
  (edBefore O M n p c (O.wide h.rep fun _ hi _ => .inl hi) hg (S := fun i => S i ∨ v.heap.size ≤ i) fun _ hi => .inr hi).mono fun _ _ ⟨he, hR, hk⟩ => ⟨he, h.turned O hR hk⟩
theorem liveAppend (O : ForestOk Rep) (M : ForestMore Rep) (n p : Int) (h : Live Rep w S b l v) (hg : Good l) :
    Calls Try.prog 13 #[at_ b, .int .i64 n, .int .i64 p] v fun e v' => e = .returned (.int .i64 (chkErr l n p 0)) ∧ (∃ S', Live Rep w S' b (befL l n p 0) v' ∧ ∀ i, i < v.heap.size → ¬ S i → ¬ S' i) ∧ Keeps S v v' :=
  (edAppend O M n p (O.wide h.rep fun _ hi _ => .inl hi) hg (S := fun i => S i ∨ v.heap.size ≤ i) fun _ hi => .inr hi).mono fun _ _ ⟨he, hR, hk⟩ => ⟨he, h.turned O hR hk⟩
theorem liveRemove (O : ForestOk Rep) (M : ForestMore Rep) (n p : Int) (h : Live Rep w S b l v) (hg : Good l) :
    Calls Try.prog 14 #[at_ b, .int .i64 n, .int .i64 p] v fun e v' => e = .returned (.int .i64 (rmErr l n p)) ∧ (∃ S', Live Rep w S' b (rmL l n p) v' ∧ ∀ i, i < v.heap.size → ¬ S i → ¬ S' i) ∧ Keeps S v v' :=
  (edRemove O M n p (O.wide h.rep fun _ hi _ => .inl hi) hg (S := fun i => S i ∨ v.heap.size ≤ i) fun _ hi => .inr hi).mono fun _ _ ⟨he, hR, hk⟩ => ⟨he, h.turned O hR hk⟩
theorem liveClear (O : ForestOk Rep) (p : Int) (h : Live Rep w S b l v) (hg : Good l) :
    Calls Try.prog 16 #[at_ b, .int .i64 p] v fun e v' => e = .returned (.int .i64 (putErr l p [])) ∧ (∃ S', Live Rep w S' b (putL l p []) v' ∧ ∀ i, i < v.heap.size → ¬ S i → ¬ S' i) ∧ Keeps S v v' :=
  (edClear O p (O.wide h.rep fun _ hi _ => .inl hi) hg (S := fun i => S i ∨ v.heap.size ≤ i) fun _ hi => .inr hi).mono fun _ _ ⟨he, hR, hk⟩ => ⟨he, h.turned O hR hk⟩
end

/-- The calls of the document's example. -/
def actE7 : Ac := ⟨0, 0, 0, ⟨#[]⟩, elem, []⟩
def actP7 : Ac := ⟨1, 1, 0, ⟨#[]⟩, Nd.zero, [2, 3]⟩
def acts7 : List Ac := [actE7, actE7, actE7, actP7]
theorem acts7_small : Small acts7 := by
  unfold Small
  decide
theorem acts7_forest : forest acts7 = putL [elem, elem, elem] 1 [2, 3] := by
  have e1 : mkL [] elem = [elem] := by
    unfold mkL
    rw [if_pos (elem_err _ (by simp))]
    rfl
  have e2 : mkL [elem] elem = [elem, elem] := by
    unfold mkL
    rw [if_pos (elem_err _ (by simp))]
    rfl
  have e3 : mkL [elem, elem] elem = [elem, elem, elem] := by
    unfold mkL
    rw [if_pos (elem_err _ (by simp))]
    rfl
  show putL (mkL (mkL (mkL [] elem) elem) elem) 1 [2, 3] = _
  rw [e1, e2, e3]
theorem acts7_check : chkErr (forest acts7) 3 1 2 = 0 := by rw [acts7_forest]; decide +kernel
theorem acts7_kids : (nd (befL (forest acts7) 3 1 2) 1).kids = [3, 2] := by rw [acts7_forest]; decide +kernel
theorem acts7_there : thereB (befL (forest acts7) 3 1 2) 1 = true := by rw [acts7_forest]; decide +kernel
theorem acts7_in (w : World) : Acts ((w.alloc (.cells #[.int .i64 2, .int .i64 3] 3)).alloc (.cells #[.int .i64 0, .int .i64 0, .int .i64 0, .string ⟨#[]⟩, .int .i64 2, .int .i64 0, .int .i64 0, .int .i64 0, .int .i64 0, .bool false, .string ⟨#[]⟩, .string ⟨#[]⟩, .slice none 0 0, .slice none 0 0, .int .i64 0, .int .i64 0, .int .i64 0, .string ⟨#[]⟩, .int .i64 2, .int .i64 0, .int .i64 0, .int .i64 0, .int .i64 0, .bool false, .string ⟨#[]⟩, .string ⟨#[]⟩, .slice none 0 0, .slice none 0 0, .int .i64 0, .int .i64 0, .int .i64 0, .string ⟨#[]⟩, .int .i64 2, .int .i64 0, .int .i64 0, .int .i64 0, .int .i64 0, .bool false, .string ⟨#[]⟩, .string ⟨#[]⟩, .slice none 0 0, .slice none 0 0, .int .i64 1, .int .i64 1, .int .i64 0, .string ⟨#[]⟩, .int .i64 0, .int .i64 0, .int .i64 0, .int .i64 0, .int .i64 0, .bool false, .string ⟨#[]⟩, .string ⟨#[]⟩, .slice none 0 0, .slice (some ⟨w.heap.size, 0, none⟩) 2 2] 56)) (some ⟨w.heap.size + 1, 0, none⟩) acts7 := by
  have h1 : Has ((w.alloc (.cells #[.int .i64 2, .int .i64 3] 3)).alloc (.cells #[.int .i64 0, .int .i64 0, .int .i64 0, .string ⟨#[]⟩, .int .i64 2, .int .i64 0, .int .i64 0, .int .i64 0, .int .i64 0, .bool false, .string ⟨#[]⟩, .string ⟨#[]⟩, .slice none 0 0, .slice none 0 0, .int .i64 0, .int .i64 0, .int .i64 0, .string ⟨#[]⟩, .int .i64 2, .int .i64 0, .int .i64 0, .int .i64 0, .int .i64 0, .bool false, .string ⟨#[]⟩, .string ⟨#[]⟩, .slice none 0 0, .slice none 0 0, .int .i64 0, .int .i64 0, .int .i64 0, .string ⟨#[]⟩, .int .i64 2, .int .i64 0, .int .i64 0, .int .i64 0, .int .i64 0, .bool false, .string ⟨#[]⟩, .string ⟨#[]⟩, .slice none 0 0, .slice none 0 0, .int .i64 1, .int .i64 1, .int .i64 0, .string ⟨#[]⟩, .int .i64 0, .int .i64 0, .int .i64 0, .int .i64 0, .int .i64 0, .bool false, .string ⟨#[]⟩, .string ⟨#[]⟩, .slice none 0 0, .slice (some ⟨w.heap.size, 0, none⟩) 2 2] 56)) w.heap.size (.cells #[.int .i64 2, .int .i64 3] 3 (0, 0)) := (Has.fresh _ _).more _
  have h2 : Has ((w.alloc (.cells #[.int .i64 2, .int .i64 3] 3)).alloc (.cells #[.int .i64 0, .int .i64 0, .int .i64 0, .string ⟨#[]⟩, .int .i64 2, .int .i64 0, .int .i64 0, .int .i64 0, .int .i64 0, .bool false, .string ⟨#[]⟩, .string ⟨#[]⟩, .slice none 0 0, .slice none 0 0, .int .i64 0, .int .i64 0, .int .i64 0, .string ⟨#[]⟩, .int .i64 2, .int .i64 0, .int .i64 0, .int .i64 0, .int .i64 0, .bool false, .string ⟨#[]⟩, .string ⟨#[]⟩, .slice none 0 0, .slice none 0 0, .int .i64 0, .int .i64 0, .int .i64 0, .string ⟨#[]⟩, .int .i64 2, .int .i64 0, .int .i64 0, .int .i64 0, .int .i64 0, .bool false, .string ⟨#[]⟩, .string ⟨#[]⟩, .slice none 0 0, .slice none 0 0, .int .i64 1, .int .i64 1, .int .i64 0, .string ⟨#[]⟩, .int .i64 0, .int .i64 0, .int .i64 0, .int .i64 0, .int .i64 0, .bool false, .string ⟨#[]⟩, .string ⟨#[]⟩, .slice none 0 0, .slice (some ⟨w.heap.size, 0, none⟩) 2 2] 56)) (w.heap.size + 1) (.cells #[.int .i64 0, .int .i64 0, .int .i64 0, .string ⟨#[]⟩, .int .i64 2, .int .i64 0, .int .i64 0, .int .i64 0, .int .i64 0, .bool false, .string ⟨#[]⟩, .string ⟨#[]⟩, .slice none 0 0, .slice none 0 0, .int .i64 0, .int .i64 0, .int .i64 0, .string ⟨#[]⟩, .int .i64 2, .int .i64 0, .int .i64 0, .int .i64 0, .int .i64 0, .bool false, .string ⟨#[]⟩, .string ⟨#[]⟩, .slice none 0 0, .slice none 0 0, .int .i64 0, .int .i64 0, .int .i64 0, .string ⟨#[]⟩, .int .i64 2, .int .i64 0, .int .i64 0, .int .i64 0, .int .i64 0, .bool false, .string ⟨#[]⟩, .string ⟨#[]⟩, .slice none 0 0, .slice none 0 0, .int .i64 1, .int .i64 1, .int .i64 0, .string ⟨#[]⟩, .int .i64 0, .int .i64 0, .int .i64 0, .int .i64 0, .int .i64 0, .bool false, .string ⟨#[]⟩, .string ⟨#[]⟩, .slice none 0 0, .slice (some ⟨w.heap.size, 0, none⟩) 2 2] 56 (0, 0)) := by
    have := Has.fresh (w.alloc (.cells #[.int .i64 2, .int .i64 3] 3)) (.cells #[.int .i64 0, .int .i64 0, .int .i64 0, .string ⟨#[]⟩, .int .i64 2, .int .i64 0, .int .i64 0, .int .i64 0, .int .i64 0, .bool false, .string ⟨#[]⟩, .string ⟨#[]⟩, .slice none 0 0, .slice none 0 0, .int .i64 0, .int .i64 0, .int .i64 0, .string ⟨#[]⟩, .int .i64 2, .int .i64 0, .int .i64 0, .int .i64 0, .int .i64 0, .bool false, .string ⟨#[]⟩, .string ⟨#[]⟩, .slice none 0 0, .slice none 0 0, .int .i64 0, .int .i64 0, .int .i64 0, .string ⟨#[]⟩, .int .i64 2, .int .i64 0, .int .i64 0, .int .i64 0, .int .i64 0, .bool false, .string ⟨#[]⟩, .string ⟨#[]⟩, .slice none 0 0, .slice none 0 0, .int .i64 1, .int .i64 1, .int .i64 0, .string ⟨#[]⟩, .int .i64 0, .int .i64 0, .int .i64 0, .int .i64 0, .int .i64 0, .bool false, .string ⟨#[]⟩, .string ⟨#[]⟩, .slice none 0 0, .slice (some ⟨w.heap.size, 0, none⟩) 2 2] 56)
    rw [show (w.alloc (.cells #[.int .i64 2, .int .i64 3] 3)).heap.size = w.heap.size + 1 by simp] at this
    exact this
  have h3 := acts_lit (rows := [(actE7, (none, 0), none, 0), (actE7, (none, 0), none, 0), (actE7, (none, 0), none, 0), (actP7, (none, 0), some ⟨w.heap.size, 0, none⟩, 2)]) h2 (by
    intro r hr
    have eE : ListIn ((w.alloc (.cells #[.int .i64 2, .int .i64 3] 3)).alloc (.cells #[.int .i64 0, .int .i64 0, .int .i64 0, .string ⟨#[]⟩, .int .i64 2, .int .i64 0, .int .i64 0, .int .i64 0, .int .i64 0, .bool false, .string ⟨#[]⟩, .string ⟨#[]⟩, .slice none 0 0, .slice none 0 0, .int .i64 0, .int .i64 0, .int .i64 0, .string ⟨#[]⟩, .int .i64 2, .int .i64 0, .int .i64 0, .int .i64 0, .int .i64 0, .bool false, .string ⟨#[]⟩, .string ⟨#[]⟩, .slice none 0 0, .slice none 0 0, .int .i64 0, .int .i64 0, .int .i64 0, .string ⟨#[]⟩, .int .i64 2, .int .i64 0, .int .i64 0, .int .i64 0, .int .i64 0, .bool false, .string ⟨#[]⟩, .string ⟨#[]⟩, .slice none 0 0, .slice none 0 0, .int .i64 1, .int .i64 1, .int .i64 0, .string ⟨#[]⟩, .int .i64 0, .int .i64 0, .int .i64 0, .int .i64 0, .int .i64 0, .bool false, .string ⟨#[]⟩, .string ⟨#[]⟩, .slice none 0 0, .slice (some ⟨w.heap.size, 0, none⟩) 2 2] 56)) none 0 actE7.n.kids ∧ ActIn ((w.alloc (.cells #[.int .i64 2, .int .i64 3] 3)).alloc (.cells #[.int .i64 0, .int .i64 0, .int .i64 0, .string ⟨#[]⟩, .int .i64 2, .int .i64 0, .int .i64 0, .int .i64 0, .int .i64 0, .bool false, .string ⟨#[]⟩, .string ⟨#[]⟩, .slice none 0 0, .slice none 0 0, .int .i64 0, .int .i64 0, .int .i64 0, .string ⟨#[]⟩, .int .i64 2, .int .i64 0, .int .i64 0, .int .i64 0, .int .i64 0, .bool false, .string ⟨#[]⟩, .string ⟨#[]⟩, .slice none 0 0, .slice none 0 0, .int .i64 0, .int .i64 0, .int .i64 0, .string ⟨#[]⟩, .int .i64 2, .int .i64 0, .int .i64 0, .int .i64 0, .int .i64 0, .bool false, .string ⟨#[]⟩, .string ⟨#[]⟩, .slice none 0 0, .slice none 0 0, .int .i64 1, .int .i64 1, .int .i64 0, .string ⟨#[]⟩, .int .i64 0, .int .i64 0, .int .i64 0, .int .i64 0, .int .i64 0, .bool false, .string ⟨#[]⟩, .string ⟨#[]⟩, .slice none 0 0, .slice (some ⟨w.heap.size, 0, none⟩) 2 2] 56)) actE7 none 0 := ⟨listNone _, Nat.zero_le _, Nat.zero_le _, Nat.zero_le _, Nat.le_refl _, fun _ => rfl, (listNone _).nums⟩
    have eP : ListIn ((w.alloc (.cells #[.int .i64 2, .int .i64 3] 3)).alloc (.cells #[.int .i64 0, .int .i64 0, .int .i64 0, .string ⟨#[]⟩, .int .i64 2, .int .i64 0, .int .i64 0, .int .i64 0, .int .i64 0, .bool false, .string ⟨#[]⟩, .string ⟨#[]⟩, .slice none 0 0, .slice none 0 0, .int .i64 0, .int .i64 0, .int .i64 0, .string ⟨#[]⟩, .int .i64 2, .int .i64 0, .int .i64 0, .int .i64 0, .int .i64 0, .bool false, .string ⟨#[]⟩, .string ⟨#[]⟩, .slice none 0 0, .slice none 0 0, .int .i64 0, .int .i64 0, .int .i64 0, .string ⟨#[]⟩, .int .i64 2, .int .i64 0, .int .i64 0, .int .i64 0, .int .i64 0, .bool false, .string ⟨#[]⟩, .string ⟨#[]⟩, .slice none 0 0, .slice none 0 0, .int .i64 1, .int .i64 1, .int .i64 0, .string ⟨#[]⟩, .int .i64 0, .int .i64 0, .int .i64 0, .int .i64 0, .int .i64 0, .bool false, .string ⟨#[]⟩, .string ⟨#[]⟩, .slice none 0 0, .slice (some ⟨w.heap.size, 0, none⟩) 2 2] 56)) none 0 actP7.n.kids ∧ ActIn ((w.alloc (.cells #[.int .i64 2, .int .i64 3] 3)).alloc (.cells #[.int .i64 0, .int .i64 0, .int .i64 0, .string ⟨#[]⟩, .int .i64 2, .int .i64 0, .int .i64 0, .int .i64 0, .int .i64 0, .bool false, .string ⟨#[]⟩, .string ⟨#[]⟩, .slice none 0 0, .slice none 0 0, .int .i64 0, .int .i64 0, .int .i64 0, .string ⟨#[]⟩, .int .i64 2, .int .i64 0, .int .i64 0, .int .i64 0, .int .i64 0, .bool false, .string ⟨#[]⟩, .string ⟨#[]⟩, .slice none 0 0, .slice none 0 0, .int .i64 0, .int .i64 0, .int .i64 0, .string ⟨#[]⟩, .int .i64 2, .int .i64 0, .int .i64 0, .int .i64 0, .int .i64 0, .bool false, .string ⟨#[]⟩, .string ⟨#[]⟩, .slice none 0 0, .slice none 0 0, .int .i64 1, .int .i64 1, .int .i64 0, .string ⟨#[]⟩, .int .i64 0, .int .i64 0, .int .i64 0, .int .i64 0, .int .i64 0, .bool false, .string ⟨#[]⟩, .string ⟨#[]⟩, .slice none 0 0, .slice (some ⟨w.heap.size, 0, none⟩) 2 2] 56)) actP7 (some ⟨w.heap.size, 0, none⟩) 2 := ⟨listNone _, Nat.zero_le _, Nat.zero_le _, Nat.zero_le _, Nat.le_refl _, (fun e => by cases e), (listLit (xs := [2, 3]) h1).nums⟩
    simp only [List.mem_cons, List.not_mem_nil, or_false] at hr
    rcases hr with rfl | rfl | rfl | rfl
    · exact eE
    · exact eE
    · exact eE
    · exact eP)
  exact h3

set_option maxHeartbeats 4000000 in
set_option maxRecDepth 100000 in
theorem awake7_any (O : ForestOk Rep) (M : ForestMore Rep) (w : World) : Calls Try.prog 7 #[] w fun e w' => e = .returned (.bool true) ∧ Below w.heap.size w w' := by
  have HA := Lib.hid (acts7_in w)
  have HB : Hid (Below w.heap.size w ((w.alloc (.cells #[.int .i64 2, .int .i64 3] 3)).alloc (.cells #[.int .i64 0, .int .i64 0, .int .i64 0, .string ⟨#[]⟩, .int .i64 2, .int .i64 0, .int .i64 0, .int .i64 0, .int .i64 0, .bool false, .string ⟨#[]⟩, .string ⟨#[]⟩, .slice none 0 0, .slice none 0 0, .int .i64 0, .int .i64 0, .int .i64 0, .string ⟨#[]⟩, .int .i64 2, .int .i64 0, .int .i64 0, .int .i64 0, .int .i64 0, .bool false, .string ⟨#[]⟩, .string ⟨#[]⟩, .slice none 0 0, .slice none 0 0, .int .i64 0, .int .i64 0, .int .i64 0, .string ⟨#[]⟩, .int .i64 2, .int .i64 0, .int .i64 0, .int .i64 0, .int .i64 0, .bool false, .string ⟨#[]⟩, .string ⟨#[]⟩, .slice none 0 0, .slice none 0 0, .int .i64 1, .int .i64 1, .int .i64 0, .string ⟨#[]⟩, .int .i64 0, .int .i64 0, .int .i64 0, .int .i64 0, .int .i64 0, .bool false, .string ⟨#[]⟩, .string ⟨#[]⟩, .slice none 0 0, .slice (some ⟨w.heap.size, 0, none⟩) 2 2] 56))) := Lib.hid (((Below.refl _ w).alloc (Nat.le_refl _) _).alloc (by simp) _)
  have Hg := Lib.hid (good_forest acts7_small)
  have H1 := Lib.hid acts7_check
  have H2 := Lib.hid acts7_kids
  have H3 := Lib.hid acts7_there
  obtain ⟨l, hl⟩ : ∃ l, l = forest acts7 := ⟨_, rfl⟩
  have HL := Lib.hid hl
  rw [← hl] at H1 H2 H3 Hg
  clear hl
  go_enter Try.func7, Try.ntmps7
  go_wp2_with fail
  refine (built_any O _ 4 4 acts7 _ rfl HA.out acts7_small).mono ?_
  rintro e w1 ⟨b, rfl, hR, hb1⟩
  rw [← HL.out] at hR
  obtain ⟨S, hLv⟩ := live_new O hR HB.out hb1
  have LV := Lib.hid hLv
  clear hR hb1 HB HA HL hLv
  go_wp2_with fail
  refine (liveBefore O M 3 1 2 LV.out Hg.out).mono ?_
  rintro e w2 ⟨rfl, ⟨S2, hL2, -⟩, -⟩
  rw [H1.out]
  have L2 := Lib.hid hL2
  clear hL2
  go_wp2_with fail
  refine (nodeYes M L2.out.rep (good_bef Hg.out) H3.out).mono ?_
  rintro e w3 ⟨A3, c3, rfl, hk3, hb3⟩
  obtain ⟨d, hd⟩ : ∃ d, d = nd (befL l 3 1 2) 1 := ⟨_, rfl⟩
  rw [← hd] at hk3 H2
  rw [← hd]
  have hkd := H2.out
  have L3 := Lib.hid (L2.out.next O (hb3.alloc hb3.size (.cells #[.int .i64 d.kind, .int .i64 d.parent, .int .i64 d.host, .int .i64 d.shadow, .int .i64 d.mode, .bool d.slot, .string d.name, .string d.want, .slice A3 d.kids.length c3] 45)))
  have x3 : (w3.alloc (.cells #[.int .i64 d.kind, .int .i64 d.parent, .int .i64 d.host, .int .i64 d.shadow, .int .i64 d.mode, .bool d.slot, .string d.name, .string d.want, .slice A3 d.kids.length c3] 45)).cell? ⟨w3.heap.size, 8, none⟩ = some (.slice A3 d.kids.length c3) := (Has.fresh w3 (.cells #[.int .i64 d.kind, .int .i64 d.parent, .int .i64 d.host, .int .i64 d.shadow, .int .i64 d.mode, .bool d.slot, .string d.name, .string d.want, .slice A3 d.kids.length c3] 45)).cell 8
  obtain ⟨A', c', e', hL3⟩ := hk3.list
  obtain ⟨rfl, rfl⟩ : A3 = A' ∧ c3 = c' := by injection e' with e1 _ e3; exact ⟨e1, e3⟩
  have hLL := hL3.below ((Below.refl _ w3).alloc (Nat.le_refl _) (.cells #[.int .i64 d.kind, .int .i64 d.parent, .int .i64 d.host, .int .i64 d.shadow, .int .i64 d.mode, .bool d.slot, .string d.name, .string d.want, .slice A3 d.kids.length c3] 45))
  have hlen : d.kids.length = 2 := by rw [hkd]; rfl
  rw [hlen] at x3 hLL L3
  rw [hkd] at hLL
  rw [hlen]
  have HLL := Lib.hid hLL
  clear hLL hlen hkd hL3 e' hk3 hb3 hd H1 H2 H3 L2 LV
  go_wp2_with fail
  obtain ⟨W, hW⟩ : ∃ W, W = w3.alloc (.cells #[.int .i64 d.kind, .int .i64 d.parent, .int .i64 d.host, .int .i64 d.shadow, .int .i64 d.mode, .bool d.slot, .string d.name, .string d.want, .slice A3 2 c3] 45) := ⟨_, rfl⟩
  rw [← hW] at HLL L3
  rw [← hW]
  have hb5 : Below W.heap.size W (W.alloc (.cells #[.int .i64 3, .int .i64 2] 3)) := (Below.refl _ W).alloc (Nat.le_refl _) _
  have hl5 : ListIn (W.alloc (.cells #[.int .i64 3, .int .i64 2] 3)) (some ⟨W.heap.size, 0, none⟩) 2 [3, 2] := listLit (xs := [3, 2]) (Has.fresh W _)
  have hWs : W.heap.size = w3.heap.size + 1 := by rw [hW]; simp
  rw [hWs] at hl5
  clear hW x3
  refine (ints_any [3, 2] [3, 2] _ _ 2 2 _ _ _ rfl rfl (by decide) (HLL.out.below hb5).nums hl5.nums).mono ?_
  rintro e w6 ⟨rfl, hb6⟩
  rw [sameInts_self]
  have L6 := Lib.hid ((L3.out.next O hb5).next O hb6)
  clear hb5 hl5 hb6
  go_wp2
  go_ret
  exact ⟨rfl, L6.out.below⟩
end
end Go.Proofs.Ytojcchjhimagiaa

namespace Go.Proofs.Ytojcchjhimagiaa
open Go Go.RowKit

section
variable {l : List Nd} {n p c : Int}
theorem idx_cut {a b : List Int} {x : Int} (h : x ∉ a) : idxL (a ++ x :: b) x = (a.length : Int) := by
  unfold idxL
  rw [if_pos (by simp), List.idxOf_append, if_neg h, List.idxOf_cons_self, Nat.zero_add]
theorem back_frag (hg : Good l) (h : chkErr l n p c = 0) (h4 : (nd l n).kind = 4) : (nd (befL l n p c) n).kids = [] := by
  rw [bef_nd hg h (chk_zero h).1]
  show (if n = p then newK l n p c else if (nd l n).kind = 4 then (if n = n then [] else (nd l n).kids) else if n = (nd l n).parent then lessL (nd l n).kids n else (nd l n).kids) = []
  rw [if_neg (chk_ne hg.tree h), if_pos h4, if_pos rfl]
theorem back_par (hg : Good l) (h : chkErr l n p c = 0) (h4 : (nd l n).kind ≠ 4) : (nd (befL l n p c) n).parent = p := by
  rw [bef_nd hg h (chk_zero h).1]
  show (if n ∈ moveL l n then p else (nd l n).parent) = p
  unfold moveL
  rw [if_neg h4, if_pos (by simp)]
theorem back_kids (hg : Good l) (h : chkErr l n p c = 0) : (nd (befL l n p c) p).kids = newK l n p c := by
  rw [bef_nd hg h (chk_zero h).2.1]
  exact if_pos rfl
theorem back_next (hg : Good l) (h : chkErr l n p c = 0) (h4 : (nd l n).kind ≠ 4) (hc : c ≠ n) : nextL (rowL (befL l n p c) n) n = c := by
  obtain ⟨hn, hp, -⟩ := chk_zero h
  have hr : rowL (befL l n p c) n = newK l n p c := by
    unfold rowL
    rw [if_pos (by rw [bef_there]; exact hn), back_par hg h h4, if_pos (by rw [bef_there]; exact hp), back_kids hg h]
  have hm : moveL l n = [n] := by unfold moveL; rw [if_neg h4]
  have hs : seatL l n c = c := if_neg hc
  obtain ⟨a, b, e, h1, h2⟩ := insL_form (ms := moveL l n) (loose_once hg h) (seat_in hg.tree h)
  have hk : newK l n p c = a ++ n :: b := by
    have : newK l n p c = a ++ (moveL l n ++ b) := h1
    rw [this, hm]
    rfl
  have hna : n ∉ a := by
    have := newK_once hg h
    rw [hk] at this
    exact fun hx => (List.nodup_append.1 this).2.2 n hx n List.mem_cons_self rfl
  rw [hr, hk, next_cut (idx_cut hna)]
  rw [hs] at h2
  rcases h2 with ⟨e1, e2⟩ | e1
  · rw [e2, e1]
    rfl
  · cases b with
    | nil => cases e1
    | cons y b => exact Option.some.inj e1
theorem back_rm (hg : Good l) (h : chkErr l n p c = 0) (h4 : (nd l n).kind ≠ 4) : rmErr (befL l n p c) n p = 0 := by
  obtain ⟨hn, hp, -⟩ := chk_zero h
  unfold rmErr
  rw [if_neg (by rw [bef_there, bef_there, hn, hp]; simp), if_neg (fun e => e (back_par hg h h4))]
/-- What is removed has no parent. -/
theorem gone_par (hg : Good l) (h : rmErr l n p = 0) : (nd (rmL l n p) n).parent = 0 := by
  rw [rm_nd hg.tree h (rm_zero h).1]
  exact if_pos rfl
theorem gone_err (hg : Good l) (h : rmErr l n p = 0) : rmErr (rmL l n p) n p = 4 := by
  obtain ⟨hn, hp, -⟩ := rm_zero h
  unfold rmErr
  rw [if_neg (by rw [there_len (rm_len n p), there_len (rm_len n p), hn, hp]; simp), if_pos (by rw [gone_par hg h]; exact fun e => there_pos hp e.symm)]
theorem gone_root (hg : Good l) (h : rmErr l n p = 0) : rootL (rmL l n p) n = n := rootL_own (good_rm hg).tree (by rw [there_len (rm_len n p)]; exact (rm_zero h).1) (gone_par hg h)
theorem gone_same (h : rmErr l n p ≠ 0) : rmL l n p = l := if_neg h
end

section
variable {Rep : (Nat → Prop) → World → Nat → List Nd → Prop}
set_option maxHeartbeats 8000000 in
set_option maxRecDepth 100000 in
theorem editBack_any (O : ForestOk Rep) (M : ForestMore Rep) (A : Option Addr) (n c : Nat) (xs : List Ac) (a a2 a3 : Int) (w : World) (hn : xs.length = n) (hm : n ≤ maxLen) (h : Acts w A xs) :
    Calls Try.prog 4 #[.slice A n c, .int .i64 a, .int .i64 a2, .int .i64 a3] w fun e w' => e = .returned (.bool true) ∧ Below w.heap.size w w' := by
  have hnot : ∀ (x : Bool) (w : World), (Op.unary .not (.bool x)).run Try.prog w = .ok (.bool (!x)) w := fun _ _ => rfl
  have H := Lib.hid h
  have Hn := Lib.hid hn
  have Hm := Lib.hid hm
  clear h hn hm
  go_enter Try.func4, Try.ntmps4
  go_wp2_with fail
  refine (awake7_any O M w).mono ?_
  rintro e w0 ⟨rfl, hb0⟩
  go_wp2_with fail
  refine (great_any A n c xs w0 Hn.out Hm.out (H.out.below hb0)).mono ?_
  rintro e w1 ⟨⟨gr, rfl, hgr⟩, rfl⟩
  cases gr with
  | true =>
    go_wp2
    go_ret
    exact ⟨rfl, hb0⟩
  | false =>
    have Hs := Lib.hid (hgr rfl)
    have Hb0 := Lib.hid hb0
    clear hgr hb0
    go_wp2_with fail
    refine (built_any O A n c xs w0 Hn.out (H.out.below Hb0.out) Hs.out).mono ?_
    rintro e w1 ⟨b, rfl, hR, hb1⟩
    have Hg := Lib.hid (good_forest Hs.out)
    obtain ⟨l, hl⟩ : ∃ l, l = forest xs := ⟨_, rfl⟩
    rw [← hl] at hR Hg
    obtain ⟨S, hLv⟩ := live_new O hR Hb0.out hb1
    have LV := Lib.hid hLv
    clear hR hb1 hLv Hb0 hl Hs H Hn
    go_wp2_with fail
    refine (M.node S w1 b l a LV.out.rep Hg.out).mono ?_
    rintro e w2 ⟨d, A2, k2, rfl, hd, -, hb2⟩
    have hB2 : Below w1.heap.size w1 (w2.alloc (.cells #[.int .i64 d.kind, .int .i64 d.parent, .int .i64 d.host, .int .i64 d.shadow, .int .i64 d.mode, .bool d.slot, .string d.name, .string d.want, .slice A2 d.kids.length k2] 45)) := hb2.alloc hb2.size _
    have hX2 : Has (w2.alloc (.cells #[.int .i64 d.kind, .int .i64 d.parent, .int .i64 d.host, .int .i64 d.shadow, .int .i64 d.mode, .bool d.slot, .string d.name, .string d.want, .slice A2 d.kids.length k2] 45)) w2.heap.size (.cells #[.int .i64 d.kind, .int .i64 d.parent, .int .i64 d.host, .int .i64 d.shadow, .int .i64 d.mode, .bool d.slot, .string d.name, .string d.want, .slice A2 d.kids.length k2] 45 (0, 0)) := Has.fresh _ _
    have hS2 : ¬ S w2.heap.size := fun hs => by
      have := (LV.out.low _ hs).2
      have := hb2.size
      omega
    have L2 := Lib.hid (LV.out.next O hB2)
    have X2 := Lib.hid hX2
    have D2 := Lib.hid hd
    have HS2 := Lib.hid hS2
    clear hb2 hB2 hX2 hd hS2
    go_wp2_with fail
    refine (liveBefore O M a a2 a3 L2.out Hg.out).mono ?_
    rintro e w3 ⟨rfl, ⟨S3, hL3, -⟩, hk3⟩
    have hX3 := X2.out.kept hk3 HS2.out
    have L3 := Lib.hid hL3
    have X3 := Lib.hid hX3
    clear hL3 hk3 hX3 L2 X2 HS2 LV
    obtain ⟨E, hE⟩ : ∃ E, E = chkErr l a a2 a3 := ⟨_, rfl⟩
    rw [← hE]
    by_cases hz : E = 0
    · subst hz
      have hchk := hE.symm
      obtain ⟨ht, -⟩ := chk_zero hchk
      have ed : d = nd l a := D2.out.trans (if_pos ht)
      have x0 : w3.cell? ⟨w2.heap.size, 0, none⟩ = some (.int .i64 d.kind) := X3.out.cell 0
      have Hchk := Lib.hid hchk
      have Hg3 := Lib.hid (good_bef (n := a) (p := a2) (c := a3) Hg.out)
      have ht3 : thereB (befL l a a2 a3) a = true := by rw [bef_there]; exact ht
      have Ht3 := Lib.hid ht3
      clear hE hchk ht3
      by_cases h4 : d.kind = 4
      · have hkd := back_frag Hg.out Hchk.out (by rw [← ed]; exact h4)
        have z4 : (d.kind == 4) = true := by simpa using h4
        have HK := Lib.hid hkd
        clear h4 hkd ed
        go_wp2_with fail
        refine (nodeYes M L3.out.rep Hg3.out Ht3.out).mono ?_
        rintro e w4 ⟨A4, k4, rfl, -, hb4⟩
        obtain ⟨d4, hd4⟩ : ∃ d4, d4 = nd (befL l a a2 a3) a := ⟨_, rfl⟩
        rw [← hd4] at HK
        rw [← hd4]
        have L4 := Lib.hid (L3.out.next O (hb4.alloc hb4.size (.cells #[.int .i64 d4.kind, .int .i64 d4.parent, .int .i64 d4.host, .int .i64 d4.shadow, .int .i64 d4.mode, .bool d4.slot, .string d4.name, .string d4.want, .slice A4 d4.kids.length k4] 45)))
        have x8 : (w4.alloc (.cells #[.int .i64 d4.kind, .int .i64 d4.parent, .int .i64 d4.host, .int .i64 d4.shadow, .int .i64 d4.mode, .bool d4.slot, .string d4.name, .string d4.want, .slice A4 d4.kids.length k4] 45)).cell? ⟨w4.heap.size, 8, none⟩ = some (.slice A4 d4.kids.length k4) := (Has.fresh w4 (.cells #[.int .i64 d4.kind, .int .i64 d4.parent, .int .i64 d4.host, .int .i64 d4.shadow, .int .i64 d4.mode, .bool d4.slot, .string d4.name, .string d4.want, .slice A4 d4.kids.length k4] 45)).cell 8
        have hlen : d4.kids.length = 0 := by rw [HK.out]; rfl
        rw [hlen] at x8 L4
        rw [hlen]
        clear hlen hb4 hd4 ht x0
        go_wp2
        go_ret
        exact ⟨rfl, L4.out.below⟩
      · have h4' : (nd l a).kind ≠ 4 := by rw [← ed]; exact h4
        have z4 : (d.kind == 4) = false := by simpa using h4
        have e1 := back_par Hg.out Hchk.out h4'
        have e2 := back_rm Hg.out Hchk.out h4'
        have e3 := fun hc => back_next Hg.out Hchk.out h4' hc
        have HP := Lib.hid e1
        have HR := Lib.hid e2
        have HN := Lib.hid e3
        clear h4 h4' e1 e2 e3 ed
        go_wp2_with fail
        refine (nodeYes M L3.out.rep Hg3.out Ht3.out).mono ?_
        rintro e w4 ⟨A4, k4, rfl, -, hb4⟩
        obtain ⟨l2, hl2⟩ : ∃ l2, l2 = befL l a a2 a3 := ⟨_, rfl⟩
        rw [← hl2] at HP HR HN L3 Hg3 Ht3
        rw [← hl2]
        obtain ⟨d4, hd4⟩ : ∃ d4, d4 = nd l2 a := ⟨_, rfl⟩
        rw [← hd4] at HP
        rw [← hd4]
        have L4 := Lib.hid (L3.out.next O (hb4.alloc hb4.size (.cells #[.int .i64 d4.kind, .int .i64 d4.parent, .int .i64 d4.host, .int .i64 d4.shadow, .int .i64 d4.mode, .bool d4.slot, .string d4.name, .string d4.want, .slice A4 d4.kids.length k4] 45)))
        have x1 : (w4.alloc (.cells #[.int .i64 d4.kind, .int .i64 d4.parent, .int .i64 d4.host, .int .i64 d4.shadow, .int .i64 d4.mode, .bool d4.slot, .string d4.name, .string d4.want, .slice A4 d4.kids.length k4] 45)).cell? ⟨w4.heap.size, 1, none⟩ = some (.int .i64 d4.parent) := (Has.fresh w4 (.cells #[.int .i64 d4.kind, .int .i64 d4.parent, .int .i64 d4.host, .int .i64 d4.shadow, .int .i64 d4.mode, .bool d4.slot, .string d4.name, .string d4.want, .slice A4 d4.kids.length k4] 45)).cell 1
        have zp : (d4.parent != a2) = false := by have := HP.out; simpa using this
        have hX4 : Has (w4.alloc (.cells #[.int .i64 d4.kind, .int .i64 d4.parent, .int .i64 d4.host, .int .i64 d4.shadow, .int .i64 d4.mode, .bool d4.slot, .string d4.name, .string d4.want, .slice A4 d4.kids.length k4] 45)) w4.heap.size (.cells #[.int .i64 d4.kind, .int .i64 d4.parent, .int .i64 d4.host, .int .i64 d4.shadow, .int .i64 d4.mode, .bool d4.slot, .string d4.name, .string d4.want, .slice A4 d4.kids.length k4] 45 (0, 0)) := Has.fresh _ _
        have hS4 : ¬ S3 w4.heap.size := fun hs => by
          have := (L3.out.low _ hs).2
          have := hb4.size
          omega
        have X4 := Lib.hid hX4
        have NS4 := Lib.hid hS4
        have hp8 := gone_par Hg3.out HR.out
        have hr8 := gone_root Hg3.out HR.out
        have ht7 : thereB (rmL l2 a a2) a = true := by rw [there_len (rm_len a a2)]; exact Ht3.out
        have HP8 := Lib.hid hp8
        have HR8 := Lib.hid hr8
        have Ht7 := Lib.hid ht7
        obtain ⟨g4, hg4⟩ : ∃ g, g = w4.heap.size := ⟨_, rfl⟩
        have W4s : w.heap.size ≤ g4 := by rw [hg4]; exact Nat.le_trans L3.out.below.size hb4.size
        clear hb4 hd4 ht x0 hl2 L3 X3 hX4 hS4 hp8 hr8 ht7
        by_cases hca : a3 = a
        · have zc : (a3 != a) = false := by simpa using hca
          clear hca HN
          go_upto_region 17 with (fail)
          rw [← hg4] at X4 NS4 x1
          rw [← hg4]
          have L5 := L4
          have X5 := X4
          have NS5 := NS4
          clear L4 X4 NS4 hg4 x1
          go_wp2_with fail
          refine (liveRemove O M a a2 L5.out Hg3.out).mono ?_
          rintro e w6 ⟨rfl, ⟨S6, hL6, hn6⟩, hk6⟩
          rw [HR.out]
          have X6 := Lib.hid (X5.out.kept hk6 NS5.out)
          have NS6 := Lib.hid (hn6 _ X5.out.inside NS5.out)
          have L6 := Lib.hid hL6
          clear hL6 hn6 hk6 L5 X5 NS5
          go_wp2_with fail
          refine (liveRemove O M a a2 L6.out (good_rm Hg3.out)).mono ?_
          rintro e w7 ⟨rfl, ⟨S7, hL7, hn7⟩, hk7⟩
          rw [gone_same (by rw [gone_err Hg3.out HR.out]; decide)] at hL7
          rw [gone_err Hg3.out HR.out]
          have X7 := Lib.hid (X6.out.kept hk7 NS6.out)
          have NS7 := Lib.hid (hn7 _ X6.out.inside NS6.out)
          have L7 := Lib.hid hL7
          clear hL7 hn7 hk7 L6 X6 NS6
          go_wp2_with fail
          refine (nodeYes M L7.out.rep (good_rm Hg3.out) Ht7.out).mono ?_
          rintro e w8 ⟨A8, k8, rfl, -, hb8⟩
          obtain ⟨d8, hd8⟩ : ∃ d8, d8 = nd (rmL l2 a a2) a := ⟨_, rfl⟩
          rw [← hd8] at HP8
          rw [← hd8]
          have hX8 := X7.out.below hb8 X7.out.inside
          have L8 := Lib.hid (L7.out.next O hb8)
          have y0 := hX8.cell 0
          have y1 := hX8.cell 1
          have y2 := hX8.cell 2
          have y3 := hX8.cell 3
          have y4 := hX8.cell 4
          have y5 := hX8.cell 5
          have y6 := hX8.cell 6
          have y7 := hX8.cell 7
          have y8 := hX8.cell 8
          have q0 := hX8.free 0
          have q1 := hX8.free 1
          have q2 := hX8.free 2
          have q3 := hX8.free 3
          have q4 := hX8.free 4
          have q5 := hX8.free 5
          have q6 := hX8.free 6
          have q7 := hX8.free 7
          have q8 := hX8.free 8
          simp only [List.getElem?_toArray, List.getElem?_cons_succ, List.getElem?_cons_zero] at y0 y1 y2 y3 y4 y5 y6 y7 y8
          clear hX8 hb8 hd8
          go_wp2_with fail
          have L9 := Lib.hid (L8.out.keep O (keepsBox w8 g4 (.int .i64 d8.kind) (.int .i64 0) (.int .i64 d8.host) (.int .i64 d8.shadow) (.int .i64 d8.mode) (.bool d8.slot) (.string d8.name) (.string d8.want) (.slice A8 d8.kids.length k8)) (fun i hi e => NS7.out (e ▸ hi)) (fun i hi e => by omega))
          refine (kinRoot O M a L9.out.rep (good_rm Hg3.out)).mono ?_
          rintro e w10 ⟨rfl, hb10⟩
          rw [HR8.out]
          have L10 := Lib.hid (L9.out.next O hb10)
          clear hb10 y0 y1 y2 y3 y4 y5 y6 y7 y8 q0 q1 q2 q3 q4 q5 q6 q7 q8
          go_wp2
          go_ret
          exact ⟨rfl, L10.out.below⟩
        · have zc : (a3 != a) = true := by simpa using hca
          have EN := Lib.hid (HN.out hca)
          clear hca HN
          go_wp2_with fail
          refine (kinNext O M a L4.out.rep Hg3.out).mono ?_
          rintro e w5 ⟨rfl, hb5⟩
          rw [EN.out]
          have L5 := Lib.hid (L4.out.next O hb5)
          have X5 := Lib.hid (X4.out.below hb5 X4.out.inside)
          have NS5 := NS4
          clear hb5 L4 X4 NS4 x1 EN
          go_upto_region 17 with (fail)
          rw [← hg4] at X5 NS5
          rw [← hg4]
          clear hg4
          go_wp2_with fail
          refine (liveRemove O M a a2 L5.out Hg3.out).mono ?_
          rintro e w6 ⟨rfl, ⟨S6, hL6, hn6⟩, hk6⟩
          rw [HR.out]
          have X6 := Lib.hid (X5.out.kept hk6 NS5.out)
          have NS6 := Lib.hid (hn6 _ X5.out.inside NS5.out)
          have L6 := Lib.hid hL6
          clear hL6 hn6 hk6 L5 X5 NS5
          go_wp2_with fail
          refine (liveRemove O M a a2 L6.out (good_rm Hg3.out)).mono ?_
          rintro e w7 ⟨rfl, ⟨S7, hL7, hn7⟩, hk7⟩
          rw [gone_same (by rw [gone_err Hg3.out HR.out]; decide)] at hL7
          rw [gone_err Hg3.out HR.out]
          have X7 := Lib.hid (X6.out.kept hk7 NS6.out)
          have NS7 := Lib.hid (hn7 _ X6.out.inside NS6.out)
          have L7 := Lib.hid hL7
          clear hL7 hn7 hk7 L6 X6 NS6
          go_wp2_with fail
          refine (nodeYes M L7.out.rep (good_rm Hg3.out) Ht7.out).mono ?_
          rintro e w8 ⟨A8, k8, rfl, -, hb8⟩
          obtain ⟨d8, hd8⟩ : ∃ d8, d8 = nd (rmL l2 a a2) a := ⟨_, rfl⟩
          rw [← hd8] at HP8
          rw [← hd8]
          have hX8 := X7.out.below hb8 X7.out.inside
          have L8 := Lib.hid (L7.out.next O hb8)
          have y0 := hX8.cell 0
          have y1 := hX8.cell 1
          have y2 := hX8.cell 2
          have y3 := hX8.cell 3
          have y4 := hX8.cell 4
          have y5 := hX8.cell 5
          have y6 := hX8.cell 6
          have y7 := hX8.cell 7
          have y8 := hX8.cell 8
          have q0 := hX8.free 0
          have q1 := hX8.free 1
          have q2 := hX8.free 2
          have q3 := hX8.free 3
          have q4 := hX8.free 4
          have q5 := hX8.free 5
          have q6 := hX8.free 6
          have q7 := hX8.free 7
          have q8 := hX8.free 8
          simp only [List.getElem?_toArray, List.getElem?_cons_succ, List.getElem?_cons_zero] at y0 y1 y2 y3 y4 y5 y6 y7 y8
          clear hX8 hb8 hd8
          go_wp2_with fail
          have L9 := Lib.hid (L8.out.keep O (keepsBox w8 g4 (.int .i64 d8.kind) (.int .i64 0) (.int .i64 d8.host) (.int .i64 d8.shadow) (.int .i64 d8.mode) (.bool d8.slot) (.string d8.name) (.string d8.want) (.slice A8 d8.kids.length k8)) (fun i hi e => NS7.out (e ▸ hi)) (fun i hi e => by omega))
          refine (kinRoot O M a L9.out.rep (good_rm Hg3.out)).mono ?_
          rintro e w10 ⟨rfl, hb10⟩
          rw [HR8.out]
          have L10 := Lib.hid (L9.out.next O hb10)
          clear hb10 y0 y1 y2 y3 y4 y5 y6 y7 y8 q0 q1 q2 q3 q4 q5 q6 q7 q8
          go_wp2
          go_ret
          exact ⟨rfl, L10.out.below⟩
    · have zE : (E != 0) = true := by simpa using hz
      clear hz hE
      go_wp2
      go_ret
      exact ⟨rfl, L3.out.below⟩
end
end Go.Proofs.Ytojcchjhimagiaa
