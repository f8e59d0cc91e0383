/-
  What towncrierref04.Do does.
-/
import Derived.Test.YtkafaceanlkjjaaFk
import Derived.Test.YtkafaceanlkjjaaFu
namespace Go.Proofs.Ytkafaceanlkjjaa
open Go Go.RowKit
variable {G : Nat → Prop}

/-- A call as a value: its node's children stand at kv, its list at lv. -/
def actVal (x : Ac) (kv lv : Value) : Value := .agg #[.int .i64 x.kind, .int .i64 x.a, .int .i64 x.b, .string x.s, .int .i64 x.n.kind, .int .i64 x.n.parent, .int .i64 x.n.host, .int .i64 x.n.shadow, .int .i64 x.n.mode, .bool x.n.slot, .string x.n.name, .string x.n.want, kv, lv]
/-- What an argument's texts and list hold. -/
structure ActIn (w : World) (x : Ac) (A : Option Addr) (c : Nat) : Prop where
  s : x.s.size ≤ 9223372036854775807
  name : x.n.name.size ≤ 9223372036854775807
  want : x.n.want.size ≤ 9223372036854775807
  cap : x.l.length ≤ c
  nil : A = none → c = 0
  nums : Nums w w.heap.size A .i64 x.l

theorem ActIn.below {w w' : World} {x : Ac} {A : Option Addr} {c : Nat} (h : ActIn w x A c) (hb : Below w.heap.size w w') : ActIn w' x A c := ⟨h.s, h.name, h.want, h.cap, h.nil, (h.nums.below hb).mono hb.size⟩

theorem Gave.three {w w' wb : World} {l : List Nd} {x : Ac} {l' : List Nd} {err : Int} {e : Ending} (h : Gave G wb l' err e w') (hb : Below w.heap.size w wb) (h1 : actL l x = l') (h2 : actErr l x = err) (h3 : actNo l x = 0) :
    ∃ A' c', e = .returned (.tuple #[.slice A' l'.length c', .int .i64 err]) ∧ Gave3 G w (actL l x) (actNo l x) (actErr l x) (.returned (.tuple #[.slice A' l'.length c', .int .i64 0, .int .i64 err])) w' := by
  obtain ⟨A', c', he, hN, hb'⟩ := h
  refine ⟨A', c', he, A', c', by rw [h1, h2, h3], by rw [h1]; exact hN, hb.trans (hb'.mono hb.size)⟩

set_option maxHeartbeats 4000000 in
set_option maxRecDepth 100000 in
theorem do_any (l : List Nd) (A : Option Addr) (c : Nat) (x : Ac) (kv : Value) (A2 : Option Addr) (c2 : Nat) (w : World) (hl : l.length ≤ 1000) (hk : ∀ d ∈ l, d.kids.length ≤ 100000) (hG : Fut G w.heap.size) (hxl : x.l.length ≤ 100000) (hN : Nodes G w 0 A c l) (hx : ActIn w x A2 c2) :
    Calls Try.prog 32 #[.slice A l.length c, actVal x kv (.slice A2 x.l.length c2)] w (Gave3 G w (actL l x) (actNo l x) (actErr l x)) := by
  obtain ⟨kx, ax, bx, sx, ⟨k, pa, ho, sh, m, sl, na, wa, ks⟩, xs⟩ := x
  have hbb : Below w.heap.size w (w.alloc (.cells #[.int .i64 kx, .int .i64 ax, .int .i64 bx, .string sx, .int .i64 k, .int .i64 pa, .int .i64 ho, .int .i64 sh, .int .i64 m, .bool sl, .string na, .string wa, kv, .slice A2 xs.length c2] 46)) := (Below.refl _ w).alloc (Nat.le_refl _) _
  have hNb := hN.below hbb
  have hGb := hG.mono hbb.size
  have hxb := hx.below hbb
  obtain ⟨q1, q2, q3, q4, q5, q6⟩ := hxb
  have HNb := Lib.hid hNb
  have Hk := Lib.hid hk
  have H5 := Lib.hid q5
  have H6 := Lib.hid q6
  have Hbb := Lib.hid hbb
  simp only at q1 q2 q3 q4 hxl
  unfold actVal
  simp only
  clear hN hx hNb hk q5 q6 hbb
  obtain ⟨X, hX⟩ : ∃ X : Ac, X = ⟨kx, ax, bx, sx, ⟨k, pa, ho, sh, m, sl, na, wa, ks⟩, xs⟩ := ⟨_, rfl⟩
  rw [← hX]
  by_cases h0 : kx = 0
  · subst h0
    have e1 : actL l X = mkL l ⟨k, pa, ho, sh, m, sl, na, wa, ks⟩ := by rw [hX]; rfl
    have e2 : actNo l X = mkNo l ⟨k, pa, ho, sh, m, sl, na, wa, ks⟩ := by rw [hX]; rfl
    have e3 : actErr l X = mkErr l.length ⟨k, pa, ho, sh, m, sl, na, wa, ks⟩ := by rw [hX]; rfl
    rw [e1, e2, e3]
    clear e1 e2 e3 hX
    go_enter Try.func32, Try.ntmps32
    go_wp2_with fail
    refine (make_any l A c k pa ho sh m sl na wa ks kv _ q2 q3 hl Hk.out hGb HNb.out).mono ?_
    rintro e w1 ⟨A', c', rfl, hN', hb'⟩
    go_wp2
    go_ret3
    exact ⟨A', c', rfl, hN', Hbb.out.trans (hb'.mono Hbb.out.size)⟩
  · have h0' : (kx == 0) = false := by simpa using h0
    have n3 : actNo l X = 0 := by rw [hX]; exact if_neg h0
    by_cases h1 : kx = 1
    · subst h1
      have e1 : actL l X = putL l ax xs := by rw [hX]; rfl
      have e2 : actErr l X = putErr l ax xs := by rw [hX]; rfl
      have E1 := Lib.hid e1
      have E2 := Lib.hid e2
      have N3 := Lib.hid n3
      clear e1 e2 n3 hX
      go_enter Try.func32, Try.ntmps32
      go_wp2_with fail
      refine (put_any l A c ax xs A2 xs.length c2 _ hl Hk.out hGb HNb.out rfl hxl q4 H5.out H6.out).mono ?_
      intro e w1 hG
      obtain ⟨A', c', rfl, hG3⟩ := hG.three Hbb.out E1.out E2.out N3.out
      go_wp2
      go_ret3
      exact hG3
    · have h1' : (kx == 1) = false := by simpa using h1
      by_cases h2 : kx = 2
      · subst h2
        have e1 : actL l X = tieL l ax bx := by rw [hX]; rfl
        have e2 : actErr l X = tieErr l ax bx := by rw [hX]; rfl
        have E1 := Lib.hid e1
        have E2 := Lib.hid e2
        have N3 := Lib.hid n3
        clear e1 e2 n3 hX
        go_enter Try.func32, Try.ntmps32
        go_wp2_with fail
        refine (tie_any l A c ax bx _ hl Hk.out hGb HNb.out).mono ?_
        intro e w1 hG
        obtain ⟨A', c', rfl, hG3⟩ := hG.three Hbb.out E1.out E2.out N3.out
        go_wp2
        go_ret3
        exact hG3
      · have h2' : (kx == 2) = false := by simpa using h2
        by_cases h3 : kx = 3
        · subst h3
          have e1 : actL l X = nameL l ax sx := by rw [hX]; rfl
          have e2 : actErr l X = nameErr l ax sx := by rw [hX]; rfl
          have E1 := Lib.hid e1
          have E2 := Lib.hid e2
          have N3 := Lib.hid n3
          clear e1 e2 n3 hX
          go_enter Try.func32, Try.ntmps32
          go_wp2_with fail
          refine (name_any l A c ax sx _ q1 hl Hk.out hGb HNb.out).mono ?_
          intro e w1 hG
          obtain ⟨A', c', rfl, hG3⟩ := hG.three Hbb.out E1.out E2.out N3.out
          go_wp2
          go_ret3
          exact hG3
        · have h3' : (kx == 3) = false := by simpa using h3
          by_cases h4 : kx = 4
          · subst h4
            have e1 : actL l X = wantL l ax sx := by rw [hX]; rfl
            have e2 : actErr l X = wantErr l ax sx := by rw [hX]; rfl
            have E1 := Lib.hid e1
            have E2 := Lib.hid e2
            have N3 := Lib.hid n3
            clear e1 e2 n3 hX
            go_enter Try.func32, Try.ntmps32
            go_wp2_with fail
            refine (want_any l A c ax sx _ q1 hl Hk.out hGb HNb.out).mono ?_
            intro e w1 hG
            obtain ⟨A', c', rfl, hG3⟩ := hG.three Hbb.out E1.out E2.out N3.out
            go_wp2
            go_ret3
            exact hG3
          · have h4' : (kx == 4) = false := by simpa using h4
            have e1 : actL l X = l := by rw [hX]; simp only [actL, if_neg h0, if_neg h1, if_neg h2, if_neg h3, if_neg h4]
            have e2 : actErr l X = 0 := by rw [hX]; simp only [actErr, if_neg h0, if_neg h1, if_neg h2, if_neg h3, if_neg h4]
            rw [e1, e2, n3]
            clear e1 e2 n3 hX
            go_enter Try.func32, Try.ntmps32
            go_wp2
            go_ret3
            exact ⟨_, _, rfl, HNb.out, Hbb.out⟩
end Go.Proofs.Ytkafaceanlkjjaa
