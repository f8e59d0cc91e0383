/-
  What towncrierlaw05.KinTells does with an arena that keeps its promises: it answers true.
-/
import Derived.Test.YtkafaceanlkjjaaMa
import Derived.Test.YtkafaceanlkjjaaRc
namespace Go.Proofs.Ytkafaceanlkjjaa
open Go Go.RowKit

/-- A forest and a list of the same nodes. -/
structure Two (Rep : (Nat → Prop) → World → Nat → List Nd → Prop) (w : World) (b : Nat) (A : Option Addr) (c : Nat) (l : List Nd) (v : World) : Prop where
  rep : Rep (fun _ => True) v b l
  nodes : Nodes (fun _ => True) v 0 A c l
  below : Below w.heap.size w v
section
variable {Rep : (Nat → Prop) → World → Nat → List Nd → Prop} {w v v' : World} {b : Nat} {A : Option Addr} {c : Nat} {l : List Nd}
theorem Two.next (O : ForestOk Rep) (h : Two Rep w b A c l v) (hb : Below v.heap.size v v') : Two Rep w b A c l v' := ⟨O.since h.rep hb, h.nodes.below hb, h.below.trans (hb.mono h.below.size)⟩
theorem sameInts_self (xs : List Int) : sameInts xs xs = true := decide_eq_true rfl

set_option maxHeartbeats 8000000 in
set_option maxRecDepth 100000 in
theorem kinTells_any (O : ForestOk Rep) (M : ForestMore Rep) (A : Option Addr) (n c : Nat) (xs : List Ac) (a a2 kind : Int) (w : World) (hn : xs.length = n) (hm : n ≤ maxLen) (h : Acts w A xs) :
    Calls Try.prog 3 #[.slice A n c, .int .i64 a, .int .i64 a2, .int .i64 kind] w fun e w' => e = .returned (.bool true) ∧ Below w.heap.size w w' := by
  have hnot : ∀ (x : Bool) (w : World), (Op.unary .not (.bool x)).run Try.prog w = .ok (.bool (!x)) w := fun _ _ => rfl
  have H := Lib.hid h
  have Hn := Lib.hid hn
  have Hm := Lib.hid hm
  clear h hn hm
  go_enter Try.func3, Try.ntmps3
  go_wp2_with fail
  refine (awake5_any O M w).mono ?_
  rintro e w0 ⟨rfl, hb0⟩
  go_wp2_with fail
  refine (great_any A n c xs w0 Hn.out Hm.out (H.out.below hb0)).mono ?_
  rintro e w1 ⟨⟨gr, rfl, hgr⟩, rfl⟩
  cases gr with
  | true =>
    go_wp2
    go_ret
    exact ⟨rfl, hb0⟩
  | false =>
    have Hs := Lib.hid (hgr rfl)
    have Hb0 := Lib.hid hb0
    clear hgr hb0
    go_wp2_with fail
    refine (built_any O A n c xs w0 Hn.out (H.out.below Hb0.out) Hs.out).mono ?_
    rintro e w1 ⟨b, rfl, hR, hb1⟩
    have hB1 := Hb0.out.trans (hb1.mono Hb0.out.size)
    have HB1 := Lib.hid hB1
    have HR := Lib.hid (O.wide hR (S' := fun _ => True) fun _ _ _ => trivial)
    clear hR hb1 hB1 Hb0
    go_wp2_with fail
    refine (refNodes A n c xs w1 Hn.out (H.out.below HB1.out) Hs.out).mono ?_
    rintro e w2 ⟨A2, c2, rfl, hN, hb2⟩
    have Hg := Lib.hid (good_forest Hs.out)
    obtain ⟨l, hl⟩ : ∃ l, l = forest xs := ⟨_, rfl⟩
    rw [← hl] at hN HR Hg
    rw [← hl]
    have hT2 : Two Rep w b A2 c2 l w2 := ⟨O.since HR.out hb2, hN.wide fun _ _ _ => trivial, HB1.out.trans (hb2.mono HB1.out.size)⟩
    have T2 := Lib.hid hT2
    clear hN hb2 HR HB1 Hs H Hn hl hT2
    have hp3 : (parL l a).length ≤ 1000000 := Nat.le_trans (Nat.le_trans (parL_len Hg.out.tree a) Hg.out.len) (by decide)
    have ho3 : (ordL l a).length ≤ 1000000 := Nat.le_trans (Nat.le_trans (ordL_len Hg.out.tree a) Hg.out.len) (by decide)
    -- the root
    go_wp2_with fail
    refine (kinRoot O M a T2.out.rep Hg.out).mono ?_
    rintro e w3 ⟨rfl, hb3⟩
    have T3 := Lib.hid (T2.out.next O hb3)
    clear hb3 T2
    go_wp2_with fail
    refine (refRoot l A2 c2 a w3 Hg.out T3.out.nodes).mono ?_
    rintro e w4 ⟨rfl, hb4⟩
    have T4 := Lib.hid (T3.out.next O hb4)
    clear hb4 T3
    -- the ancestors
    go_wp2_with fail
    refine (kinUp O M a T4.out.rep Hg.out).mono ?_
    rintro e w5 ⟨v5, rfl, hP5, hb5⟩
    have T5 := Lib.hid (T4.out.next O hb5)
    have P5 := Lib.hid hP5
    clear hb5 T4 hP5
    go_wp2_with fail
    refine (refUp l A2 c2 a w5 (Nat.le_trans Hg.out.len (by decide)) T5.out.nodes).mono ?_
    rintro e w6 ⟨v6, rfl, hP6, hb6⟩
    have T6 := Lib.hid (T5.out.next O hb6)
    obtain ⟨A5, c5, rfl, hL5⟩ := (P5.out.below hb6).form
    obtain ⟨A6, c6, rfl, hL6⟩ := hP6.form
    have L5 := Lib.hid hL5
    have L6 := Lib.hid hL6
    clear hb6 T5 hP6 P5 hL5 hL6
    go_wp2_with fail
    refine (ints_any (parL l a) (parL l a) A5 A6 _ _ c5 c6 w6 rfl rfl hp3 L5.out.nums L6.out.nums).mono ?_
    rintro e w7 ⟨rfl, hb7⟩
    rw [sameInts_self]
    have T7 := Lib.hid (T6.out.next O hb7)
    clear hb7 T6 L5 L6
    -- above
    go_wp2_with fail
    refine (kinAbove O M a a2 T7.out.rep Hg.out).mono ?_
    rintro e w8 ⟨rfl, hb8⟩
    have T8 := Lib.hid (T7.out.next O hb8)
    clear hb8 T7
    go_wp2_with fail
    refine (refAbove l A2 c2 a a2 w8 Hg.out T8.out.nodes).mono ?_
    rintro e w9 ⟨rfl, hb9⟩
    have T9 := Lib.hid (T8.out.next O hb9)
    clear hb9 T8
    -- tree order
    go_wp2_with fail
    refine (kinOrder O M a T9.out.rep Hg.out).mono ?_
    rintro e u5 ⟨v5, rfl, hP5, hb5⟩
    have T5 := Lib.hid (T9.out.next O hb5)
    have P5 := Lib.hid hP5
    clear hb5 T9 hP5
    go_wp2_with fail
    refine (refOrder a Hg.out T5.out.nodes).mono ?_
    rintro e u6 ⟨v6, rfl, hP6, hb6⟩
    have T6 := Lib.hid (T5.out.next O hb6)
    obtain ⟨B5, d5, rfl, hL5⟩ := (P5.out.below hb6).form
    obtain ⟨B6, d6, rfl, hL6⟩ := hP6.form
    have L5 := Lib.hid hL5
    have L6 := Lib.hid hL6
    clear hb6 T5 hP6 P5 hL5 hL6
    go_wp2_with fail
    refine (ints_any (ordL l a) (ordL l a) B5 B6 _ _ d5 d6 u6 rfl rfl ho3 L5.out.nums L6.out.nums).mono ?_
    rintro e u7 ⟨rfl, hb7⟩
    rw [sameInts_self]
    have T7 := Lib.hid (T6.out.next O hb7)
    clear hb7 T6 L5 L6
    -- the place, the next one, how many
    go_wp2_with fail
    refine (kinIndex O M a T7.out.rep Hg.out).mono ?_
    rintro e u8 ⟨rfl, hb8⟩
    have T8 := Lib.hid (T7.out.next O hb8)
    clear hb8 T7
    go_wp2_with fail
    refine (refIndex a Hg.out T8.out.nodes).mono ?_
    rintro e u9 ⟨rfl, rfl⟩
    go_wp2_with fail
    refine (kinNext O M a T8.out.rep Hg.out).mono ?_
    rintro e u10 ⟨rfl, hb8⟩
    have T9 := Lib.hid (T8.out.next O hb8)
    clear hb8 T8
    go_wp2_with fail
    refine (refNext a Hg.out T9.out.nodes).mono ?_
    rintro e u11 ⟨rfl, rfl⟩
    go_wp2_with fail
    refine (kinCount O M a kind T9.out.rep Hg.out).mono ?_
    rintro e u12 ⟨rfl, hb8⟩
    have T10 := Lib.hid (T9.out.next O hb8)
    clear hb8 T9
    go_wp2_with fail
    refine (refCount a kind Hg.out T10.out.nodes).mono ?_
    rintro e u13 ⟨rfl, rfl⟩
    go_wp2
    go_ret
    exact ⟨rfl, T10.out.below⟩
end
end Go.Proofs.Ytkafaceanlkjjaa
