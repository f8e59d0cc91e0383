/-
  What towncrierlaw07.EditOrder does with an arena that keeps its promises: it answers true.
  What towncrierlaw07.EditApart does with an arena that keeps its promises: it answers true.
  Changes of forests, plain: the document's way to Before comes to the same nodes. No program is named here.
  What towncrierref07.without and leave do.
  What towncrierref06.Host does.
  What towncrierref06.Check does.
  What towncrierref07.Remove does.
-/
import Derived.Test.YtojcchjhimagiaaPartF
import Derived.Deep.DeepCutAuto

namespace Go.Proofs.Ytojcchjhimagiaa
open Go Go.RowKit

theorem filt_step {xs : List Int} {f : Int → Bool} {j : Nat} (hj : j < xs.length) : (xs.take (j + 1)).filter f = (xs.take j).filter f ++ if f xs[j] then [xs[j]] else [] := by
  rw [List.take_add_one, List.getElem?_eq_getElem hj, List.filter_append]
  cases h : f xs[j] <;> simp [h]
/-- One list grows, another one stays. -/
theorem push_two {base g : Nat} {w0 wr w2 : World} {o1 o2 : Value} {xs zs : List Int} {ob : Obj} (h1 : Pile base wr o1 xs) (h2 : Pile base wr o2 zs) (hap : ∀ g, o2.ownBlock = some g → o1.ownBlock ≠ some g) (hb : Below base w0 wr) (hbase : base ≤ wr.heap.size)
    (hk : Keeps (fun i => o1.ownBlock = some i) (wr.alloc ob) w2) (hat : o1.ownBlock = some g ∨ (wr.alloc ob).heap.size ≤ g) : Pile base w2 o2 zs ∧ (∀ g', o2.ownBlock = some g' → g ≠ g') ∧ Below base w0 w2 := by
  refine ⟨(h2.alloc ob).kept hk fun g' hg' => hap g' hg', fun g' hg' e => ?_, below_then (hb.alloc hbase ob) hk (by simp; omega) fun i hi hh => ?_⟩
  · subst e
    rcases hat with h | h
    · exact hap g hg' h
    · have := (h2.lt g hg').2
      simp at h
      omega
  · have := (h1.lt i hh).1
    omega

section
variable {Rep : (Nat → Prop) → World → Nat → List Nd → Prop}
set_option maxHeartbeats 16000000 in
set_option maxRecDepth 100000 in
theorem editOrder_any (O : ForestOk Rep) (M : ForestMore Rep) (A : Option Addr) (n c : Nat) (xs : List Ac) (a a2 a3 : Int) (w : World) (hn : xs.length = n) (hm : n ≤ maxLen) (h : Acts w A xs) :
    Calls Try.prog 6 #[.slice A n c, .int .i64 a, .int .i64 a2, .int .i64 a3] w fun e w' => e = .returned (.bool true) ∧ Below w.heap.size w w' := by
  have hnot : ∀ (x : Bool) (w : World), (Op.unary .not (.bool x)).run Try.prog w = .ok (.bool (!x)) w := fun _ _ => rfl
  have H := Lib.hid h
  have Hn := Lib.hid hn
  have Hm := Lib.hid hm
  clear h hn hm
  go_enter Try.func6, Try.ntmps6
  go_wp2_with fail
  refine (awake7_any O M w).mono ?_
  rintro e w0 ⟨rfl, hb0⟩
  go_wp2_with fail
  refine (great_any A n c xs w0 Hn.out Hm.out (H.out.below hb0)).mono ?_
  rintro e w1 ⟨⟨gr, rfl, hgr⟩, rfl⟩
  cases gr with
  | true =>
    go_wp2
    go_ret
    exact ⟨rfl, hb0⟩
  | false =>
    have Hs := Lib.hid (hgr rfl)
    have Hb0 := Lib.hid hb0
    clear hgr hb0
    go_wp2_with fail
    refine (built_any O A n c xs w0 Hn.out (H.out.below Hb0.out) Hs.out).mono ?_
    rintro e w1 ⟨b, rfl, hR, hb1⟩
    have Hg := Lib.hid (good_forest Hs.out)
    obtain ⟨l, hl⟩ : ∃ l, l = forest xs := ⟨_, rfl⟩
    rw [← hl] at hR Hg
    obtain ⟨S, hLv⟩ := live_new O hR Hb0.out hb1
    have LV := Lib.hid hLv
    have hlow : ∀ i, w1.heap.size ≤ i → ¬ S i := fun i hi hs => absurd (hLv.low i hs).2 (Nat.not_lt.2 hi)
    have low := Lib.hid hlow
    clear hlow
    clear hR hb1 hLv Hb0 hl Hs H Hn
    go_wp2_with fail
    refine (M.node S w1 b l a2 LV.out.rep Hg.out).mono ?_
    rintro e w2 ⟨d1, A1, k1, rfl, hd1, hk1, hb2⟩
    have hB2 : Below w1.heap.size w1 (w2.alloc (.cells #[.int .i64 d1.kind, .int .i64 d1.parent, .int .i64 d1.host, .int .i64 d1.shadow, .int .i64 d1.mode, .bool d1.slot, .string d1.name, .string d1.want, .slice A1 d1.kids.length k1] 45)) := hb2.alloc hb2.size _
    have hX1 : Has (w2.alloc (.cells #[.int .i64 d1.kind, .int .i64 d1.parent, .int .i64 d1.host, .int .i64 d1.shadow, .int .i64 d1.mode, .bool d1.slot, .string d1.name, .string d1.want, .slice A1 d1.kids.length k1] 45)) w2.heap.size (.cells #[.int .i64 d1.kind, .int .i64 d1.parent, .int .i64 d1.host, .int .i64 d1.shadow, .int .i64 d1.mode, .bool d1.slot, .string d1.name, .string d1.want, .slice A1 d1.kids.length k1] 45 (0, 0)) := Has.fresh _ _
    have hL1 : ListIn (w2.alloc (.cells #[.int .i64 d1.kind, .int .i64 d1.parent, .int .i64 d1.host, .int .i64 d1.shadow, .int .i64 d1.mode, .bool d1.slot, .string d1.name, .string d1.want, .slice A1 d1.kids.length k1] 45)) A1 k1 d1.kids ∧ ∀ g off s, A1 = some ⟨g, off, s⟩ → w1.heap.size ≤ g := by
      obtain ⟨A', c', e, hL⟩ := hk1.list
      obtain ⟨rfl, rfl⟩ : A1 = A' ∧ k1 = c' := by injection e with e1 _ e3; exact ⟨e1, e3⟩
      exact ⟨hL.below ((Below.refl _ _).alloc (Nat.le_refl _) _), fun g off s e => by subst e; exact hk1.2 g rfl⟩
    have L2 := Lib.hid (LV.out.next O hB2)
    have X1 := Lib.hid hX1
    have D1 := Lib.hid hd1
    have LL1 := Lib.hid hL1
    have hs2 : w1.heap.size ≤ w2.heap.size := hb2.size
    have hs2' := hB2.size
    clear hb2 hB2 hX1 hd1 hL1 hk1
    go_wp2_with fail
    obtain ⟨g1, hg1⟩ : ∃ g, g = w2.heap.size := ⟨_, rfl⟩
    obtain ⟨W2, hW2⟩ : ∃ W, W = w2.alloc (.cells #[.int .i64 d1.kind, .int .i64 d1.parent, .int .i64 d1.host, .int .i64 d1.shadow, .int .i64 d1.mode, .bool d1.slot, .string d1.name, .string d1.want, .slice A1 d1.kids.length k1] 45) := ⟨_, rfl⟩
    rw [← hW2] at L2 X1 LL1 hs2'
    rw [← hg1] at X1 hs2
    rw [← hW2, ← hg1]
    clear hW2 hg1
    refine (M.node S W2 b l a L2.out.rep Hg.out).mono ?_
    rintro e w3 ⟨d2, A2, k2, rfl, hd2, hk2, hb3⟩
    have hB3 : Below W2.heap.size W2 (w3.alloc (.cells #[.int .i64 d2.kind, .int .i64 d2.parent, .int .i64 d2.host, .int .i64 d2.shadow, .int .i64 d2.mode, .bool d2.slot, .string d2.name, .string d2.want, .slice A2 d2.kids.length k2] 45)) := hb3.alloc hb3.size _
    have hX2 : Has (w3.alloc (.cells #[.int .i64 d2.kind, .int .i64 d2.parent, .int .i64 d2.host, .int .i64 d2.shadow, .int .i64 d2.mode, .bool d2.slot, .string d2.name, .string d2.want, .slice A2 d2.kids.length k2] 45)) w3.heap.size (.cells #[.int .i64 d2.kind, .int .i64 d2.parent, .int .i64 d2.host, .int .i64 d2.shadow, .int .i64 d2.mode, .bool d2.slot, .string d2.name, .string d2.want, .slice A2 d2.kids.length k2] 45 (0, 0)) := Has.fresh _ _
    have hL2 : ListIn (w3.alloc (.cells #[.int .i64 d2.kind, .int .i64 d2.parent, .int .i64 d2.host, .int .i64 d2.shadow, .int .i64 d2.mode, .bool d2.slot, .string d2.name, .string d2.want, .slice A2 d2.kids.length k2] 45)) A2 k2 d2.kids ∧ ∀ g off s, A2 = some ⟨g, off, s⟩ → w1.heap.size ≤ g := by
      obtain ⟨A', c', e, hL⟩ := hk2.list
      obtain ⟨rfl, rfl⟩ : A2 = A' ∧ k2 = c' := by injection e with e1 _ e3; exact ⟨e1, e3⟩
      exact ⟨hL.below ((Below.refl _ _).alloc (Nat.le_refl _) _), fun g off s e => by subst e; exact Nat.le_trans hs2' (hk2.2 g rfl)⟩
    have L3 := Lib.hid (L2.out.next O hB3)
    have X2 := Lib.hid hX2
    have D2 := Lib.hid hd2
    have LL2 := Lib.hid hL2
    have hs3 : w1.heap.size ≤ w3.heap.size := Nat.le_trans hs2' hb3.size
    have X1' := Lib.hid (X1.out.below hB3 X1.out.inside)
    have LL1' := Lib.hid (LL1.out.1.below hB3)
    have LL1a := Lib.hid LL1.out.2
    clear hb3 hB3 hX2 hd2 hL2 hk2 L2 X1 LL1 LV
    go_wp2_with fail
    obtain ⟨g2, hg2⟩ : ∃ g, g = w3.heap.size := ⟨_, rfl⟩
    obtain ⟨W3, hW3⟩ : ∃ W, W = w3.alloc (.cells #[.int .i64 d2.kind, .int .i64 d2.parent, .int .i64 d2.host, .int .i64 d2.shadow, .int .i64 d2.mode, .bool d2.slot, .string d2.name, .string d2.want, .slice A2 d2.kids.length k2] 45) := ⟨_, rfl⟩
    rw [← hW3] at L3 X1' X2 LL1' LL2
    rw [← hg2] at X2 hs3
    rw [← hW3, ← hg2]
    clear hW3 hg2
    refine (liveBefore O M a a2 a3 L3.out Hg.out).mono ?_
    rintro e w4 ⟨rfl, ⟨S4, hL4, -⟩, hk4⟩
    have X1 := Lib.hid (X1'.out.kept hk4 fun hs => low.out _ hs2 hs)
    have X2' := Lib.hid (X2.out.kept hk4 fun hs => low.out _ hs3 hs)
    have LA := Lib.hid (LL1'.out.kept hk4 fun _ g off s e _ hs => low.out _ (LL1a.out g off s e) hs)
    have LB := Lib.hid (LL2.out.1.kept hk4 fun _ g off s e _ hs => low.out _ (LL2.out.2 g off s e) hs)
    have L4 := Lib.hid hL4
    clear hL4 hk4 L3 X1' X2 LL1' LL2 LL1a low hs2 hs3 hs2'
    obtain ⟨E, hE⟩ : ∃ E, E = chkErr l a a2 a3 := ⟨_, rfl⟩
    rw [← hE]
    by_cases hz : E = 0
    · subst hz
      have hchk := hE.symm
      obtain ⟨ht, hp, -⟩ := chk_zero hchk
      have ed1 : d1 = nd l a2 := D1.out.trans (if_pos hp)
      have ed2 : d2 = nd l a := D2.out.trans (if_pos ht)
      have hsort := newK_sorted Hg.out hchk
      rw [← ed1] at hsort
      have hkk := back_kids Hg.out hchk
      have hkl : (newK l a a2 a3).length ≤ 200 := Nat.le_trans (newK_len Hg.out hchk) (by decide)
      have hd1l : d1.kids.length ≤ 200 := by rw [ed1]; exact few_nd Hg.out.few _
      have hml : (moveL l a).length ≤ 200 := Nat.le_trans (Nat.le_trans (nodup_len (move_once Hg.out.tree ht) (move_there Hg.out.tree ht)) Hg.out.len) (by decide)
      have hkind : moveL l a = if d2.kind = 4 then d2.kids else [a] := by rw [ed2]; rfl
      have ht4 : thereB (befL l a a2 a3) a2 = true := by rw [bef_there]; exact hp
      have Hg4 := Lib.hid (good_bef (n := a) (p := a2) (c := a3) Hg.out)
      obtain ⟨K, hK⟩ : ∃ K, K = newK l a a2 a3 := ⟨_, rfl⟩
      obtain ⟨mv, hmv⟩ : ∃ mv, mv = moveL l a := ⟨_, rfl⟩
      obtain ⟨l2, hl2⟩ : ∃ l2, l2 = befL l a a2 a3 := ⟨_, rfl⟩
      rw [← hK, ← hmv] at hsort
      rw [← hl2] at hkk ht4 Hg4 L4
      rw [← hK] at hkk hkl
      rw [← hmv] at hml hkind
      have Hsort := Lib.hid hsort
      have Hkk := Lib.hid hkk
      have Hkind := Lib.hid hkind
      have Ht4 := Lib.hid ht4
      clear hE hchk ht hp ed1 ed2 hsort hkk hkind ht4 hK hmv hl2 D1 D2
      obtain ⟨m, hm⟩ : ∃ m, m = mv.length := ⟨_, rfl⟩
      rw [← hm] at hml
      have HM := Lib.hid hm
      have x0 : w4.cell? ⟨g2, 0, none⟩ = some (.int .i64 d2.kind) := X2'.out.cell 0
      have x8 : w4.cell? ⟨g2, 8, none⟩ = some (.slice A2 d2.kids.length k2) := X2'.out.cell 8
      have hbA : Below w4.heap.size w4 (w4.alloc (.cells #[.int .i64 a] 3)) := (Below.refl _ w4).alloc (Nat.le_refl _) _
      have x0' : (w4.alloc (.cells #[.int .i64 a] 3)).cell? ⟨g2, 0, none⟩ = some (.int .i64 d2.kind) := (hbA.cell (p := ⟨g2, 0, none⟩) (cell_in x0)).trans x0
      have x8' : (w4.alloc (.cells #[.int .i64 a] 3)).cell? ⟨g2, 8, none⟩ = some (.slice A2 d2.kids.length k2) := (hbA.cell (p := ⟨g2, 8, none⟩) (cell_in x8)).trans x8
      have LL := Lib.hid (listLit (xs := [a]) (Has.fresh w4 (.cells #[.int .i64 a] 3)))
      have X1' := Lib.hid (X1.out.below hbA X1.out.inside)
      have LA' := Lib.hid (LA.out.below hbA)
      have LB' := Lib.hid (LB.out.below hbA)
      have L4' := Lib.hid (L4.out.next O hbA)
      clear hm x0 x8 hbA X1 LA LB L4 X2'
      go_upto_if 50 with (fail)
      obtain ⟨g5, hg5⟩ : ∃ g, g = w4.heap.size := ⟨_, rfl⟩
      obtain ⟨W, hW⟩ : ∃ W, W = w4.alloc (.cells #[.int .i64 a] 3) := ⟨_, rfl⟩
      rw [← hW] at x0' x8' LL X1' LA' LB' L4'
      rw [← hg5] at LL
      rw [← hW, ← hg5]
      clear hW hg5
      go_cut [14] (fun t wx => ∃ Am cm, t = .slice Am m cm ∧ ListIn W Am cm mv ∧ W = wx)
      case first =>
        by_cases h4 : d2.kind = 4
        · have z4 : (d2.kind == 4) = true := by simpa using h4
          have em := Hkind.out
          rw [if_pos h4] at em
          subst em
          rw [← HM.out] at x8'
          clear h4
          go_wp2
          go_meet
          exact ⟨A2, k2, rfl, LB'.out, rfl⟩
        · have z4 : (d2.kind == 4) = false := by simpa using h4
          have em := Hkind.out
          rw [if_neg h4] at em
          subst em
          have m1 : m = 1 := HM.out
          subst m1
          clear h4
          go_wp2
          go_meet
          exact ⟨_, _, rfl, LL.out, rfl⟩
      case rest =>
        obtain ⟨Am, cm, rfl, hLm, rfl⟩ := hcut
        have LM := Lib.hid hLm
        clear hLm LL LB' x0' x8' Hkind
        go_wp2_with fail
        refine (nodeYes M L4'.out.rep Hg4.out Ht4.out).mono ?_
        rintro e w6 ⟨A6, k6, rfl, hk6, hb6⟩
        obtain ⟨d6, hd6⟩ : ∃ d6, d6 = nd l2 a2 := ⟨_, rfl⟩
        rw [← hd6] at hk6 Hkk
        rw [← hd6]
        have hB6 : Below W.heap.size W (w6.alloc (.cells #[.int .i64 d6.kind, .int .i64 d6.parent, .int .i64 d6.host, .int .i64 d6.shadow, .int .i64 d6.mode, .bool d6.slot, .string d6.name, .string d6.want, .slice A6 d6.kids.length k6] 45)) := hb6.alloc hb6.size _
        have hX6 : Has (w6.alloc (.cells #[.int .i64 d6.kind, .int .i64 d6.parent, .int .i64 d6.host, .int .i64 d6.shadow, .int .i64 d6.mode, .bool d6.slot, .string d6.name, .string d6.want, .slice A6 d6.kids.length k6] 45)) w6.heap.size (.cells #[.int .i64 d6.kind, .int .i64 d6.parent, .int .i64 d6.host, .int .i64 d6.shadow, .int .i64 d6.mode, .bool d6.slot, .string d6.name, .string d6.want, .slice A6 d6.kids.length k6] 45 (0, 0)) := Has.fresh _ _
        have hL6 : ListIn (w6.alloc (.cells #[.int .i64 d6.kind, .int .i64 d6.parent, .int .i64 d6.host, .int .i64 d6.shadow, .int .i64 d6.mode, .bool d6.slot, .string d6.name, .string d6.want, .slice A6 d6.kids.length k6] 45)) A6 k6 d6.kids := by
          obtain ⟨A', c', e, hL⟩ := hk6.list
          obtain ⟨rfl, rfl⟩ : A6 = A' ∧ k6 = c' := by injection e with e1 _ e3; exact ⟨e1, e3⟩
          exact hL.below ((Below.refl _ _).alloc (Nat.le_refl _) _)
        have ek := Hkk.out
        subst ek
        have X6 := Lib.hid hX6
        have LK := Lib.hid hL6
        have L6 := Lib.hid (L4'.out.next O hB6)
        have X1 := Lib.hid (X1'.out.below hB6 X1'.out.inside)
        have LA := Lib.hid (LA'.out.below hB6)
        have LM6 := Lib.hid (LM.out.below hB6)
        clear hb6 hB6 hX6 hL6 hk6 hd6 X1' LA' LM L4' Hkk
        go_upto_region 17 with (fail)
        obtain ⟨g6, hg6⟩ : ∃ g, g = w6.heap.size := ⟨_, rfl⟩
        obtain ⟨WB, hWB⟩ : ∃ W, W = w6.alloc (.cells #[.int .i64 d6.kind, .int .i64 d6.parent, .int .i64 d6.host, .int .i64 d6.shadow, .int .i64 d6.mode, .bool d6.slot, .string d6.name, .string d6.want, .slice A6 d6.kids.length k6] 45) := ⟨_, rfl⟩
        rw [← hWB] at X6 LK L6 X1 LA LM6
        rw [← hg6] at X6
        rw [← hWB, ← hg6]
        clear hWB hg6
        have x1 : WB.cell? ⟨g1, 8, none⟩ = some (.slice A1 d1.kids.length k1) := X1.out.cell 8
        have x6 : WB.cell? ⟨g6, 8, none⟩ = some (.slice A6 d6.kids.length k6) := X6.out.cell 8
        obtain ⟨n1, hn1⟩ : ∃ n1, n1 = d1.kids.length := ⟨_, rfl⟩
        obtain ⟨n6, hn6⟩ : ∃ n6, n6 = d6.kids.length := ⟨_, rfl⟩
        rw [← hn1] at x1 hd1l
        rw [← hn6] at x6 hkl
        have HN1 := Lib.hid hn1
        have HN6 := Lib.hid hn6
        have Y1 := Lib.hid x1
        have Y6 := Lib.hid x6
        have y1 := cell_in x1
        have y6 := cell_in x6
        clear hn1 hn6 x1 x6 X1 X6
        go_wp2_with fail
        go_loopw [17, 20] (fun o i wr => ∃ (j : Nat) (ys : List Int), i = .int .i64 j ∧ j ≤ n1 ∧ ys = (d1.kids.take j).filter (fun y => !hasB mv y) ∧ ys.length ≤ j ∧ Pile WB.heap.size wr o ys ∧ Below WB.heap.size WB wr) (fun _ i _ => n1 - (intOf i).toNat)
        case atStart => exact ⟨0, [], rfl, Nat.zero_le _, rfl, Nat.zero_le _, Pile.nil _ _, Below.refl _ _⟩
        case round =>
          obtain ⟨j, ys, rfl, hj, hys, hyl, hP, hb⟩ := hrel
          have Hys := Lib.hid hys
          have x1 : wr.cell? ⟨g1, 8, none⟩ = some (.slice A1 n1 k1) := (hb.cell (p := ⟨g1, 8, none⟩) y1).trans Y1.out
          clear hys
          obtain ⟨Ao, co, rfl, -⟩ := hP.form
          by_cases hlt : (j : Int) < n1
          · have hjl : j < d1.kids.length := by rw [← HN1.out]; omega
            have hst := filt_step (f := fun y => !hasB mv y) hjl
            obtain ⟨ga, offa, rfl, hga, hc⟩ := LA.out.nums j hjl
            rw [← Hys.out] at hst
            obtain ⟨y, hy⟩ : ∃ y, y = d1.kids[j] := ⟨_, rfl⟩
            rw [← hy] at hc hst
            have hc' : wr.cell? ⟨ga, offa + j, none⟩ = some (.int .i64 y) := (hb.cell (p := ⟨ga, offa + j, none⟩) hga).trans hc
            have Hst := Lib.hid hst
            have C := Lib.hid (has_any mv Am m cm y wr HM.out (by omega) (LM6.out.below hb).nums)
            obtain ⟨q, hq⟩ : ∃ q, q = hasB mv y := ⟨_, rfl⟩
            rw [← hq] at C Hst
            clear hst hy hjl hq hc
            go_wp2_with fail
            refine C.out.mono ?_
            rintro e w7 ⟨rfl, rfl⟩
            have hbw := hb.size
            cases q with
            | true =>
              have E1 := Lib.hid (Hst.out.trans (List.append_nil _))
              clear Hst C
              go_wp2
              go_roundw
              case rel => exact ⟨j + 1, ys, by go_num, by omega, E1.out.symm, by omega, hP, hb⟩
              case measure => simp [intOf]; omega
            | false =>
              have E1 := Lib.hid Hst.out
              have HP2 : Hid (Pile WB.heap.size (wr.alloc (.cells #[.int .i64 y] 3)) (.slice Ao ys.length co) ys) := Lib.hid (hP.alloc _)
              have HB2 : Hid (Has (wr.alloc (.cells #[.int .i64 y] 3)) wr.heap.size (.cells #[.int .i64 y] 3 (0, 0))) := Lib.hid (Has.fresh _ _)
              have HS2 : Hid (WB.heap.size ≤ (wr.alloc (.cells #[.int .i64 y] 3)).heap.size) := Lib.hid (by simp; omega)
              have hxl : ys.length ≤ 1000000 := by omega
              have hc2 : (wr.alloc (.cells #[.int .i64 y] 3)).cell? ⟨ga, offa + j, none⟩ = some (.int .i64 y) := (((Below.refl _ wr).alloc (Nat.le_refl _) _).cell (p := ⟨ga, offa + j, none⟩) (cell_in hc')).trans hc'
              clear Hst C
              go_wp2_with (at_builtin; refine wpList_push rfl (.tmp 76) (.tmp 82) rfl rfl HP2.out rfl HB2.out hxl HS2.out ?_; intro gn cap w2 hp2 hk2 hat _)
              have hb2 : Below WB.heap.size WB w2 := below_then (hb.alloc hbw _) hk2 HS2.out fun i hi hh => by
                have := (hP.lt i hh).1
                omega
              go_roundw
              case rel => exact ⟨j + 1, ys ++ [y], by go_num, by omega, E1.out.symm, by simp; omega, hp2, hb2⟩
              case measure => simp [intOf]; omega
          · have ey : ys = d1.kids.filter (fun y => !hasB mv y) := by rw [Hys.out, List.take_of_length_le (by rw [← HN1.out]; omega)]
            have EY := Lib.hid ey
            have hPw := Lib.hid hP
            have HB := Lib.hid hb
            have hyl' : ys.length ≤ 200 := by omega
            have x6 : wr.cell? ⟨g6, 8, none⟩ = some (.slice A6 n6 k6) := (hb.cell (p := ⟨g6, 8, none⟩) y6).trans Y6.out
            obtain ⟨nw, hnw⟩ : ∃ nw, nw = ys.length := ⟨_, rfl⟩
            rw [← hnw] at hPw hyl'
            rw [← hnw]
            have HNW := Lib.hid hnw
            obtain ⟨WC, hWC⟩ : ∃ W, W = wr := ⟨_, rfl⟩
            rw [← hWC] at x1 x6 hPw HB
            rw [← hWC]
            have Y6' := Lib.hid x6
            have y6' := cell_in x6
            clear ey hP hb Hys hnw hWC hyl hj
            go_wp2_with fail
            clear x1 x6
            go_loopw [18, 19, 21] (fun o1 o2 i wx => ∃ (j : Nat) (us vs : List Int), i = .int .i64 j ∧ j ≤ n6 ∧ us = (d6.kids.take j).filter (fun y => !hasB mv y) ∧ vs = (d6.kids.take j).filter (fun y => hasB mv y) ∧ us.length ≤ j ∧ vs.length ≤ j ∧ Pile WC.heap.size wx o1 us ∧ Pile WC.heap.size wx o2 vs ∧ (∀ g, o2.ownBlock = some g → o1.ownBlock ≠ some g) ∧ Below WC.heap.size WC wx) (fun _ _ i _ => n6 - (intOf i).toNat)
            case atStart => exact ⟨0, [], [], rfl, Nat.zero_le _, rfl, rfl, Nat.zero_le _, Nat.zero_le _, Pile.nil _ _, Pile.nil _ _, (fun _ e => by cases e), Below.refl _ _⟩
            case round =>
              obtain ⟨j, us, vs, rfl, hj, hus, hvs, hul, hvl, hPu, hPv, hap, hb⟩ := hrel
              have Hus := Lib.hid hus
              have Hvs := Lib.hid hvs
              have x6 : wr.cell? ⟨g6, 8, none⟩ = some (.slice A6 n6 k6) := (hb.cell (p := ⟨g6, 8, none⟩) y6').trans Y6'.out
              clear hus hvs
              obtain ⟨Au, cu, rfl, -⟩ := hPu.form
              obtain ⟨Av, cv, rfl, -⟩ := hPv.form
              have hbB := HB.out.trans (hb.mono HB.out.size)
              by_cases hlt6 : (j : Int) < n6
              · have hjl : j < d6.kids.length := by rw [← HN6.out]; omega
                have hst1 := filt_step (f := fun y => !hasB mv y) hjl
                have hst2 := filt_step (f := fun y => hasB mv y) hjl
                obtain ⟨ga, offa, rfl, hga, hc⟩ := LK.out.nums j hjl
                rw [← Hus.out] at hst1
                rw [← Hvs.out] at hst2
                obtain ⟨y, hy⟩ : ∃ y, y = d6.kids[j] := ⟨_, rfl⟩
                rw [← hy] at hc hst1 hst2
                have hc' : wr.cell? ⟨ga, offa + j, none⟩ = some (.int .i64 y) := (hbB.cell (p := ⟨ga, offa + j, none⟩) hga).trans hc
                have Hst1 := Lib.hid hst1
                have Hst2 := Lib.hid hst2
                have C := Lib.hid (has_any mv Am m cm y wr HM.out (by omega) (LM6.out.below hbB).nums)
                obtain ⟨q, hq⟩ : ∃ q, q = hasB mv y := ⟨_, rfl⟩
                rw [← hq] at C Hst1 Hst2
                have hbw := hb.size
                have HB2 : Hid (Has (wr.alloc (.cells #[.int .i64 y] 3)) wr.heap.size (.cells #[.int .i64 y] 3 (0, 0))) := Lib.hid (Has.fresh _ _)
                have HS2 : Hid (WC.heap.size ≤ (wr.alloc (.cells #[.int .i64 y] 3)).heap.size) := Lib.hid (by simp; omega)
                have hc2 : (wr.alloc (.cells #[.int .i64 y] 3)).cell? ⟨ga, offa + j, none⟩ = some (.int .i64 y) := (((Below.refl _ wr).alloc (Nat.le_refl _) _).cell (p := ⟨ga, offa + j, none⟩) (cell_in hc')).trans hc'
                have hxl : us.length ≤ 1000000 := by omega
                have hvxl : vs.length ≤ 1000000 := by omega
                have HPu : Hid (Pile WC.heap.size (wr.alloc (.cells #[.int .i64 y] 3)) (.slice Au us.length cu) us) := Lib.hid (hPu.alloc _)
                have HPv : Hid (Pile WC.heap.size (wr.alloc (.cells #[.int .i64 y] 3)) (.slice Av vs.length cv) vs) := Lib.hid (hPv.alloc _)
                clear hst1 hst2 hy hjl hq hc hbB hlt
                go_wp2_with fail
                refine C.out.mono ?_
                rintro e w7 ⟨rfl, rfl⟩
                cases q with
                | true =>
                  have E1 := Lib.hid (Hst1.out.trans (List.append_nil _))
                  have E2 := Lib.hid Hst2.out
                  clear Hst1 Hst2 C
                  go_wp2_with (at_builtin; refine wpList_push rfl (.tmp 98) (.tmp 104) rfl rfl HPv.out rfl HB2.out hvxl HS2.out ?_; intro gn cap w2 hp2 hk2 hat _)
                  obtain ⟨f1, f2, f3⟩ := push_two hPv hPu (fun g h1 h2 => hap g h2 h1) hb hbw hk2 hat
                  go_roundw
                  case rel => exact ⟨j + 1, us, vs ++ [y], by go_num, by omega, E1.out.symm, E2.out.symm, by omega, by simp; omega, f1, hp2, fun g h1 h2 => f2 g h2 (by simpa [Value.ownBlock] using h1), f3⟩
                  case measure => simp [intOf]; omega
                | false =>
                  have E1 := Lib.hid Hst1.out
                  have E2 := Lib.hid (Hst2.out.trans (List.append_nil _))
                  clear Hst1 Hst2 C
                  go_wp2_with (at_builtin; refine wpList_push rfl (.tmp 106) (.tmp 112) rfl rfl HPu.out rfl HB2.out hxl HS2.out ?_; intro gn cap w2 hp2 hk2 hat _)
                  obtain ⟨f1, f2, f3⟩ := push_two hPu hPv hap hb hbw hk2 hat
                  go_roundw
                  case rel => exact ⟨j + 1, us ++ [y], vs, by go_num, by omega, E1.out.symm, E2.out.symm, by simp; omega, by omega, hp2, f1, fun g h1 h2 => f2 g h1 (by simpa [Value.ownBlock] using h2), f3⟩
                  case measure => simp [intOf]; omega
              · have eu : us = ys := by
                  rw [Hus.out, List.take_of_length_le (by rw [← HN6.out]; omega), EY.out]
                  exact Hsort.out.1
                have ev : vs = mv := by
                  rw [Hvs.out, List.take_of_length_le (by rw [← HN6.out]; omega)]
                  exact Hsort.out.2
                obtain ⟨A9, c9, e9, hLw⟩ := (hPw.out.below hb).form
                obtain ⟨rfl, rfl⟩ : Ao = A9 ∧ co = c9 := by injection e9 with e1 _ e3; exact ⟨e1, e3⟩
                obtain ⟨A10, c10, e10, hLu⟩ := hPu.form
                obtain ⟨rfl, rfl⟩ : Au = A10 ∧ cu = c10 := by injection e10 with e1 _ e3; exact ⟨e1, e3⟩
                obtain ⟨A11, c11, e11, hLv⟩ := hPv.form
                obtain ⟨rfl, rfl⟩ : Av = A11 ∧ cv = c11 := by injection e11 with e1 _ e3; exact ⟨e1, e3⟩
                have LU := Lib.hid hLu
                have LVv := Lib.hid hLv
                have LWw := Lib.hid hLw
                have LMm := Lib.hid (LM6.out.below hbB)
                have L9 := Lib.hid ((L6.out.next O HB.out).next O hb)
                have EU := Lib.hid eu
                have EV := Lib.hid ev
                clear eu ev e9 e10 e11 hLw hLu hLv hPu hPv hap hb hbB
                go_wp2_with fail
                refine (ints_any ys us Ao Au nw us.length co cu wr HNW.out rfl (by omega) LWw.out.nums LU.out.nums).mono ?_
                rintro e w8 ⟨rfl, hb8⟩
                rw [EU.out, sameInts_self]
                have L10 := Lib.hid (L9.out.next O hb8)
                go_wp2_with fail
                refine (ints_any vs mv Av Am vs.length m cv cm w8 rfl HM.out (by omega) (LVv.out.below hb8).nums (LMm.out.below hb8).nums).mono ?_
                rintro e w9 ⟨rfl, hb9⟩
                rw [EV.out, sameInts_self]
                have L11 := Lib.hid (L10.out.next O hb9)
                clear hb8 hb9
                go_wp2
                go_ret
                exact ⟨rfl, L11.out.below⟩
    · have zE : (E != 0) = true := by simpa using hz
      clear hz hE
      go_wp2
      go_ret
      exact ⟨rfl, L4.out.below⟩
end
end Go.Proofs.Ytojcchjhimagiaa

namespace Go.Proofs.Ytojcchjhimagiaa
open Go Go.RowKit

section
variable {l : List Nd} {n p c : Int}
/-- Is a node put, is it a parent that is named or left? -/
def putB (l : List Nd) (n id : Int) : Bool := decide (id = n) || (decide ((nd l id).parent = n) && hasB (parL l id) n)
def parB (l : List Nd) (n p id : Int) : Bool := decide (id = p) || (thereB l n && decide ((nd l n).parent = id))
theorem apart_par (hg : Good l) {id : Int} (ht : thereB l id = true) (hp : putB l n id = false) : (nd (befL l n p c) id).parent = (nd l id).parent := by
  by_cases h : chkErr l n p c = 0
  · rw [bef_nd hg h ht]
    show (if id ∈ moveL l n then p else (nd l id).parent) = _
    refine if_neg fun hm => ?_
    have hn := (chk_zero h).1
    unfold moveL at hm
    unfold putB at hp
    rw [Bool.or_eq_false_iff, Bool.and_eq_false_iff] at hp
    split at hm
    · have hpar := (hg.tree.kid n hn id hm).2
      rcases hp.2 with h2 | h2
      · exact (of_decide_eq_false h2) hpar
      · have : n ∈ parL l id := by
          rw [parL_kid hg.tree hn hm]
          exact List.mem_cons_of_mem _ (parL_self hg.tree hn)
        exact hasB_not h2 this
    · exact (of_decide_eq_false hp.1) (List.mem_singleton.1 hm)
  · rw [bef_err h]
theorem apart_kids (hg : Good l) {id : Int} (ht : thereB l id = true) (hp : parB l n p id = false) (hne : id ≠ n) : (nd (befL l n p c) id).kids = (nd l id).kids := by
  by_cases h : chkErr l n p c = 0
  · rw [bef_nd hg h ht]
    show (if id = p then newK l n p c else if (nd l n).kind = 4 then (if id = n then [] else (nd l id).kids) else if id = (nd l n).parent then lessL (nd l id).kids n else (nd l id).kids) = _
    have hn := (chk_zero h).1
    unfold parB at hp
    rw [Bool.or_eq_false_iff, hn, Bool.true_and] at hp
    rw [if_neg (of_decide_eq_false hp.1), if_neg hne]
    have e : ¬ id = (nd l n).parent := fun e => (of_decide_eq_false hp.2) e.symm
    rw [if_neg e, ite_self]
  · rw [bef_err h]
theorem apart_rest (hg : Good l) {id : Int} (ht : thereB l id = true) : nd (befL l n p c) id = (nd l id).re (nd (befL l n p c) id).parent (nd (befL l n p c) id).kids := by
  by_cases h : chkErr l n p c = 0
  · rw [bef_nd hg h ht]
    rfl
  · rw [bef_err h]
    rfl
end

theorem box_stored {w : World} {g : Nat} {t : TypeId} {z0 z1 z2 z3 z4 z5 z6 z7 z8 : Value} (h : Has w g (.cells #[z0, z1, z2, z3, z4, z5, z6, z7, z8] t (0, 0))) (u0 u1 u2 u3 u4 u5 u6 u7 u8 : Value) :
    Has (((((((((w.setCell ⟨g, 0, none⟩ u0).setCell ⟨g, 1, none⟩ u1).setCell ⟨g, 2, none⟩ u2).setCell ⟨g, 3, none⟩ u3).setCell ⟨g, 4, none⟩ u4).setCell ⟨g, 5, none⟩ u5).setCell ⟨g, 6, none⟩ u6).setCell ⟨g, 7, none⟩ u7).setCell ⟨g, 8, none⟩ u8) g (.cells #[u0, u1, u2, u3, u4, u5, u6, u7, u8] t (0, 0)) := by
  have h0 := h.stored 0 u0
  have h1 := h0.stored 1 u1
  have h2 := h1.stored 2 u2
  have h3 := h2.stored 3 u3
  have h4 := h3.stored 4 u4
  have h5 := h4.stored 5 u5
  have h6 := h5.stored 6 u6
  have h7 := h6.stored 7 u7
  have h8 := h7.stored 8 u8
  simpa using h8
/-- Nine cells may be written. -/
theorem box_nine {w : World} {g : Nat} {t : TypeId} {z0 z1 z2 z3 z4 z5 z6 z7 z8 : Value} (h : Has w g (.cells #[z0, z1, z2, z3, z4, z5, z6, z7, z8] t (0, 0))) :
    (w.cell? ⟨g, 0, none⟩ = some z0 ∧ w.cell? ⟨g, 1, none⟩ = some z1 ∧ w.cell? ⟨g, 2, none⟩ = some z2 ∧ w.cell? ⟨g, 3, none⟩ = some z3 ∧ w.cell? ⟨g, 4, none⟩ = some z4 ∧ w.cell? ⟨g, 5, none⟩ = some z5 ∧ w.cell? ⟨g, 6, none⟩ = some z6 ∧ w.cell? ⟨g, 7, none⟩ = some z7 ∧ w.cell? ⟨g, 8, none⟩ = some z8) ∧
    (w.frozen? ⟨g, 0, none⟩ = false ∧ w.frozen? ⟨g, 1, none⟩ = false ∧ w.frozen? ⟨g, 2, none⟩ = false ∧ w.frozen? ⟨g, 3, none⟩ = false ∧ w.frozen? ⟨g, 4, none⟩ = false ∧ w.frozen? ⟨g, 5, none⟩ = false ∧ w.frozen? ⟨g, 6, none⟩ = false ∧ w.frozen? ⟨g, 7, none⟩ = false ∧ w.frozen? ⟨g, 8, none⟩ = false) :=
  ⟨⟨h.cell 0, h.cell 1, h.cell 2, h.cell 3, h.cell 4, h.cell 5, h.cell 6, h.cell 7, h.cell 8⟩, h.free 0, h.free 1, h.free 2, h.free 3, h.free 4, h.free 5, h.free 6, h.free 7, h.free 8⟩

section
variable {Rep : (Nat → Prop) → World → Nat → List Nd → Prop}
set_option maxHeartbeats 16000000 in
set_option maxRecDepth 100000 in
theorem editApart_any (O : ForestOk Rep) (M : ForestMore Rep) (A : Option Addr) (n c : Nat) (xs : List Ac) (a a2 a3 : Int) (w : World) (hn : xs.length = n) (hm : n ≤ maxLen) (h : Acts w A xs) :
    Calls Try.prog 5 #[.slice A n c, .int .i64 a, .int .i64 a2, .int .i64 a3] w fun e w' => e = .returned (.bool true) ∧ Below w.heap.size w w' := by
  have hnot : ∀ (x : Bool) (w : World), (Op.unary .not (.bool x)).run Try.prog w = .ok (.bool (!x)) w := fun _ _ => rfl
  have H := Lib.hid h
  have Hn := Lib.hid hn
  have Hm := Lib.hid hm
  clear h hn hm
  go_enter Try.func5, Try.ntmps5
  go_wp2_with fail
  refine (awake7_any O M w).mono ?_
  rintro e w0 ⟨rfl, hb0⟩
  go_wp2_with fail
  refine (great_any A n c xs w0 Hn.out Hm.out (H.out.below hb0)).mono ?_
  rintro e w1 ⟨⟨gr, rfl, hgr⟩, rfl⟩
  cases gr with
  | true =>
    go_wp2
    go_ret
    exact ⟨rfl, hb0⟩
  | false =>
    have Hs := Lib.hid (hgr rfl)
    have Hb0 := Lib.hid hb0
    clear hgr hb0
    go_wp2_with fail
    refine (built_any O A n c xs w0 Hn.out (H.out.below Hb0.out) Hs.out).mono ?_
    rintro e w1 ⟨b, rfl, hR, hb1⟩
    have Hg := Lib.hid (good_forest Hs.out)
    obtain ⟨l, hl⟩ : ∃ l, l = forest xs := ⟨_, rfl⟩
    have HL := Lib.hid hl
    rw [← hl] at hR Hg
    obtain ⟨S, hLv⟩ := live_new O hR Hb0.out hb1
    have LV := Lib.hid hLv
    have hlow : ∀ i, w1.heap.size ≤ i → ¬ S i := fun i hi hs => absurd (hLv.low i hs).2 (Nat.not_lt.2 hi)
    have low := Lib.hid hlow
    clear hlow hR hb1 hLv Hb0 hl
    go_wp2_with fail
    refine (O.all S w1 b l LV.out.rep Hg.out).mono ?_
    rintro e w2 ⟨A2, c2, rfl, hN2, hb2⟩
    have L2 := Lib.hid (LV.out.next O hb2)
    have N2 := Lib.hid hN2
    have hs2 := hb2.size
    clear hb2 hN2 LV
    go_wp2_with fail
    refine (refNodes A n c xs w2 Hn.out (H.out.below L2.out.below) Hs.out).mono ?_
    rintro e w3 ⟨A3, c3, rfl, hN3, hb3⟩
    rw [← HL.out] at hN3
    rw [← HL.out]
    have L3 := Lib.hid (L2.out.next O hb3)
    have N3 := Lib.hid (hN3.wide (G' := fun _ => True) fun _ _ _ => trivial)
    have N2' := Lib.hid (N2.out.below hb3)
    have hs3 := hb3.size
    clear hb3 hN3 L2 N2 H Hn Hs HL
    go_wp2_with fail
    refine (same_any l l A2 A3 c2 c3 _ 0 w3 (Nat.le_trans Hg.out.len (by decide)) (fun d hd => Nat.le_trans (Hg.out.few d hd) (by decide)) (N2'.out.wide (G' := fun _ => True) fun _ _ _ => trivial) N3.out).mono ?_
    rintro e w4 ⟨rfl, hb4⟩
    rw [sameL_refl]
    have L4 := Lib.hid (L3.out.next O hb4)
    have N4 := Lib.hid (N2'.out.below hb4)
    clear hb4 L3 N3 N2'
    go_wp2_with fail
    refine (liveBefore O M a a2 a3 L4.out Hg.out).mono ?_
    rintro e w5 ⟨rfl, ⟨S5, hL5, -⟩, hk5⟩
    have N5 := Lib.hid (N4.out.keptG hk5 fun i hi _ hs => low.out i hi hs)
    have L5 := Lib.hid hL5
    have Hg5 := Lib.hid (good_bef (n := a) (p := a2) (c := a3) Hg.out)
    have hlen : (befL l a a2 a3).length = l.length := bef_len
    clear hL5 hk5 L4 N4 low hs2 hs3
    have P1 := Lib.hid fun (id : Int) (ht : thereB l id = true) (hp : putB l a id = false) => apart_par (p := a2) (c := a3) Hg.out ht hp
    have P2 := Lib.hid fun (id : Int) (ht : thereB l id = true) (hp : parB l a a2 id = false) (hne : id ≠ a) => apart_kids (c := a3) Hg.out ht hp hne
    have P3 := Lib.hid fun (id : Int) (ht : thereB l id = true) => apart_rest (n := a) (p := a2) (c := a3) Hg.out ht
    obtain ⟨E, hE⟩ : ∃ E, E = chkErr l a a2 a3 := ⟨_, rfl⟩
    rw [← hE]
    clear hE
    obtain ⟨l2, hl2⟩ : ∃ l2, l2 = befL l a a2 a3 := ⟨_, rfl⟩
    rw [← hl2] at L5 Hg5 hlen P1 P2 P3
    clear hl2
    go_wp2_with fail
    refine (O.all S5 w5 b l2 L5.out.rep Hg5.out).mono ?_
    rintro e w6 ⟨A6, c6, rfl, hN6, hb6⟩
    have L6 := Lib.hid (L5.out.next O hb6)
    have M6 := Lib.hid ((hN6.wide (G' := fun _ => True) fun _ _ _ => trivial).from_ (Nat.zero_le _))
    have N6 := Lib.hid (((N5.out.below hb6).wide (G' := fun _ => True) fun _ _ _ => trivial).from_ (Nat.zero_le _))
    rw [hlen]
    clear hb6 hN6 L5 N5
    have hll := Hg.out.len
    obtain ⟨N, hN⟩ : ∃ N, N = l.length := ⟨_, rfl⟩
    rw [← hN]
    rw [← hN] at hlen hll
    have HN := Lib.hid hN
    have HLen := Lib.hid hlen
    clear hN hlen
    obtain ⟨WB, hWB⟩ : ∃ W, W = w6 := ⟨_, rfl⟩
    rw [← hWB] at L6 M6 N6
    rw [← hWB]
    clear hWB
    go_wp2_with fail
    go_loopw [12] (fun i wr => ∃ j : Nat, i = .int .i64 j ∧ j ≤ N ∧ Below WB.heap.size WB wr) (fun i _ => N - (intOf i).toNat)
    case atStart => exact ⟨0, rfl, Nat.zero_le _, Below.refl _ _⟩
    case round =>
      obtain ⟨j, rfl, hj, hb⟩ := hrel
      by_cases hjn : (j : Int) < N
      · have hjl : j < l.length := by rw [← HN.out]; omega
        have hj2 : j < l2.length := by rw [HLen.out]; omega
        have ht : thereB l ((j : Int) + 1) = true := thereB_iff.2 ⟨by omega, by omega⟩
        obtain ⟨g1, k1, rfl, -, hg1, hk1, -, c0, c1, c2', c3', c4, c5, c6', c7, c8⟩ := (N6.out.below hb).nine hjl
        obtain ⟨g2, k2, rfl, -, hg2, hk2, -, e0, e1, e2, e3, e4, e5, e6, e7, e8⟩ := (M6.out.below hb).nine hj2
        obtain ⟨Ax, cx, rfl, hLx⟩ := hk1.list
        obtain ⟨Ay, cy, rfl, hLy⟩ := hk2.list
        have q3 := P3.out _ ht
        have hpq := P1.out _ ht
        have hkq := P2.out _ ht
        obtain ⟨dx, hdx⟩ : ∃ d, d = nd l ((j : Int) + 1) := ⟨_, rfl⟩
        obtain ⟨dy, hdy⟩ : ∃ d, d = nd l2 ((j : Int) + 1) := ⟨_, rfl⟩
        rw [← hdx] at c0 c1 c2' c3' c4 c5 c6' c7 c8 hLx
        rw [← hdx, ← hdy] at q3 hpq hkq
        rw [← hdy] at e0 e1 e2 e3 e4 e5 e6 e7 e8 hLy
        obtain ⟨pb, hpb⟩ : ∃ pb, pb = putB l a ((j : Int) + 1) := ⟨_, rfl⟩
        obtain ⟨qb, hqb⟩ : ∃ qb, qb = parB l a a2 ((j : Int) + 1) := ⟨_, rfl⟩
        have hxl : dx.kids.length ≤ 200 := by rw [hdx]; exact few_nd Hg.out.few _
        obtain ⟨dk, dp, dh, ds, dm, db, dn, dw, ks2⟩ := dy
        obtain ⟨rfl, rfl, rfl, rfl, rfl, rfl, rfl⟩ : dk = dx.kind ∧ dh = dx.host ∧ ds = dx.shadow ∧ dm = dx.mode ∧ db = dx.slot ∧ dn = dx.name ∧ dw = dx.want := by
          unfold Nd.re at q3
          injection q3 with r1 r2 r3 r4 r5 r6 r7 r8 r9
          exact ⟨r1, r3, r4, r5, r6, r7, r8⟩
        simp only at e0 e1 e2 e3 e4 e5 e6 e7 e8 hLy hpq hkq
        have Hdx := Lib.hid hdx
        have Hpb := Lib.hid hpb
        have Hqb := Lib.hid hqb
        have Hpq := Lib.hid hpq
        have Hkq := Lib.hid hkq
        have LX := Lib.hid hLx
        have LY := Lib.hid hLy
        have NW := Lib.hid (N6.out.below hb)
        have LW := Lib.hid (L6.out.next O hb)
        have HBB := Lib.hid hb
        obtain ⟨WR, hWR⟩ : ∃ W, W = wr := ⟨_, rfl⟩
        rw [← hWR] at c0 c1 c2' c3' c4 c5 c6' c7 c8 e0 e1 e2 e3 e4 e5 e6 e7 e8 LX LY NW LW HBB hg1 hg2
        rw [← hWR]
        clear hdx hdy hpb hqb hpq hkq hLx hLy q3 hk1 hk2 hb hWR
        go_upto_region 17 with (fail)
        go_cut [14] (fun t wx => t = .bool pb ∧ Below WR.heap.size WR wx)
        case first =>
          clear c0 c2' c3' c4 c5 c6' c7 c8 e0 e1 e2 e3 e4 e5 e6 e7 e8
          have hq := Hpb.out
          unfold putB at hq
          rw [← Hdx.out] at hq
          by_cases h1 : (j : Int) + 1 = a
          · have z1 : ((j : Int) + 1 == a) = true := by simpa using h1
            have z2 : pb = true := by rw [hq, decide_eq_true h1]; rfl
            subst z2
            clear h1 hq c1
            go_wp2
            go_meet
            exact ⟨rfl, Below.refl _ _⟩
          · have z1 : ((j : Int) + 1 == a) = false := by simpa using h1
            rw [decide_eq_false h1, Bool.false_or] at hq
            clear h1
            by_cases h2 : dx.parent = a
            · have z2 : (dx.parent == a) = true := by simpa using h2
              rw [decide_eq_true h2, Bool.true_and] at hq
              have HQ := Lib.hid hq
              clear h2 hq
              go_wp2_with fail
              have CA := refAbove l (some ⟨g1, 0, none⟩) c2 a ((j : Int) + 1) WR Hg.out NW.out
              rw [← HN.out] at CA
              refine CA.mono ?_
              rintro e w7 ⟨rfl, hb7⟩
              rw [← HQ.out]
              go_wp2
              go_meet
              exact ⟨rfl, hb7⟩
            · have z2 : (dx.parent == a) = false := by simpa using h2
              rw [decide_eq_false h2, Bool.false_and] at hq
              subst hq
              clear h2
              go_wp2
              go_meet
              exact ⟨rfl, Below.refl _ _⟩
        case rest =>
          obtain ⟨rfl, hb7⟩ := hcut
          have NW7 := Lib.hid (NW.out.below hb7)
          have B7 := Lib.hid hb7
          clear hb7
          go_upto_region 18 with (fail)
          go_cut [15] (fun t wx => t = .bool qb ∧ Below WR.heap.size WR wx)
          case first =>
            clear c0 c1 c2' c3' c4 c5 c6' c7 c8 e0 e1 e2 e3 e4 e5 e6 e7 e8
            have hq := Hqb.out
            unfold parB at hq
            by_cases h1 : (j : Int) + 1 = a2
            · have z1 : ((j : Int) + 1 == a2) = true := by simpa using h1
              have z2 : qb = true := by rw [hq, decide_eq_true h1]; rfl
              subst z2
              clear h1 hq
              go_wp2
              go_meet
              exact ⟨rfl, B7.out⟩
            · have z1 : ((j : Int) + 1 == a2) = false := by simpa using h1
              rw [decide_eq_false h1, Bool.false_or] at hq
              clear h1
              have CT := there_any l (some ⟨g1, 0, none⟩) c2 a wc
              rw [← HN.out] at CT
              have HCT := Lib.hid CT
              clear CT
              cases hta : thereB l a with
              | false =>
                rw [hta, Bool.false_and] at hq
                subst hq
                rw [hta] at HCT
                clear hta
                go_wp2_with fail
                refine HCT.out.mono ?_
                rintro e w8 ⟨rfl, rfl⟩
                go_wp2
                go_meet
                exact ⟨rfl, B7.out⟩
              | true =>
                rw [hta, Bool.true_and] at hq
                obtain ⟨ma, hma, hmal⟩ := there_at hta
                rw [hta] at HCT
                subst hma
                obtain ⟨g9, -, e9, -, -, -, -, -, c9, -⟩ := NW7.out.nine hmal
                obtain rfl : g1 = g9 := by simpa using e9
                obtain ⟨pa, hpa⟩ : ∃ pa, pa = (nd l ((ma : Int) + 1)).parent := ⟨_, rfl⟩
                rw [← hpa] at hq c9
                rw [← HN.out] at hmal
                clear e9 hpa hta
                by_cases h2 : pa = (j : Int) + 1
                · have z2 : (pa == (j : Int) + 1) = true := by simpa using h2
                  rw [decide_eq_true h2] at hq
                  subst hq
                  clear h2
                  go_wp2_with fail
                  refine HCT.out.mono ?_
                  rintro e w8 ⟨rfl, rfl⟩
                  go_wp2
                  go_meet
                  exact ⟨rfl, B7.out⟩
                · have z2 : (pa == (j : Int) + 1) = false := by simpa using h2
                  rw [decide_eq_false h2] at hq
                  subst hq
                  clear h2
                  go_wp2_with fail
                  refine HCT.out.mono ?_
                  rintro e w8 ⟨rfl, rfl⟩
                  go_wp2
                  go_meet
                  exact ⟨rfl, B7.out⟩
          case rest =>
            obtain ⟨rfl, hb8⟩ := hcut
            have cc : ∀ (f : Nat) (v : Value), WR.cell? ⟨g1, j * 9 + f, none⟩ = some v → wc.cell? ⟨g1, j * 9 + f, none⟩ = some v := fun f v hv => (hb8.cell (p := ⟨g1, j * 9 + f, none⟩) hg1).trans hv
            have ee : ∀ (f : Nat) (v : Value), WR.cell? ⟨g2, j * 9 + f, none⟩ = some v → wc.cell? ⟨g2, j * 9 + f, none⟩ = some v := fun f v hv => (hb8.cell (p := ⟨g2, j * 9 + f, none⟩) hg2).trans hv
            have hcells : wc.cell? ⟨g1, j * 9, none⟩ = some (.int .i64 dx.kind) ∧ wc.cell? ⟨g1, j * 9 + 1, none⟩ = some (.int .i64 dx.parent) ∧ wc.cell? ⟨g1, j * 9 + 2, none⟩ = some (.int .i64 dx.host) ∧ wc.cell? ⟨g1, j * 9 + 3, none⟩ = some (.int .i64 dx.shadow) ∧ wc.cell? ⟨g1, j * 9 + 4, none⟩ = some (.int .i64 dx.mode) ∧ wc.cell? ⟨g1, j * 9 + 5, none⟩ = some (.bool dx.slot) ∧ wc.cell? ⟨g1, j * 9 + 6, none⟩ = some (.string dx.name) ∧ wc.cell? ⟨g1, j * 9 + 7, none⟩ = some (.string dx.want) ∧ wc.cell? ⟨g1, j * 9 + 8, none⟩ = some (.slice Ax dx.kids.length cx)
                ∧ wc.cell? ⟨g2, j * 9, none⟩ = some (.int .i64 dx.kind) ∧ wc.cell? ⟨g2, j * 9 + 1, none⟩ = some (.int .i64 dp) ∧ wc.cell? ⟨g2, j * 9 + 2, none⟩ = some (.int .i64 dx.host) ∧ wc.cell? ⟨g2, j * 9 + 3, none⟩ = some (.int .i64 dx.shadow) ∧ wc.cell? ⟨g2, j * 9 + 4, none⟩ = some (.int .i64 dx.mode) ∧ wc.cell? ⟨g2, j * 9 + 5, none⟩ = some (.bool dx.slot) ∧ wc.cell? ⟨g2, j * 9 + 6, none⟩ = some (.string dx.name) ∧ wc.cell? ⟨g2, j * 9 + 7, none⟩ = some (.string dx.want) ∧ wc.cell? ⟨g2, j * 9 + 8, none⟩ = some (.slice Ay ks2.length cy) :=
              ⟨cc 0 _ c0, cc 1 _ c1, cc 2 _ c2', cc 3 _ c3', cc 4 _ c4, cc 5 _ c5, cc 6 _ c6', cc 7 _ c7, cc 8 _ c8, ee 0 _ e0, ee 1 _ e1, ee 2 _ e2, ee 3 _ e3, ee 4 _ e4, ee 5 _ e5, ee 6 _ e6, ee 7 _ e7, ee 8 _ e8⟩
            have HCE := Lib.hid hcells
            have B8 := Lib.hid hb8
            have hg1' : g1 < wc.heap.size := Nat.lt_of_lt_of_le hg1 hb8.size
            have hg2' : g2 < wc.heap.size := Nat.lt_of_lt_of_le hg2 hb8.size
            obtain ⟨W8, hW8⟩ : ∃ W, W = wc := ⟨_, rfl⟩
            rw [← hW8] at HCE B8 hg1' hg2'
            rw [← hW8]
            clear hW8 hb8 hcells cc ee c0 c1 c2' c3' c4 c5 c6' c7 c8 e0 e1 e2 e3 e4 e5 e6 e7 e8
            go_upto_region 19 with (fail)
            go_cut [16, 17] (fun px py wx => ∃ gx gy, px = .pointer (some ⟨gx, 0, none⟩) ∧ py = .pointer (some ⟨gy, 0, none⟩) ∧ gx ≠ gy ∧ W8.heap.size ≤ gx ∧ W8.heap.size ≤ gy ∧ Has wx gx (.cells #[.int .i64 dx.kind, .int .i64 dx.parent, .int .i64 dx.host, .int .i64 dx.shadow, .int .i64 dx.mode, .bool dx.slot, .string dx.name, .string dx.want, .slice Ax dx.kids.length cx] 45 (0, 0)) ∧ Has wx gy (.cells #[.int .i64 dx.kind, .int .i64 dp, .int .i64 dx.host, .int .i64 dx.shadow, .int .i64 dx.mode, .bool dx.slot, .string dx.name, .string dx.want, .slice Ay ks2.length cy] 45 (0, 0)) ∧ Below W8.heap.size W8 wx)
            case first =>
              refine wp_region_way (late := []) (S := fun w' => w'.cell? ⟨g1, j * 9, none⟩ = some (.int .i64 dx.kind) ∧ w'.cell? ⟨g1, j * 9 + 1, none⟩ = some (.int .i64 dx.parent) ∧ w'.cell? ⟨g1, j * 9 + 2, none⟩ = some (.int .i64 dx.host) ∧ w'.cell? ⟨g1, j * 9 + 3, none⟩ = some (.int .i64 dx.shadow) ∧ w'.cell? ⟨g1, j * 9 + 4, none⟩ = some (.int .i64 dx.mode) ∧ w'.cell? ⟨g1, j * 9 + 5, none⟩ = some (.bool dx.slot) ∧ w'.cell? ⟨g1, j * 9 + 6, none⟩ = some (.string dx.name) ∧ w'.cell? ⟨g1, j * 9 + 7, none⟩ = some (.string dx.want) ∧ w'.cell? ⟨g1, j * 9 + 8, none⟩ = some (.slice Ax dx.kids.length cx) ∧ w'.cell? ⟨g2, j * 9, none⟩ = some (.int .i64 dx.kind) ∧ w'.cell? ⟨g2, j * 9 + 1, none⟩ = some (.int .i64 dp) ∧ w'.cell? ⟨g2, j * 9 + 2, none⟩ = some (.int .i64 dx.host) ∧ w'.cell? ⟨g2, j * 9 + 3, none⟩ = some (.int .i64 dx.shadow) ∧ w'.cell? ⟨g2, j * 9 + 4, none⟩ = some (.int .i64 dx.mode) ∧ w'.cell? ⟨g2, j * 9 + 5, none⟩ = some (.bool dx.slot) ∧ w'.cell? ⟨g2, j * 9 + 6, none⟩ = some (.string dx.name) ∧ w'.cell? ⟨g2, j * 9 + 7, none⟩ = some (.string dx.want) ∧ w'.cell? ⟨g2, j * 9 + 8, none⟩ = some (.slice Ay ks2.length cy)) (y := Way.takes [0, 1, 2, 3, 4, 5, 6, 7] (.fork 8 (.run 9 (.run 10 (.run 11 .fin))) 9 (.run 8 (.run 10 (.run 11 .fin))))) (by kernel_rfl) (by kernel_rfl) rfl (by kernel_rfl) HCE.out (fun hHeld => ?_)
              simp only [Way.takes]
              (repeat (first | (refine way_skip (by simp only [List.getElem?_toArray, List.getElem?_cons_succ, List.getElem?_cons_zero]; rfl) (by rfl) hHeld ?_; (try simp only [Act.put, List.setIfInBounds_toArray, List.set_cons_zero, List.set_cons_succ])) | (refine way_pass (by simp only [List.getElem?_toArray, List.getElem?_cons_succ, List.getElem?_cons_zero]; rfl) (by rfl) hHeld ?_; (try simp only [Act.put, List.setIfInBounds_toArray, List.set_cons_zero, List.set_cons_succ])) | (refine way_take (v := ?_) (by simp only [List.getElem?_toArray, List.getElem?_cons_succ, List.getElem?_cons_zero]; rfl) (by rfl) ?_ hHeld ?_; rotate_left; (focus (intro w hSw; (try dsimp only at hSw); go_simp; (try with_reducible rfl); done)); (try simp only [Act.put, List.setIfInBounds_toArray, List.set_cons_zero, List.set_cons_succ]))))
              have hst : ∀ w', Below W8.heap.size W8 w' → w'.cell? ⟨g1, j * 9, none⟩ = some (.int .i64 dx.kind) ∧ w'.cell? ⟨g1, j * 9 + 1, none⟩ = some (.int .i64 dx.parent) ∧ w'.cell? ⟨g1, j * 9 + 2, none⟩ = some (.int .i64 dx.host) ∧ w'.cell? ⟨g1, j * 9 + 3, none⟩ = some (.int .i64 dx.shadow) ∧ w'.cell? ⟨g1, j * 9 + 4, none⟩ = some (.int .i64 dx.mode) ∧ w'.cell? ⟨g1, j * 9 + 5, none⟩ = some (.bool dx.slot) ∧ w'.cell? ⟨g1, j * 9 + 6, none⟩ = some (.string dx.name) ∧ w'.cell? ⟨g1, j * 9 + 7, none⟩ = some (.string dx.want) ∧ w'.cell? ⟨g1, j * 9 + 8, none⟩ = some (.slice Ax dx.kids.length cx) ∧ w'.cell? ⟨g2, j * 9, none⟩ = some (.int .i64 dx.kind) ∧ w'.cell? ⟨g2, j * 9 + 1, none⟩ = some (.int .i64 dp) ∧ w'.cell? ⟨g2, j * 9 + 2, none⟩ = some (.int .i64 dx.host) ∧ w'.cell? ⟨g2, j * 9 + 3, none⟩ = some (.int .i64 dx.shadow) ∧ w'.cell? ⟨g2, j * 9 + 4, none⟩ = some (.int .i64 dx.mode) ∧ w'.cell? ⟨g2, j * 9 + 5, none⟩ = some (.bool dx.slot) ∧ w'.cell? ⟨g2, j * 9 + 6, none⟩ = some (.string dx.name) ∧ w'.cell? ⟨g2, j * 9 + 7, none⟩ = some (.string dx.want) ∧ w'.cell? ⟨g2, j * 9 + 8, none⟩ = some (.slice Ay ks2.length cy) := fun w' hb => by
                obtain ⟨r0, r1, r2, r3, r4, r5, r6, r7, r8, s0, s1, s2, s3, s4, s5, s6, s7, s8⟩ := HCE.out
                have cc : ∀ (f : Nat), w'.cell? ⟨g1, j * 9 + f, none⟩ = W8.cell? ⟨g1, j * 9 + f, none⟩ := fun f => hb.cell (p := ⟨g1, j * 9 + f, none⟩) hg1'
                have ee : ∀ (f : Nat), w'.cell? ⟨g2, j * 9 + f, none⟩ = W8.cell? ⟨g2, j * 9 + f, none⟩ := fun f => hb.cell (p := ⟨g2, j * 9 + f, none⟩) hg2'
                exact ⟨(cc 0).trans r0, (cc 1).trans r1, (cc 2).trans r2, (cc 3).trans r3, (cc 4).trans r4, (cc 5).trans r5, (cc 6).trans r6, (cc 7).trans r7, (cc 8).trans r8, (ee 0).trans s0, (ee 1).trans s1, (ee 2).trans s2, (ee 3).trans s3, (ee 4).trans s4, (ee 5).trans s5, (ee 6).trans s6, (ee 7).trans s7, (ee 8).trans s8⟩
              have HST := Lib.hid hst
              clear hst
              refine way_fork ?_ ?_
              · refine way_run (by simp only [List.getElem?_toArray, List.getElem?_cons_succ, List.getElem?_cons_zero]; rfl) (by rfl) (fun K hK => ?_)
                go_simp
                refine hK.out _ _ (HST.out _ ((Below.refl _ W8).alloc (Nat.le_refl _) _).drew) (fun hHeld => ?_)
                clear hK K
                (try simp only [Act.put, List.setIfInBounds_toArray, List.set_cons_zero, List.set_cons_succ])
                refine way_run (by simp only [List.getElem?_toArray, List.getElem?_cons_succ, List.getElem?_cons_zero]; rfl) (by rfl) (fun K hK => ?_)
                go_simp
                refine hK.out _ _ (HST.out _ (((Below.refl _ W8).alloc (Nat.le_refl _) _).alloc (by simp) _).drew) (fun hHeld => ?_)
                clear hK K
                (try simp only [Act.put, List.setIfInBounds_toArray, List.set_cons_zero, List.set_cons_succ])
                have hz1 : Has ((W8.alloc (.cells #[.int .i64 0, .int .i64 0, .int .i64 0, .int .i64 0, .int .i64 0, .bool false, .string ⟨#[]⟩, .string ⟨#[]⟩, .slice none 0 0] 45)).alloc (.cells #[.int .i64 0, .int .i64 0, .int .i64 0, .int .i64 0, .int .i64 0, .bool false, .string ⟨#[]⟩, .string ⟨#[]⟩, .slice none 0 0] 45)).drew (W8.heap.size) (.cells #[.int .i64 0, .int .i64 0, .int .i64 0, .int .i64 0, .int .i64 0, .bool false, .string ⟨#[]⟩, .string ⟨#[]⟩, .slice none 0 0] 45 (0, 0)) := (Has.fresh W8 _).more _
                have hz2 : Has ((W8.alloc (.cells #[.int .i64 0, .int .i64 0, .int .i64 0, .int .i64 0, .int .i64 0, .bool false, .string ⟨#[]⟩, .string ⟨#[]⟩, .slice none 0 0] 45)).alloc (.cells #[.int .i64 0, .int .i64 0, .int .i64 0, .int .i64 0, .int .i64 0, .bool false, .string ⟨#[]⟩, .string ⟨#[]⟩, .slice none 0 0] 45)).drew (W8.heap.size + 1) (.cells #[.int .i64 0, .int .i64 0, .int .i64 0, .int .i64 0, .int .i64 0, .bool false, .string ⟨#[]⟩, .string ⟨#[]⟩, .slice none 0 0] 45 (0, 0)) := by
                  have := Has.fresh (W8.alloc (.cells #[.int .i64 0, .int .i64 0, .int .i64 0, .int .i64 0, .int .i64 0, .bool false, .string ⟨#[]⟩, .string ⟨#[]⟩, .slice none 0 0] 45)) (.cells #[.int .i64 0, .int .i64 0, .int .i64 0, .int .i64 0, .int .i64 0, .bool false, .string ⟨#[]⟩, .string ⟨#[]⟩, .slice none 0 0] 45)
                  rw [show (W8.alloc (.cells #[.int .i64 0, .int .i64 0, .int .i64 0, .int .i64 0, .int .i64 0, .bool false, .string ⟨#[]⟩, .string ⟨#[]⟩, .slice none 0 0] 45)).heap.size = W8.heap.size + 1 by simp] at this
                  exact this
                have hbz : Below W8.heap.size W8 ((W8.alloc (.cells #[.int .i64 0, .int .i64 0, .int .i64 0, .int .i64 0, .int .i64 0, .bool false, .string ⟨#[]⟩, .string ⟨#[]⟩, .slice none 0 0] 45)).alloc (.cells #[.int .i64 0, .int .i64 0, .int .i64 0, .int .i64 0, .int .i64 0, .bool false, .string ⟨#[]⟩, .string ⟨#[]⟩, .slice none 0 0] 45)).drew := (((Below.refl _ W8).alloc (Nat.le_refl _) _).alloc (by simp) _).drew
                obtain ⟨V, hV⟩ : ∃ V, V = ((W8.alloc (.cells #[.int .i64 0, .int .i64 0, .int .i64 0, .int .i64 0, .int .i64 0, .bool false, .string ⟨#[]⟩, .string ⟨#[]⟩, .slice none 0 0] 45)).alloc (.cells #[.int .i64 0, .int .i64 0, .int .i64 0, .int .i64 0, .int .i64 0, .bool false, .string ⟨#[]⟩, .string ⟨#[]⟩, .slice none 0 0] 45)).drew := ⟨_, rfl⟩
                rw [← hV] at hz1 hz2 hbz hHeld
                rw [← hV]
                clear hV
                obtain ⟨gx, hgx⟩ : ∃ gx, gx = W8.heap.size := ⟨_, rfl⟩
                obtain ⟨gy, hgy⟩ : ∃ gy, gy = W8.heap.size + 1 := ⟨_, rfl⟩
                have hxy : gx ≠ gy := by omega
                have hx8 : W8.heap.size ≤ gx := by omega
                have hy8 : W8.heap.size ≤ gy := by omega
                rw [← hgx] at hz1
                rw [← hgy] at hz2
                rw [← hgy, ← hgx]
                clear hgx hgy
                obtain ⟨⟨y0, y1, y2, y3, y4, y5, y6, y7, y8⟩, q0, q1, q2, q3, q4, q5, q6, q7, q8⟩ := box_nine hz1
                have hs1 := box_stored hz1 (.int .i64 dx.kind) (.int .i64 dx.parent) (.int .i64 dx.host) (.int .i64 dx.shadow) (.int .i64 dx.mode) (.bool dx.slot) (.string dx.name) (.string dx.want) (.slice Ax dx.kids.length cx)
                have hkb := keepsBox V gx (.int .i64 dx.kind) (.int .i64 dx.parent) (.int .i64 dx.host) (.int .i64 dx.shadow) (.int .i64 dx.mode) (.bool dx.slot) (.string dx.name) (.string dx.want) (.slice Ax dx.kids.length cx)
                have hs2 := hz2.kept hkb (fun e => hxy e.symm)
                have hbs := below_then hbz hkb hbz.size fun i hi e => by omega
                have HS1 := Lib.hid hs1
                have HS2 := Lib.hid hs2
                have HBS := Lib.hid hbs
                clear hz1 hz2 hbz hs1 hs2 hbs hkb
                refine way_run (by simp only [List.getElem?_toArray, List.getElem?_cons_succ, List.getElem?_cons_zero]; rfl) (by rfl) (fun K hK => ?_)
                go_simp
                refine hK.out _ _ (HST.out _ HBS.out) (fun hHeld => ?_)
                clear hK K
                (try simp only [Act.put, List.setIfInBounds_toArray, List.set_cons_zero, List.set_cons_succ])
                obtain ⟨V2, hV2⟩ : ∃ V2, V2 = (((((((((V.setCell ⟨gx, 0, none⟩ (.int .i64 dx.kind)).setCell ⟨gx, 1, none⟩ (.int .i64 dx.parent)).setCell ⟨gx, 2, none⟩ (.int .i64 dx.host)).setCell ⟨gx, 3, none⟩ (.int .i64 dx.shadow)).setCell ⟨gx, 4, none⟩ (.int .i64 dx.mode)).setCell ⟨gx, 5, none⟩ (.bool dx.slot)).setCell ⟨gx, 6, none⟩ (.string dx.name)).setCell ⟨gx, 7, none⟩ (.string dx.want)).setCell ⟨gx, 8, none⟩ (.slice Ax dx.kids.length cx)) := ⟨_, rfl⟩
                rw [← hV2] at HS1 HS2 HBS hHeld
                rw [← hV2]
                clear hV2 y0 y1 y2 y3 y4 y5 y6 y7 y8 q0 q1 q2 q3 q4 q5 q6 q7 q8
                obtain ⟨⟨y0, y1, y2, y3, y4, y5, y6, y7, y8⟩, q0, q1, q2, q3, q4, q5, q6, q7, q8⟩ := box_nine HS2.out
                have ht2 := box_stored HS2.out (.int .i64 dx.kind) (.int .i64 dp) (.int .i64 dx.host) (.int .i64 dx.shadow) (.int .i64 dx.mode) (.bool dx.slot) (.string dx.name) (.string dx.want) (.slice Ay ks2.length cy)
                have hkb2 := keepsBox V2 gy (.int .i64 dx.kind) (.int .i64 dp) (.int .i64 dx.host) (.int .i64 dx.shadow) (.int .i64 dx.mode) (.bool dx.slot) (.string dx.name) (.string dx.want) (.slice Ay ks2.length cy)
                have ht1 := HS1.out.kept hkb2 (fun e => hxy e)
                have hbt := below_then HBS.out hkb2 HBS.out.size fun i hi e => by omega
                have HT1 := Lib.hid ht1
                have HT2 := Lib.hid ht2
                have HBT := Lib.hid hbt
                clear ht1 ht2 hbt hkb2
                refine way_run (by simp only [List.getElem?_toArray, List.getElem?_cons_succ, List.getElem?_cons_zero]; rfl) (by rfl) (fun K hK => ?_)
                go_simp
                refine hK.out _ _ (HST.out _ HBT.out) (fun hHeld => ?_)
                clear hK K
                (try simp only [Act.put, List.setIfInBounds_toArray, List.set_cons_zero, List.set_cons_succ])
                refine way_done ?_
                clear y0 y1 y2 y3 y4 y5 y6 y7 y8 q0 q1 q2 q3 q4 q5 q6 q7 q8
                go_wp2_with fail
                go_meet
                exact ⟨gx, gy, rfl, rfl, hxy, hx8, hy8, HT1.out, HT2.out, HBT.out⟩
              · refine way_run (by simp only [List.getElem?_toArray, List.getElem?_cons_succ, List.getElem?_cons_zero]; rfl) (by rfl) (fun K hK => ?_)
                go_simp
                refine hK.out _ _ (HST.out _ ((Below.refl _ W8).alloc (Nat.le_refl _) _).drew) (fun hHeld => ?_)
                clear hK K
                (try simp only [Act.put, List.setIfInBounds_toArray, List.set_cons_zero, List.set_cons_succ])
                refine way_run (by simp only [List.getElem?_toArray, List.getElem?_cons_succ, List.getElem?_cons_zero]; rfl) (by rfl) (fun K hK => ?_)
                go_simp
                refine hK.out _ _ (HST.out _ (((Below.refl _ W8).alloc (Nat.le_refl _) _).alloc (by simp) _).drew) (fun hHeld => ?_)
                clear hK K
                (try simp only [Act.put, List.setIfInBounds_toArray, List.set_cons_zero, List.set_cons_succ])
                have hz1 : Has ((W8.alloc (.cells #[.int .i64 0, .int .i64 0, .int .i64 0, .int .i64 0, .int .i64 0, .bool false, .string ⟨#[]⟩, .string ⟨#[]⟩, .slice none 0 0] 45)).alloc (.cells #[.int .i64 0, .int .i64 0, .int .i64 0, .int .i64 0, .int .i64 0, .bool false, .string ⟨#[]⟩, .string ⟨#[]⟩, .slice none 0 0] 45)).drew (W8.heap.size) (.cells #[.int .i64 0, .int .i64 0, .int .i64 0, .int .i64 0, .int .i64 0, .bool false, .string ⟨#[]⟩, .string ⟨#[]⟩, .slice none 0 0] 45 (0, 0)) := (Has.fresh W8 _).more _
                have hz2 : Has ((W8.alloc (.cells #[.int .i64 0, .int .i64 0, .int .i64 0, .int .i64 0, .int .i64 0, .bool false, .string ⟨#[]⟩, .string ⟨#[]⟩, .slice none 0 0] 45)).alloc (.cells #[.int .i64 0, .int .i64 0, .int .i64 0, .int .i64 0, .int .i64 0, .bool false, .string ⟨#[]⟩, .string ⟨#[]⟩, .slice none 0 0] 45)).drew (W8.heap.size + 1) (.cells #[.int .i64 0, .int .i64 0, .int .i64 0, .int .i64 0, .int .i64 0, .bool false, .string ⟨#[]⟩, .string ⟨#[]⟩, .slice none 0 0] 45 (0, 0)) := by
                  have := Has.fresh (W8.alloc (.cells #[.int .i64 0, .int .i64 0, .int .i64 0, .int .i64 0, .int .i64 0, .bool false, .string ⟨#[]⟩, .string ⟨#[]⟩, .slice none 0 0] 45)) (.cells #[.int .i64 0, .int .i64 0, .int .i64 0, .int .i64 0, .int .i64 0, .bool false, .string ⟨#[]⟩, .string ⟨#[]⟩, .slice none 0 0] 45)
                  rw [show (W8.alloc (.cells #[.int .i64 0, .int .i64 0, .int .i64 0, .int .i64 0, .int .i64 0, .bool false, .string ⟨#[]⟩, .string ⟨#[]⟩, .slice none 0 0] 45)).heap.size = W8.heap.size + 1 by simp] at this
                  exact this
                have hbz : Below W8.heap.size W8 ((W8.alloc (.cells #[.int .i64 0, .int .i64 0, .int .i64 0, .int .i64 0, .int .i64 0, .bool false, .string ⟨#[]⟩, .string ⟨#[]⟩, .slice none 0 0] 45)).alloc (.cells #[.int .i64 0, .int .i64 0, .int .i64 0, .int .i64 0, .int .i64 0, .bool false, .string ⟨#[]⟩, .string ⟨#[]⟩, .slice none 0 0] 45)).drew := (((Below.refl _ W8).alloc (Nat.le_refl _) _).alloc (by simp) _).drew
                obtain ⟨V, hV⟩ : ∃ V, V = ((W8.alloc (.cells #[.int .i64 0, .int .i64 0, .int .i64 0, .int .i64 0, .int .i64 0, .bool false, .string ⟨#[]⟩, .string ⟨#[]⟩, .slice none 0 0] 45)).alloc (.cells #[.int .i64 0, .int .i64 0, .int .i64 0, .int .i64 0, .int .i64 0, .bool false, .string ⟨#[]⟩, .string ⟨#[]⟩, .slice none 0 0] 45)).drew := ⟨_, rfl⟩
                rw [← hV] at hz1 hz2 hbz hHeld
                rw [← hV]
                clear hV
                obtain ⟨gx, hgx⟩ : ∃ gx, gx = W8.heap.size + 1 := ⟨_, rfl⟩
                obtain ⟨gy, hgy⟩ : ∃ gy, gy = W8.heap.size := ⟨_, rfl⟩
                have hxy : gx ≠ gy := by omega
                have hx8 : W8.heap.size ≤ gx := by omega
                have hy8 : W8.heap.size ≤ gy := by omega
                rw [← hgy] at hz1
                rw [← hgx] at hz2
                rw [← hgx, ← hgy]
                clear hgx hgy
                obtain ⟨⟨y0, y1, y2, y3, y4, y5, y6, y7, y8⟩, q0, q1, q2, q3, q4, q5, q6, q7, q8⟩ := box_nine hz2
                have hs1 := box_stored hz2 (.int .i64 dx.kind) (.int .i64 dx.parent) (.int .i64 dx.host) (.int .i64 dx.shadow) (.int .i64 dx.mode) (.bool dx.slot) (.string dx.name) (.string dx.want) (.slice Ax dx.kids.length cx)
                have hkb := keepsBox V gx (.int .i64 dx.kind) (.int .i64 dx.parent) (.int .i64 dx.host) (.int .i64 dx.shadow) (.int .i64 dx.mode) (.bool dx.slot) (.string dx.name) (.string dx.want) (.slice Ax dx.kids.length cx)
                have hs2 := hz1.kept hkb (fun e => hxy e.symm)
                have hbs := below_then hbz hkb hbz.size fun i hi e => by omega
                have HS1 := Lib.hid hs1
                have HS2 := Lib.hid hs2
                have HBS := Lib.hid hbs
                clear hz1 hz2 hbz hs1 hs2 hbs hkb
                refine way_run (by simp only [List.getElem?_toArray, List.getElem?_cons_succ, List.getElem?_cons_zero]; rfl) (by rfl) (fun K hK => ?_)
                go_simp
                refine hK.out _ _ (HST.out _ HBS.out) (fun hHeld => ?_)
                clear hK K
                (try simp only [Act.put, List.setIfInBounds_toArray, List.set_cons_zero, List.set_cons_succ])
                obtain ⟨V2, hV2⟩ : ∃ V2, V2 = (((((((((V.setCell ⟨gx, 0, none⟩ (.int .i64 dx.kind)).setCell ⟨gx, 1, none⟩ (.int .i64 dx.parent)).setCell ⟨gx, 2, none⟩ (.int .i64 dx.host)).setCell ⟨gx, 3, none⟩ (.int .i64 dx.shadow)).setCell ⟨gx, 4, none⟩ (.int .i64 dx.mode)).setCell ⟨gx, 5, none⟩ (.bool dx.slot)).setCell ⟨gx, 6, none⟩ (.string dx.name)).setCell ⟨gx, 7, none⟩ (.string dx.want)).setCell ⟨gx, 8, none⟩ (.slice Ax dx.kids.length cx)) := ⟨_, rfl⟩
                rw [← hV2] at HS1 HS2 HBS hHeld
                rw [← hV2]
                clear hV2 y0 y1 y2 y3 y4 y5 y6 y7 y8 q0 q1 q2 q3 q4 q5 q6 q7 q8
                obtain ⟨⟨y0, y1, y2, y3, y4, y5, y6, y7, y8⟩, q0, q1, q2, q3, q4, q5, q6, q7, q8⟩ := box_nine HS2.out
                have ht2 := box_stored HS2.out (.int .i64 dx.kind) (.int .i64 dp) (.int .i64 dx.host) (.int .i64 dx.shadow) (.int .i64 dx.mode) (.bool dx.slot) (.string dx.name) (.string dx.want) (.slice Ay ks2.length cy)
                have hkb2 := keepsBox V2 gy (.int .i64 dx.kind) (.int .i64 dp) (.int .i64 dx.host) (.int .i64 dx.shadow) (.int .i64 dx.mode) (.bool dx.slot) (.string dx.name) (.string dx.want) (.slice Ay ks2.length cy)
                have ht1 := HS1.out.kept hkb2 (fun e => hxy e)
                have hbt := below_then HBS.out hkb2 HBS.out.size fun i hi e => by omega
                have HT1 := Lib.hid ht1
                have HT2 := Lib.hid ht2
                have HBT := Lib.hid hbt
                clear ht1 ht2 hbt hkb2
                refine way_run (by simp only [List.getElem?_toArray, List.getElem?_cons_succ, List.getElem?_cons_zero]; rfl) (by rfl) (fun K hK => ?_)
                go_simp
                refine hK.out _ _ (HST.out _ HBT.out) (fun hHeld => ?_)
                clear hK K
                (try simp only [Act.put, List.setIfInBounds_toArray, List.set_cons_zero, List.set_cons_succ])
                refine way_done ?_
                clear y0 y1 y2 y3 y4 y5 y6 y7 y8 q0 q1 q2 q3 q4 q5 q6 q7 q8
                go_wp2_with fail
                go_meet
                exact ⟨gx, gy, rfl, rfl, hxy, hx8, hy8, HT1.out, HT2.out, HBT.out⟩
            case rest =>
              obtain ⟨gx, gy, rfl, rfl, hxy, hx8, hy8, hHx, hHy, hb9⟩ := hcut
              have hyx : gy ≠ gx := fun e => hxy e.symm
              have HX := Lib.hid hHx
              have HY := Lib.hid hHy
              have B9 := Lib.hid hb9
              have fx1 : wc.cell? ⟨gx, 1, none⟩ = some (.int .i64 dx.parent) := hHx.cell 1
              have fy1 : wc.cell? ⟨gy, 1, none⟩ = some (.int .i64 dp) := hHy.cell 1
              have zx1 := hHx.free 1
              have zy1 := hHy.free 1
              have hks : Keeps (fun i => i = gx) wc (wc.setCell ⟨gx, 1, none⟩ (.int .i64 0)) := (Keeps.refl (fun i => i = gx) _).storeAt (F := fun i => i = gx) rfl _ _
              have hy1 := hHy.kept hks hyx
              have hx1 : Has (wc.setCell ⟨gx, 1, none⟩ (.int .i64 0)) gx (.cells #[.int .i64 dx.kind, .int .i64 0, .int .i64 dx.host, .int .i64 dx.shadow, .int .i64 dx.mode, .bool dx.slot, .string dx.name, .string dx.want, .slice Ax dx.kids.length cx] 45 (0, 0)) := by
                have := hHx.stored 1 (.int .i64 0)
                simpa using this
              have fy1' : (wc.setCell ⟨gx, 1, none⟩ (.int .i64 0)).cell? ⟨gy, 1, none⟩ = some (.int .i64 dp) := hy1.cell 1
              have zy1' := hy1.free 1
              have hks2 : Keeps (fun i => i = gy) (wc.setCell ⟨gx, 1, none⟩ (.int .i64 0)) ((wc.setCell ⟨gx, 1, none⟩ (.int .i64 0)).setCell ⟨gy, 1, none⟩ (.int .i64 0)) := (Keeps.refl (fun i => i = gy) _).storeAt (F := fun i => i = gy) rfl _ _
              have hx2 := hx1.kept hks2 hxy
              have hy2 : Has ((wc.setCell ⟨gx, 1, none⟩ (.int .i64 0)).setCell ⟨gy, 1, none⟩ (.int .i64 0)) gy (.cells #[.int .i64 dx.kind, .int .i64 0, .int .i64 dx.host, .int .i64 dx.shadow, .int .i64 dx.mode, .bool dx.slot, .string dx.name, .string dx.want, .slice Ay ks2.length cy] 45 (0, 0)) := by
                have := hy1.stored 1 (.int .i64 0)
                simpa using this
              have hbs : Below W8.heap.size W8 ((wc.setCell ⟨gx, 1, none⟩ (.int .i64 0)).setCell ⟨gy, 1, none⟩ (.int .i64 0)) := below_then (below_then hb9 hks hb9.size fun i hi e => by omega) hks2 (Nat.le_trans hb9.size hks.grows) fun i hi e => by omega
              have HX2 := Lib.hid hx2
              have HY2 := Lib.hid hy2
              have HB2 := Lib.hid hbs
              clear hHx hHy hb9 hks hks2 hy1 hx1 hx2 hy2 hbs
              go_upto_if 95 with (fail)
              go_cut [16] (fun t wx => t = .pointer (some ⟨gx, 0, none⟩) ∧ ∃ px py, px = py ∧ Has wx gx (.cells #[.int .i64 dx.kind, .int .i64 px, .int .i64 dx.host, .int .i64 dx.shadow, .int .i64 dx.mode, .bool dx.slot, .string dx.name, .string dx.want, .slice Ax dx.kids.length cx] 45 (0, 0)) ∧ Has wx gy (.cells #[.int .i64 dx.kind, .int .i64 py, .int .i64 dx.host, .int .i64 dx.shadow, .int .i64 dx.mode, .bool dx.slot, .string dx.name, .string dx.want, .slice Ay ks2.length cy] 45 (0, 0)) ∧ Below W8.heap.size W8 wx)
              case first =>
                cases pb with
                | true =>
                  go_wp2
                  go_meet
                  exact ⟨rfl, 0, 0, rfl, HX2.out, HY2.out, HB2.out⟩
                | false =>
                  have e := Hpq.out Hpb.out.symm
                  clear fx1 fy1 zx1 zy1 fy1' zy1'
                  go_wp2
                  go_meet
                  exact ⟨rfl, dx.parent, dp, e.symm, HX.out, HY.out, B9.out⟩
              case rest =>
                obtain ⟨rfl, px, py, hpp, hx3, hy3, hb10⟩ := hcut
                subst hpp
                clear fx1 fy1 zx1 zy1 fy1' zy1' HX2 HY2 HB2 HX HY B9
                obtain ⟨rb, hrb⟩ : ∃ rb, rb = (qb || decide ((j : Int) + 1 = a)) := ⟨_, rfl⟩
                have HRB := Lib.hid hrb
                clear hrb
                obtain ⟨W9, hW9⟩ : ∃ W, W = wc := ⟨_, rfl⟩
                rw [← hW9] at hx3 hy3 hb10
                rw [← hW9]
                clear hW9
                go_upto_region 22 with (fail)
                go_cut [103] (fun t wx => t = .bool rb ∧ W9 = wx)
                case first =>
                  have hr := HRB.out
                  cases qb with
                  | true =>
                    have e : rb = true := hr
                    clear hr
                    subst e
                    go_wp2
                    go_meet
                    exact ⟨rfl, rfl⟩
                  | false =>
                    rw [Bool.false_or] at hr
                    by_cases h1 : (j : Int) + 1 = a
                    · have z1 : ((j : Int) + 1 == a) = true := by simpa using h1
                      rw [decide_eq_true h1] at hr
                      subst hr
                      clear h1
                      go_wp2
                      go_meet
                      exact ⟨rfl, rfl⟩
                    · have z1 : ((j : Int) + 1 == a) = false := by simpa using h1
                      rw [decide_eq_false h1] at hr
                      subst hr
                      clear h1
                      go_wp2
                      go_meet
                      exact ⟨rfl, rfl⟩
                case rest =>
                  obtain ⟨rfl, rfl⟩ := hcut
                  have HX := Lib.hid hx3
                  have HY := Lib.hid hy3
                  have B10 := Lib.hid hb10
                  have fx8 : W9.cell? ⟨gx, 8, none⟩ = some (.slice Ax dx.kids.length cx) := hx3.cell 8
                  have fy8 : W9.cell? ⟨gy, 8, none⟩ = some (.slice Ay ks2.length cy) := hy3.cell 8
                  have zx8 := hx3.free 8
                  have zy8 := hy3.free 8
                  have hks : Keeps (fun i => i = gx) W9 (W9.setCell ⟨gx, 8, none⟩ (.slice none 0 0)) := (Keeps.refl (fun i => i = gx) _).storeAt (F := fun i => i = gx) rfl _ _
                  have hy4 := hy3.kept hks hyx
                  have hx4 : Has (W9.setCell ⟨gx, 8, none⟩ (.slice none 0 0)) gx (.cells #[.int .i64 dx.kind, .int .i64 px, .int .i64 dx.host, .int .i64 dx.shadow, .int .i64 dx.mode, .bool dx.slot, .string dx.name, .string dx.want, .slice none 0 0] 45 (0, 0)) := by
                    have := hx3.stored 8 (.slice none 0 0)
                    simpa using this
                  have fy8' : (W9.setCell ⟨gx, 8, none⟩ (.slice none 0 0)).cell? ⟨gy, 8, none⟩ = some (.slice Ay ks2.length cy) := hy4.cell 8
                  have zy8' := hy4.free 8
                  have hks2 : Keeps (fun i => i = gy) (W9.setCell ⟨gx, 8, none⟩ (.slice none 0 0)) ((W9.setCell ⟨gx, 8, none⟩ (.slice none 0 0)).setCell ⟨gy, 8, none⟩ (.slice none 0 0)) := (Keeps.refl (fun i => i = gy) _).storeAt (F := fun i => i = gy) rfl _ _
                  have hx5 := hx4.kept hks2 hxy
                  have hy5 : Has ((W9.setCell ⟨gx, 8, none⟩ (.slice none 0 0)).setCell ⟨gy, 8, none⟩ (.slice none 0 0)) gy (.cells #[.int .i64 dx.kind, .int .i64 px, .int .i64 dx.host, .int .i64 dx.shadow, .int .i64 dx.mode, .bool dx.slot, .string dx.name, .string dx.want, .slice none 0 0] 45 (0, 0)) := by
                    have := hy4.stored 8 (.slice none 0 0)
                    simpa using this
                  have hbs : Below W8.heap.size W8 ((W9.setCell ⟨gx, 8, none⟩ (.slice none 0 0)).setCell ⟨gy, 8, none⟩ (.slice none 0 0)) := below_then (below_then hb10 hks hb10.size fun i hi e => by omega) hks2 (Nat.le_trans hb10.size hks.grows) fun i hi e => by omega
                  have HX5 := Lib.hid hx5
                  have HY5 := Lib.hid hy5
                  have HB5 := Lib.hid hbs
                  clear hx3 hy3 hb10 hks hks2 hy4 hx4 hx5 hy5 hbs
                  go_upto_if 103 with (fail)
                  go_cut [16] (fun t wx => t = .pointer (some ⟨gx, 0, none⟩) ∧ ∃ (Bx : Option Addr) (ex : Nat) (By : Option Addr) (ey : Nat) (k1 k2 : List Int), k1 = k2 ∧ k1.length ≤ 200 ∧ ListIn wx Bx ex k1 ∧ ListIn wx By ey k2 ∧ Has wx gx (.cells #[.int .i64 dx.kind, .int .i64 px, .int .i64 dx.host, .int .i64 dx.shadow, .int .i64 dx.mode, .bool dx.slot, .string dx.name, .string dx.want, .slice Bx k1.length ex] 45 (0, 0)) ∧ Has wx gy (.cells #[.int .i64 dx.kind, .int .i64 px, .int .i64 dx.host, .int .i64 dx.shadow, .int .i64 dx.mode, .bool dx.slot, .string dx.name, .string dx.want, .slice By k2.length ey] 45 (0, 0)) ∧ Below W8.heap.size W8 wx)
                  case first =>
                    cases rb with
                    | true =>
                      go_wp2
                      go_meet
                      exact ⟨rfl, none, 0, none, 0, [], [], rfl, Nat.zero_le _, listNone _, listNone _, HX5.out, HY5.out, HB5.out⟩
                    | false =>
                      have hr := HRB.out.symm
                      rw [Bool.or_eq_false_iff] at hr
                      have e := Hkq.out (Hqb.out.symm.trans hr.1) (of_decide_eq_false hr.2)
                      have hbw := B8.out.trans (B10.out.mono B8.out.size)
                      have l1 := LX.out.below hbw
                      have l2' := LY.out.below hbw
                      have F := Lib.hid (And.intro e (And.intro l1 l2'))
                      clear hr e hbw l1 l2' fx8 fy8 zx8 zy8 fy8' zy8'
                      go_wp2
                      go_meet
                      exact ⟨rfl, Ax, cx, Ay, cy, dx.kids, ks2, F.out.1.symm, hxl, F.out.2.1, F.out.2.2, HX.out, HY.out, B10.out⟩
                  case rest =>
                    obtain ⟨rfl, Bx, ex, By, ey, k1, k2, hkk, hkl, hl1, hl2, hx6, hy6, hb11⟩ := hcut
                    subst hkk
                    clear fx8 fy8 zx8 zy8 fy8' zy8' HX5 HY5 HB5 HX HY B10
                    obtain ⟨⟨y0, y1, y2, y3, y4, y5, y6, y7, y8⟩, -⟩ := box_nine hx6
                    obtain ⟨⟨v0, v1, v2, v3, v4, v5, v6, v7, v8⟩, -⟩ := box_nine hy6
                    have CO := one_any dx.kind px dx.host dx.shadow dx.mode dx.kind px dx.host dx.shadow dx.mode dx.slot dx.slot dx.name dx.want dx.name dx.want k1 k1 Bx By ex ey wc (Nat.le_trans hkl (by decide)) hl1.nums hl2.nums
                    rw [oneB_refl] at CO
                    have HCO := Lib.hid CO
                    have B11 := Lib.hid ((HBB.out.trans (B8.out.mono HBB.out.size)).trans (hb11.mono (HBB.out.trans (B8.out.mono HBB.out.size)).size))
                    clear CO hl1 hl2 hx6 hy6 hb11
                    go_wp2_with fail
                    refine HCO.out.mono ?_
                    rintro e w12 ⟨rfl, hb12⟩
                    have hb13 := B11.out.trans (hb12.mono B11.out.size)
                    clear hb12 y0 y1 y2 y3 y4 y5 y6 y7 y8 v0 v1 v2 v3 v4 v5 v6 v7 v8
                    go_wp2
                    go_roundw
                    case rel => exact ⟨j + 1, by go_num, by omega, hb13⟩
                    case measure => simp [intOf]; omega
      · go_wp2
        go_ret
        exact ⟨rfl, (L6.out.next O hb).below⟩
end
end Go.Proofs.Ytojcchjhimagiaa

namespace Go.Proofs.Ytojcchjhimagiaa
open Go

section
variable {l : List Nd} {n p c : Int}
/-- A node leaves its parent. -/
def leaveL (l : List Nd) (k : Int) : List Nd := modN (if (nd l k).parent = 0 then l else modN l (nd l k).parent fun d => { d with kids := lessL (nd l (nd l k).parent).kids k }) k fun d => { d with parent := 0 }
theorem leave_is (T : Tree l) {k : Int} (hk : thereB l k = true) : leaveL l k = rmL l k (nd l k).parent := by
  by_cases h0 : (nd l k).parent = 0
  · have e : rmErr l k (nd l k).parent = 1 := by unfold rmErr; rw [if_pos (.inr (by rw [h0]; exact there_zero l))]
    unfold leaveL rmL
    rw [if_pos h0, if_neg (by rw [e]; decide)]
    refine nd_eachL (modN_length _ _ _) fun x hx => ?_
    rw [nd_mod hk hx]
    by_cases q : x = k
    · subst q
      rw [if_pos rfl]
      have : (nd l x).re 0 (nd l x).kids = nd l x := by rw [← h0]; rfl
      exact this
    · rw [if_neg q]
  · obtain ⟨hp, _⟩ := T.par k hk h0
    have e : rmErr l k (nd l k).parent = 0 := by unfold rmErr; rw [if_neg (by rw [hk, hp]; simp), if_neg (fun h => h rfl)]
    unfold leaveL
    rw [if_neg h0]
    refine nd_eachL (by rw [modN_length, modN_length, rm_len]) fun x hx => ?_
    have hx' : thereB l x = true := by rw [← there_len (rm_len k (nd l k).parent)]; exact hx
    rw [rm_nd T e hx', nd_mod (by rw [modN_there]; exact hk) (by rw [modN_there]; exact hx'), nd_mod hp hk, nd_mod hp hx']
    by_cases q : x = k
    · subst q
      rw [if_pos rfl, if_pos rfl]
      by_cases r : x = (nd l x).parent
      · rw [if_pos r, if_pos r]
        have : (nd l (nd l x).parent).re 0 (lessL (nd l (nd l x).parent).kids x) = (nd l x).re 0 (lessL (nd l x).kids x) := by rw [← r]
        exact this
      · rw [if_neg r, if_neg r]
        rfl
    · rw [if_neg q, if_neg q]
      by_cases r : x = (nd l k).parent
      · rw [if_pos r, if_pos r, ← r]
        rfl
      · rw [if_neg r, if_neg r]
        rfl
def leavesL (l : List Nd) (ks : List Int) : List Nd := ks.foldl leaveL l
theorem leaves_snoc (l : List Nd) (ks : List Int) (k : Int) : leavesL l (ks ++ [k]) = leaveL (leavesL l ks) k := by simp [leavesL]
theorem leaves_all : ∀ (ks : List Int) {l : List Nd}, Good l → (∀ k ∈ ks, thereB l k = true) → Good (leavesL l ks) ∧ (leavesL l ks).length = l.length
  | [], _, hg, _ => ⟨hg, rfl⟩
  | k :: r, l, hg, h => by
    have e := leave_is hg.tree (h k (by simp))
    have hl : (leaveL l k).length = l.length := by rw [e]; exact rm_len _ _
    have hg' : Good (leaveL l k) := by rw [e]; exact good_rm hg
    obtain ⟨q1, q2⟩ := leaves_all r hg' fun x hx => by rw [there_len hl]; exact h x (by simp [hx])
    exact ⟨q1, q2.trans hl⟩
theorem leaves_nd (n : Int) : ∀ (ks : List Int) {l : List Nd}, Good l → ks.Nodup → thereB l n = true → (∀ k ∈ ks, thereB l k = true ∧ (nd l k).parent = n) → ∀ x, thereB l x = true →
    nd (leavesL l ks) x = (nd l x).re (if x ∈ ks then 0 else (nd l x).parent) (if x = n then (nd l x).kids.filter (fun y => !hasB ks y) else (nd l x).kids)
  | [], l, _, _, _, _, x, _ => by
    have : (nd l x).kids.filter (fun y => !hasB [] y) = (nd l x).kids := List.filter_eq_self.2 fun y _ => rfl
    rw [this, if_neg (by simp), ite_self]
    rfl
  | k :: r, l, hg, hn, ht, h, x, hx => by
    obtain ⟨hk, hkp⟩ := h k (by simp)
    obtain ⟨n1, n2⟩ := List.nodup_cons.1 hn
    have e := leave_is hg.tree hk
    have hz : rmErr l k n = 0 := by unfold rmErr; rw [if_neg (by rw [hk, ht]; simp), if_neg (fun h => h hkp)]
    rw [hkp] at e
    have hg' : Good (leaveL l k) := by rw [e]; exact good_rm hg
    have hl : (leaveL l k).length = l.length := by rw [e]; exact rm_len _ _
    have hd : ∀ y, thereB l y = true → nd (leaveL l k) y = (nd l y).re (if y = k then 0 else (nd l y).parent) (if y = n then lessL (nd l y).kids k else (nd l y).kids) := fun y hy => by rw [e]; exact rm_nd hg.tree hz hy
    have ih := leaves_nd n r hg' n2 (by rw [there_len hl]; exact ht) (fun y hy => by
      obtain ⟨q1, q2⟩ := h y (by simp [hy])
      refine ⟨by rw [there_len hl]; exact q1, ?_⟩
      rw [hd y q1]
      show (if y = k then 0 else (nd l y).parent) = n
      have hyk : ¬ y = k := fun e' => n1 (by rw [← e']; exact hy)
      rw [if_neg hyk]
      exact q2) x (by rw [there_len hl]; exact hx)
    have f1 : (if x ∈ r then 0 else (nd (leaveL l k) x).parent) = if x ∈ k :: r then 0 else (nd l x).parent := by
      rw [hd x hx]
      show (if x ∈ r then 0 else if x = k then 0 else (nd l x).parent) = _
      by_cases q : x ∈ r
      · rw [if_pos q, if_pos (by simp [q])]
      · by_cases q' : x = k
        · rw [if_neg q, if_pos q', if_pos (by simp [q'])]
        · rw [if_neg q, if_neg q', if_neg (by simp [q, q'])]
    have f2 : (if x = n then (nd (leaveL l k) x).kids.filter (fun y => !hasB r y) else (nd (leaveL l k) x).kids) = if x = n then (nd l x).kids.filter (fun y => !hasB (k :: r) y) else (nd l x).kids := by
      rw [hd x hx]
      show (if x = n then (if x = n then lessL (nd l x).kids k else (nd l x).kids).filter (fun y => !hasB r y) else if x = n then lessL (nd l x).kids k else (nd l x).kids) = _
      by_cases q : x = n
      · rw [if_pos q, if_pos q, if_pos q]
        unfold lessL
        rw [List.filter_filter]
        refine List.filter_congr fun y _ => ?_
        unfold hasB
        by_cases q1 : y = k <;> by_cases q2 : y ∈ r <;> simp [q1, q2]
      · rw [if_neg q, if_neg q, if_neg q]
    show nd (leavesL (leaveL l k) r) x = _
    rw [ih, f1, f2, hd x hx]
    rfl
theorem leaves_is (hg : Good l) (hn : thereB l n = true) : leavesL l (moveL l n) = looseL l n := by
  obtain ⟨q1, q2⟩ := leaves_all (moveL l n) hg (move_there hg.tree hn)
  by_cases h4 : (nd l n).kind = 4
  · have em : moveL l n = (nd l n).kids := by unfold moveL; rw [if_pos h4]
    refine nd_eachL (by rw [q2, loose_len]) fun x hx => ?_
    have hx' : thereB l x = true := by rw [loose_there] at hx; exact hx
    rw [loose_nd hg.tree hn hx', em, leaves_nd n _ hg (hg.tree.once n hn) hn (fun k hk => hg.tree.kid n hn k hk) x hx', if_pos h4]
    by_cases q : x = n
    · subst q
      have : (nd l x).kids.filter (fun y => !hasB (nd l x).kids y) = [] := List.filter_eq_nil_iff.2 fun y hy => by rw [hasB_yes hy]; decide
      rw [if_pos rfl, if_pos rfl, this]
    · rw [if_neg q, if_neg q]
  · have em : moveL l n = [n] := by unfold moveL; rw [if_neg h4]
    rw [em]
    show leaveL l n = _
    rw [leave_is hg.tree hn]
    unfold looseL
    rw [if_neg h4]

/-- What the document puts together. -/
def oneK (s : Int) (ms : List Int) (k : Int) : List Int := if k = s then ms ++ [k] else [k]
def kidsR (xs : List Int) (s : Int) (ms : List Int) : List Int := xs.flatMap (oneK s ms) ++ if s = 0 then ms else []
theorem oneK_other {xs ms : List Int} {s : Int} (h : s ∉ xs) : xs.flatMap (oneK s ms) = xs := by
  have e : ∀ k ∈ xs, oneK s ms k = [k] := fun k hk => if_neg fun e' => h (by rw [← e']; exact hk)
  rw [flatMap_same (g := fun k => [k]) xs e]
  simp
theorem kidsR_is {xs ms : List Int} {s : Int} (hn : xs.Nodup) (h0 : (0 : Int) ∉ xs) (hs : s = 0 ∨ s ∈ xs) : kidsR xs s ms = insL xs s ms := by
  unfold kidsR
  by_cases q : s = 0
  · subst q
    rw [oneK_other h0, if_pos rfl, insL_end]
  · obtain ⟨a, b, e, h1, h2, h3⟩ := cut_at (hs.resolve_left q) hn
    subst e
    rw [insL_cut q h3, if_neg q, List.flatMap_append, List.flatMap_cons, oneK_other h1, oneK_other h2]
    unfold oneK
    rw [if_pos rfl]
    simp
theorem oneK_len (xs : List Int) (s : Int) (ms : List Int) (hn : xs.Nodup) : (xs.flatMap (oneK s ms)).length ≤ xs.length + ms.length := by
  by_cases h : s ∈ xs
  · obtain ⟨a, b, e, h1, h2, h3⟩ := cut_at h hn
    subst e
    rw [List.flatMap_append, List.flatMap_cons, oneK_other h1, oneK_other h2]
    unfold oneK
    rw [if_pos rfl]
    simp
    omega
  · rw [oneK_other h]
    omega
theorem oneK_step {xs ms : List Int} {s : Int} {j : Nat} (hj : j < xs.length) : (xs.take (j + 1)).flatMap (oneK s ms) = (xs.take j).flatMap (oneK s ms) ++ oneK s ms xs[j] := by
  rw [List.take_add_one, List.getElem?_eq_getElem hj, List.flatMap_append]
  simp
theorem oneK_part (xs : List Int) (s : Int) (ms : List Int) (hn : xs.Nodup) (j : Nat) : ((xs.take j).flatMap (oneK s ms)).length ≤ xs.length + ms.length := by
  have := oneK_len (xs.take j) s ms (hn.sublist (List.take_sublist _ _))
  have h2 : (xs.take j).length ≤ xs.length := by rw [List.length_take]; omega
  omega
/-- .. and the nodes then. -/
theorem bef_is (hg : Good l) (h : chkErr l n p c = 0) : modN (toPar (looseL l n) p (moveL l n)) p (fun d => { d with kids := newK l n p c }) = befL l n p c := by
  obtain ⟨hn, hp, _⟩ := chk_zero h
  refine nd_eachL (by rw [modN_length, toPar_length, loose_len, bef_len]) fun x hx => ?_
  have hx' : thereB l x = true := by rw [bef_there] at hx; exact hx
  have ht : ∀ k, thereB (toPar (looseL l n) p (moveL l n)) k = thereB l k := fun k => there_len (by rw [toPar_length, loose_len])
  have hm : ∀ k ∈ moveL l n, thereB (looseL l n) k = true := fun k hk => by rw [loose_there]; exact move_there hg.tree hn k hk
  have hd : ∀ y, thereB l y = true → nd (toPar (looseL l n) p (moveL l n)) y = (nd (looseL l n) y).re (if y ∈ moveL l n then p else (nd l y).parent) (nd (looseL l n) y).kids := fun y hy => by
    rw [nd_toPar _ _ y hm (by rw [loose_there]; exact hy)]
    by_cases q : y ∈ moveL l n
    · rw [if_pos q, if_pos q]
      rfl
    · have e : (nd (looseL l n) y).parent = (nd l y).parent := by rw [loose_nd hg.tree hn hy]; exact if_neg q
      rw [if_neg q, if_neg q, ← e]
      rfl
  rw [nd_mod (by rw [ht]; exact hp) (by rw [ht]; exact hx'), bef_nd hg h hx', hd x hx', hd p hp, loose_nd hg.tree hn hx', loose_nd hg.tree hn hp]
  by_cases q : x = p
  · subst q
    rw [if_pos rfl, if_pos rfl]
    rfl
  · rw [if_neg q, if_neg q]
    rfl
end
end Go.Proofs.Ytojcchjhimagiaa

namespace Go.Proofs.Ytojcchjhimagiaa
open Go Go.RowKit

theorem lessL_step {xs : List Int} {x : Int} {j : Nat} (hj : j < xs.length) : lessL (xs.take (j + 1)) x = lessL (xs.take j) x ++ if xs[j] = x then [] else [xs[j]] := by
  unfold lessL
  rw [List.take_add_one, List.getElem?_eq_getElem hj, List.filter_append]
  by_cases h : xs[j] = x <;> simp [h]

set_option maxHeartbeats 4000000 in
set_option maxRecDepth 100000 in
theorem rfWithout (xs : List Int) (A : Option Addr) (n c : Nat) (x : Int) (w : World) (hn : n = xs.length) (hl : n ≤ 1000) (h : ListIn w A c xs) :
    Calls Try.prog 66 #[.slice A n c, .int .i64 x] w fun e w' => ∃ v, e = .returned v ∧ w'.ownsRow w.heap.size 3 1 v (lessL xs x).length ((lessL xs x).map (Value.int .i64)) ∧ Below w.heap.size w w' := by
  obtain ⟨i0, hi, hz0, hz1, hz2⟩ := info_parts Try.infoInt
  have Hi := Lib.hid hi
  have Hz0 := Lib.hid hz0
  have Hz1 := Lib.hid hz1
  have Hz2 := Lib.hid hz2
  have H := Lib.hid h
  have Hn := Lib.hid hn
  obtain ⟨R, hR⟩ : ∃ R, R = lessL xs x := ⟨_, rfl⟩
  rw [← hR]
  have HR := Lib.hid hR
  clear hi hz0 hz1 hz2 h hn hR
  go_enter Try.func66, Try.ntmps66
  go_wp2_with fail
  go_loopw [5, 6] (fun o i wr => ∃ (j : Nat) (ys : List Int), i = .int .i64 j ∧ j ≤ n ∧ ys = lessL (xs.take j) x ∧ ys.length ≤ j ∧ wr.ownsRow w.heap.size 3 1 o ys.length (ys.map (Value.int .i64)) ∧ Below w.heap.size w wr) (fun _ i _ => n - (intOf i).toNat)
  case atStart => exact ⟨0, [], rfl, Nat.zero_le _, rfl, Nat.zero_le _, World.ownsRow_nil _ _ _ _, Below.refl _ _⟩
  case round =>
    obtain ⟨j, ys, rfl, hj, hys, hyl, hown, hb⟩ := hrel
    have Hys := Lib.hid hys
    clear hys
    obtain ⟨Ao, co, rfl, hco⟩ := own_form hown
    by_cases hlt : (j : Int) < n
    · have hjl : j < xs.length := by rw [← Hn.out]; omega
      obtain ⟨g, off, rfl, hg, hc⟩ := (H.out.below hb).nums j hjl
      have hst := lessL_step (x := x) hjl
      rw [← Hys.out] at hst
      obtain ⟨y, hy⟩ : ∃ y, y = xs[j] := ⟨_, rfl⟩
      rw [← hy] at hc hst
      have Hst := Lib.hid hst
      have hbw := hb.size
      clear hst hy hg
      by_cases q : y = x
      · have e := Hst.out
        rw [if_pos q, List.append_nil] at e
        have E := Lib.hid e
        have zq : (y != x) = false := by simpa using q
        clear q e Hst
        go_wp2
        go_roundw
        case rel => exact ⟨j + 1, ys, by go_num, by omega, E.out.symm, by omega, hown, hb⟩
        case measure => simp [intOf]; omega
      · have e := Hst.out
        rw [if_neg q] at e
        have E := Lib.hid e
        have zq : (y != x) = true := by simpa using q
        have hgv : Gives (wr.alloc (.cells #[.int .i64 y] 3)) 1 (.slice (some ⟨wr.heap.size, 0, none⟩) 1 1) 1 [.int .i64 y] := .inr ⟨_, 1, rfl, rfl, World.news_of_block (Has.fresh _ _)⟩
        have Hgv := Lib.hid hgv
        clear q e Hst hgv
        go_wp2_with (at_builtin; refine wpList_append_gives rfl (.tmp 19) (.tmp 24) 43 rfl w.heap.size 3 i0 _ 1 8 Try.underlying43 Hi.out Hz0.out Hz1.out Hz2.out rfl (by decide) (.slice Ao ys.length co) ys.length (ys.map (Value.int .i64)) rfl (hown.alloc _) _ 1 [.int .i64 y] rfl Hgv.out (by intro u hu; obtain rfl := List.mem_singleton.1 hu; rfl) (by unfold maxLen; omega) (by omega) (by simp; omega) ?_; intro v2 w2 ho2 hg2; obtain ⟨A2, c2, rfl, hc2⟩ := own_form ho2; have hb2 : Below w.heap.size w w2 := (hb.alloc hbw _).grown hg2 (by simp; omega) (fun k hk => (hown.lt k hk).1))
        go_roundw
        case rel => exact ⟨j + 1, ys ++ [y], by go_num, by omega, E.out.symm, by simp; omega, by have := kids_more ho2; simpa using this, hb2⟩
        case measure => simp [intOf]; omega
    · have e : ys = R := by rw [Hys.out, HR.out, List.take_of_length_le (by rw [← Hn.out]; omega)]
      subst e
      go_wp2
      go_ret
      exact ⟨_, rfl, hown, hb⟩

section
variable {G : Nat → Prop} {w : World} {B g c : Nat} {l : List Nd}
set_option maxHeartbeats 4000000 in
set_option maxRecDepth 100000 in
theorem rfLeave (k : Int) (h : Nodes G w B (some ⟨g, 0, none⟩) c l) (hg : Good l) (hG : Fut G w.heap.size) (hk : thereB l k = true) :
    Calls Try.prog 42 #[.slice (some ⟨g, 0, none⟩) l.length c, .int .i64 k] w fun e w' => e = .returned (.tuple #[]) ∧ Nodes G w' B (some ⟨g, 0, none⟩) c (leaveL l k) ∧ Keeps (fun i => i = g) w w' := by
  have hll := hg.len
  obtain ⟨m, rfl, hm⟩ := there_at hk
  obtain ⟨g', k', e', -, hgw, -, hfz, -, c1, -⟩ := h.nine hm
  obtain rfl : g = g' := by simpa using e'
  obtain ⟨L, hL⟩ : ∃ L, L = leaveL l ((m : Int) + 1) := ⟨_, rfl⟩
  rw [← hL]
  by_cases h0 : (nd l ((m : Int) + 1)).parent = 0
  · have e : L = modN l ((m : Int) + 1) fun d => { d with parent := 0 } := by rw [hL]; unfold leaveL; rw [if_pos h0]
    obtain ⟨⟨y, hy⟩, hz, hN4⟩ := h.turn (F := fun d => { d with parent := 0 }) (u := .int .i64 0) (f := 1) hm (by omega) (fun _ _ => rfl) (fun _ => rfl)
    rw [← e] at hN4
    have HN4 := Lib.hid hN4
    rw [h0] at c1
    have hk4 : Keeps (fun i => i = g) w (w.setCell ⟨g, m * 9 + 1, none⟩ (.int .i64 0)) := (Keeps.refl (fun i => i = g) _).storeAt (F := fun i => i = g) rfl _ _
    have HK4 := Lib.hid hk4
    clear h hg hG hk e' hL h0 e hN4 hk4
    go_enter Try.func42, Try.ntmps42
    go_wp2
    first | go_end0 | (simp only [Exit.inBlock, Exit.then]; refine bodyPost_ret (results_none rfl _ _ _) rfl ?_) | refine bodyPost_ret (results_none rfl _ _ _) rfl ?_
    exact ⟨rfl, HN4.out, HK4.out⟩
  · obtain ⟨hp, -⟩ := hg.tree.par _ hk h0
    obtain ⟨mp, hmp, hmpl⟩ := there_at hp
    have e : L = modN (modN l ((mp : Int) + 1) fun d => { d with kids := lessL (nd l ((mp : Int) + 1)).kids ((m : Int) + 1) }) ((m : Int) + 1) fun d => { d with parent := 0 } := by rw [hL]; unfold leaveL; rw [if_neg h0, hmp]
    obtain ⟨g', kv, e'', -, -, hkv, -, -, -, -, -, -, -, -, -, c8⟩ := h.nine hmpl
    obtain rfl : g = g' := by simpa using e''
    obtain ⟨A1, n1, rfl, hL1⟩ := hkv.list
    have z1 : ((mp : Int) + 1 != 0) = true := by simp; omega
    rw [hmp] at c1
    have hkl : (nd l ((mp : Int) + 1)).kids.length ≤ 1000 := Nat.le_trans (few_nd hg.few _) (by decide)
    obtain ⟨ks, hks⟩ : ∃ ks, ks = (nd l ((mp : Int) + 1)).kids := ⟨_, rfl⟩
    rw [← hks] at c8 hkl hL1 e
    obtain ⟨N, hN⟩ : ∃ N, N = ks.length := ⟨_, rfl⟩
    rw [← hN] at c8 hkl
    have C := Lib.hid (rfWithout ks A1 N n1 ((m : Int) + 1) w hN hkl hL1)
    have H := Lib.hid h
    have HG := Lib.hid hG
    have E := Lib.hid e
    obtain ⟨R, hR⟩ : ∃ R, R = lessL ks ((m : Int) + 1) := ⟨_, rfl⟩
    rw [← hR] at C E
    clear h hg hG hk e' e'' hL h0 e hp hkv hL1 hks hN hmp hR
    go_enter Try.func42, Try.ntmps42
    go_wp2_with fail
    refine C.out.mono ?_
    rintro e w1 ⟨v1, rfl, ho1, hb1⟩
    have hK1 : Kids G w1 v1 R := ⟨own_base ho1 (Nat.zero_le _), fun i hi => HG.out i (ho1.lt i hi).1⟩
    obtain ⟨⟨x8, hx8⟩, hz8, hN5⟩ := (H.out.below hb1).kidsSet hmpl hK1
    have hm5 : m < (modN l ((mp : Int) + 1) fun d => { d with kids := R }).length := by rw [modN_length]; exact hm
    obtain ⟨⟨y, hy⟩, hz, hN6⟩ := hN5.turn (F := fun d => { d with parent := 0 }) (u := .int .i64 0) (f := 1) hm5 (by omega) (fun _ _ => rfl) (fun _ => rfl)
    rw [← E.out] at hN6
    have HN6 := Lib.hid hN6
    have hk6 : Keeps (fun i => i = g) w ((w1.setCell ⟨g, mp * 9 + 8, none⟩ v1).setCell ⟨g, m * 9 + 1, none⟩ (.int .i64 0)) := ((Keeps.ofUnder (F := fun i => i = g) hb1).storeAt (F := fun i => i = g) rfl _ _).storeAt (F := fun i => i = g) rfl _ _
    have HK6 := Lib.hid hk6
    obtain ⟨Av, cv, rfl, -⟩ := own_form ho1
    clear hN5 hN6 hk6 hK1 ho1 hb1 C
    go_wp2
    first | go_end0 | (simp only [Exit.inBlock, Exit.then]; refine bodyPost_ret (results_none rfl _ _ _) rfl ?_) | refine bodyPost_ret (results_none rfl _ _ _) rfl ?_
    exact ⟨rfl, HN6.out, HK6.out⟩
end
end Go.Proofs.Ytojcchjhimagiaa

namespace Go.Proofs.Ytojcchjhimagiaa
open Go Go.RowKit

section
variable {G : Nat → Prop} {w : World} {A : Option Addr} {c : Nat} {l : List Nd}
set_option maxHeartbeats 4000000 in
set_option maxRecDepth 100000 in
theorem rfHost (x id : Int) (hg : Good l) (h : Nodes G w 0 A c l) :
    Calls Try.prog 63 #[.slice A l.length c, .int .i64 x, .int .i64 id] w fun e w' => e = .returned (.bool (hasB (over l id) x)) ∧ Below w.heap.size w w' := by
  have H := Lib.hid h
  have Hg := Lib.hid hg
  have hll := hg.len
  obtain ⟨R, hR⟩ : ∃ R, R = hasB (over l id) x := ⟨_, rfl⟩
  rw [← hR]
  have HR := Lib.hid hR.symm
  have H0 := Lib.hid (over_short hg.tree id)
  clear h hg hR
  go_enter Try.func63, Try.ntmps63
  go_wp2_with fail
  go_loopw [2, 7] (fun a k wr => ∃ (i : Int) (j : Nat), a = .int .i64 i ∧ k = .int .i64 j ∧ hasB (over l i) x = R ∧ j + (over l i).length ≤ l.length ∧ Below w.heap.size w wr) (fun _ k _ => l.length + 1 - (intOf k).toNat)
  case atStart => exact ⟨id, 0, rfl, rfl, HR.out, by have := H0.out; omega, Below.refl _ _⟩
  case round =>
    obtain ⟨i, j, rfl, rfl, hi, hj, hb⟩ := hrel
    have Hi := Lib.hid hi
    have Hj := Lib.hid hj
    have Hb := Lib.hid hb
    have Hn := Lib.hid (H.out.kept (Keeps.of_below (F := fun i => w.heap.size ≤ i) hb fun _ _ h => h) fun _ hi => Nat.not_le.2 hi)
    have hjl : (j : Int) ≤ l.length := by omega
    clear hi hj hb HR H0
    go_wp2_with fail
    refine (refAbove l A c x i wr Hg.out Hn.out).mono ?_
    rintro e w1 ⟨rfl, hb1⟩
    have Hb1 := Lib.hid (Hb.out.trans (hb1.mono Hb.out.size))
    have Hn1 := Lib.hid (Hn.out.below hb1)
    clear hb1
    cases ha : hasB (parL l i) x with
    | true =>
      have e0 : R = true := by
        rw [← Hi.out]
        exact over_hit Hg.out.tree ha
      subst e0
      clear ha
      go_wp2
      go_ret
      exact ⟨rfl, Hb1.out⟩
    | false =>
      have Ha := Lib.hid ha
      clear ha
      go_wp2_with fail
      refine (refRoot l A c i w1 Hg.out Hn1.out).mono ?_
      rintro e w2 ⟨rfl, hb2⟩
      have Hb2 := Lib.hid (Hb1.out.trans (hb2.mono Hb1.out.size))
      have Hn2 := Lib.hid (Hn1.out.below hb2)
      clear hb2
      cases ht : thereB l i with
      | true =>
        have hrt := rootL_there Hg.out.tree ht
        have e1 := over_miss Hg.out.tree ht Ha.out
        have e2 := over_less Hg.out.tree ht
        obtain ⟨m, hr, hm⟩ := there_at hrt
        rw [hr] at e1 e2
        rw [hr]
        obtain ⟨g, k, rfl, -, hgw, -, -, -, -, c2, -⟩ := Hn2.out.nine hm
        obtain ⟨ho, hho⟩ : ∃ ho, ho = (nd l ((m : Int) + 1)).host := ⟨_, rfl⟩
        rw [← hho] at c2 e1 e2
        have E1 := Lib.hid (e1.symm.trans Hi.out)
        have E2 := Lib.hid e2
        have z1 : (((m : Int) + 1) == 0) = false := by rw [beq_eq_false_iff_ne]; omega
        clear hr hrt e1 e2 ht hho
        by_cases h0 : ho = 0
        · subst h0
          have e0 : R = false := by
            rw [← E1.out, over_zero]
            rfl
          subst e0
          go_wp2
          go_ret
          exact ⟨rfl, Hb2.out⟩
        · have z0 : (ho == 0) = false := by simpa using h0
          go_wp2
          go_roundw
          case rel => exact ⟨_, j + 1, rfl, by go_num, E1.out, by have := E2.out; have := Hj.out; omega, Hb2.out⟩
          case measure => simp [intOf]; omega
      | false =>
        have e1 := rootL_no ht
        have e2 : R = false := by rw [← Hi.out, over_none ht]; rfl
        rw [e1]
        subst e2
        clear e1 ht
        go_wp2
        go_ret
        exact ⟨rfl, Hb2.out⟩
end
end Go.Proofs.Ytojcchjhimagiaa

namespace Go.Proofs.Ytojcchjhimagiaa
open Go Go.RowKit

section
variable {G : Nat → Prop} {w : World} {A : Option Addr} {k : Nat} {l : List Nd}
set_option maxHeartbeats 4000000 in
set_option maxRecDepth 100000 in
theorem rfCheck (n p c : Int) (hg : Good l) (h : Nodes G w 0 A k l) :
    Calls Try.prog 39 #[.slice A l.length k, .int .i64 n, .int .i64 p, .int .i64 c] w fun e w' => e = .returned (.int .i64 (chkErr l n p c)) ∧ Below w.heap.size w w' := by
  have H := Lib.hid h
  have Hg := Lib.hid hg
  have hll := hg.len
  have hnot : ∀ (x : Bool) (w : World), (Op.unary .not (.bool x)).run Try.prog w = .ok (.bool (!x)) w := fun _ _ => rfl
  obtain ⟨R, hR⟩ : ∃ R, R = chkErr l n p c := ⟨_, rfl⟩
  rw [← hR]
  have HR := Lib.hid hR
  clear h hg hR
  cases t1 : thereB l n with
  | false =>
    have e0 := HR.out.trans (chk_arg (.inl t1))
    subst e0
    have T1 := Lib.hid t1
    clear t1
    go_enter Try.func39, Try.ntmps39
    go_wp2_with fail
    refine (there_any l A k n w).mono ?_
    rintro e w1 ⟨rfl, rfl⟩
    rw [T1.out]
    go_wp2
    go_ret
    exact ⟨rfl, Below.refl _ _⟩
  | true =>
    cases t2 : thereB l p with
    | false =>
      have e0 := HR.out.trans (chk_arg (.inr (.inl t2)))
      subst e0
      have T1 := Lib.hid t1
      have T2 := Lib.hid t2
      clear t1 t2
      go_enter Try.func39, Try.ntmps39
      go_wp2_with fail
      refine (there_any l A k n w).mono ?_
      rintro e w1 ⟨rfl, rfl⟩
      rw [T1.out]
      go_wp2_with fail
      refine (there_any l A k p w).mono ?_
      rintro e w1 ⟨rfl, rfl⟩
      rw [T2.out]
      go_wp2
      go_ret
      exact ⟨rfl, Below.refl _ _⟩
    | true =>
      obtain ⟨m1, hm1, hl1⟩ := there_at t1
      obtain ⟨m2, hm2, hl2⟩ := there_at t2
      subst hm1
      subst hm2
      cases zc : (c != 0) with
      | true =>
        have hc0 : c ≠ 0 := by simpa using zc
        cases t3 : thereB l c with
        | false =>
          have e0 := HR.out.trans (chk_arg (.inr (.inr ⟨hc0, t3⟩)))
          subst e0
          have T1 := Lib.hid t1
          have T2 := Lib.hid t2
          have T3 := Lib.hid t3
          clear t1 t2 t3 hc0
          go_enter Try.func39, Try.ntmps39
          go_wp2_with fail
          refine (there_any l A k _ w).mono ?_
          rintro e w1 ⟨rfl, rfl⟩
          rw [T1.out]
          go_wp2_with fail
          refine (there_any l A k _ w).mono ?_
          rintro e w1 ⟨rfl, rfl⟩
          rw [T2.out]
          go_wp2_with fail
          refine (there_any l A k c w).mono ?_
          rintro e w1 ⟨rfl, rfl⟩
          rw [T3.out]
          go_wp2
          go_ret
          exact ⟨rfl, Below.refl _ _⟩
        | true =>
          obtain ⟨m3, hm3, hl3⟩ := there_at t3
          subst hm3
          have e0 := HR.out.trans (chk_on (by rw [t1, t2, t3]; simp))
          have T1 := Lib.hid t1
          have T2 := Lib.hid t2
          have T3 := Lib.hid t3
          obtain ⟨d1, hd1⟩ : ∃ d, d = nd l ((m1 : Int) + 1) := ⟨_, rfl⟩
          obtain ⟨d2, hd2⟩ : ∃ d, d = nd l ((m2 : Int) + 1) := ⟨_, rfl⟩
          rw [← hd1, ← hd2] at e0
          have E0 := Lib.hid e0
          clear e0 t1 t2 t3
          go_enter Try.func39, Try.ntmps39
          go_wp2_with fail
          refine (there_any l A k _ w).mono ?_
          rintro e w1 ⟨rfl, rfl⟩
          rw [T1.out]
          go_wp2_with fail
          refine (there_any l A k _ w).mono ?_
          rintro e w1 ⟨rfl, rfl⟩
          rw [T2.out]
          go_wp2_with fail
          refine (there_any l A k _ w).mono ?_
          rintro e w1 ⟨rfl, rfl⟩
          rw [T3.out]
          go_wp2_with fail
          refine (rfHost _ _ Hg.out H.out).mono ?_
          rintro e w4 ⟨rfl, hb4⟩
          have B4 := Lib.hid hb4
          have hN4 := H.out.below hb4
          obtain ⟨g, K1, eA, -, -, -, -, x1, -⟩ := hN4.nine hl1
          obtain ⟨g', K2, eA2, -, -, -, -, x2, -⟩ := hN4.nine hl2
          subst eA
          obtain rfl : g = g' := by simpa using eA2
          rw [← hd1] at x1
          rw [← hd2] at x2
          have HN4 := Lib.hid hN4
          clear hb4 hN4 eA2
          cases hh : hasB (over l ((m2 : Int) + 1)) ((m1 : Int) + 1) with
          | true =>
            have e1 := E0.out
            rw [if_pos hh] at e1
            subst e1
            clear hd1 hd2
            go_wp2
            go_ret
            exact ⟨rfl, B4.out⟩
          | false =>
            have e0 := E0.out
            rw [if_neg (by rw [hh]; decide)] at e0
            clear E0 hh
            obtain ⟨g', K3, eA3, -, -, -, -, -, x3, -⟩ := HN4.out.nine hl3
            obtain rfl : g = g' := by simpa using eA3
            obtain ⟨P3, hP3⟩ : ∃ P3, P3 = (nd l ((m3 : Int) + 1)).parent := ⟨_, rfl⟩
            rw [← hP3] at e0 x3
            clear eA3 hP3
            by_cases qp : P3 = (m2 : Int) + 1
            · have zp : (P3 != (m2 : Int) + 1) = false := by simpa using qp
              rw [if_neg (fun h => h.2 qp)] at e0
              clear qp hc0
              obtain ⟨X, hX⟩ : ∃ X, X = moreL l ((m1 : Int) + 1) := ⟨_, rfl⟩
              obtain ⟨Z, hZ⟩ : ∃ Z, Z = cntL l 2 (kidsL l ((m2 : Int) + 1)) := ⟨_, rfl⟩
              have hcr : crowdB l ((m1 : Int) + 1) ((m2 : Int) + 1) = decide (1 < X ∨ (X = 1 ∧ 0 < Z)) := by
                unfold crowdB
                rw [← hX, ← hZ]
              rw [hcr] at e0
              have hXb : X ≤ 200 := by
                rw [hX]
                unfold moreL
                split
                · exact cntL_few Hg.out.few _ _
                · omega
              have hZb : Z ≤ 200 := by
                rw [hZ]
                exact cntL_few Hg.out.few _ _
              unfold moreL at hX
              rw [← hd1] at hX
              have HX := Lib.hid hX
              have HZ := Lib.hid hZ
              have E0 := Lib.hid e0
              clear e0 hX hZ hcr hd1 hd2
              by_cases q1 : d1.kind = 1
              · have e1 := E0.out
                rw [if_pos (.inl q1)] at e1
                subst e1
                have z1 : (d1.kind == 1) = true := by simpa using q1
                clear q1
                go_wp2
                go_ret
                exact ⟨rfl, B4.out⟩
              · have z1 : (d1.kind == 1) = false := by simpa using q1
                by_cases q3 : d1.kind = 3
                · have e1 := E0.out
                  rw [if_pos (.inr q3)] at e1
                  subst e1
                  have z3 : (d1.kind == 3) = true := by simpa using q3
                  clear q1 q3
                  go_wp2
                  go_ret
                  exact ⟨rfl, B4.out⟩
                · have z3 : (d1.kind == 3) = false := by simpa using q3
                  have e1 := E0.out
                  rw [if_neg (fun h => h.elim q1 q3)] at e1
                  clear q1 q3 E0
                  by_cases q2 : d2.kind = 1
                  · have z2 : (d2.kind == 1) = true := by simpa using q2
                    have E1 := Lib.hid e1
                    have Q2 := Lib.hid q2
                    clear e1 q2
                    go_wp2_with fail
                    refine (refCount ((m2 : Int) + 1) 2 Hg.out HN4.out).mono ?_
                    rintro e w5 ⟨rfl, rfl⟩
                    rw [← HZ.out]
                    by_cases q4 : d1.kind = 4
                    · have z4 : (d1.kind == 4) = true := by simpa using q4
                      have HX4 := Lib.hid (HX.out.trans (if_pos q4))
                      clear HX q4
                      go_wp2_with fail
                      refine (refCount ((m1 : Int) + 1) 2 Hg.out HN4.out).mono ?_
                      rintro e w5 ⟨rfl, rfl⟩
                      rw [← HX4.out]
                      clear HX4 HZ
                      rcases (by omega : X = 0 ∨ X = 1 ∨ 1 < X) with q | q | q
                      · subst q
                        have e1 := E1.out
                        rw [if_neg (fun h => by simpa using h.2)] at e1
                        subst e1
                        go_wp2
                        go_ret
                        exact ⟨rfl, B4.out⟩
                      · subst q
                        by_cases q5 : Z = 0
                        · subst q5
                          have e1 := E1.out
                          rw [if_neg (fun h => by simpa using h.2)] at e1
                          subst e1
                          go_wp2
                          go_ret
                          exact ⟨rfl, B4.out⟩
                        · have e1 := E1.out
                          rw [if_pos ⟨Q2.out, decide_eq_true (.inr ⟨rfl, by omega⟩)⟩] at e1
                          subst e1
                          have z5 : (0 : Int) < Z := by omega
                          clear q5
                          go_wp2
                          go_ret
                          exact ⟨rfl, B4.out⟩
                      · have e1 := E1.out
                        rw [if_pos ⟨Q2.out, decide_eq_true (.inl q)⟩] at e1
                        subst e1
                        have z5 : (1 : Int) < X := by omega
                        clear q
                        go_wp2
                        go_ret
                        exact ⟨rfl, B4.out⟩
                    · have z4 : (d1.kind == 4) = false := by simpa using q4
                      obtain rfl : X = 1 := HX.out.trans (if_neg q4)
                      clear HX q4 HZ
                      by_cases q5 : Z = 0
                      · subst q5
                        have e1 := E1.out
                        rw [if_neg (fun h => by simpa using h.2)] at e1
                        subst e1
                        go_wp2
                        go_ret
                        exact ⟨rfl, B4.out⟩
                      · have e1 := E1.out
                        rw [if_pos ⟨Q2.out, decide_eq_true (.inr ⟨rfl, by omega⟩)⟩] at e1
                        subst e1
                        have z5 : (0 : Int) < Z := by omega
                        clear q5
                        go_wp2
                        go_ret
                        exact ⟨rfl, B4.out⟩
                  · have z2 : (d2.kind == 1) = false := by simpa using q2
                    rw [if_neg (fun h => q2 h.1)] at e1
                    subst e1
                    clear q2
                    go_wp2
                    go_ret
                    exact ⟨rfl, B4.out⟩
            · have zp : (P3 != (m2 : Int) + 1) = true := by simpa using qp
              rw [if_pos ⟨hc0, qp⟩] at e0
              subst e0
              clear qp hc0 hd1 hd2
              go_wp2
              go_ret
              exact ⟨rfl, B4.out⟩
      | false =>
        have hc0 : c = 0 := by simpa using zc
        have e0 := HR.out.trans (chk_on (by rw [t1, t2]; simp [hc0]))
        have T1 := Lib.hid t1
        have T2 := Lib.hid t2
        obtain ⟨d1, hd1⟩ : ∃ d, d = nd l ((m1 : Int) + 1) := ⟨_, rfl⟩
        obtain ⟨d2, hd2⟩ : ∃ d, d = nd l ((m2 : Int) + 1) := ⟨_, rfl⟩
        rw [← hd1, ← hd2] at e0
        have E0 := Lib.hid e0
        clear e0 t1 t2
        go_enter Try.func39, Try.ntmps39
        go_wp2_with fail
        refine (there_any l A k _ w).mono ?_
        rintro e w1 ⟨rfl, rfl⟩
        rw [T1.out]
        go_wp2_with fail
        refine (there_any l A k _ w).mono ?_
        rintro e w1 ⟨rfl, rfl⟩
        rw [T2.out]
        go_wp2_with fail
        refine (rfHost _ _ Hg.out H.out).mono ?_
        rintro e w4 ⟨rfl, hb4⟩
        have B4 := Lib.hid hb4
        have hN4 := H.out.below hb4
        obtain ⟨g, K1, eA, -, -, -, -, x1, -⟩ := hN4.nine hl1
        obtain ⟨g', K2, eA2, -, -, -, -, x2, -⟩ := hN4.nine hl2
        subst eA
        obtain rfl : g = g' := by simpa using eA2
        rw [← hd1] at x1
        rw [← hd2] at x2
        have HN4 := Lib.hid hN4
        clear hb4 hN4 eA2
        cases hh : hasB (over l ((m2 : Int) + 1)) ((m1 : Int) + 1) with
        | true =>
          have e1 := E0.out
          rw [if_pos hh] at e1
          subst e1
          clear hd1 hd2
          go_wp2
          go_ret
          exact ⟨rfl, B4.out⟩
        | false =>
          have e0 := E0.out
          rw [if_neg (by rw [hh]; decide)] at e0
          clear E0 hh
          rw [if_neg (fun h => h.1 hc0)] at e0
          clear hc0
          obtain ⟨X, hX⟩ : ∃ X, X = moreL l ((m1 : Int) + 1) := ⟨_, rfl⟩
          obtain ⟨Z, hZ⟩ : ∃ Z, Z = cntL l 2 (kidsL l ((m2 : Int) + 1)) := ⟨_, rfl⟩
          have hcr : crowdB l ((m1 : Int) + 1) ((m2 : Int) + 1) = decide (1 < X ∨ (X = 1 ∧ 0 < Z)) := by
            unfold crowdB
            rw [← hX, ← hZ]
          rw [hcr] at e0
          have hXb : X ≤ 200 := by
            rw [hX]
            unfold moreL
            split
            · exact cntL_few Hg.out.few _ _
            · omega
          have hZb : Z ≤ 200 := by
            rw [hZ]
            exact cntL_few Hg.out.few _ _
          unfold moreL at hX
          rw [← hd1] at hX
          have HX := Lib.hid hX
          have HZ := Lib.hid hZ
          have E0 := Lib.hid e0
          clear e0 hX hZ hcr hd1 hd2
          by_cases q1 : d1.kind = 1
          · have e1 := E0.out
            rw [if_pos (.inl q1)] at e1
            subst e1
            have z1 : (d1.kind == 1) = true := by simpa using q1
            clear q1
            go_wp2
            go_ret
            exact ⟨rfl, B4.out⟩
          · have z1 : (d1.kind == 1) = false := by simpa using q1
            by_cases q3 : d1.kind = 3
            · have e1 := E0.out
              rw [if_pos (.inr q3)] at e1
              subst e1
              have z3 : (d1.kind == 3) = true := by simpa using q3
              clear q1 q3
              go_wp2
              go_ret
              exact ⟨rfl, B4.out⟩
            · have z3 : (d1.kind == 3) = false := by simpa using q3
              have e1 := E0.out
              rw [if_neg (fun h => h.elim q1 q3)] at e1
              clear q1 q3 E0
              by_cases q2 : d2.kind = 1
              · have z2 : (d2.kind == 1) = true := by simpa using q2
                have E1 := Lib.hid e1
                have Q2 := Lib.hid q2
                clear e1 q2
                go_wp2_with fail
                refine (refCount ((m2 : Int) + 1) 2 Hg.out HN4.out).mono ?_
                rintro e w5 ⟨rfl, rfl⟩
                rw [← HZ.out]
                by_cases q4 : d1.kind = 4
                · have z4 : (d1.kind == 4) = true := by simpa using q4
                  have HX4 := Lib.hid (HX.out.trans (if_pos q4))
                  clear HX q4
                  go_wp2_with fail
                  refine (refCount ((m1 : Int) + 1) 2 Hg.out HN4.out).mono ?_
                  rintro e w5 ⟨rfl, rfl⟩
                  rw [← HX4.out]
                  clear HX4 HZ
                  rcases (by omega : X = 0 ∨ X = 1 ∨ 1 < X) with q | q | q
                  · subst q
                    have e1 := E1.out
                    rw [if_neg (fun h => by simpa using h.2)] at e1
                    subst e1
                    go_wp2
                    go_ret
                    exact ⟨rfl, B4.out⟩
                  · subst q
                    by_cases q5 : Z = 0
                    · subst q5
                      have e1 := E1.out
                      rw [if_neg (fun h => by simpa using h.2)] at e1
                      subst e1
                      go_wp2
                      go_ret
                      exact ⟨rfl, B4.out⟩
                    · have e1 := E1.out
                      rw [if_pos ⟨Q2.out, decide_eq_true (.inr ⟨rfl, by omega⟩)⟩] at e1
                      subst e1
                      have z5 : (0 : Int) < Z := by omega
                      clear q5
                      go_wp2
                      go_ret
                      exact ⟨rfl, B4.out⟩
                  · have e1 := E1.out
                    rw [if_pos ⟨Q2.out, decide_eq_true (.inl q)⟩] at e1
                    subst e1
                    have z5 : (1 : Int) < X := by omega
                    clear q
                    go_wp2
                    go_ret
                    exact ⟨rfl, B4.out⟩
                · have z4 : (d1.kind == 4) = false := by simpa using q4
                  obtain rfl : X = 1 := HX.out.trans (if_neg q4)
                  clear HX q4 HZ
                  by_cases q5 : Z = 0
                  · subst q5
                    have e1 := E1.out
                    rw [if_neg (fun h => by simpa using h.2)] at e1
                    subst e1
                    go_wp2
                    go_ret
                    exact ⟨rfl, B4.out⟩
                  · have e1 := E1.out
                    rw [if_pos ⟨Q2.out, decide_eq_true (.inr ⟨rfl, by omega⟩)⟩] at e1
                    subst e1
                    have z5 : (0 : Int) < Z := by omega
                    clear q5
                    go_wp2
                    go_ret
                    exact ⟨rfl, B4.out⟩
              · have z2 : (d2.kind == 1) = false := by simpa using q2
                rw [if_neg (fun h => q2 h.1)] at e1
                subst e1
                clear q2
                go_wp2
                go_ret
                exact ⟨rfl, B4.out⟩
end
end Go.Proofs.Ytojcchjhimagiaa

namespace Go.Proofs.Ytojcchjhimagiaa
open Go Go.RowKit

section
variable {G : Nat → Prop} {w : World} {A : Option Addr} {k : Nat} {l : List Nd}
set_option maxHeartbeats 4000000 in
set_option maxRecDepth 100000 in
theorem rfRemove (n p : Int) (hg : Good l) (hG : Fut G w.heap.size) (h : Nodes G w 0 A k l) :
    Calls Try.prog 15 #[.slice A l.length k, .int .i64 n, .int .i64 p] w (Gave G w (rmL l n p) (rmErr l n p)) := by
  have H := Lib.hid h
  have Hg := Lib.hid hg
  have HG := Lib.hid hG
  have hnot : ∀ (x : Bool) (w : World), (Op.unary .not (.bool x)).run Try.prog w = .ok (.bool (!x)) w := fun _ _ => rfl
  obtain ⟨E, hE⟩ : ∃ E, E = rmErr l n p := ⟨_, rfl⟩
  obtain ⟨l', hl'⟩ : ∃ l', l' = rmL l n p := ⟨_, rfl⟩
  have hll := hg.len
  rw [← hE, ← hl']
  have HE := Lib.hid hE
  have HL := Lib.hid hl'
  clear h hg hG hE hl'
  cases t1 : thereB l n with
  | false =>
    have e0 : E = 1 := by rw [HE.out]; unfold rmErr; rw [if_pos (.inl t1)]
    have e1 : l' = l := by rw [HL.out]; unfold rmL; rw [← HE.out, e0]; rfl
    subst e0
    subst e1
    have T1 := Lib.hid t1
    clear t1
    go_enter Try.func15, Try.ntmps15
    go_wp2_with fail
    refine (there_any l' A k n w).mono ?_
    rintro e w1 ⟨rfl, rfl⟩
    rw [T1.out]
    go_wp2
    go_ret2
    exact ⟨A, k, rfl, H.out, Below.refl _ _⟩
  | true =>
    cases t2 : thereB l p with
    | false =>
      have e0 : E = 1 := by rw [HE.out]; unfold rmErr; rw [if_pos (.inr t2)]
      have e1 : l' = l := by rw [HL.out]; unfold rmL; rw [← HE.out, e0]; rfl
      subst e0
      subst e1
      have T1 := Lib.hid t1
      have T2 := Lib.hid t2
      clear t1 t2
      go_enter Try.func15, Try.ntmps15
      go_wp2_with fail
      refine (there_any l' A k n w).mono ?_
      rintro e w1 ⟨rfl, rfl⟩
      rw [T1.out]
      go_wp2_with fail
      refine (there_any l' A k p w).mono ?_
      rintro e w1 ⟨rfl, rfl⟩
      rw [T2.out]
      go_wp2
      go_ret2
      exact ⟨A, k, rfl, H.out, Below.refl _ _⟩
    | true =>
      obtain ⟨m, hm, hml⟩ := there_at t1
      subst hm
      obtain ⟨g, k', rfl, -, -, -, -, -, c1, -⟩ := H.out.nine hml
      obtain ⟨pa, hpa⟩ : ∃ pa, pa = (nd l ((m : Int) + 1)).parent := ⟨_, rfl⟩
      rw [← hpa] at c1
      by_cases hp : pa = p
      · have hz : rmErr l ((m : Int) + 1) p = 0 := by unfold rmErr; rw [if_neg (by rw [t1, t2]; simp), if_neg (by rw [← hpa]; exact fun h => h hp)]
        have e0 : E = 0 := HE.out.trans hz
        have e1 : l' = leaveL l ((m : Int) + 1) := by rw [HL.out, leave_is Hg.out.tree t1, ← hpa, hp]
        have hlen : l'.length = l.length := by rw [HL.out]; exact rm_len _ _
        have zp : (pa != p) = false := by simpa using hp
        subst e0
        have E1 := Lib.hid e1
        have HLen := Lib.hid hlen
        have T1 := Lib.hid t1
        have T2 := Lib.hid t2
        clear t1 t2 hpa hp hz e1 hlen
        go_enter Try.func15, Try.ntmps15
        go_wp2_with fail
        refine (there_any l _ k ((m : Int) + 1) w).mono ?_
        rintro e w1 ⟨rfl, rfl⟩
        rw [T1.out]
        go_wp2_with fail
        refine (there_any l _ k p w).mono ?_
        rintro e w1 ⟨rfl, rfl⟩
        rw [T2.out]
        go_wp2_with fail
        refine (copy_any l _ k w (Nat.le_trans hll (by decide)) (fun d hd => Nat.le_trans (Hg.out.few d hd) (by decide)) HG.out H.out).mono ?_
        rintro e w3 ⟨A3, c3, rfl, hN3, hb3⟩
        obtain ⟨g3, -, rfl, hg3, -⟩ := hN3.nine hml
        have N3 := Lib.hid hN3
        have B3 := Lib.hid hb3
        clear hN3 hb3
        go_wp2_with fail
        refine (rfLeave ((m : Int) + 1) N3.out Hg.out (HG.out.mono B3.out.size) T1.out).mono ?_
        rintro e w4 ⟨rfl, hN4, hk4⟩
        have hb4 : Below w.heap.size w w4 := below_then B3.out hk4 B3.out.size fun i hi e => by omega
        rw [← E1.out] at hN4
        go_wp2
        go_ret2
        exact ⟨some ⟨g3, 0, none⟩, c3, by rw [HLen.out]; rfl, hN4.from_ (Nat.zero_le _), hb4⟩
      · have e0 : E = 4 := by rw [HE.out]; unfold rmErr; rw [if_neg (by rw [t1, t2]; simp), if_pos (by rw [← hpa]; exact hp)]
        have e1 : l' = l := by rw [HL.out]; unfold rmL; rw [← HE.out, e0]; rfl
        have zp : (pa != p) = true := by simpa using hp
        subst e0
        subst e1
        have T1 := Lib.hid t1
        have T2 := Lib.hid t2
        clear t1 t2 hpa hp
        go_enter Try.func15, Try.ntmps15
        go_wp2_with fail
        refine (there_any l' _ k ((m : Int) + 1) w).mono ?_
        rintro e w1 ⟨rfl, rfl⟩
        rw [T1.out]
        go_wp2_with fail
        refine (there_any l' _ k p w).mono ?_
        rintro e w1 ⟨rfl, rfl⟩
        rw [T2.out]
        go_wp2
        go_ret2
        exact ⟨_, k, rfl, H.out, Below.refl _ _⟩
end
end Go.Proofs.Ytojcchjhimagiaa
