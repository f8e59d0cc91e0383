/-
  What towncrierlaw16.WalkEach does: it answers true.
  Proved: the law answers true for every input, and each argument reads afterwards as it read before. No condition.
-/
import Derived.Test.YtekmgaigppenlaaPartF
import Derived.Test.YtekmgaigppenlaaRows
import Derived.ProofKit
import Derived.OpenShut
import Derived.ChangeOld

namespace Go.Proofs.Ytekmgaigppenlaa
open Go Go.RowKit Go.Shelf
attribute [local go_sem] Oper.semAt_some

theorem both_exits {id : Nat} {Q : Exit → Act → World → Prop} {e : Exit} {a : Act} {w : World} (he : e = .normal ∨ e = .exit id) (h : Q .normal a w) : Exit.inBlock id Q e a w := by
  rcases he with rfl | rfl
  · exact h
  · show (if id = id then Q .normal a w else Q (.exit id) a w)
    rw [if_pos rfl]
    exact h
section
set_option maxRecDepth 100000 in
set_option maxHeartbeats 8000000 in
theorem walkEach_any (A : Option Addr) (n c : Nat) (p : List Stp) (bub : Bool) (few : Int) (w : World) (hn : p.length = n) (hR : RecIn RS w A c p) (hf : 0 ≤ few ∧ few ≤ 255) :
    Calls Try.prog 6 #[.slice A n c, .bool bub, .int .u8 few] w fun e w' => e = .returned (.bool true) ∧ Below w.heap.size w w' := by
  have HR := Lib.hid hR
  have HN := Lib.hid hn
  have hmx : Try.prog.follows .mixedOrders = true := by kernel_rfl
  have k7 := (Boxed.new w 5 (.int .u8 few)).alloc (.cells #[.bool false] 4)
  have k8 := Boxed.new (w.alloc (.cells #[.int .u8 few] 5)) 4 (.bool false)
  have hB : Below w.heap.size w ((w.alloc (.cells #[.int .u8 few] 5)).alloc (.cells #[.bool false] 4)) := ((Below.refl _ w).alloc (Nat.le_refl _) _).alloc (by simp) _
  simp only [World.size_alloc] at k8
  obtain ⟨T, eT⟩ : ∃ T, T = w.heap.size := ⟨_, rfl⟩
  have HT := Lib.hid eT
  have hTw : T ≤ w.heap.size := by omega
  obtain ⟨W9, eW9⟩ : ∃ W9, W9 = (w.alloc (.cells #[.int .u8 few] 5)).alloc (.cells #[.bool false] 4) := ⟨_, rfl⟩
  rw [← eT, ← eW9] at k7 k8 hB
  have K7 := Lib.hid k7
  have K8 := Lib.hid k8
  have HB := Lib.hid hB
  have HT9 := Lib.hid eW9
  clear hR hn k7 k8 hB eW9
  refine (callsIn_wide (n := 9)).1 ?_
  refine callsIn_of_wp_marks Try.func6 rfl trivial ?_ rfl
  simp only [Try.ntmps6, List.size_toArray, List.length_cons, List.length_nil, Nat.reduceAdd, Nat.reduceSub, Array.replicate_succ, Array.replicate_zero, List.push_toArray, List.append_toArray, List.nil_append, List.cons_append]
  by_cases hl : (300 : Int) < n
  · have z0 : decide ((300 : Int) < n) = true := by rw [decide_eq_true_iff]; exact hl
    clear eT
    gi_wp2_with (fail)
    rw [← HT.out, ← HT9.out]
    refine ⟨trivial, (callsIn_wide.2 (awake16 _)).mono ?_⟩
    rintro e w0 ⟨rfl, hb0⟩
    have h7 : Boxed w0 T 5 (.int .u8 few) := (hb0.block _ K7.out.lt).trans K7.out
    have h8 : Boxed w0 (T + 1) 4 (.bool false) := (hb0.block _ K8.out.lt).trans K8.out
    have HB0 := Lib.hid (HB.out.trans (hb0.mono (Nat.le_trans hTw HB.out.size)))
    have d8 := h8.cell
    have f8 := h8.frozen
    have H7 := Lib.hid h7
    have H8 := Lib.hid h8
    clear h7 h8 hb0
    gi_wp2
    have hF := (H8.out.set (.bool true)).cell
    refine ⟨.bool true, ?_, rfl, ?_⟩
    · simp [results, Try.f6, go_sem, hF]
    · rw [← HT.out]
      exact HB0.out.setCell (p := ⟨T + 1, 0, none⟩) (Nat.le_succ _) _
  · have z0 : decide ((300 : Int) < n) = false := by rw [decide_eq_false_iff_not]; exact hl
    have hl0 : n ≤ 300 := by omega
    have hl3 : n ≤ 1000 := by omega
    clear eT hl
    gi_wp2_with (fail)
    rw [← HT.out, ← HT9.out]
    refine ⟨trivial, (callsIn_wide.2 (awake16 _)).mono ?_⟩
    rintro e w0 ⟨rfl, hb0⟩
    have h7 : Boxed w0 T 5 (.int .u8 few) := (hb0.block _ K7.out.lt).trans K7.out
    have h8 : Boxed w0 (T + 1) 4 (.bool false) := (hb0.block _ K8.out.lt).trans K8.out
    have HB0 := Lib.hid (HB.out.trans (hb0.mono (Nat.le_trans hTw HB.out.size)))
    have d8 := h8.cell
    have f8 := h8.frozen
    have H7 := Lib.hid h7
    have H8 := Lib.hid h8
    clear h7 h8 hb0
    have HR0 := Lib.hid (HR.out.below (HB0.out.mono (Nat.le_refl _) |> fun k => by rw [HT.out] at k; exact k))
    gi_wp2_with (fail)
    refine ⟨trivial, (callsIn_wide.2 (wkTurns bub HN.out hl3 HR0.out)).mono ?_⟩
    rintro e w1 ⟨x1, rfl, hx1, hb1⟩
    obtain ⟨Aw, cw, rfl, hI1⟩ := hx1.form
    obtain ⟨ts, hts⟩ : ∃ ts, ts = turnsL p bub := ⟨_, rfl⟩
    rw [← hts] at hI1 ⊢
    obtain ⟨L, hL⟩ : ∃ L, ts.length = L := ⟨_, rfl⟩
    rw [hL]
    have hL6 : L ≤ 600 := by
      have := turns_le p bub
      rw [← hts, hL, HN.out] at this
      omega
    have HTS := Lib.hid hts
    have HL := Lib.hid hL
    have g7 : Boxed w1 T 5 (.int .u8 few) := (hb1.block _ H7.out.lt).trans H7.out
    have g8 : Boxed w1 (T + 1) 4 (.bool false) := (hb1.block _ H8.out.lt).trans H8.out
    have HB1 : Hid (Below T w w1) := Lib.hid (HB0.out.trans (hb1.mono (Nat.le_trans hTw HB0.out.size)))
    have hA : Below w1.heap.size w1 (w1.alloc (.cells #[.slice Aw L cw] 24)) := (Below.refl _ w1).alloc (Nat.le_refl _) _
    obtain ⟨w5, eW2⟩ : ∃ w5, w5 = (w1.alloc (.cells #[.slice Aw L cw] 24)) := ⟨_, rfl⟩
    have HW2 := Lib.hid eW2
    have G7 : Hid (Boxed w5 T 5 (.int .u8 few)) := Lib.hid (by rw [eW2]; exact g7.alloc _)
    have G8 : Hid (Boxed w5 (T + 1) 4 (.bool false)) := Lib.hid (by rw [eW2]; exact g8.alloc _)
    obtain ⟨B9, hB9⟩ : ∃ B9, B9 = w1.heap.size := ⟨_, rfl⟩
    have HB9 := Lib.hid hB9
    have G9 : Hid (Boxed w5 B9 24 (.slice Aw L cw)) := Lib.hid (by rw [eW2, hB9]; exact Boxed.new w1 _ _)
    have HB5 : Hid (Below T w w5) := Lib.hid (by rw [eW2]; exact HB1.out.alloc (Nat.le_trans hTw HB1.out.size) _)
    have HI5 : Hid (RecIn RT w5 Aw cw ts) := Lib.hid (by rw [eW2]; exact hI1.below hA)
    have HR5 : Hid (RecIn RS w5 A c p) := Lib.hid (by rw [eW2]; exact (HR0.out.below hb1).below hA)
    have qn : ∀ (lb : Array Value) (w : World), (binOp .eql 29 (.func (.func 21) #[] lb) .nilFunc).run Try.prog w = .ok (.bool false) w := fun lb w => fn_eql_nil Try.underlying29 _ _ lb w
    clear hx1 hI1 hts hL g7 g8 hA eW2 hb1 d8 f8 hB9 HR0 HB1 HB0 H7 H8
    gi_wp2_with (fail)
    rw [← HW2.out, ← HB9.out]
    refine ⟨trivial, (callsIn_wide.2 (wkEach bub HN.out hl3 HR5.out)).mono ?_⟩
    rintro e w6 ⟨Bo, Bb, Y, rfl, hseq, hY, hb6⟩
    rw [← HTS.out, HL.out] at hseq
    have HSeq := Lib.hid hseq
    have HY := Lib.hid hY
    have HB6 : Hid (Below T w w6) := Lib.hid (HB5.out.trans (hb6.mono (Nat.le_trans hTw HB5.out.size)))
    have HI6 := Lib.hid (HI5.out.below hb6)
    have J7 : Hid (Boxed w6 T 5 (.int .u8 few)) := Lib.hid ((hb6.block _ G7.out.lt).trans G7.out)
    have J8 : Hid (Boxed w6 (T + 1) 4 (.bool false)) := Lib.hid ((hb6.block _ G8.out.lt).trans G8.out)
    have J9 : Hid (Boxed w6 B9 24 (.slice Aw L cw)) := Lib.hid ((hb6.block _ G9.out.lt).trans G9.out)
    have HT5 : Hid (T + 1 < w5.heap.size) := Lib.hid G8.out.lt
    have HS56 : Hid (w5.heap.size ≤ w6.heap.size) := Lib.hid hb6.size
    clear hseq hY hb6 HB5 HR5 HI5 G7 G8 G9
    gi_wp2
    obtain ⟨B10, eB⟩ : ∃ B10, B10 = w6.heap.size := ⟨_, rfl⟩
    have HB10 := Lib.hid eB
    have hs7 : (w6.alloc (.cells #[.int .i64 0] 3)).heap.size = w6.heap.size + 1 := World.size_alloc _ _
    obtain ⟨W7, eW7⟩ : ∃ W7, W7 = w6.alloc (.cells #[.int .i64 0] 3) := ⟨_, rfl⟩
    have HA7 : Hid (Below w6.heap.size w6 W7) := Lib.hid (by rw [eW7]; exact (Below.refl _ w6).alloc (Nat.le_refl _) _)
    have HI7 : Hid (Boxed W7 B10 3 (.int .i64 0)) := Lib.hid (by rw [eW7, eB]; exact Boxed.new w6 _ _)
    rw [← eW7] at hs7 ⊢
    rw [← eB] at hs7 ⊢
    have HS7 := Lib.hid hs7
    clear eW7 eB hs7
    have r0 := HI7.out.cell
    refine wpIn_loop_rounds 3 ?_
    rw [roundsIn_succ]
    gi_wp2
    obtain ⟨B11, eB⟩ : ∃ B11, B11 = W7.heap.size := ⟨_, rfl⟩
    have HB11 := Lib.hid eB
    rw [← eB]
    obtain ⟨W8, eW8⟩ : ∃ W8, W8 = W7.alloc (.cells #[.int .i64 0] 3) := ⟨_, rfl⟩
    have HAk0 : Hid (Below W7.heap.size W7 W8) := Lib.hid (by rw [eW8]; exact (Below.refl _ W7).alloc (Nat.le_refl _) _)
    have HBk0 : Hid (B11 = W7.heap.size) := HB11
    have HSk0 : Hid (W8.heap.size = W7.heap.size + 1) := Lib.hid (by rw [eW8]; exact World.size_alloc _ _)
    have HIk0 : Hid (Boxed W8 B11 3 (.int .i64 0)) := Lib.hid (by rw [eW8, eB]; exact Boxed.new W7 _ _)
    have HSm0 : Hid (w6.heap.size < W7.heap.size) := Lib.hid (by have := HS7.out; have := HB10.out; omega)
    have HBm0 : Hid (Below w6.heap.size w6 W7) := HA7
    have Jm70 : Hid (Boxed W7 T 5 (.int .u8 few)) := Lib.hid ((HA7.out.block _ J7.out.lt).trans J7.out)
    have Jm80 : Hid (Boxed W7 (T + 1) 4 (.bool false)) := Lib.hid ((HA7.out.block _ J8.out.lt).trans J8.out)
    have Jm90 : Hid (Boxed W7 B9 24 (.slice Aw L cw)) := Lib.hid ((HA7.out.block _ J9.out.lt).trans J9.out)
    have Jmi0 : Hid (Boxed W7 B10 3 (.int .i64 0)) := HI7
    have HIm0 : Hid (RecIn RT W7 Aw cw ts) := Lib.hid (HI6.out.below HA7.out)
    rw [← eW8]
    clear eW8 eB
    have hA : Below W7.heap.size W7 W8 := HAk0.out
    have hsk0 : W8.heap.size = W7.heap.size + 1 := HSk0.out
    have hbk0 : B11 = W7.heap.size := HBk0.out
    have hbk := HIk0.out
    have hX : ∀ b, (b = T + 1 ∨ b = B11) → b < W8.heap.size ∧ ¬ Y b := by
      intro b hb
      have h5 := HT5.out
      have h6 := HS56.out
      have h7 := HSm0.out
      rcases hb with rfl | rfl
      · exact ⟨by omega, fun e => by have := (HY.out _ e).1; omega⟩
      · exact ⟨by omega, fun e => by have := (HY.out _ e).2; omega⟩
    have hTB : T + 1 < B11 := by
      have h5 := HT5.out
      have h6 := HS56.out
      have h7 := HSm0.out
      omega
    have HTB := Lib.hid hTB
    have hlW : W7.heap.size ≤ W8.heap.size := by omega
    have hBW : B11 < W8.heap.size := by omega
    clear hsk0 hbk0
    refine wpIn_mono (Q := fun e a' V => (e = .normal ∨ e = .exit 2) ∧ ∃ D, a' = { tmps := #[.slice A n c, .bool bub, .int .u8 few, undef, undef, .pointer (some ⟨T, 0, none⟩), .pointer (some ⟨T + 1, 0, none⟩), .pointer (some ⟨B9, 0, none⟩), (.func (.func 21) #[] #[.pointer (some ⟨Bo, 0, none⟩), .pointer (some ⟨Bb, 0, none⟩)]), .pointer (some ⟨B10, 0, none⟩), .pointer (some ⟨B11, 0, none⟩), undef, .bool true, .bool false, .slice A n c, .int .i64 (n : Int), .bool false, .slice A n c, .bool bub, .slice Aw L cw, .slice A n c, .bool bub, (.func (.func 21) #[] #[.pointer (some ⟨Bo, 0, none⟩), .pointer (some ⟨Bb, 0, none⟩)]), (.func (.func 21) #[] #[.pointer (some ⟨Bo, 0, none⟩), .pointer (some ⟨Bb, 0, none⟩)]), .bool false, .int .i64 0, .bool true, undef, undef, (.func (.func 21) #[] #[.pointer (some ⟨Bo, 0, none⟩), .pointer (some ⟨Bb, 0, none⟩)]), undef, undef, undef, undef, undef, undef, undef, undef, undef, undef, undef, undef, undef, undef, undef, undef, undef, undef, undef, undef, undef, undef, undef, undef, undef, undef, undef, undef, undef, undef, undef, undef], defers := { target := .collected D, args := #[] } :: [] } ∧ V.heap[D]? = some (.deferred (some [])) ∧ W7.heap.size ≤ D ∧ Below W7.heap.size W7 V) ?_ ?_
    · refine wpIn_range_X (by decide) (gf := 21) (lb := #[.pointer (some ⟨Bo, 0, none⟩), .pointer (some ⟨Bb, 0, none⟩)]) rfl (enters_of Try.func21 (by kernel_rfl) rfl) HSeq.out (HBm0.out.trans (hA.mono (by have := HSm0.out; omega))) (fun _ => rfl)
        (fun b => b = T + 1 ∨ b = B11) (fun b hb => by have := (HY.out b hb).2; have := HSm0.out; omega) hX
        (fun pre V => ((pre <+: ts) ∧ Boxed V B11 3 (.int .i64 (pre.length : Int))) ∧ Below W7.heap.size W7 V)
        (fun cd pre V => (cd = .exit 2 ∧ Below W7.heap.size W7 V) ∨ (cd = .ret ∧ ¬ (pre <+: ts)))
        (fun s U V row hs hg hr => ⟨OwnFrom.and (ownFrom_pure _ (fun pre : List Trn => pre <+: ts)) (Own.from (boxed_own B11 _ (fun pre : List Trn => .int .i64 (pre.length : Int))) _) s U V row hs.1 hg hr, ownFrom_below (β := List Trn) (Nat.le_refl _) (by omega) s U V row hs.2 hg hr⟩)
        (fun cd s U V row hs hg hr => hs.imp (fun h => ⟨h.1, ownFrom_below (β := List Trn) (Nat.le_refl _) (by omega) s U V row h.2 hg hr⟩) id)
        ⟨⟨List.nil_prefix, hbk⟩, hA⟩
        (fun x a' V => ∃ Bx, B11 < Bx ∧ Has V Bx (.cells #[.int .i64 x.at_, .int .i64 x.phase, .bool x.cap] 32 (0, 0)) ∧ a' = { tmps := #[.slice A n c, .bool bub, .int .u8 few, undef, undef, .pointer (some ⟨T, 0, none⟩), .pointer (some ⟨T + 1, 0, none⟩), .pointer (some ⟨B9, 0, none⟩), (.func (.func 21) #[] #[.pointer (some ⟨Bo, 0, none⟩), .pointer (some ⟨Bb, 0, none⟩)]), .pointer (some ⟨B10, 0, none⟩), .pointer (some ⟨B11, 0, none⟩), .pointer (some ⟨Bx, 0, none⟩), .bool true, .bool false, .slice A n c, .int .i64 (n : Int), .bool false, .slice A n c, .bool bub, .slice Aw L cw, .slice A n c, .bool bub, (.func (.func 21) #[] #[.pointer (some ⟨Bo, 0, none⟩), .pointer (some ⟨Bb, 0, none⟩)]), (.func (.func 21) #[] #[.pointer (some ⟨Bo, 0, none⟩), .pointer (some ⟨Bb, 0, none⟩)]), .bool false, .int .i64 0, .bool true, undef, undef, (.func (.func 21) #[] #[.pointer (some ⟨Bo, 0, none⟩), .pointer (some ⟨Bb, 0, none⟩)]), .agg #[.int .i64 x.at_, .int .i64 x.phase, .bool x.cap], undef, undef, undef, undef, undef, undef, undef, undef, undef, undef, undef, undef, undef, undef, undef, undef, undef, undef, undef, undef, undef, undef, undef, undef, undef, undef, undef, undef, undef, undef, undef], defers := [] })
        (fun x a' _ U V row hs hg hr => by obtain ⟨Bx, h1, h2, h3⟩ := hs; exact ⟨Bx, h1, has_own Bx (fun (_ : Unit) => #[.int .i64 x.at_, .int .i64 x.phase, .bool x.cap]) _ _ () U V row h2 hg (fun r e => (hr r e).2), h3⟩)
        ?assign ?body ?done ?stop
      case assign =>
        rintro l pre x V K ⟨⟨hp, q0⟩, hB⟩ hK
        have hlt := q0.lt
        dsimp only [encT]
        gi_wp2
        exact hK _ _ (KpX.alloc _ _) ⟨⟨hp, q0.alloc _⟩, hB.alloc hB.size _⟩ ⟨V.heap.size, hlt, Has.fresh V (.cells #[.int .i64 x.at_, .int .i64 x.phase, .bool x.cap] 32), rfl⟩
      case body =>
        rintro l pre x a' V ⟨⟨hp, q0⟩, hB⟩ ⟨Bx, hBx, bX, rfl⟩ hlt
        have hk : pre.length < ts.length := by rw [HL.out]; exact hlt
        obtain ⟨b, off, rfl, c0, c1, c2⟩ := three_of (HIm0.out.below hB) hk
        obtain ⟨y, hy⟩ : ∃ y, y = ts[pre.length] := ⟨_, rfl⟩
        rw [← hy] at c0 c1 c2
        have d0 := bX.cell 0
        have d1 := bX.cell 1
        have d2 := bX.cell 2
        have g7 : Boxed V T 5 (.int .u8 few) := (hB.block _ Jm70.out.lt).trans Jm70.out
        have g8 : Boxed V (T + 1) 4 (.bool false) := (hB.block _ Jm80.out.lt).trans Jm80.out
        have g9 : Boxed V B9 24 (.slice (some ⟨b, off, none⟩) L cw) := (hB.block _ Jm90.out.lt).trans Jm90.out
        have gi : Boxed V B10 3 (.int .i64 0) := (hB.block _ Jmi0.out.lt).trans Jmi0.out
        have HBi : Hid (B10 < B11) := Lib.hid (by rw [HBk0.out]; exact Jmi0.out.lt)
        obtain ⟨k, ek⟩ : ∃ k, k = pre.length := ⟨_, rfl⟩
        rw [← ek] at c0 c1 c2 q0 hk hlt
        have HE := Lib.hid ek
        have HPre : Hid (pre ++ [x] <+: ts ↔ x = y) := Lib.hid (by
          rw [pre_snoc hp (by rw [← ek]; exact hk)]
          have e9 : ts[pre.length]'(by rw [← ek]; exact hk) = y := hy.symm
          rw [e9]
          exact ⟨fun h => h.symm, fun h => h.symm⟩)
        have k0 := q0.cell
        have k1 := q0.frozen
        have k2 := g7.cell
        have k3 := g8.cell
        have k4 := g8.frozen
        have k5 := g9.cell
        have k6 := gi.cell
        have y0 : decide ((L : Int) ≤ (k : Int)) = false := by rw [decide_eq_false_iff_not]; omega
        have y1 : decide (L ≤ k) = false := by rw [decide_eq_false_iff_not]; omega
        have y2 : (k : Int) < (L : Int) := by omega
        obtain ⟨x0, x1, x2⟩ := x
        obtain ⟨z0', z1', z2'⟩ := y
        dsimp only at c0 c1 c2 d0 d1 d2
        have G7 := Lib.hid g7
        have G8 := Lib.hid g8
        have GI := Lib.hid gi
        have Q0 := Lib.hid q0
        have HB := Lib.hid hB
        have HBks : Hid (B11 = W7.heap.size) := HBk0
        clear g7 g8 g9 gi q0 bX hB hy hp ek hk hlt hBx hA hbk hX hTB
        by_cases e0 : x0 = z0'
        · subst e0
          by_cases e1 : x1 = z1'
          · subst e1
            by_cases e2 : x2 = z2'
            · subst e2
              have HPx : Hid (pre ++ [(⟨x0, x1, x2⟩ : Trn)] <+: ts) := Lib.hid (HPre.out.2 rfl)
              have hwk : IntKind.i64.wrap ((k : Int) + 1) = (k : Int) + 1 := wrap_small (by omega) (by omega)
              have hwf : IntKind.i64.wrap few = few := wrap_small (by omega) (by omega)
              gi_wp2
              refine region_round_quiet hmx (by kernel_rfl) (by kernel_rfl) ?_
              repeat (gi_big_quiet_step (fail))
              refine wpQuietIn_nil ?_
              intro _ hw'
              obtain ⟨nq, hw''⟩ := hw'
              subst hw''
              obtain ⟨U, eU⟩ : ∃ U, U = V.drewN nq := ⟨_, rfl⟩
              have q0 : Boxed U B11 3 (.int .i64 (k : Int)) := by rw [eU]; exact Q0.out
              have q7 : Boxed U T 5 (.int .u8 few) := by rw [eU]; exact G7.out
              have q8 : Boxed U (T + 1) 4 (.bool false) := by rw [eU]; exact G8.out
              have qi : Boxed U B10 3 (.int .i64 0) := by rw [eU]; exact GI.out
              have hVU : Below V.heap.size V U := by rw [eU]; exact below_draws (Below.refl _ _) nq
              have HBU : Hid (Below W7.heap.size W7 U) := Lib.hid (HB.out.trans (hVU.mono HB.out.size))
              have HVU := Lib.hid hVU
              rw [← eU]
              clear eU hVU c0 c1 c2 d0 d1 d2 k0 k1 k2 k3 k4 k5 k6
              have m0 := (q0.set (.int .i64 ((k : Int) + 1))).cell
              have m7 := (q7.other (B' := B11) (by have := HTB.out; omega) (.int .i64 ((k : Int) + 1))).cell
              have mi := (qi.other (B' := B11) (by have := HBi.out; omega) (.int .i64 ((k : Int) + 1))).cell
              have n0 := q0.cell
              have n1 := q0.frozen
              have M0 := Lib.hid (q0.set (.int .i64 ((k : Int) + 1)))
              have HKx : Hid (KpX (fun b => b = T + 1 ∨ b = B11) 32 V (U.setCell ⟨B11, 0, none⟩ (.int .i64 ((k : Int) + 1)))) := Lib.hid ((KpX.of_below HVU.out).trans (KpX.setCell (.inr rfl) _ _ _))
              have HBe : Hid (Below W7.heap.size W7 (U.setCell ⟨B11, 0, none⟩ (.int .i64 ((k : Int) + 1)))) := Lib.hid (HBU.out.setCell (p := ⟨B11, 0, none⟩) (by rw [HBks.out]; exact Nat.le_refl _) _)
              clear q0 q7 q8 qi
              by_cases hfk : few ≤ (k : Int) + 1
              · have z : decide (few ≤ (k : Int) + 1) = true := by rw [decide_eq_true_iff]; exact hfk
                gi_wp2
                exact ⟨HKx.out, .inl ⟨rfl, HBe.out⟩⟩
              · have z : decide (few ≤ (k : Int) + 1) = false := by rw [decide_eq_false_iff_not]; exact hfk
                gi_wp2
                exact ⟨HKx.out, ⟨⟨HPx.out, by rw [List.length_append, List.length_singleton, ← HE.out]; exact M0.out⟩, HBe.out⟩⟩
            · have z : (x2 == z2') = false := by simp [e2]
              have HNe : Hid ((⟨x0, x1, x2⟩ : Trn) ≠ ⟨x0, x1, z2'⟩) := Lib.hid (fun h => e2 (by cases h; rfl))
              clear e2
              gi_wp2
              refine region_round_quiet hmx (by kernel_rfl) (by kernel_rfl) ?_
              repeat (gi_big_quiet_step (fail))
              refine wpQuietIn_nil ?_
              intro _ hw'
              obtain ⟨nq, hw''⟩ := hw'
              subst hw''
              obtain ⟨U, eU⟩ : ∃ U, U = V.drewN nq := ⟨_, rfl⟩
              have q0 : Boxed U B11 3 (.int .i64 (k : Int)) := by rw [eU]; exact Q0.out
              have q7 : Boxed U T 5 (.int .u8 few) := by rw [eU]; exact G7.out
              have q8 : Boxed U (T + 1) 4 (.bool false) := by rw [eU]; exact G8.out
              have qi : Boxed U B10 3 (.int .i64 0) := by rw [eU]; exact GI.out
              have hVU : Below V.heap.size V U := by rw [eU]; exact below_draws (Below.refl _ _) nq
              have HBU : Hid (Below W7.heap.size W7 U) := Lib.hid (HB.out.trans (hVU.mono HB.out.size))
              have HVU := Lib.hid hVU
              rw [← eU]
              clear eU hVU c0 c1 c2 d0 d1 d2 k0 k1 k2 k3 k4 k5 k6
              have n3 := q8.cell
              have n4 := q8.frozen
              clear q0 q7 q8 qi
              gi_wp2
              exact ⟨(KpX.of_below HVU.out).trans (KpX.setCell (X := fun b => b = T + 1 ∨ b = B11) (.inl rfl) _ _ _), .inr ⟨rfl, fun h => HNe.out (HPre.out.1 h)⟩⟩
          · have z : (x1 == z1') = false := by simp [e1]
            have HNe : Hid ((⟨x0, x1, x2⟩ : Trn) ≠ ⟨x0, z1', z2'⟩) := Lib.hid (fun h => e1 (by cases h; rfl))
            clear e1
            gi_wp2
            refine region_round_quiet hmx (by kernel_rfl) (by kernel_rfl) ?_
            repeat (gi_big_quiet_step (fail))
            refine wpQuietIn_nil ?_
            intro _ hw'
            obtain ⟨nq, hw''⟩ := hw'
            subst hw''
            obtain ⟨U, eU⟩ : ∃ U, U = V.drewN nq := ⟨_, rfl⟩
            have q0 : Boxed U B11 3 (.int .i64 (k : Int)) := by rw [eU]; exact Q0.out
            have q7 : Boxed U T 5 (.int .u8 few) := by rw [eU]; exact G7.out
            have q8 : Boxed U (T + 1) 4 (.bool false) := by rw [eU]; exact G8.out
            have qi : Boxed U B10 3 (.int .i64 0) := by rw [eU]; exact GI.out
            have hVU : Below V.heap.size V U := by rw [eU]; exact below_draws (Below.refl _ _) nq
            have HBU : Hid (Below W7.heap.size W7 U) := Lib.hid (HB.out.trans (hVU.mono HB.out.size))
            have HVU := Lib.hid hVU
            rw [← eU]
            clear eU hVU c0 c1 c2 d0 d1 d2 k0 k1 k2 k3 k4 k5 k6
            have n3 := q8.cell
            have n4 := q8.frozen
            clear q0 q7 q8 qi
            gi_wp2
            exact ⟨(KpX.of_below HVU.out).trans (KpX.setCell (X := fun b => b = T + 1 ∨ b = B11) (.inl rfl) _ _ _), .inr ⟨rfl, fun h => HNe.out (HPre.out.1 h)⟩⟩
        · have z : (x0 == z0') = false := by simp [e0]
          have HNe : Hid ((⟨x0, x1, x2⟩ : Trn) ≠ ⟨z0', z1', z2'⟩) := Lib.hid (fun h => e0 (by cases h; rfl))
          clear e0
          gi_wp2
          refine region_round_quiet hmx (by kernel_rfl) (by kernel_rfl) ?_
          repeat (gi_big_quiet_step (fail))
          refine wpQuietIn_nil ?_
          intro _ hw'
          obtain ⟨nq, hw''⟩ := hw'
          subst hw''
          obtain ⟨U, eU⟩ : ∃ U, U = V.drewN nq := ⟨_, rfl⟩
          have q0 : Boxed U B11 3 (.int .i64 (k : Int)) := by rw [eU]; exact Q0.out
          have q7 : Boxed U T 5 (.int .u8 few) := by rw [eU]; exact G7.out
          have q8 : Boxed U (T + 1) 4 (.bool false) := by rw [eU]; exact G8.out
          have qi : Boxed U B10 3 (.int .i64 0) := by rw [eU]; exact GI.out
          have hVU : Below V.heap.size V U := by rw [eU]; exact below_draws (Below.refl _ _) nq
          have HBU : Hid (Below W7.heap.size W7 U) := Lib.hid (HB.out.trans (hVU.mono HB.out.size))
          have HVU := Lib.hid hVU
          rw [← eU]
          clear eU hVU c0 c1 c2 d0 d1 d2 k0 k1 k2 k3 k4 k5 k6
          have n3 := q8.cell
          have n4 := q8.frozen
          clear q0 q7 q8 qi
          gi_wp2
          exact ⟨(KpX.of_below HVU.out).trans (KpX.setCell (X := fun b => b = T + 1 ∨ b = B11) (.inl rfl) _ _ _), .inr ⟨rfl, fun h => HNe.out (HPre.out.1 h)⟩⟩
      case done =>
        rintro D ys V hD rfl ⟨⟨hp, q0⟩, hB⟩ hK
        exact ⟨.inl rfl, D, rfl, hK, by omega, hB⟩
      case stop =>
        rintro D cd pre V hD hpre (⟨rfl, hB⟩ | ⟨rfl, hn⟩) hK
        · gi_wp2
          first | omega | exact ⟨by omega, hB⟩
        · exact absurd hpre hn
    · rintro e a' V1 ⟨he, D1, rfl, hD1, hle1, hBV⟩
      refine both_exits he ?_
      have gi : Boxed V1 B10 3 (.int .i64 0) := (hBV.block _ Jmi0.out.lt).trans Jmi0.out
      have ki := gi.cell
      gi_wp2
      obtain ⟨B12, eB12⟩ : ∃ B12, B12 = V1.heap.size := ⟨_, rfl⟩
      obtain ⟨W9, eW9⟩ : ∃ W9, W9 = V1.alloc (.cells #[.int .i64 1] 3) := ⟨_, rfl⟩
      have hA9 : Below V1.heap.size V1 W9 := by rw [eW9]; exact (Below.refl _ V1).alloc (Nat.le_refl _) _
      have hs9 : W9.heap.size = V1.heap.size + 1 := by rw [eW9]; exact World.size_alloc _ _
      have HBm1 : Hid (Below w6.heap.size w6 W9) := Lib.hid (by
        have h1 := HSm0.out
        have h2 := hBV.size
        exact (HBm0.out.trans (hBV.mono (by omega))).trans (hA9.mono (by omega)))
      have HB79 : Hid (Below W7.heap.size W7 W9) := Lib.hid (hBV.trans (hA9.mono hBV.size))
      have Jmi1 : Hid (Boxed W9 B12 3 (.int .i64 1)) := Lib.hid (by rw [eW9, eB12]; exact Boxed.new V1 _ _)
      have Jm71 : Hid (Boxed W9 T 5 (.int .u8 few)) := Lib.hid ((HB79.out.block _ Jm70.out.lt).trans Jm70.out)
      have Jm81 : Hid (Boxed W9 (T + 1) 4 (.bool false)) := Lib.hid ((HB79.out.block _ Jm80.out.lt).trans Jm80.out)
      have Jm91 : Hid (Boxed W9 B9 24 (.slice Aw L cw)) := Lib.hid ((HB79.out.block _ Jm90.out.lt).trans Jm90.out)
      have HIm1 : Hid (RecIn RT W9 Aw cw ts) := Lib.hid (HIm0.out.below HB79.out)
      have HSm1 : Hid (w6.heap.size < W9.heap.size) := Lib.hid (by have := HSm0.out; have := HB79.out.size; omega)
      have HD1 : Hid (D1 < W9.heap.size) := Lib.hid (by have := (Array.getElem?_eq_some_iff.1 hD1).1; omega)
      have HD1T : Hid (T + 1 < D1) := Lib.hid (by have := HT5.out; have := HS56.out; have := HSm0.out; omega)
      have hz9 : W9.heap[D1]? = some (.deferred (some [])) := (hA9.block _ (Array.getElem?_eq_some_iff.1 hD1).1).trans hD1
      have HW9T : Hid (Below T w W9) := Lib.hid (HB6.out.trans (HBm1.out.mono (Nat.le_trans hTw HB6.out.size)))
      have HD1w : Hid (w.heap.size ≤ D1) := Lib.hid (by have := HB6.out.size; have := HSm0.out; omega)
      rw [← eB12, ← eW9]
      clear eB12 eW9 hs9 hA9 gi ki hBV hle1 hD1
      have r1 := Jmi1.out.cell
      rw [roundsIn_succ]
      gi_wp2
      obtain ⟨B13, eB⟩ : ∃ B13, B13 = W9.heap.size := ⟨_, rfl⟩
      have HBk1 : Hid (B13 = W9.heap.size) := Lib.hid eB
      rw [← eB]
      obtain ⟨W10, eW10⟩ : ∃ W10, W10 = W9.alloc (.cells #[.int .i64 0] 3) := ⟨_, rfl⟩
      have HAk1 : Hid (Below W9.heap.size W9 W10) := Lib.hid (by rw [eW10]; exact (Below.refl _ W9).alloc (Nat.le_refl _) _)
      have HSk1 : Hid (W10.heap.size = W9.heap.size + 1) := Lib.hid (by rw [eW10]; exact World.size_alloc _ _)
      have HIk1 : Hid (Boxed W10 B13 3 (.int .i64 0)) := Lib.hid (by rw [eW10, eB]; exact Boxed.new W9 _ _)
      have HZ1 : Hid (W10.heap[D1]? = some (.deferred (some []))) := Lib.hid ((HAk1.out.block _ HD1.out).trans hz9)
      rw [← eW10]
      clear eW10 eB hz9 r1
      have hA : Below W9.heap.size W9 W10 := HAk1.out
      have hsk0 : W10.heap.size = W9.heap.size + 1 := HSk1.out
      have hbk0 : B13 = W9.heap.size := HBk1.out
      have hbk := HIk1.out
      have hX : ∀ b, (b = T + 1 ∨ b = B13) → b < W10.heap.size ∧ ¬ Y b := by
        intro b hb
        have h5 := HT5.out
        have h6 := HS56.out
        have h7 := HSm1.out
        rcases hb with rfl | rfl
        · exact ⟨by omega, fun e => by have := (HY.out _ e).1; omega⟩
        · exact ⟨by omega, fun e => by have := (HY.out _ e).2; omega⟩
      have hTB : T + 1 < B13 := by
        have h5 := HT5.out
        have h6 := HS56.out
        have h7 := HSm1.out
        omega
      have HTB := Lib.hid hTB
      have hlW : W9.heap.size ≤ W10.heap.size := by omega
      have hBW : B13 < W10.heap.size := by omega
      clear hsk0 hbk0
      refine wpIn_mono (Q := fun e a' V => (e = .normal ∨ e = .exit 2) ∧ ∃ D, a' = { tmps := #[.slice A n c, .bool bub, .int .u8 few, undef, undef, .pointer (some ⟨T, 0, none⟩), .pointer (some ⟨T + 1, 0, none⟩), .pointer (some ⟨B9, 0, none⟩), (.func (.func 21) #[] #[.pointer (some ⟨Bo, 0, none⟩), .pointer (some ⟨Bb, 0, none⟩)]), .pointer (some ⟨B12, 0, none⟩), .pointer (some ⟨B13, 0, none⟩), undef, .bool true, .bool false, .slice A n c, .int .i64 (n : Int), .bool false, .slice A n c, .bool bub, .slice Aw L cw, .slice A n c, .bool bub, (.func (.func 21) #[] #[.pointer (some ⟨Bo, 0, none⟩), .pointer (some ⟨Bb, 0, none⟩)]), (.func (.func 21) #[] #[.pointer (some ⟨Bo, 0, none⟩), .pointer (some ⟨Bb, 0, none⟩)]), .bool false, .int .i64 1, .bool true, .int .i64 0, .int .i64 1, (.func (.func 21) #[] #[.pointer (some ⟨Bo, 0, none⟩), .pointer (some ⟨Bb, 0, none⟩)]), undef, undef, undef, undef, undef, undef, undef, undef, undef, undef, undef, undef, undef, undef, undef, undef, undef, undef, undef, undef, undef, undef, undef, .int .i64 0, .bool false, .bool false, undef, undef, undef, undef, .bool false, .int .i64 0], defers := { target := .collected D, args := #[] } :: [{ target := .collected D1, args := #[] }] } ∧ V.heap[D]? = some (.deferred (some [])) ∧ W9.heap.size ≤ D ∧ Below W9.heap.size W9 V ∧ Boxed V B13 3 (.int .i64 (L : Int)) ∧ V.heap[D1]? = some (.deferred (some [])) ∧ D1 ≠ D) ?_ ?_
      · refine wpIn_range_X (by decide) (gf := 21) (lb := #[.pointer (some ⟨Bo, 0, none⟩), .pointer (some ⟨Bb, 0, none⟩)]) rfl (enters_of Try.func21 (by kernel_rfl) rfl) HSeq.out (HBm1.out.trans (hA.mono (by have := HSm1.out; omega))) (fun _ => rfl)
          (fun b => b = T + 1 ∨ b = B13) (fun b hb => by have := (HY.out b hb).2; have := HSm1.out; omega) hX
          (fun pre V => ((pre <+: ts) ∧ Boxed V B13 3 (.int .i64 (pre.length : Int))) ∧ Below W9.heap.size W9 V ∧ V.heap[D1]? = some (.deferred (some [])))
          (fun cd pre V => (cd = .ret ∧ ¬ (pre <+: ts)))
          (fun s U V row hs hg hr => ⟨OwnFrom.and (ownFrom_pure _ (fun pre : List Trn => pre <+: ts)) (Own.from (boxed_own B13 _ (fun pre : List Trn => .int .i64 (pre.length : Int))) _) s U V row hs.1 hg hr, ownFrom_below (β := List Trn) (Nat.le_refl _) (by omega) s U V row hs.2.1 hg hr, (hg.block D1 (Array.getElem?_eq_some_iff.1 hs.2.2).1 (fun e => by have := (hr D1 e.symm).1; have := HD1.out; omega)).trans hs.2.2⟩)
          (fun cd s U V row hs hg hr => hs)
          ⟨⟨List.nil_prefix, hbk⟩, hA, HZ1.out⟩
          (fun x a' V => ∃ Bx, B13 < Bx ∧ Has V Bx (.cells #[.int .i64 x.at_, .int .i64 x.phase, .bool x.cap] 32 (0, 0)) ∧ a' = { tmps := #[.slice A n c, .bool bub, .int .u8 few, undef, undef, .pointer (some ⟨T, 0, none⟩), .pointer (some ⟨T + 1, 0, none⟩), .pointer (some ⟨B9, 0, none⟩), (.func (.func 21) #[] #[.pointer (some ⟨Bo, 0, none⟩), .pointer (some ⟨Bb, 0, none⟩)]), .pointer (some ⟨B12, 0, none⟩), .pointer (some ⟨B13, 0, none⟩), .pointer (some ⟨Bx, 0, none⟩), .bool true, .bool false, .slice A n c, .int .i64 (n : Int), .bool false, .slice A n c, .bool bub, .slice Aw L cw, .slice A n c, .bool bub, (.func (.func 21) #[] #[.pointer (some ⟨Bo, 0, none⟩), .pointer (some ⟨Bb, 0, none⟩)]), (.func (.func 21) #[] #[.pointer (some ⟨Bo, 0, none⟩), .pointer (some ⟨Bb, 0, none⟩)]), .bool false, .int .i64 1, .bool true, .int .i64 0, .int .i64 1, (.func (.func 21) #[] #[.pointer (some ⟨Bo, 0, none⟩), .pointer (some ⟨Bb, 0, none⟩)]), .agg #[.int .i64 x.at_, .int .i64 x.phase, .bool x.cap], undef, undef, undef, undef, undef, undef, undef, undef, undef, undef, undef, undef, undef, undef, undef, undef, undef, undef, undef, undef, undef, undef, .int .i64 0, .bool false, .bool false, undef, undef, undef, undef, .bool false, .int .i64 0], defers := [] })
          (fun x a' _ U V row hs hg hr => by obtain ⟨Bx, h1, h2, h3⟩ := hs; exact ⟨Bx, h1, has_own Bx (fun (_ : Unit) => #[.int .i64 x.at_, .int .i64 x.phase, .bool x.cap]) _ _ () U V row h2 hg (fun r e => (hr r e).2), h3⟩)
          ?assign ?body ?done ?stop
        case assign =>
          rintro l pre x V K ⟨⟨hp, q0⟩, hB, hz⟩ hK
          have hlt := q0.lt
          dsimp only [encT]
          gi_wp2
          exact hK _ _ (KpX.alloc _ _) ⟨⟨hp, q0.alloc _⟩, hB.alloc hB.size _, (Below.heap_alloc _ _ _ (Array.getElem?_eq_some_iff.1 hz).1).trans hz⟩ ⟨V.heap.size, hlt, Has.fresh V (.cells #[.int .i64 x.at_, .int .i64 x.phase, .bool x.cap] 32), rfl⟩
        case body =>
          rintro l pre x a' V ⟨⟨hp, q0⟩, hB, hz⟩ ⟨Bx, hBx, bX, rfl⟩ hlt
          have hk : pre.length < ts.length := by rw [HL.out]; exact hlt
          obtain ⟨b, off, rfl, c0, c1, c2⟩ := three_of (HIm1.out.below hB) hk
          obtain ⟨y, hy⟩ : ∃ y, y = ts[pre.length] := ⟨_, rfl⟩
          rw [← hy] at c0 c1 c2
          have d0 := bX.cell 0
          have d1 := bX.cell 1
          have d2 := bX.cell 2
          have g7 : Boxed V T 5 (.int .u8 few) := (hB.block _ Jm71.out.lt).trans Jm71.out
          have g8 : Boxed V (T + 1) 4 (.bool false) := (hB.block _ Jm81.out.lt).trans Jm81.out
          have g9 : Boxed V B9 24 (.slice (some ⟨b, off, none⟩) L cw) := (hB.block _ Jm91.out.lt).trans Jm91.out
          have gi : Boxed V B12 3 (.int .i64 1) := (hB.block _ Jmi1.out.lt).trans Jmi1.out
          have HBi : Hid (B12 < B13) := Lib.hid (by rw [HBk1.out]; exact Jmi1.out.lt)
          obtain ⟨k, ek⟩ : ∃ k, k = pre.length := ⟨_, rfl⟩
          rw [← ek] at c0 c1 c2 q0 hk hlt
          have HE := Lib.hid ek
          have HPre : Hid (pre ++ [x] <+: ts ↔ x = y) := Lib.hid (by
            rw [pre_snoc hp (by rw [← ek]; exact hk)]
            have e9 : ts[pre.length]'(by rw [← ek]; exact hk) = y := hy.symm
            rw [e9]
            exact ⟨fun h => h.symm, fun h => h.symm⟩)
          have k0 := q0.cell
          have k1 := q0.frozen
          have k2 := g7.cell
          have k3 := g8.cell
          have k4 := g8.frozen
          have k5 := g9.cell
          have k6 := gi.cell
          have y0 : decide ((L : Int) ≤ (k : Int)) = false := by rw [decide_eq_false_iff_not]; omega
          have y1 : decide (L ≤ k) = false := by rw [decide_eq_false_iff_not]; omega
          have y2 : (k : Int) < (L : Int) := by omega
          obtain ⟨x0, x1, x2⟩ := x
          obtain ⟨z0', z1', z2'⟩ := y
          dsimp only at c0 c1 c2 d0 d1 d2
          have G7 := Lib.hid g7
          have G8 := Lib.hid g8
          have GI := Lib.hid gi
          have Q0 := Lib.hid q0
          have HB := Lib.hid hB
          have HBks : Hid (B13 = W9.heap.size) := HBk1
          have HZ := Lib.hid hz
          have HXD : Hid (¬ (D1 = T + 1 ∨ D1 = B13)) := Lib.hid (by have := HD1.out; have := HD1T.out; have := HBk1.out; omega)
          clear hz
          clear g7 g8 g9 gi q0 bX hB hy hp ek hk hlt hBx hA hbk hX hTB
          by_cases e0 : x0 = z0'
          · subst e0
            by_cases e1 : x1 = z1'
            · subst e1
              by_cases e2 : x2 = z2'
              · subst e2
                have HPx : Hid (pre ++ [(⟨x0, x1, x2⟩ : Trn)] <+: ts) := Lib.hid (HPre.out.2 rfl)
                have hwk : IntKind.i64.wrap ((k : Int) + 1) = (k : Int) + 1 := wrap_small (by omega) (by omega)
                have hwf : IntKind.i64.wrap few = few := wrap_small (by omega) (by omega)
                gi_wp2
                refine region_round_quiet hmx (by kernel_rfl) (by kernel_rfl) ?_
                repeat (gi_big_quiet_step (fail))
                refine wpQuietIn_nil ?_
                intro _ hw'
                obtain ⟨nq, hw''⟩ := hw'
                subst hw''
                obtain ⟨U, eU⟩ : ∃ U, U = V.drewN nq := ⟨_, rfl⟩
                have q0 : Boxed U B13 3 (.int .i64 (k : Int)) := by rw [eU]; exact Q0.out
                have q7 : Boxed U T 5 (.int .u8 few) := by rw [eU]; exact G7.out
                have q8 : Boxed U (T + 1) 4 (.bool false) := by rw [eU]; exact G8.out
                have qi : Boxed U B12 3 (.int .i64 1) := by rw [eU]; exact GI.out
                have hVU : Below V.heap.size V U := by rw [eU]; exact below_draws (Below.refl _ _) nq
                have HBU : Hid (Below W9.heap.size W9 U) := Lib.hid (HB.out.trans (hVU.mono HB.out.size))
                have HVU := Lib.hid hVU
                rw [← eU]
                clear eU hVU c0 c1 c2 d0 d1 d2 k0 k1 k2 k3 k4 k5 k6
                have m0 := (q0.set (.int .i64 ((k : Int) + 1))).cell
                have m7 := (q7.other (B' := B13) (by have := HTB.out; omega) (.int .i64 ((k : Int) + 1))).cell
                have mi := (qi.other (B' := B13) (by have := HBi.out; omega) (.int .i64 ((k : Int) + 1))).cell
                have n0 := q0.cell
                have n1 := q0.frozen
                have M0 := Lib.hid (q0.set (.int .i64 ((k : Int) + 1)))
                have HKx : Hid (KpX (fun b => b = T + 1 ∨ b = B13) 32 V (U.setCell ⟨B13, 0, none⟩ (.int .i64 ((k : Int) + 1)))) := Lib.hid ((KpX.of_below HVU.out).trans (KpX.setCell (.inr rfl) _ _ _))
                have HBe : Hid (Below W9.heap.size W9 (U.setCell ⟨B13, 0, none⟩ (.int .i64 ((k : Int) + 1)))) := Lib.hid (HBU.out.setCell (p := ⟨B13, 0, none⟩) (by rw [HBks.out]; exact Nat.le_refl _) _)
                clear q0 q7 q8 qi
                gi_wp2
                exact ⟨HKx.out, ⟨⟨HPx.out, by rw [List.length_append, List.length_singleton, ← HE.out]; exact M0.out⟩, HBe.out, HKx.out.same HXD.out HZ.out (fun _ _ e => by cases e)⟩⟩
              · have z : (x2 == z2') = false := by simp [e2]
                have HNe : Hid ((⟨x0, x1, x2⟩ : Trn) ≠ ⟨x0, x1, z2'⟩) := Lib.hid (fun h => e2 (by cases h; rfl))
                clear e2
                gi_wp2
                refine region_round_quiet hmx (by kernel_rfl) (by kernel_rfl) ?_
                repeat (gi_big_quiet_step (fail))
                refine wpQuietIn_nil ?_
                intro _ hw'
                obtain ⟨nq, hw''⟩ := hw'
                subst hw''
                obtain ⟨U, eU⟩ : ∃ U, U = V.drewN nq := ⟨_, rfl⟩
                have q0 : Boxed U B13 3 (.int .i64 (k : Int)) := by rw [eU]; exact Q0.out
                have q7 : Boxed U T 5 (.int .u8 few) := by rw [eU]; exact G7.out
                have q8 : Boxed U (T + 1) 4 (.bool false) := by rw [eU]; exact G8.out
                have qi : Boxed U B12 3 (.int .i64 1) := by rw [eU]; exact GI.out
                have hVU : Below V.heap.size V U := by rw [eU]; exact below_draws (Below.refl _ _) nq
                have HBU : Hid (Below W9.heap.size W9 U) := Lib.hid (HB.out.trans (hVU.mono HB.out.size))
                have HVU := Lib.hid hVU
                rw [← eU]
                clear eU hVU c0 c1 c2 d0 d1 d2 k0 k1 k2 k3 k4 k5 k6
                have n3 := q8.cell
                have n4 := q8.frozen
                clear q0 q7 q8 qi
                gi_wp2
                exact ⟨(KpX.of_below HVU.out).trans (KpX.setCell (X := fun b => b = T + 1 ∨ b = B13) (.inl rfl) _ _ _), ⟨rfl, fun h => HNe.out (HPre.out.1 h)⟩⟩
            · have z : (x1 == z1') = false := by simp [e1]
              have HNe : Hid ((⟨x0, x1, x2⟩ : Trn) ≠ ⟨x0, z1', z2'⟩) := Lib.hid (fun h => e1 (by cases h; rfl))
              clear e1
              gi_wp2
              refine region_round_quiet hmx (by kernel_rfl) (by kernel_rfl) ?_
              repeat (gi_big_quiet_step (fail))
              refine wpQuietIn_nil ?_
              intro _ hw'
              obtain ⟨nq, hw''⟩ := hw'
              subst hw''
              obtain ⟨U, eU⟩ : ∃ U, U = V.drewN nq := ⟨_, rfl⟩
              have q0 : Boxed U B13 3 (.int .i64 (k : Int)) := by rw [eU]; exact Q0.out
              have q7 : Boxed U T 5 (.int .u8 few) := by rw [eU]; exact G7.out
              have q8 : Boxed U (T + 1) 4 (.bool false) := by rw [eU]; exact G8.out
              have qi : Boxed U B12 3 (.int .i64 1) := by rw [eU]; exact GI.out
              have hVU : Below V.heap.size V U := by rw [eU]; exact below_draws (Below.refl _ _) nq
              have HBU : Hid (Below W9.heap.size W9 U) := Lib.hid (HB.out.trans (hVU.mono HB.out.size))
              have HVU := Lib.hid hVU
              rw [← eU]
              clear eU hVU c0 c1 c2 d0 d1 d2 k0 k1 k2 k3 k4 k5 k6
              have n3 := q8.cell
              have n4 := q8.frozen
              clear q0 q7 q8 qi
              gi_wp2
              exact ⟨(KpX.of_below HVU.out).trans (KpX.setCell (X := fun b => b = T + 1 ∨ b = B13) (.inl rfl) _ _ _), ⟨rfl, fun h => HNe.out (HPre.out.1 h)⟩⟩
          · have z : (x0 == z0') = false := by simp [e0]
            have HNe : Hid ((⟨x0, x1, x2⟩ : Trn) ≠ ⟨z0', z1', z2'⟩) := Lib.hid (fun h => e0 (by cases h; rfl))
            clear e0
            gi_wp2
            refine region_round_quiet hmx (by kernel_rfl) (by kernel_rfl) ?_
            repeat (gi_big_quiet_step (fail))
            refine wpQuietIn_nil ?_
            intro _ hw'
            obtain ⟨nq, hw''⟩ := hw'
            subst hw''
            obtain ⟨U, eU⟩ : ∃ U, U = V.drewN nq := ⟨_, rfl⟩
            have q0 : Boxed U B13 3 (.int .i64 (k : Int)) := by rw [eU]; exact Q0.out
            have q7 : Boxed U T 5 (.int .u8 few) := by rw [eU]; exact G7.out
            have q8 : Boxed U (T + 1) 4 (.bool false) := by rw [eU]; exact G8.out
            have qi : Boxed U B12 3 (.int .i64 1) := by rw [eU]; exact GI.out
            have hVU : Below V.heap.size V U := by rw [eU]; exact below_draws (Below.refl _ _) nq
            have HBU : Hid (Below W9.heap.size W9 U) := Lib.hid (HB.out.trans (hVU.mono HB.out.size))
            have HVU := Lib.hid hVU
            rw [← eU]
            clear eU hVU c0 c1 c2 d0 d1 d2 k0 k1 k2 k3 k4 k5 k6
            have n3 := q8.cell
            have n4 := q8.frozen
            clear q0 q7 q8 qi
            gi_wp2
            exact ⟨(KpX.of_below HVU.out).trans (KpX.setCell (X := fun b => b = T + 1 ∨ b = B13) (.inl rfl) _ _ _), ⟨rfl, fun h => HNe.out (HPre.out.1 h)⟩⟩
        case done =>
          rintro D ys V hD rfl ⟨⟨hp, q0⟩, hB, hz⟩ hK
          rw [HL.out] at q0
          exact ⟨.inl rfl, D, rfl, hK, by omega, hB, q0, hz, by have := HD1.out; omega⟩
        case stop =>
          rintro D cd pre V hD hpre ⟨rfl, hn⟩ hK
          exact absurd hpre hn
      · rintro e a' V2 ⟨he, D2, rfl, hD2, hle2, hBV, hkL, hz, hne⟩
        refine both_exits he ?_
        have gi : Boxed V2 B12 3 (.int .i64 1) := (hBV.block _ Jmi1.out.lt).trans Jmi1.out
        have g9 : Boxed V2 B9 24 (.slice Aw L cw) := (hBV.block _ Jm91.out.lt).trans Jm91.out
        have g8 : Boxed V2 (T + 1) 4 (.bool false) := (hBV.block _ Jm81.out.lt).trans Jm81.out
        have ki := gi.cell
        have k9 := g9.cell
        have kL := hkL.cell
        gi_wp2
        rw [roundsIn_succ]
        have g8' := g8.alloc (.cells #[.int .i64 2] 3)
        have k8 := g8'.cell
        have f8 := g8'.frozen
        gi_wp2
        have hB2 : Below V2.heap.size V2 (V2.alloc (.cells #[.int .i64 2] 3)) := (Below.refl _ V2).alloc (Nat.le_refl _) _
        have hW2 : Below T w (V2.alloc (.cells #[.int .i64 2] 3)) := (HW9T.out.trans (hBV.mono (Nat.le_trans hTw HW9T.out.size))).trans (hB2.mono (Nat.le_trans (Nat.le_trans hTw HW9T.out.size) hBV.size))
        obtain ⟨W11, eW11⟩ : ∃ W11, W11 = V2.alloc (.cells #[.int .i64 2] 3) := ⟨_, rfl⟩
        have e2 : W11.heap[D2]? = some (.deferred (some [])) := by rw [eW11]; exact (hB2.block _ (Array.getElem?_eq_some_iff.1 hD2).1).trans hD2
        have e1 : W11.heap[D1]? = some (.deferred (some [])) := by rw [eW11]; exact (hB2.block _ (Array.getElem?_eq_some_iff.1 hz).1).trans hz
        rw [← eW11] at g8' hW2 ⊢
        clear eW11 hB2 k8 f8 ki k9 kL gi g9 g8 hkL hz hD2
        have hw2 : w.heap.size ≤ D2 := Nat.le_trans HW9T.out.size hle2
        have n2 := (KeepsOthers.setCell W11 ⟨T + 1, 0, none⟩ (.bool true)).same D2 _ e2 rfl
        have n1 := (KeepsOthers.setCell W11 ⟨T + 1, 0, none⟩ (.bool true)).same D1 _ e1 rfl
        have n1' := (World.putObj_heap_other (o := .deferred none) hne).trans n1
        refine ⟨by simp, .inl ⟨_, _, rfl, run_takeDeferred n2, by simp, .inl ⟨_, _, rfl, run_takeDeferred n1', ?_⟩⟩⟩
        have hF1 := cell_kept (g8'.set (.bool true)).cell (grownBy_putObj' _ D2 (.deferred none)) (fun r e => by cases e; exact ⟨_, n2, rfl⟩)
        have hF := cell_kept hF1 (grownBy_putObj' _ D1 (.deferred none)) (fun r e => by cases e; exact ⟨_, n1', rfl⟩)
        refine ⟨.bool true, ?_, rfl, ?_⟩
        · simp [results, Try.f6, go_sem, hF]
        · rw [← HT.out]
          exact ((hW2.setCell (p := ⟨T + 1, 0, none⟩) (Nat.le_succ _) _).trans (belowK_b (w := w) hTw _ D2 _ _ hw2 n2 rfl rfl)).trans (belowK_b (w := w) hTw _ D1 _ _ HD1w.out n1' rfl rfl)
end
end Go.Proofs.Ytekmgaigppenlaa

namespace Go.Proofs.Ytekmgaigppenlaa
open Go.ChangeShapes Go.WideShapes Go.ChangeAt Go.RowKit
open Go.ChangeMaps (open_string shut_string)

set_option maxRecDepth 100000 in
theorem walkEach_lifted (os : Os) (started : os.Started) (H : Type) (enc : TypeId × Value → H) :
    ReturnsInHanded {} Try.checked os 6 .any (Rows.walkEachSpec.pre6 enc Try.prog Try.f6 Rows.walkEachRow.domain false) (Rows.walkEachSpec.post enc Try.prog Try.f6 false true false false) := by
  refine returnsInHanded_of_change (C := Try.checked) own started (by kernel_rfl) Try.func6
    (ChangeSpec.witness6 (enc := enc) (C := Try.checked) false ⟨#[], #[.slice none 0 0, .bool false, .int .u8 0], []⟩ 8 (by kernel_rfl) (by kernel_rfl) (by kernel_rfl) (by kernel_rfl)) ?_
  intro W base args ds gs before hval0 hW hcnd _
  have hval : ∀ (j : Nat) t v, Try.f6.params[j]? = some t → args[j]? = some v → Value.okWide Try.prog W .any base t v := hval0
  clear hval0 hcnd
  have hW' := hW
  obtain ⟨p, q, hA0, hV, rfl, hfz, hnd⟩ := hW
  have hA : DataW.TrodAll enc Try.prog W 0 (fun _ => true) true Try.f6.params.toList args.toList ds p := hA0
  rw [Try.params6] at hA hval
  obtain ⟨v0, vs0, d0, ds0, p0, q0, hargs, rfl, rfl, h0, r0⟩ := trodAll_cons hA
  obtain ⟨v1, vs1, d1, ds1, p1, q1, rfl, rfl, rfl, h1, r1⟩ := trodAll_cons r0
  obtain ⟨v2, vs2, d2, ds2, p2, q2, rfl, rfl, rfl, h2, r2⟩ := trodAll_cons r1
  obtain ⟨rfl, rfl, rfl⟩ := trodAll_nil r2
  obtain rfl : args = #[v0, v1, v2] := by cases args; simp_all
  obtain ⟨rfl, rfl⟩ := trodVars_none hV
  obtain ⟨A0, n0, c0, rfl⟩ := okWide_slice Try.underlying22 (hval 0 22 v0 rfl rfl)
  have k0 := h0
  have lt0 : ∀ x ∈ p0, x.block < W.heap.size := by obtain ⟨m, hm⟩ := k0; exact DataW.trod_lt m _ _ _ hm
  obtain ⟨x0, l0, y0, z0, q0x⟩ : ∃ xs : List Stp, xs.length = n0 ∧ RecIn RS W A0 c0 xs ∧ n0 ≤ c0 ∧ n0 ≤ maxLen := by
    obtain ⟨fuel, hf⟩ := h0
    exact steps_in hf
  obtain ⟨b1, rfl, rfl, rfl⟩ := open_bool Try.underlying4 (hval 1 4 v1 rfl rfl) h1
  obtain ⟨a2, rfl, rfl, rfl, w2⟩ := open_int Try.underlying5 (hval 2 5 v2 rfl rfl) h2
  clear hA0
  refine (walkEach_any A0 n0 c0 x0 b1 a2 W l0 y0 (ib8 w2)).mono fun e W' ⟨he, bel⟩ => ?_
  subst he
  exact ⟨_, rfl, _, _, _, [], _, [], hW', trodAll_mk1 (shut_bool Try.underlying4 _), (trodAll_cons_mk (Below.trod laidOut (by kernel_rfl) (of_decide_eq_true (by kernel_rfl)) k0 bel lt0) (trodAll_cons_mk (shut_bool Try.underlying4 b1) (trodAll_cons_mk (shut_int Try.underlying5 w2) trodAll_mk0))), rfl, bel.frame _, fun h => by cases h⟩

theorem walkEach_holds : Rows.WalkEachSaid :=
  OpenClaim.holds_of_wide 6 Try.f6 rfl rfl rfl rfl rfl rfl rfl ⟨rfl, rfl, rfl, rfl, rfl⟩ rfl rfl rfl rfl rfl (by kernel_rfl) Try.func6 (by kernel_rfl)
    (of_decide_eq_true (by kernel_rfl)) (by unfold Func.isWrapper; rw [if_neg (by decide +kernel)]; exact ⟨rfl, rfl⟩)
    (fun os started H enc _ => walkEach_lifted os started H enc)
end Go.Proofs.Ytekmgaigppenlaa
