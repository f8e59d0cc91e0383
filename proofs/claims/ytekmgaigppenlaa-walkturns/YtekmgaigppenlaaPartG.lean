/-
  What towncrierlaw16.WalkTurns does: it answers true.
  Proved: the law answers true for every input, and each argument reads afterwards as it read before. No condition.
-/
import Derived.Test.YtekmgaigppenlaaPartF
import Derived.Test.YtekmgaigppenlaaRows
import Derived.ProofKit
import Derived.OpenShut
import Derived.ChangeOld

namespace Go.Proofs.Ytekmgaigppenlaa
open Go Go.RowKit Go.Shelf
attribute [local go_sem] Oper.semAt_some

section
set_option maxRecDepth 100000 in
set_option maxHeartbeats 8000000 in
theorem walkTurns_any (A : Option Addr) (n c : Nat) (p : List Stp) (bub : Bool) (at_ few : Int) (w : World) (hn : p.length = n) (hR : RecIn RS w A c p) (hf : 0 ≤ few ∧ few ≤ 255) :
    Calls Try.prog 3 #[.slice A n c, .bool bub, .int .i64 at_, .int .u8 few] w fun e w' => e = .returned (.bool true) ∧ Below w.heap.size w w' := by
  have HR := Lib.hid hR
  have HN := Lib.hid hn
  have hmx : Try.prog.follows .mixedOrders = true := by kernel_rfl
  have k7 := (Boxed.new w 5 (.int .u8 few)).alloc (.cells #[.bool false] 4)
  have k8 := Boxed.new (w.alloc (.cells #[.int .u8 few] 5)) 4 (.bool false)
  have hB : Below w.heap.size w ((w.alloc (.cells #[.int .u8 few] 5)).alloc (.cells #[.bool false] 4)) := ((Below.refl _ w).alloc (Nat.le_refl _) _).alloc (by simp) _
  simp only [World.size_alloc] at k8
  obtain ⟨T, eT⟩ : ∃ T, T = w.heap.size := ⟨_, rfl⟩
  have HT := Lib.hid eT
  have hTw : T ≤ w.heap.size := by omega
  obtain ⟨W9, eW9⟩ : ∃ W9, W9 = (w.alloc (.cells #[.int .u8 few] 5)).alloc (.cells #[.bool false] 4) := ⟨_, rfl⟩
  rw [← eT, ← eW9] at k7 k8 hB
  have K7 := Lib.hid k7
  have K8 := Lib.hid k8
  have HB := Lib.hid hB
  have HT9 := Lib.hid eW9
  clear hR hn k7 k8 hB eW9
  refine (callsIn_wide (n := 9)).1 ?_
  refine callsIn_of_wp_marks Try.func3 rfl trivial ?_ rfl
  simp only [Try.ntmps3, List.size_toArray, List.length_cons, List.length_nil, Nat.reduceAdd, Nat.reduceSub, Array.replicate_succ, Array.replicate_zero, List.push_toArray, List.append_toArray, List.nil_append, List.cons_append]
  by_cases hl : (300 : Int) < n
  · have z0 : decide ((300 : Int) < n) = true := by rw [decide_eq_true_iff]; exact hl
    clear eT
    gi_wp2_with (fail)
    rw [← HT.out, ← HT9.out]
    refine ⟨trivial, (callsIn_wide.2 (awake16 _)).mono ?_⟩
    rintro e w0 ⟨rfl, hb0⟩
    have h7 : Boxed w0 T 5 (.int .u8 few) := (hb0.block _ K7.out.lt).trans K7.out
    have h8 : Boxed w0 (T + 1) 4 (.bool false) := (hb0.block _ K8.out.lt).trans K8.out
    have HB0 := Lib.hid (HB.out.trans (hb0.mono (Nat.le_trans hTw HB.out.size)))
    have d8 := h8.cell
    have f8 := h8.frozen
    have H7 := Lib.hid h7
    have H8 := Lib.hid h8
    clear h7 h8 hb0
    gi_wp2
    have hF := (H8.out.set (.bool true)).cell
    refine ⟨.bool true, ?_, rfl, ?_⟩
    · simp [results, Try.f3, go_sem, hF]
    · rw [← HT.out]
      exact HB0.out.setCell (p := ⟨T + 1, 0, none⟩) (Nat.le_succ _) _
  · have z0 : decide ((300 : Int) < n) = false := by rw [decide_eq_false_iff_not]; exact hl
    have hl0 : n ≤ 300 := by omega
    have hl3 : n ≤ 1000 := by omega
    clear eT hl
    gi_wp2_with (fail)
    rw [← HT.out, ← HT9.out]
    refine ⟨trivial, (callsIn_wide.2 (awake16 _)).mono ?_⟩
    rintro e w0 ⟨rfl, hb0⟩
    have h7 : Boxed w0 T 5 (.int .u8 few) := (hb0.block _ K7.out.lt).trans K7.out
    have h8 : Boxed w0 (T + 1) 4 (.bool false) := (hb0.block _ K8.out.lt).trans K8.out
    have HB0 := Lib.hid (HB.out.trans (hb0.mono (Nat.le_trans hTw HB.out.size)))
    have d8 := h8.cell
    have f8 := h8.frozen
    have H7 := Lib.hid h7
    have H8 := Lib.hid h8
    clear h7 h8 hb0
    have HR0 := Lib.hid (HR.out.below (HB0.out.mono (Nat.le_refl _) |> fun k => by rw [HT.out] at k; exact k))
    gi_wp2_with (fail)
    refine ⟨trivial, (callsIn_wide.2 (rfTurns bub HN.out hl3 HR0.out)).mono ?_⟩
    rintro e w1 ⟨x1, rfl, hx1, hb1⟩
    obtain ⟨Aw, cw, rfl, hI1⟩ := hx1.form
    obtain ⟨ts, hts⟩ : ∃ ts, ts = turnsL p bub := ⟨_, rfl⟩
    rw [← hts] at hI1 ⊢
    obtain ⟨L, hL⟩ : ∃ L, ts.length = L := ⟨_, rfl⟩
    rw [hL]
    have hL6 : L ≤ 600 := by
      have := turns_le p bub
      rw [← hts, hL, HN.out] at this
      omega
    have HTS := Lib.hid hts
    have HL := Lib.hid hL
    have g7 : Boxed w1 T 5 (.int .u8 few) := (hb1.block _ H7.out.lt).trans H7.out
    have g8 : Boxed w1 (T + 1) 4 (.bool false) := (hb1.block _ H8.out.lt).trans H8.out
    have HB1 : Hid (Below T w w1) := Lib.hid (HB0.out.trans (hb1.mono (Nat.le_trans hTw HB0.out.size)))
    have hA : Below w1.heap.size w1 (w1.alloc (.cells #[.slice Aw L cw] 24)) := (Below.refl _ w1).alloc (Nat.le_refl _) _
    obtain ⟨W2, eW2⟩ : ∃ W2, W2 = (w1.alloc (.cells #[.slice Aw L cw] 24)) := ⟨_, rfl⟩
    have HW2 := Lib.hid eW2
    have K7' : Hid (Boxed W2 T 5 (.int .u8 few)) := Lib.hid (by rw [eW2]; exact g7.alloc _)
    have K8' : Hid (Boxed W2 (T + 1) 4 (.bool false)) := Lib.hid (by rw [eW2]; exact g8.alloc _)
    have K9 : Hid (Boxed W2 w1.heap.size 24 (.slice Aw L cw)) := Lib.hid (by rw [eW2]; exact Boxed.new w1 _ _)
    have HB2 : Hid (Below T w W2) := Lib.hid (by rw [eW2]; exact HB1.out.alloc (Nat.le_trans hTw HB1.out.size) _)
    have HI2 : Hid (RecIn RT W2 Aw cw ts) := Lib.hid (by rw [eW2]; exact hI1.below hA)
    have HR2 : Hid (RecIn RS W2 A c p) := Lib.hid (by rw [eW2]; exact (HR0.out.below hb1).below hA)
    clear hx1 hI1 hts hL g7 g8 hA eW2 hb1 d8 f8
    obtain ⟨B9, hB9⟩ : ∃ B9, B9 = w1.heap.size := ⟨_, rfl⟩
    have HB9 := Lib.hid hB9
    clear hB9
    gi_wp2
    rw [← HW2.out, ← HB9.out]
    have HZ9 : Hid (B9 < W2.heap.size) := Lib.hid (by have := K9.out.lt; rw [HB9.out]; exact this)
    have K9' : Hid (Boxed W2 B9 24 (.slice Aw L cw)) := Lib.hid (by rw [HB9.out]; exact K9.out)
    have e9 := K9'.out.cell
    have HRd : Hid (RecIn RS W2.drew A c p) := Lib.hid (HR2.out.below (Below.refl _ _).drew)
    have HId : Hid (RecIn RT W2.drew Aw cw ts) := Lib.hid (HI2.out.below (Below.refl _ _).drew)
    have HS2 : Hid (W2.heap.size ≤ W2.drew.heap.size) := Lib.hid (Nat.le_refl _)
    obtain ⟨R, hRR⟩ : ∃ R, R = targetL p at_ := ⟨_, rfl⟩
    have HT1 : Hid (∀ U, RecIn RS U A c p → Calls Try.prog 11 #[.slice A n c, .int .i64 at_] U fun e w' => e = .returned (.int .i64 R) ∧ Below U.heap.size U w') := Lib.hid fun U h => by rw [hRR]; exact wkTarget at_ HN.out hl3 h
    have HT2 : Hid (∀ U, RecIn RS U A c p → Calls Try.prog 12 #[.slice A n c, .int .i64 at_] U fun e w' => e = .returned (.int .i64 R) ∧ w' = U) := Lib.hid fun U h => by rw [hRR]; exact rfTarget A n c p at_ U HN.out hl3 h
    have HT3 : Hid (∀ U, RecIn RS U A c p → Calls Try.prog 10 #[.slice A n c, .bool bub] U fun e w' => ∃ x, e = .returned x ∧ Recs RT 32 U.heap.size w' x ts ∧ Below U.heap.size U w') := Lib.hid fun U h => by rw [HTS.out]; exact wkTurns bub HN.out hl3 h
    have zR : (R != R) = false := by simp
    clear hRR
    have HL1 : Hid (L ≤ 1000000) := Lib.hid (by omega)
    refine wpIn_mono (?_ : Code.wpIn _ _ _ _ (Exit.then (fun a' w' => (∃ u21 u22 u23 u24 u25 u26 u27 u28 u29 u30 u31 u32 u33 u34 : Value, a' = { tmps := #[.slice A n c, .bool bub, .int .i64 at_, .int .u8 few, undef, undef, undef, .pointer (some ⟨T, 0, none⟩), .pointer (some ⟨T + 1, 0, none⟩), .pointer (some ⟨B9, 0, none⟩), undef, undef, undef, .bool true, .bool false, .slice A n c, .int .i64 (n : Int), .bool false, .slice A n c, .bool bub, .slice Aw L cw, u21, u22, u23, u24, u25, u26, u27, u28, u29, u30, u31, u32, u33, u34, .bool false, undef, undef, undef, undef, undef, undef, undef, undef, undef, undef, undef, undef, undef, undef, undef, undef, undef, undef, undef, undef, undef, undef, undef, undef, undef, undef, undef, undef, undef], defers := [] }) ∧ Below W2.heap.size W2 w') (fun _ _ _ => False)) _ _) ?_
    · gi_region_with_o (first
        | (refine ⟨trivial, ?_⟩; gi_at_call 10; refine (callsIn_wide.2 (HT3.out _ HRd.out)).mono ?_; rintro e w3 ⟨x3, rfl, hx3, hb3⟩; obtain ⟨A3, c3, rfl, hI3⟩ := hx3.form; rw [HL.out]; have e10 : w3.cell? ⟨B9, 0, none⟩ = some (.slice Aw L cw) := (show Boxed w3 B9 24 (.slice Aw L cw) from (hb3.block B9 HZ9.out).trans K9'.out).cell; have HI3 := Lib.hid hI3; have HJ3 := Lib.hid (HId.out.below hb3); have HR3 := Lib.hid (HRd.out.below hb3); have HB3 : Hid (Below W2.heap.size W2 w3) := Lib.hid ((Below.refl _ _).drew.trans hb3); clear hx3 hI3 hb3)
        | (refine ⟨trivial, ?_⟩; gi_at_call 9; refine (callsIn_wide.2 (turnsSame ts L A3 Aw c3 cw _ HL.out HL1.out HI3.out HJ3.out)).mono ?_; rintro e w4 ⟨rfl, m, hw4⟩; have HR4 : Hid (RecIn RS w4 A c p) := Lib.hid (by rw [hw4]; exact HR3.out.below (below_draws (Below.refl _ _) m)); have HB4 : Hid (Below W2.heap.size W2 w4) := Lib.hid (by rw [hw4]; exact below_draws HB3.out m); clear hw4)
        | (refine ⟨trivial, ?_⟩; gi_at_call 11; refine (callsIn_wide.2 (HT1.out _ HR4.out)).mono ?_; rintro e w5 ⟨rfl, hb5⟩; have HR5 := Lib.hid (HR4.out.below hb5); have HB5 := Lib.hid (HB4.out.trans (hb5.mono HB4.out.size)); clear hb5)
        | (refine ⟨trivial, ?_⟩; gi_at_call 12; refine (callsIn_wide.2 (HT2.out _ HR5.out)).mono ?_; rintro e w6 ⟨rfl, rfl⟩))
      all_goals exact ⟨⟨_, _, _, _, _, _, _, _, _, _, _, _, _, _, rfl⟩, HB5.out⟩
    · rintro e a' w5 h
      cases e with
      | normal =>
        obtain ⟨⟨u21, u22, u23, u24, u25, u26, u27, u28, u29, u30, u31, u32, u33, u34, rfl⟩, hb5⟩ := h
        have HB5 : Hid (Below T w w5) := Lib.hid (HB2.out.trans (hb5.mono (Nat.le_trans hTw HB2.out.size)))
        have HR5 := Lib.hid (HR2.out.below hb5)
        have HI5 := Lib.hid (HI2.out.below hb5)
        have G7 : Hid (Boxed w5 T 5 (.int .u8 few)) := Lib.hid ((hb5.block _ K7'.out.lt).trans K7'.out)
        have G8 : Hid (Boxed w5 (T + 1) 4 (.bool false)) := Lib.hid ((hb5.block _ K8'.out.lt).trans K8'.out)
        have G9 : Hid (Boxed w5 B9 24 (.slice Aw L cw)) := Lib.hid ((hb5.block _ K9'.out.lt).trans K9'.out)
        have qn : ∀ (lb : Array Value) (w : World), (binOp .eql 29 (.func (.func 21) #[] lb) .nilFunc).run Try.prog w = .ok (.bool false) w := fun lb w => fn_eql_nil Try.underlying29 _ _ lb w
        clear hb5 HR2 HI2 K7' K8' K9' K9 HRd HId HT1 HT2 HT3 HB2 e9 HR0 HB1 HB0 H7 H8 HZ9 HS2
        gi_wp2_with (fail)
        refine ⟨trivial, (callsIn_wide.2 (wkEach bub HN.out hl3 HR5.out)).mono ?_⟩
        rintro e w6 ⟨Bo, Bb, Y, rfl, hseq, hY, hb6⟩
        rw [← HTS.out, HL.out] at hseq
        have HSeq := Lib.hid hseq
        have HY := Lib.hid hY
        have HB6 : Hid (Below T w w6) := Lib.hid (HB5.out.trans (hb6.mono (Nat.le_trans hTw HB5.out.size)))
        have HI6 := Lib.hid (HI5.out.below hb6)
        have J7 : Hid (Boxed w6 T 5 (.int .u8 few)) := Lib.hid ((hb6.block _ G7.out.lt).trans G7.out)
        have J8 : Hid (Boxed w6 (T + 1) 4 (.bool false)) := Lib.hid ((hb6.block _ G8.out.lt).trans G8.out)
        have J9 : Hid (Boxed w6 B9 24 (.slice Aw L cw)) := Lib.hid ((hb6.block _ G9.out.lt).trans G9.out)
        have HT5 : Hid (T + 1 < w5.heap.size) := Lib.hid G8.out.lt
        have HS56 : Hid (w5.heap.size ≤ w6.heap.size) := Lib.hid hb6.size
        clear hseq hY hb6 HB5 HR5 HI5 G7 G8 G9
        gi_wp2
        obtain ⟨B11, eB⟩ : ∃ B11, B11 = w6.heap.size := ⟨_, rfl⟩
        have HB11 := Lib.hid eB
        have b11 : Boxed (w6.alloc (.cells #[.int .i64 0] 3)) B11 3 (.int .i64 0) := by rw [eB]; exact Boxed.new w6 _ _
        have hA7 : Below w6.heap.size w6 (w6.alloc (.cells #[.int .i64 0] 3)) := (Below.refl _ w6).alloc (Nat.le_refl _) _
        have hs7 : (w6.alloc (.cells #[.int .i64 0] 3)).heap.size = w6.heap.size + 1 := World.size_alloc _ _
        rw [← eB] at hs7 ⊢
        clear eB
        obtain ⟨W7, eW7⟩ : ∃ W7, W7 = w6.alloc (.cells #[.int .i64 0] 3) := ⟨_, rfl⟩
        rw [← eW7] at b11 hA7 hs7 ⊢
        clear eW7
        have hT6 : T + 1 < w5.heap.size := HT5.out
        have h56 : w5.heap.size ≤ B11 := by
          rw [HB11.out]
          exact HS56.out
        have hX : ∀ b, (b = T + 1 ∨ b = B11) → b < W7.heap.size ∧ ¬ Y b := by
          intro b hb
          rcases hb with rfl | rfl
          · exact ⟨by omega, fun e => by have := (HY.out _ e).1; omega⟩
          · exact ⟨by omega, fun e => by have := (HY.out _ e).2; have := HB11.out; omega⟩
        refine wpIn_range_X (by decide) (gf := 21) (lb := #[.pointer (some ⟨Bo, 0, none⟩), .pointer (some ⟨Bb, 0, none⟩)]) rfl (enters_of Try.func21 (by kernel_rfl) rfl) HSeq.out hA7 (fun _ => rfl)
          (fun b => b = T + 1 ∨ b = B11) (fun b hb => by have := (HY.out b hb).2; have := HB11.out; omega) hX
          (fun pre V => ((pre <+: ts ∧ (pre.length : Int) ≤ few) ∧ Boxed V B11 3 (.int .i64 (pre.length : Int))) ∧ Below w6.heap.size w6 V)
          (fun cd pre V => (cd = .ret ∧ ∃ r, Boxed V (T + 1) 4 (.bool r) ∧ (pre <+: ts → r = true)) ∧ Below T w V)
          (OwnFrom.and (OwnFrom.and (ownFrom_pure _ _) (Own.from (boxed_own B11 _ (fun pre : List Trn => .int .i64 (pre.length : Int))) _)) (ownFrom_below (Nat.le_refl _) (by have := HB11.out; omega)))
          (fun cd => OwnFrom.and (Own.from (fun s U V row hs hg hr => by obtain ⟨h1, r, h2, h3⟩ := hs; exact ⟨h1, r, boxed_own _ _ (fun (_ : Unit) => .bool r) () U V row h2 hg hr, h3⟩) _) (ownFrom_below hTw (by omega)))
          ⟨⟨⟨List.nil_prefix, by simpa using hf.1⟩, b11⟩, hA7⟩
          (fun x a' V => ∃ Bx, B11 < Bx ∧ Has V Bx (.cells #[.int .i64 x.at_, .int .i64 x.phase, .bool x.cap] 32 (0, 0)) ∧ a' = { tmps := #[.slice A n c, .bool bub, .int .i64 at_, .int .u8 few, undef, undef, undef, .pointer (some ⟨T, 0, none⟩), .pointer (some ⟨T + 1, 0, none⟩), .pointer (some ⟨B9, 0, none⟩), (.func (.func 21) #[] #[.pointer (some ⟨Bo, 0, none⟩), .pointer (some ⟨Bb, 0, none⟩)]), .pointer (some ⟨B11, 0, none⟩), .pointer (some ⟨Bx, 0, none⟩), .bool true, .bool false, .slice A n c, .int .i64 (n : Int), .bool false, .slice A n c, .bool bub, .slice Aw L cw, u21, u22, u23, u24, u25, u26, u27, u28, u29, u30, u31, u32, u33, u34, .bool false, .slice A n c, .bool bub, (.func (.func 21) #[] #[.pointer (some ⟨Bo, 0, none⟩), .pointer (some ⟨Bb, 0, none⟩)]), (.func (.func 21) #[] #[.pointer (some ⟨Bo, 0, none⟩), .pointer (some ⟨Bb, 0, none⟩)]), .bool false, (.func (.func 21) #[] #[.pointer (some ⟨Bo, 0, none⟩), .pointer (some ⟨Bb, 0, none⟩)]), .agg #[.int .i64 x.at_, .int .i64 x.phase, .bool x.cap], undef, undef, undef, undef, undef, undef, undef, undef, undef, undef, undef, undef, undef, undef, undef, undef, undef, undef, undef, undef, undef, undef], defers := [] })
          (fun x a' _ U V row hs hg hr => by obtain ⟨Bx, h1, h2, h3⟩ := hs; exact ⟨Bx, h1, has_own Bx (fun (_ : Unit) => #[.int .i64 x.at_, .int .i64 x.phase, .bool x.cap]) _ _ () U V row h2 hg (fun r e => (hr r e).2), h3⟩)
          ?assign ?body ?done ?stop
        case assign =>
          rintro l pre x V K ⟨⟨hp, q0⟩, hB⟩ hK
          have hlt := q0.lt
          dsimp only [encT]
          gi_wp2
          exact hK _ _ (KpX.alloc _ _) ⟨⟨hp, q0.alloc _⟩, hB.alloc hB.size _⟩ ⟨V.heap.size, hlt, Has.fresh V (.cells #[.int .i64 x.at_, .int .i64 x.phase, .bool x.cap] 32), rfl⟩
        case body =>
          rintro l pre x a' V ⟨⟨hp, q0⟩, hB⟩ ⟨Bx, hBx, bX, rfl⟩ hlt
          have hk : pre.length < ts.length := by rw [HL.out]; exact hlt
          obtain ⟨b, off, rfl, c0, c1, c2⟩ := three_of (HI6.out.below hB) hk
          obtain ⟨y, hy⟩ : ∃ y, y = ts[pre.length] := ⟨_, rfl⟩
          rw [← hy] at c0 c1 c2
          have d0 := bX.cell 0
          have d1 := bX.cell 1
          have d2 := bX.cell 2
          have g7 : Boxed V T 5 (.int .u8 few) := (hB.block _ J7.out.lt).trans J7.out
          have g8 : Boxed V (T + 1) 4 (.bool false) := (hB.block _ J8.out.lt).trans J8.out
          have g9 : Boxed V B9 24 (.slice (some ⟨b, off, none⟩) L cw) := (hB.block _ J9.out.lt).trans J9.out
          obtain ⟨k, ek⟩ : ∃ k, k = pre.length := ⟨_, rfl⟩
          rw [← ek] at c0 c1 c2 q0 hk hlt hp
          have HE := Lib.hid ek
          have HPre : Hid (pre ++ [x] <+: ts ↔ x = y) := Lib.hid (by
            obtain ⟨hpre, -⟩ := hp
            rw [pre_snoc hpre (by rw [← ek]; exact hk)]
            have e9 : ts[pre.length]'(by rw [← ek]; exact hk) = y := hy.symm
            rw [e9]
            exact ⟨fun h => h.symm, fun h => h.symm⟩)
          have k0 := q0.cell
          have k1 := q0.frozen
          have k2 := g7.cell
          have k3 := g8.cell
          have k4 := g8.frozen
          have k5 := g9.cell
          have y0 : decide ((L : Int) ≤ (k : Int)) = false := by rw [decide_eq_false_iff_not]; omega
          have y1 : decide (L ≤ k) = false := by rw [decide_eq_false_iff_not]; omega
          have y2 : (k : Int) < (L : Int) := by omega
          obtain ⟨x0, x1, x2⟩ := x
          obtain ⟨z0', z1', z2'⟩ := y
          dsimp only at c0 c1 c2 d0 d1 d2
          have G7 := Lib.hid g7
          have G8 := Lib.hid g8
          have HTB : Hid (T + 1 < B11) := Lib.hid (by omega)
          have Q0 := Lib.hid q0
          have HB := Lib.hid hB
          clear g7 g8 g9 q0 bX hB hy hp ek hk hlt hBx hs7 b11 hA7 hT6 h56
          have HPre2 : Hid ((⟨x0, x1, x2⟩ : Trn) = ⟨z0', z1', z2'⟩ → pre ++ [⟨x0, x1, x2⟩] <+: ts) := Lib.hid HPre.out.2
          by_cases e0 : x0 = z0'
          · subst e0
            by_cases e1 : x1 = z1'
            · subst e1
              by_cases e2 : x2 = z2'
              · subst e2
                have HPx : Hid (pre ++ [(⟨x0, x1, x2⟩ : Trn)] <+: ts) := Lib.hid (HPre.out.2 rfl)
                have hwk : IntKind.i64.wrap ((k : Int) + 1) = (k : Int) + 1 := wrap_small (by omega) (by omega)
                have hwf : IntKind.i64.wrap few = few := wrap_small (by omega) (by omega)
                gi_wp2
                refine region_round_quiet hmx (by kernel_rfl) (by kernel_rfl) ?_
                repeat (gi_big_quiet_step (fail))
                refine wpQuietIn_nil ?_
                intro _ hw'
                obtain ⟨nq, hw''⟩ := hw'
                subst hw''
                obtain ⟨U, eU⟩ : ∃ U, U = V.drewN nq := ⟨_, rfl⟩
                have q0 : Boxed U B11 3 (.int .i64 (k : Int)) := by rw [eU]; exact Q0.out
                have q7 : Boxed U T 5 (.int .u8 few) := by rw [eU]; exact G7.out
                have q8 : Boxed U (T + 1) 4 (.bool false) := by rw [eU]; exact G8.out
                have hVU : Below V.heap.size V U := by rw [eU]; exact below_draws (Below.refl _ _) nq
                have HBU : Hid (Below w6.heap.size w6 U) := Lib.hid (HB.out.trans (hVU.mono HB.out.size))
                have HVU := Lib.hid hVU
                rw [← eU]
                clear eU hVU c0 c1 c2 d0 d1 d2 k0 k1 k2 k3 k4 k5
                have m0 := (q0.set (.int .i64 ((k : Int) + 1))).cell
                have m7 := (q7.other (B' := B11) (by have := HTB.out; omega) (.int .i64 ((k : Int) + 1))).cell
                have h8 := q8.other (B' := B11) (by have := HTB.out; omega) (.int .i64 ((k : Int) + 1))
                have m8 := h8.cell
                have m9 := h8.frozen
                have n0 := q0.cell
                have n1 := q0.frozen
                have M0 := Lib.hid (q0.set (.int .i64 ((k : Int) + 1)))
                have M8 := Lib.hid h8
                have HKx : Hid (KpX (fun b => b = T + 1 ∨ b = B11) 32 V (U.setCell ⟨B11, 0, none⟩ (.int .i64 ((k : Int) + 1)))) := Lib.hid ((KpX.of_below HVU.out).trans (KpX.setCell (.inr rfl) _ _ _))
                clear q0 q7 q8 h8
                by_cases hfk : few < (k : Int) + 1
                · have z : decide (few < (k : Int) + 1) = true := by rw [decide_eq_true_iff]; exact hfk
                  gi_wp2
                  exact ⟨HKx.out.trans (KpX.setCell (X := fun b => b = T + 1 ∨ b = B11) (.inl rfl) _ _ _), ⟨rfl, true, M8.out.set _, fun _ => rfl⟩, ((HB6.out.trans (HBU.out.mono (Nat.le_trans hTw HB6.out.size))).setCell (p := ⟨B11, 0, none⟩) (by have := HTB.out; show T ≤ B11; omega) _).setCell (p := ⟨T + 1, 0, none⟩) (Nat.le_succ _) _⟩
                · have z : decide (few < (k : Int) + 1) = false := by rw [decide_eq_false_iff_not]; exact hfk
                  gi_wp2
                  exact ⟨HKx.out, ⟨⟨HPx.out, by rw [List.length_append, List.length_singleton, ← HE.out]; omega⟩, by rw [List.length_append, List.length_singleton, ← HE.out]; exact M0.out⟩, HBU.out.setCell (p := ⟨B11, 0, none⟩) (by rw [HB11.out]; exact Nat.le_refl _) _⟩
              · have z : (x2 == z2') = false := by simp [e2]
                have HNe : Hid ((⟨x0, x1, x2⟩ : Trn) ≠ ⟨x0, x1, z2'⟩) := Lib.hid (fun h => e2 (by cases h; rfl))
                clear e2
                gi_wp2
                refine region_round_quiet hmx (by kernel_rfl) (by kernel_rfl) ?_
                repeat (gi_big_quiet_step (fail))
                refine wpQuietIn_nil ?_
                intro _ hw'
                obtain ⟨nq, hw''⟩ := hw'
                subst hw''
                obtain ⟨U, eU⟩ : ∃ U, U = V.drewN nq := ⟨_, rfl⟩
                have q0 : Boxed U B11 3 (.int .i64 (k : Int)) := by rw [eU]; exact Q0.out
                have q7 : Boxed U T 5 (.int .u8 few) := by rw [eU]; exact G7.out
                have q8 : Boxed U (T + 1) 4 (.bool false) := by rw [eU]; exact G8.out
                have hVU : Below V.heap.size V U := by rw [eU]; exact below_draws (Below.refl _ _) nq
                have HBU : Hid (Below w6.heap.size w6 U) := Lib.hid (HB.out.trans (hVU.mono HB.out.size))
                have HVU := Lib.hid hVU
                rw [← eU]
                clear eU hVU c0 c1 c2 d0 d1 d2 k0 k1 k2 k3 k4 k5
                have n3 := q8.cell
                have n4 := q8.frozen
                have Q8 := Lib.hid q8
                clear q0 q7 q8
                gi_wp2
                exact ⟨(KpX.of_below HVU.out).trans (KpX.setCell (X := fun b => b = T + 1 ∨ b = B11) (.inl rfl) _ _ _), ⟨rfl, false, Q8.out.set _, fun h => absurd (HPre.out.1 h) HNe.out⟩, (HB6.out.trans (HBU.out.mono (Nat.le_trans hTw HB6.out.size))).setCell (p := ⟨T + 1, 0, none⟩) (Nat.le_succ _) _⟩
            · have z : (x1 == z1') = false := by simp [e1]
              have HNe : Hid ((⟨x0, x1, x2⟩ : Trn) ≠ ⟨x0, z1', z2'⟩) := Lib.hid (fun h => e1 (by cases h; rfl))
              clear e1
              gi_wp2
              refine region_round_quiet hmx (by kernel_rfl) (by kernel_rfl) ?_
              repeat (gi_big_quiet_step (fail))
              refine wpQuietIn_nil ?_
              intro _ hw'
              obtain ⟨nq, hw''⟩ := hw'
              subst hw''
              obtain ⟨U, eU⟩ : ∃ U, U = V.drewN nq := ⟨_, rfl⟩
              have q0 : Boxed U B11 3 (.int .i64 (k : Int)) := by rw [eU]; exact Q0.out
              have q7 : Boxed U T 5 (.int .u8 few) := by rw [eU]; exact G7.out
              have q8 : Boxed U (T + 1) 4 (.bool false) := by rw [eU]; exact G8.out
              have hVU : Below V.heap.size V U := by rw [eU]; exact below_draws (Below.refl _ _) nq
              have HBU : Hid (Below w6.heap.size w6 U) := Lib.hid (HB.out.trans (hVU.mono HB.out.size))
              have HVU := Lib.hid hVU
              rw [← eU]
              clear eU hVU c0 c1 c2 d0 d1 d2 k0 k1 k2 k3 k4 k5
              have n3 := q8.cell
              have n4 := q8.frozen
              have Q8 := Lib.hid q8
              clear q0 q7 q8
              gi_wp2
              exact ⟨(KpX.of_below HVU.out).trans (KpX.setCell (X := fun b => b = T + 1 ∨ b = B11) (.inl rfl) _ _ _), ⟨rfl, false, Q8.out.set _, fun h => absurd (HPre.out.1 h) HNe.out⟩, (HB6.out.trans (HBU.out.mono (Nat.le_trans hTw HB6.out.size))).setCell (p := ⟨T + 1, 0, none⟩) (Nat.le_succ _) _⟩
          · have z : (x0 == z0') = false := by simp [e0]
            have HNe : Hid ((⟨x0, x1, x2⟩ : Trn) ≠ ⟨z0', z1', z2'⟩) := Lib.hid (fun h => e0 (by cases h; rfl))
            clear e0
            gi_wp2
            refine region_round_quiet hmx (by kernel_rfl) (by kernel_rfl) ?_
            repeat (gi_big_quiet_step (fail))
            refine wpQuietIn_nil ?_
            intro _ hw'
            obtain ⟨nq, hw''⟩ := hw'
            subst hw''
            obtain ⟨U, eU⟩ : ∃ U, U = V.drewN nq := ⟨_, rfl⟩
            have q0 : Boxed U B11 3 (.int .i64 (k : Int)) := by rw [eU]; exact Q0.out
            have q7 : Boxed U T 5 (.int .u8 few) := by rw [eU]; exact G7.out
            have q8 : Boxed U (T + 1) 4 (.bool false) := by rw [eU]; exact G8.out
            have hVU : Below V.heap.size V U := by rw [eU]; exact below_draws (Below.refl _ _) nq
            have HBU : Hid (Below w6.heap.size w6 U) := Lib.hid (HB.out.trans (hVU.mono HB.out.size))
            have HVU := Lib.hid hVU
            rw [← eU]
            clear eU hVU c0 c1 c2 d0 d1 d2 k0 k1 k2 k3 k4 k5
            have n3 := q8.cell
            have n4 := q8.frozen
            have Q8 := Lib.hid q8
            clear q0 q7 q8
            gi_wp2
            exact ⟨(KpX.of_below HVU.out).trans (KpX.setCell (X := fun b => b = T + 1 ∨ b = B11) (.inl rfl) _ _ _), ⟨rfl, false, Q8.out.set _, fun h => absurd (HPre.out.1 h) HNe.out⟩, (HB6.out.trans (HBU.out.mono (Nat.le_trans hTw HB6.out.size))).setCell (p := ⟨T + 1, 0, none⟩) (Nat.le_succ _) _⟩
        case done =>
          rintro D ys V hD rfl ⟨⟨hp, q0⟩, hB⟩ hK
          have hs7' := HB11.out
          rw [HL.out] at q0
          have g8 : Boxed V (T + 1) 4 (.bool false) := (hB.block _ J8.out.lt).trans J8.out
          have g9 : Boxed V B9 24 (.slice Aw L cw) := (hB.block _ J9.out.lt).trans J9.out
          have HBT : Hid (Below T w V) := Lib.hid (HB6.out.trans (hB.mono (Nat.le_trans hTw HB6.out.size)))
          have n0 := q0.cell
          have n3 := g8.cell
          have n4 := g8.frozen
          have n5 := g9.cell
          have G8 := Lib.hid g8
          have HD : Hid (w.heap.size ≤ D) := Lib.hid (by have := HB6.out.size; omega)
          clear q0 g8 g9 hB hp hs7' hs7 hD
          gi_wp2
          have hK' := (KeepsOthers.setCell V ⟨T + 1, 0, none⟩ (.bool true)).same D _ hK rfl
          refine ⟨by simp, .inl ⟨_, _, rfl, run_takeDeferred hK', ?_⟩⟩
          have hF := cell_kept (G8.out.set (.bool true)).cell (grownBy_putObj' _ D (.deferred none)) (fun r e => by cases e; exact ⟨_, hK', rfl⟩)
          refine ⟨.bool true, ?_, rfl, ?_⟩
          · simp [results, Try.f3, go_sem, hF]
          · rw [← HT.out]
            exact (HBT.out.setCell (p := ⟨T + 1, 0, none⟩) (Nat.le_succ _) _).trans (belowK_b (w := w) hTw _ D _ _ HD.out hK' rfl rfl)
        case stop =>
          rintro D cd pre V hD hpre ⟨⟨rfl, r, h8, h9⟩, hB⟩ hK
          obtain rfl := h9 hpre
          gi_wp2
          refine ⟨by simp, .inl ⟨_, _, rfl, run_takeDeferred hK, ?_⟩⟩
          have hF := cell_kept h8.cell (grownBy_putObj' _ D (.deferred none)) (fun r e => by cases e; exact ⟨_, hK, rfl⟩)
          refine ⟨.bool true, ?_, rfl, ?_⟩
          · simp [results, Try.f3, go_sem, hF]
          · rw [← HT.out]
            exact hB.trans (belowK_b (w := w) hTw V D _ _ (by have := HB6.out.size; have := HB11.out; omega) hK rfl rfl)
      | _ => exact h.elim
end
end Go.Proofs.Ytekmgaigppenlaa

namespace Go.Proofs.Ytekmgaigppenlaa
open Go.ChangeShapes Go.WideShapes Go.ChangeAt Go.RowKit
open Go.ChangeMaps (open_string shut_string)

set_option maxRecDepth 100000 in
theorem walkTurns_lifted (os : Os) (started : os.Started) (H : Type) (enc : TypeId × Value → H) :
    ReturnsInHanded {} Try.checked os 3 .any (Rows.walkTurnsSpec.pre6 enc Try.prog Try.f3 Rows.walkTurnsRow.domain false) (Rows.walkTurnsSpec.post enc Try.prog Try.f3 false true false false) := by
  refine returnsInHanded_of_change (C := Try.checked) own started (by kernel_rfl) Try.func3
    (ChangeSpec.witness6 (enc := enc) (C := Try.checked) false ⟨#[], #[.slice none 0 0, .bool false, .int .i64 0, .int .u8 0], []⟩ 8 (by kernel_rfl) (by kernel_rfl) (by kernel_rfl) (by kernel_rfl)) ?_
  intro W base args ds gs before hval0 hW hcnd _
  have hval : ∀ (j : Nat) t v, Try.f3.params[j]? = some t → args[j]? = some v → Value.okWide Try.prog W .any base t v := hval0
  clear hval0 hcnd
  have hW' := hW
  obtain ⟨p, q, hA0, hV, rfl, hfz, hnd⟩ := hW
  have hA : DataW.TrodAll enc Try.prog W 0 (fun _ => true) true Try.f3.params.toList args.toList ds p := hA0
  rw [Try.params3] at hA hval
  obtain ⟨v0, vs0, d0, ds0, p0, q0, hargs, rfl, rfl, h0, r0⟩ := trodAll_cons hA
  obtain ⟨v1, vs1, d1, ds1, p1, q1, rfl, rfl, rfl, h1, r1⟩ := trodAll_cons r0
  obtain ⟨v2, vs2, d2, ds2, p2, q2, rfl, rfl, rfl, h2, r2⟩ := trodAll_cons r1
  obtain ⟨v3, vs3, d3, ds3, p3, q3, rfl, rfl, rfl, h3, r3⟩ := trodAll_cons r2
  obtain ⟨rfl, rfl, rfl⟩ := trodAll_nil r3
  obtain rfl : args = #[v0, v1, v2, v3] := by cases args; simp_all
  obtain ⟨rfl, rfl⟩ := trodVars_none hV
  obtain ⟨A0, n0, c0, rfl⟩ := okWide_slice Try.underlying22 (hval 0 22 v0 rfl rfl)
  have k0 := h0
  have lt0 : ∀ x ∈ p0, x.block < W.heap.size := by obtain ⟨m, hm⟩ := k0; exact DataW.trod_lt m _ _ _ hm
  obtain ⟨x0, l0, y0, z0, q0x⟩ : ∃ xs : List Stp, xs.length = n0 ∧ RecIn RS W A0 c0 xs ∧ n0 ≤ c0 ∧ n0 ≤ maxLen := by
    obtain ⟨fuel, hf⟩ := h0
    exact steps_in hf
  obtain ⟨b1, rfl, rfl, rfl⟩ := open_bool Try.underlying4 (hval 1 4 v1 rfl rfl) h1
  obtain ⟨a2, rfl, rfl, rfl, w2⟩ := open_int Try.underlying3 (hval 2 3 v2 rfl rfl) h2
  obtain ⟨a3, rfl, rfl, rfl, w3⟩ := open_int Try.underlying5 (hval 3 5 v3 rfl rfl) h3
  clear hA0
  refine (walkTurns_any A0 n0 c0 x0 b1 a2 a3 W l0 y0 (ib8 w3)).mono fun e W' ⟨he, bel⟩ => ?_
  subst he
  exact ⟨_, rfl, _, _, _, [], _, [], hW', trodAll_mk1 (shut_bool Try.underlying4 _), (trodAll_cons_mk (Below.trod laidOut (by kernel_rfl) (of_decide_eq_true (by kernel_rfl)) k0 bel lt0) (trodAll_cons_mk (shut_bool Try.underlying4 b1) (trodAll_cons_mk (shut_int Try.underlying3 w2) (trodAll_cons_mk (shut_int Try.underlying5 w3) trodAll_mk0)))), rfl, bel.frame _, fun h => by cases h⟩

theorem walkTurns_holds : Rows.WalkTurnsSaid :=
  OpenClaim.holds_of_wide 3 Try.f3 rfl rfl rfl rfl rfl rfl rfl ⟨rfl, rfl, rfl, rfl, rfl⟩ rfl rfl rfl rfl rfl (by kernel_rfl) Try.func3 (by kernel_rfl)
    (of_decide_eq_true (by kernel_rfl)) (by unfold Func.isWrapper; rw [if_neg (by decide +kernel)]; exact ⟨rfl, rfl⟩)
    (fun os started H enc _ => walkTurns_lifted os started H enc)
end Go.Proofs.Ytekmgaigppenlaa
