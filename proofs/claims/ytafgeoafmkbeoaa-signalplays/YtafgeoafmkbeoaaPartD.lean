/-
  What towncrierlaw11.SignalPlays does: it answers true.
  Arguments that came in, opened: lists of texts and of numbers. Facts of the program that every row's proof wants.
  Proved: the law answers true for every input, and each argument reads afterwards as it read before. No condition.
-/
import Derived.Test.YtafgeoafmkbeoaaPartC
import Derived.Test.YtafgeoafmkbeoaaProg
import Derived.Test.YtafgeoafmkbeoaaChecked
import Derived.ProofKit
import Derived.OpenShut
import Derived.Test.YtafgeoafmkbeoaaRows
import Derived.ChangeOld

namespace Go.Proofs.Ytafgeoafmkbeoaa
open Go Go.RowKit

/-- The program's board and the document's, apart from one another. -/
structure Duo (w wr : World) (lab : Nat → Nat) (G : Nat → Prop) (b x : Nat) (B1 B2 : List Sg) : Prop where
  hold : Hold w lab wr b B1
  ref : Ref G wr x B2
  apart : ∀ i, G i → lab i = 0
  new : ∀ i, G i → w.heap.size ≤ i
section
variable {w wr w' : World} {lab : Nat → Nat} {G : Nat → Prop} {b x : Nat} {B1 B2 B' : List Sg}
theorem Duo.below (h : Duo w wr lab G b x B1 B2) (hb : Below wr.heap.size wr w') : Duo w w' lab G b x B1 B2 := ⟨h.hold.next hb, h.ref.below hb, h.apart, h.new⟩
theorem Duo.drewN (h : Duo w wr lab G b x B1 B2) (n : Nat) : Duo w (wr.drewN n) lab G b x B1 B2 := ⟨h.hold.drewN n, h.ref.drewN n, h.apart, h.new⟩
theorem Duo.prog (h : Duo w wr lab G b x B1 B2) (hB : Brd' lab wr b B' w') : ∃ lab', Duo w w' lab' G b x B' B2 ∧ (∀ i, i < wr.heap.size → lab' i = lab i) ∧ Keeps (fun i => lab i ≠ 0) wr w' := by
  obtain ⟨lab', h1, h2, h3⟩ := h.hold.turn hB
  exact ⟨lab', ⟨h1, h.ref.kept h3 fun i hi e => e (h.apart i hi), fun i hi => by rw [h2 i (h.ref.low i hi)]; exact h.apart i hi, h.new⟩, h2, h3⟩
theorem Duo.progs (h : Duo w wr lab G b x B1 B2) (hB : Brd lab w' b B') (k : Keeps (fun i => lab i ≠ 0) wr w') : Duo w w' lab G b x B' B2 :=
  ⟨h.hold.keeps hB k, h.ref.kept k fun i hi e => e (h.apart i hi), h.apart, h.new⟩
theorem Duo.doc (h : Duo w wr lab G b x B1 B2) (hR : Ref' G wr x B' w') : ∃ G', Duo w w' lab G' b x B1 B' ∧ (∀ i, i < wr.heap.size → G' i → G i) ∧ Keeps G wr w' := by
  obtain ⟨G', h1, h2, h3⟩ := hR
  refine ⟨G', ⟨h.hold.keep h3 (fun i hi e => hi (h.apart i e)) h.new, h1, fun i hi => ?_, fun i hi => ?_⟩, h2, h3⟩
  · by_cases e : i < wr.heap.size
    · exact h.apart i (h2 i e hi)
    · by_cases e2 : lab i = 0
      · exact e2
      · exact absurd (h.hold.brd.low i e2) e
  · by_cases e : i < wr.heap.size
    · exact h.new i (h2 i e hi)
    · have := h.hold.below.size
      omega
theorem Duo.docs (h : Duo w wr lab G b x B1 B2) (hR : Ref G w' x B') (k : Keeps G wr w') : Duo w w' lab G b x B1 B' :=
  ⟨h.hold.keep k (fun i hi e => hi (h.apart i e)) h.new, hR, h.apart, h.new⟩
end
theorem ref_zero (w : World) : Ref (fun i => i = w.heap.size) (w.alloc (.cells #[.slice none 0 0] 29)) w.heap.size [] :=
  ⟨none, 0, fun i hi => by rw [hi]; simp, Nat.zero_le _, rfl, Has.fresh _ _, (fun g hg => by cases hg), [], rfl, World.ownsRow_nil _ _ _ _, fun r hr => by cases hr⟩
section
set_option maxHeartbeats 32000000 in
set_option maxRecDepth 100000 in
theorem signalPlays_any (A : Option Addr) (n c : Nat) (xs : List Cal) (w : World) (hn : xs.length = n) (_hm : n ≤ maxLen) (h : Cals w A xs) :
    Calls Try.prog 3 #[.slice A n c] w fun e w' => e = .returned (.bool true) ∧ Below w.heap.size w w' := by
  have hnot : ∀ (x : Bool) (w : World), (Op.unary .not (.bool x)).run Try.prog w = .ok (.bool (!x)) w := fun _ _ => rfl
  have H := Lib.hid h
  have Hn := Lib.hid hn
  clear h hn
  go_enter Try.func3, Try.ntmps3
  go_wp2_with fail
  refine (awake11 w).mono ?_
  rintro e w1 ⟨rfl, hb1⟩
  have Hb1 := Lib.hid hb1
  clear hb1
  by_cases hbig : (300 : Int) < n
  · have zb : decide ((n : Int) > 300) = true := decide_eq_true (by omega)
    go_wp2
    go_ret
    exact ⟨rfl, Hb1.out⟩
  · have zb : decide ((n : Int) > 300) = false := decide_eq_false (by omega)
    have hn3 : n ≤ 300 := by omega
    clear hbig
    go_wp2_with fail
    refine (sNew w1).mono ?_
    rintro e w2 ⟨rfl, hB2, hb2⟩
    have hH2 := hold_new (w0 := w) Hb1.out (Nat.le_refl _) hB2 hb2
    have hb3 : Below w2.heap.size w2 (w2.alloc (.cells #[.slice none 0 0] 29)) := (Below.refl _ _).alloc (Nat.le_refl _) _
    obtain ⟨b, hb⟩ : ∃ b, b = w1.heap.size := ⟨_, rfl⟩
    obtain ⟨lab0, hlab0⟩ : ∃ lab0 : Nat → Nat, lab0 = fun i => if i = w1.heap.size then 1 else 0 := ⟨_, rfl⟩
    rw [← hlab0, ← hb] at hH2
    rw [← hb]
    have hD : Duo w (w2.alloc (.cells #[.slice none 0 0] 29)) lab0 (fun i => i = w2.heap.size) b w2.heap.size [] [] := ⟨hH2.next hb3, ref_zero w2, fun i hi => by
      subst hi
      by_cases e : lab0 w2.heap.size = 0
      · exact e
      · exact absurd (hH2.brd.low _ e) (Nat.lt_irrefl _), fun i hi => by rw [hi]; exact hH2.below.size⟩
    have HD := Lib.hid hD
    clear hB2 hb2 hH2 hlab0 hb Hb1 hb3 hD
    go_wp2_with fail
    obtain ⟨G0, hG0⟩ : ∃ G0 : Nat → Prop, G0 = fun i => i = w2.heap.size := ⟨_, rfl⟩
    obtain ⟨x, hx⟩ : ∃ x, x = w2.heap.size := ⟨_, rfl⟩
    obtain ⟨w3, hw3⟩ : ∃ w3, w3 = w2.alloc (.cells #[.slice none 0 0] 29) := ⟨_, rfl⟩
    rw [← hG0, ← hw3, ← hx] at HD
    rw [← hw3, ← hx]
    clear hG0 hw3 hx
    go_loopw [5] (fun i wr => ∃ (j : Nat) (lab : Nat → Nat) (G : Nat → Prop) (B : List Sg), i = .int .i64 j ∧ j ≤ n ∧ Duo w wr lab G b x B B ∧ Short B ∧ sCount B ≤ j) (fun i _ => n - (intOf i).toNat)
    case atStart => exact ⟨0, lab0, G0, [], rfl, Nat.zero_le _, HD.out, short_nil, Nat.le_refl _⟩
    case round =>
      obtain ⟨j, lab, G, B, rfl, hj, hD, hSh, hcnt⟩ := hrel
      clear HD
      have HD := Lib.hid hD
      have HSh := Lib.hid hSh
      have hfew := hD.hold.brd.few
      clear hD hSh
      by_cases hjn : (j : Int) < n
      · have hjl : j < xs.length := by rw [Hn.out]; exact Int.ofNat_lt.1 hjn
        obtain ⟨b', off, Al, cl, rfl, hB, hL, d0, d1, d2, d3⟩ := H.out j hjl
        obtain ⟨y, hy⟩ : ∃ y, y = xs[j] := ⟨_, rfl⟩
        rw [← hy] at hL d0 d1 d2 d3
        replace d0 := (HD.out.hold.below.cell (p := ⟨b', _, none⟩) hB).trans d0
        replace d1 := (HD.out.hold.below.cell (p := ⟨b', _, none⟩) hB).trans d1
        replace d2 := (HD.out.hold.below.cell (p := ⟨b', _, none⟩) hB).trans d2
        replace d3 := (HD.out.hold.below.cell (p := ⟨b', _, none⟩) hB).trans d3
        obtain ⟨kx, ax, bx, lx⟩ := y
        simp only at hL d0 d1 d2 d3
        obtain ⟨nl, hnl⟩ : ∃ nl, nl = lx.length := ⟨_, rfl⟩
        rw [← hnl] at d3
        have HL := Lib.hid hL
        have Hnl := Lib.hid hnl
        clear hy hjl hB hL hnl
        go_upto_region 10 with (fail)
        have hbA : Below wr.heap.size wr (wr.alloc (.cells #[.int .i64 kx, .int .i64 ax, .int .i64 bx, .slice Al nl cl] 32)) := (Below.refl _ wr).alloc (Nat.le_refl _) _
        have hX : Has (wr.alloc (.cells #[.int .i64 kx, .int .i64 ax, .int .i64 bx, .slice Al nl cl] 32)) wr.heap.size (.cells #[.int .i64 kx, .int .i64 ax, .int .i64 bx, .slice Al nl cl] 32 (0, 0)) := Has.fresh _ _
        have HX := Lib.hid hX
        have HD1 := Lib.hid (HD.out.below hbA)
        have hl0 : lab wr.heap.size = 0 := by
          by_cases e : lab wr.heap.size = 0
          · exact e
          · exact absurd (HD.out.hold.brd.low _ e) (Nat.lt_irrefl _)
        have hg0 : ¬ G wr.heap.size := fun e => absurd (HD.out.ref.low _ e) (Nat.lt_irrefl _)
        have HL0 := Lib.hid hl0
        have HG0 := Lib.hid hg0
        obtain ⟨gb, hgb⟩ : ∃ gb, gb = wr.heap.size := ⟨_, rfl⟩
        obtain ⟨W, hW⟩ : ∃ W, W = (wr.alloc (.cells #[.int .i64 kx, .int .i64 ax, .int .i64 bx, .slice Al nl cl] 32)) := ⟨_, rfl⟩
        rw [← hW] at HX HD1
        rw [← hgb] at HX HL0 HG0
        rw [← hW, ← hgb]
        clear hbA hX hl0 hg0 hgb hW HD d0 d1 d2 d3
        have f0 : W.cell? ⟨gb, 0, none⟩ = some (.int .i64 kx) := HX.out.cell 0
        have f1 : W.cell? ⟨gb, 1, none⟩ = some (.int .i64 ax) := HX.out.cell 1
        have f2 : W.cell? ⟨gb, 2, none⟩ = some (.int .i64 bx) := HX.out.cell 2
        have f3 : W.cell? ⟨gb, 3, none⟩ = some (.slice Al nl cl) := HX.out.cell 3
        by_cases hbg : 20 < nl
        · have zg : decide ((nl : Int) > 20) = true := decide_eq_true (by omega)
          clear hbg
          go_wp2
          go_ret
          exact ⟨rfl, HD1.out.hold.below⟩
        · have zg : decide ((nl : Int) > 20) = false := decide_eq_false (by omega)
          have hn20 : nl ≤ 20 := by omega
          clear hbg
          go_upto_block 2 with (fail)
          go_cut [] (fun wc => ∃ (lab' : Nat → Nat) (G' : Nat → Prop) (B' : List Sg), Duo w wc lab' G' b x B' B' ∧ Short B' ∧ sCount B' ≤ j + 1 ∧ wc.cell? ⟨gb, 1, none⟩ = some (.int .i64 ax))
          case first =>
            by_cases hk0 : kx = 0
            · subst hk0
              obtain ⟨W1, hW1⟩ : ∃ W1, W1 = W.alloc (.cells #[] 3) := ⟨_, rfl⟩
              have hbW : Below W.heap.size W W1 := by rw [hW1]; exact (Below.refl _ _).alloc (Nat.le_refl _) _
              have ho1 : W1.ownsRow W.heap.size 3 1 (.slice (some ⟨W.heap.size, 0, none⟩) 0 0) 0 [] := by rw [hW1]; exact own_empty W
              have hg1 : Gives W1 1 (.slice Al nl cl) nl (lx.map (Value.int .i64)) := nums_gives ((HL.out.below HD1.out.hold.below).below hbW).nums Hnl.out HL.out.nil
              have g31 : W1.cell? ⟨gb, 3, none⟩ = some (.slice Al nl cl) := (HX.out.below hbW HX.out.inside).cell 3
              have HO1 := Lib.hid ho1
              have HG1 := Lib.hid hg1
              have HbW := Lib.hid hbW
              have HW1 := Lib.hid hW1
              have hsz1 : Hid (W.heap.size ≤ W1.heap.size) := Lib.hid hbW.size
              rw [HW1.out] at HO1 HG1 g31 hsz1 HbW
              clear hbW ho1 hg1 hW1 HW1
              go_wp2_with (at_builtin; refine wpList_join (v := .slice (some ⟨W.heap.size, 0, none⟩) 0 0) (X := .slice Al nl cl) (base := W.heap.size) (xs := []) (ys := lx) (m := nl) rfl (.tmp 44) (.tmp 46) rfl rfl rfl HO1.out HG1.out Hnl.out (by rw [← Hnl.out]; simp; omega) hsz1.out ?_; intro v2 w2 ho2 hk2 hat2; rw [List.nil_append] at ho2; obtain ⟨A3, c3, rfl, -⟩ := own_form ho2; rw [← Hnl.out])
              have hb2 : Below W.heap.size W w2 := below_then HbW.out hk2 HbW.out.size fun i hi e => by
                have : W.heap.size = i := Option.some.inj e
                omega
              obtain ⟨A', c', ev, hLi⟩ := (Pile.of_own ho2).form
              obtain ⟨rfl, rfl⟩ : A3 = A' ∧ c3 = c' := by injection ev with e1 _ e3; exact ⟨e1, e3⟩
              have hD2 := HD1.out.below hb2
              have X2 := HX.out.below hb2 HX.out.inside
              have CM : Hid (Calls Try.prog 9 #[ptrTo b, .slice A3 nl c3] w2 fun e w' => e = .returned (.tuple #[.int .i64 (smNo B lx), .int .i64 (smErr B lx)]) ∧ Brd' lab w2 b (smL B lx) w') := Lib.hid (by
                rw [Hnl.out]
                exact sMake lx A3 c3 hD2.hold.brd hLi (by rw [← Hnl.out]; omega))
              have HD2 := Lib.hid hD2
              have HX2 := Lib.hid X2
              clear hb2 ev hLi hD2 X2 ho2 hk2 hat2 HO1 HG1 HbW g31 hsz1 HD1 HX f0 f1 f2 f3
              refine CM.out.mono ?_
              rintro e w4 ⟨rfl, hB4⟩
              obtain ⟨lab4, hD4, -, hk4⟩ := HD2.out.prog hB4
              have X4 := HX2.out.kept hk4 fun e => e HL0.out
              have g43 : w4.cell? ⟨gb, 3, none⟩ = some (.slice Al nl cl) := X4.cell 3
              have CR : Hid (Calls Try.prog 10 #[ptrTo x, .slice Al nl cl] w4 fun e w' => e = .returned (.tuple #[.int .i64 (smNo B lx), .int .i64 (smErr B lx)]) ∧ Ref' G w4 x (smL B lx) w') := Lib.hid (by
                rw [Hnl.out]
                exact rMake lx Al cl hD4.ref (HL.out.below hD4.hold.below) (by rw [← Hnl.out]; omega))
              have HD4 := Lib.hid hD4
              have HX4 := Lib.hid X4
              clear hB4 hD4 hk4 X4 CM HD2 HX2
              go_wp2_with fail
              refine CR.out.mono ?_
              rintro e w5 ⟨rfl, hR5⟩
              obtain ⟨G5, hD5, -, hk5⟩ := HD4.out.doc hR5
              have X5 := HX4.out.kept hk5 HG0.out
              have f15 : w5.cell? ⟨gb, 1, none⟩ = some (.int .i64 ax) := X5.cell 1
              have HD5 := Lib.hid hD5
              have F15 := Lib.hid f15
              have hs5 : Hid (Short (smL B lx)) := Lib.hid (short_make HSh.out (by rw [← Hnl.out]; omega))
              have hc5 : Hid (sCount (smL B lx) ≤ j + 1) := Lib.hid (by rw [sCount_make]; omega)
              obtain ⟨rn, hrn⟩ : ∃ rn, rn = smNo B lx := ⟨_, rfl⟩
              obtain ⟨re, hre⟩ : ∃ re, re = smErr B lx := ⟨_, rfl⟩
              rw [← hrn, ← hre]
              clear hR5 hD5 hk5 X5 f15 g43 CR HD4 HX4 hrn hre
              go_wp2
              go_meet
              exact ⟨lab4, G5, smL B lx, HD5.out, hs5.out, hc5.out, F15.out⟩
            · have z0 : (kx == 0) = false := by simpa using hk0
              by_cases hk1 : kx = 1
              · subst hk1
                have hab : (sg B ax).tags.length ≤ 900000 := Nat.le_trans tags_le (by omega)
                have CA : Hid (∀ N, Calls Try.prog 11 #[ptrTo b, .int .i64 ax, .int .i64 bx] (W.drewN N) fun e w' => e = .returned (.bool (sFree B ax)) ∧ Brd' lab (W.drewN N) b (saL B ax bx) w') := Lib.hid fun N => sAdd ax bx (HD1.out.drewN N).hold.brd (by omega)
                obtain ⟨fr, hfr⟩ : ∃ fr, fr = sFree B ax := ⟨_, rfl⟩
                have CR : Hid (∀ w4 lab4, Duo w w4 lab4 G b x (saL B ax bx) B → Calls Try.prog 12 #[ptrTo x, .int .i64 ax, .int .i64 bx] w4 fun e w' => e = .returned (.bool fr) ∧ Ref' G w4 x (saL B ax bx) w') := Lib.hid fun w4 lab4 h => by
                  rw [hfr]
                  exact rAdd ax bx h.ref hab
                rw [← hfr] at CA
                have hs5 : Hid (Short (saL B ax bx)) := Lib.hid (short_add HSh.out)
                have hc5 : Hid (sCount (saL B ax bx) ≤ j + 1) := Lib.hid (by have := sCount_add (B := B) (i := ax) (x := bx); omega)
                clear hfr hab
                go_wp2_with fail
                refine wp_region_way (late := []) (S := fun w' => w'.cell? ⟨gb, 1, none⟩ = some (.int .i64 ax) ∧ w'.cell? ⟨gb, 2, none⟩ = some (.int .i64 bx)) (y := Way.takes [0, 1, 2, 3, 4, 6, 7, 8, 9, 10] (.run 5 (.run 11 (.run 12 .fin)))) (by kernel_rfl) (by kernel_rfl) rfl (by kernel_rfl) ⟨f1, f2⟩ (fun hHeld => ?_)
                simp only [Way.takes]
                (repeat (first | (refine way_skip (by simp only [List.getElem?_toArray, List.getElem?_cons_succ, List.getElem?_cons_zero]; rfl) (by rfl) hHeld ?_; (try simp only [Act.put, List.setIfInBounds_toArray, List.set_cons_zero, List.set_cons_succ])) | (refine way_pass (by simp only [List.getElem?_toArray, List.getElem?_cons_succ, List.getElem?_cons_zero]; rfl) (by rfl) hHeld ?_; (try simp only [Act.put, List.setIfInBounds_toArray, List.set_cons_zero, List.set_cons_succ])) | (refine way_take (v := ?_) (by simp only [List.getElem?_toArray, List.getElem?_cons_succ, List.getElem?_cons_zero]; rfl) (by rfl) ?_ hHeld ?_; rotate_left; (focus (intro w hSw; (try dsimp only at hSw); go_simp; (try with_reducible rfl); done)); (try simp only [Act.put, List.setIfInBounds_toArray, List.set_cons_zero, List.set_cons_succ]))))
                refine way_run (by simp only [List.getElem?_toArray, List.getElem?_cons_succ, List.getElem?_cons_zero]; rfl) (by rfl) (fun K hK => ?_)
                go_simp
                refine (CA.out 1).mono ?_
                rintro e w4 ⟨rfl, hB4⟩
                obtain ⟨lab4, hD4, -, hk4⟩ := (HD1.out.drewN 1).prog hB4
                have X4 := (HX.out.drewN 1).kept hk4 fun e => e HL0.out
                have CR4 := Lib.hid (CR.out w4 lab4 hD4)
                have HD4 := Lib.hid hD4
                have HX4 := Lib.hid X4
                clear hB4 hD4 hk4 X4 CA HD1 HX f0 f1 f2 f3 CR
                refine hK.out _ _ ⟨HX4.out.cell 1, HX4.out.cell 2⟩ (fun hHeld => ?_)
                clear hK K
                (try simp only [Act.put, List.setIfInBounds_toArray, List.set_cons_zero, List.set_cons_succ])
                refine way_run (by simp only [List.getElem?_toArray, List.getElem?_cons_succ, List.getElem?_cons_zero]; rfl) (by rfl) (fun K hK => ?_)
                go_simp
                refine CR4.out.mono ?_
                rintro e w5 ⟨rfl, hR5⟩
                obtain ⟨G5, hD5, -, hk5⟩ := HD4.out.doc hR5
                have X5 := HX4.out.kept hk5 HG0.out
                have HD5 := Lib.hid hD5
                have HX5 := Lib.hid X5
                clear hR5 hD5 hk5 X5 CR4 HD4 HX4
                refine hK.out _ _ ⟨HX5.out.cell 1, HX5.out.cell 2⟩ (fun hHeld => ?_)
                clear hK K
                (try simp only [Act.put, List.setIfInBounds_toArray, List.set_cons_zero, List.set_cons_succ])
                refine way_run (by simp only [List.getElem?_toArray, List.getElem?_cons_succ, List.getElem?_cons_zero]; rfl) (by rfl) (fun K hK => ?_)
                go_simp
                refine hK.out _ _ ⟨HX5.out.cell 1, HX5.out.cell 2⟩ (fun hHeld => ?_)
                clear hK K
                (try simp only [Act.put, List.setIfInBounds_toArray, List.set_cons_zero, List.set_cons_succ])
                refine way_done ?_
                go_wp2
                go_meet
                exact ⟨lab4, G5, saL B ax bx, HD5.out, hs5.out, hc5.out, HX5.out.cell 1⟩
              · have z1 : (kx == 1) = false := by simpa using hk1
                by_cases hk2 : kx = 2
                · subst hk2
                  have CG := Lib.hid (sGive ax HD1.out.hold.brd (by omega))
                  obtain ⟨O, hO⟩ : ∃ O, O = sgOut B ax := ⟨_, rfl⟩
                  obtain ⟨ok, hok⟩ : ∃ ok, ok = sFree B ax := ⟨_, rfl⟩
                  have hcg := sCount_gv B [ax]
                  rw [show (gvL B [ax]).2 = O from hO.symm] at hcg
                  have hOl : O.length ≤ 1000000 := by omega
                  have CR : Hid (∀ w5, Ref G w5 x B → Calls Try.prog 14 #[ptrTo x, .int .i64 ax] w5 fun e w' => ∃ A' c', e = .returned (.tuple #[.slice A' O.length c', .bool ok]) ∧ ListIn w' A' c' O ∧ (∀ g off s, A' = some ⟨g, off, s⟩ → w5.heap.size ≤ g) ∧ Ref G w' x (sgL B ax) ∧ Keeps G w5 w') := Lib.hid fun w5 h => by
                    rw [hO, hok]
                    exact rGive ax h (by omega) HSh.out
                  rw [← hO, ← hok] at CG
                  have hs5 : Hid (Short (sgL B ax)) := Lib.hid (short_gv B [ax] HSh.out)
                  have hc5 : Hid (sCount (sgL B ax) ≤ j + 1) := Lib.hid (by
                    show sCount (gvL B [ax]).1 ≤ j + 1
                    omega)
                  obtain ⟨nO, hnO⟩ : ∃ nO, nO = O.length := ⟨_, rfl⟩
                  rw [← hnO] at CG CR hOl
                  have HnO := Lib.hid hnO
                  clear hO hok hcg hnO z0 z1 hk0 hk1
                  go_wp2_with fail
                  refine CG.out.mono ?_
                  rintro e w5 ⟨A5, c5, rfl, hL5, hn5, hB5, hk5⟩
                  have hD5 := HD1.out.progs hB5 hk5
                  have X5 := HX.out.kept hk5 fun e => e HL0.out
                  have g51 : w5.cell? ⟨gb, 1, none⟩ = some (.int .i64 ax) := X5.cell 1
                  have CR5 := Lib.hid (CR.out w5 hD5.ref)
                  have HD5 := Lib.hid hD5
                  have HX5 := Lib.hid X5
                  have HL5 := Lib.hid hL5
                  have HN5 := Lib.hid hn5
                  clear hL5 hn5 hB5 hk5 hD5 X5 CG CR f0 f1 f2 f3 HX
                  go_wp2_with fail
                  refine CR5.out.mono ?_
                  rintro e w6 ⟨A6, c6, rfl, hL6, -, hR6, hk6⟩
                  have hD6 := HD5.out.docs hR6 hk6
                  have X6 := HX5.out.kept hk6 HG0.out
                  have hL56 : ListIn w6 A5 c5 O := HL5.out.kept hk6 fun _ b1 off1 s1 e _ hG => by
                    have h1 := HN5.out b1 off1 s1 e
                    have h2 := HD1.out.ref.low b1 hG
                    omega
                  have CI : Hid (Calls Try.prog 15 #[.slice A5 nO c5, .slice A6 nO c6] w6 fun e w' => e = .returned (.bool true) ∧ Below w6.heap.size w6 w') := Lib.hid (by
                    have := ints_any O O A5 A6 nO nO c5 c6 w6 HnO.out HnO.out hOl hL56.nums hL6.nums
                    rw [show sameInts O O = true from decide_eq_true rfl] at this
                    exact this)
                  have HD6 := Lib.hid hD6
                  have HX6 := Lib.hid X6
                  clear hL6 hR6 hk6 hD6 X6 hL56 CR5 HD5 HX5 HL5 HN5 g51 HD1
                  go_wp2_with fail
                  refine CI.out.mono ?_
                  rintro e w7 ⟨rfl, hb7⟩
                  have HD7 := Lib.hid (HD6.out.below hb7)
                  have HX7 := Lib.hid (HX6.out.below hb7 HX6.out.inside)
                  clear hb7 HD6 HX6 CI
                  go_wp2
                  go_meet
                  exact ⟨lab, G, sgL B ax, HD7.out, hs5.out, hc5.out, HX7.out.cell 1⟩
                · have z2 : (kx == 2) = false := by simpa using hk2
                  clear hk0 hk1 hk2
                  go_wp2
                  go_meet
                  exact ⟨lab, G, B, HD1.out, HSh.out, by omega, f1⟩
          case rest =>
            obtain ⟨lab', G', B', hD, hSh, hcn, f1'⟩ := hcut
            clear HX HD1 f0 f1 f2 f3 HSh
            have HD := Lib.hid hD
            have HSh := Lib.hid hSh
            have hl64 := hD.hold.brd.few
            obtain ⟨Ax, cX, hA⟩ := hD.ref
            have cx : wc.cell? ⟨x, 0, none⟩ = some (.slice Ax B'.length cX) := hA.head.cell 0
            obtain ⟨L, hL'⟩ : ∃ L, L = B'.length := ⟨_, rfl⟩
            obtain ⟨gv, hgv⟩ : ∃ gv, gv = sGiven B' ax := ⟨_, rfl⟩
            have CL : Hid (∀ N, Calls Try.prog 16 #[ptrTo b] (wc.drewN N) fun e w' => e = .returned (.int .i64 L) ∧ wc.drewN N = w') := Lib.hid fun N => by rw [hL']; exact sLen (HD.out.drewN N).hold.brd
            have C1 : Hid (∀ N, Calls Try.prog 17 #[ptrTo b, .int .i64 ax] (wc.drewN N) fun e w' => e = .returned (.bool gv) ∧ wc.drewN N = w') := Lib.hid fun N => by rw [hgv]; exact sIsGiven ax (HD.out.drewN N).hold.brd
            have C2 : Hid (∀ N, Calls Try.prog 18 #[ptrTo x, .int .i64 ax] (wc.drewN N) fun e w' => e = .returned (.bool gv) ∧ wc.drewN N = w') := Lib.hid fun N => by rw [hgv]; exact rGiven ax (HD.out.drewN N).ref
            rw [← hL'] at cx
            have zl : ((L : Int) != (L : Int)) = false := by simp
            clear hD hSh hA hL' hgv hl64
            go_wp2_with fail
            go_quiet (first | (go_at_call 16; exact Calls.quiet_of_same ((CL.out _).mono fun _ _ h => ⟨h.1, h.2.symm⟩)) | (go_at_call 17; exact Calls.quiet_of_same ((C1.out _).mono fun _ _ h => ⟨h.1, h.2.symm⟩)) | (go_at_call 18; exact Calls.quiet_of_same ((C2.out _).mono fun _ _ h => ⟨h.1, h.2.symm⟩)))
            go_wp2
            go_roundw
            case rel => exact ⟨j + 1, lab', G', B', by go_num, by omega, HD.out.drewN _, HSh.out, hcn⟩
            case measure => simp [intOf]; omega
      · obtain ⟨Ax, cX, hA⟩ := HD.out.ref
        obtain ⟨L, hL'⟩ : ∃ L, L = B.length := ⟨_, rfl⟩
        have cx : wr.cell? ⟨x, 0, none⟩ = some (.slice Ax L cX) := by rw [hL']; exact hA.head.cell 0
        have hL64 : L ≤ 64 := by rw [hL']; exact hfew
        clear hA hL'
        go_wp2_with fail
        go_loopw [15] (fun q wx => ∃ i : Nat, q = .int .i64 i ∧ 1 ≤ i ∧ i ≤ L + 1 ∧ wr = wx) (fun q _ => L + 1 - (intOf q).toNat)
        case atStart => exact ⟨1, rfl, Nat.le_refl _, by omega, rfl⟩
        case round =>
          obtain ⟨i, rfl, hi1, hiL, rfl⟩ := hrel
          by_cases hio : (i : Int) ≤ L
          · have C1 := Lib.hid (sIsGiven (i : Int) HD.out.hold.brd)
            have C2 := Lib.hid (rGiven (i : Int) HD.out.ref)
            obtain ⟨gv, hgv⟩ : ∃ gv, gv = sGiven B (i : Int) := ⟨_, rfl⟩
            rw [← hgv] at C1 C2
            clear hgv
            go_wp2_with fail
            refine C1.out.mono ?_
            rintro e w6 ⟨rfl, rfl⟩
            go_wp2_with fail
            refine C2.out.mono ?_
            rintro e w6 ⟨rfl, rfl⟩
            go_wp2
            go_roundw
            case rel => exact ⟨i + 1, by go_num, by omega, by omega, trivial⟩
            case measure => simp [intOf]; omega
          · have HB := Lib.hid HD.out.hold.below
            go_wp2
            go_ret
            exact ⟨rfl, HB.out⟩
end
end Go.Proofs.Ytafgeoafmkbeoaa

namespace Go.Proofs.Ytafgeoafmkbeoaa
open Go.ChangeShapes Go.WideShapes Go.ChangeAt Go.RowKit

theorem own : ownKnob Try.prog.godebug = none := by kernel_rfl
theorem laidOut : laidOutB Try.prog = true := by kernel_rfl
theorem ib {a : Int} (h : (Lit.int .i64 a).wf = true) : -9223372036854775808 ≤ a ∧ a ≤ 9223372036854775807 := by
  have h1 : IntKind.i64.min = -9223372036854775808 := rfl
  have h2 : IntKind.i64.max = 9223372036854775807 := rfl
  simp only [Lit.wf, Bool.and_eq_true, decide_eq_true_eq, h1, h2] at h
  exact h
theorem ib8 {a : Int} (h : (Lit.int .u8 a).wf = true) : 0 ≤ a ∧ a ≤ 255 := by
  have h1 : IntKind.u8.min = 0 := rfl
  have h2 : IntKind.u8.max = 255 := rfl
  simp only [Lit.wf, Bool.and_eq_true, decide_eq_true_eq, h1, h2] at h
  exact h
theorem ib16 {a : Int} (h : (Lit.int .u16 a).wf = true) : 0 ≤ a ∧ a ≤ 65535 := by
  have h1 : IntKind.u16.min = 0 := rfl
  have h2 : IntKind.u16.max = 65535 := rfl
  simp only [Lit.wf, Bool.and_eq_true, decide_eq_true_eq, h1, h2] at h
  exact h
end Go.Proofs.Ytafgeoafmkbeoaa

namespace Go.Proofs.Ytafgeoafmkbeoaa
open Go.ChangeShapes Go.WideShapes Go.ChangeAt Go.RowKit
open Go.ChangeMaps (open_string shut_string)

set_option maxRecDepth 100000 in
theorem signalPlays_lifted (os : Os) (started : os.Started) (H : Type) (enc : TypeId × Value → H) :
    ReturnsInHanded {} Try.checked os 3 .any (Rows.signalPlaysSpec.pre6 enc Try.prog Try.f3 Rows.signalPlaysRow.domain false) (Rows.signalPlaysSpec.post enc Try.prog Try.f3 false true false false) := by
  refine returnsInHanded_of_change (C := Try.checked) own started (by kernel_rfl) Try.func3
    (ChangeSpec.witness6 (enc := enc) (C := Try.checked) false ⟨#[], #[.slice none 0 0], []⟩ 8 (by kernel_rfl) (by kernel_rfl) (by kernel_rfl) (by kernel_rfl)) ?_
  intro W base args ds gs before hval0 hW hcnd _
  have hval : ∀ (j : Nat) t v, Try.f3.params[j]? = some t → args[j]? = some v → Value.okWide Try.prog W .any base t v := hval0
  clear hval0 hcnd
  have hW' := hW
  obtain ⟨p, q, hA0, hV, rfl, hfz, hnd⟩ := hW
  have hA : DataW.TrodAll enc Try.prog W 0 (fun _ => true) true Try.f3.params.toList args.toList ds p := hA0
  rw [Try.params3] at hA hval
  obtain ⟨v0, vs0, d0, ds0, p0, q0, hargs, rfl, rfl, h0, r0⟩ := trodAll_cons hA
  obtain ⟨rfl, rfl, rfl⟩ := trodAll_nil r0
  obtain rfl : args = #[v0] := by cases args; simp_all
  obtain ⟨rfl, rfl⟩ := trodVars_none hV
  obtain ⟨A0, n0, c0, rfl⟩ := okWide_slice Try.underlying22 (hval 0 22 v0 rfl rfl)
  have k0 := h0
  have lt0 : ∀ x ∈ p0, x.block < W.heap.size := by obtain ⟨m, hm⟩ := k0; exact DataW.trod_lt m _ _ _ hm
  obtain ⟨x0, l0, y0, z0, q0x⟩ : ∃ xs : List Cal, xs.length = n0 ∧ Cals W A0 xs ∧ n0 ≤ c0 ∧ n0 ≤ maxLen := by
    obtain ⟨fuel, hf⟩ := h0
    exact cals_in hf
  clear hA0
  refine (signalPlays_any A0 n0 c0 x0 W l0 q0x y0).mono fun e W' ⟨he, bel⟩ => ?_
  subst he
  exact ⟨_, rfl, _, _, _, [], _, [], hW', trodAll_mk1 (shut_bool Try.underlying4 _), (trodAll_cons_mk (Below.trod laidOut (by kernel_rfl) (of_decide_eq_true (by kernel_rfl)) k0 bel lt0) trodAll_mk0), rfl, bel.frame _, fun h => by cases h⟩

theorem signalPlays_holds : Rows.SignalPlaysSaid :=
  OpenClaim.holds_of_wide 3 Try.f3 rfl rfl rfl rfl rfl rfl rfl ⟨rfl, rfl, rfl, rfl, rfl⟩ rfl rfl rfl rfl rfl (by kernel_rfl) Try.func3 (by kernel_rfl)
    (of_decide_eq_true (by kernel_rfl)) (by unfold Func.isWrapper; rw [if_neg (by decide +kernel)]; exact ⟨rfl, rfl⟩)
    (fun os started H enc _ => signalPlays_lifted os started H enc)
end Go.Proofs.Ytafgeoafmkbeoaa
