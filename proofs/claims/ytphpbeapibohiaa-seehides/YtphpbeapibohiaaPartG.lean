/-
  What package path's Make does with an arena that keeps its promises.
  What the law's own made does with an arena that keeps its promises (stages 5 and later: a list is handed on as it came in).
  What towncrierref04.Nodes and Up, towncrierref05.Root and Above do.
  What towncrierref05.Index, Next and Count do.
  A forest and the document's list of the same nodes, side by side.
  What towncrierlaw15.SeeHides does with an arena that keeps its promises: it answers true.
  What towncrierlaw15.SeeNested does with an arena that keeps its promises: it answers true.
  What stage 15's laws over forests do with this arena.
  Proved: the law answers true for every input, and each argument reads afterwards as it read before. No condition.
-/
import Derived.Test.YtphpbeapibohiaaPartF
import Derived.Deep.DeepCutAuto
import Derived.Test.YtphpbeapibohiaaRows
import Derived.ProofKit
import Derived.OpenShut
import Derived.ChangeOld

namespace Go.Proofs.Ytphpbeapibohiaa
open Go Go.RowKit

section
variable {Rep : (Nat → Prop) → World → Nat → List Nd → Prop} {S : Nat → Prop} {w : World} {b : Nat} {l : List Nd}
set_option maxHeartbeats 8000000 in
set_option maxRecDepth 100000 in
theorem ptMake (O : ForestOk Rep) (M' : ForestMore Rep) (hm : Moded l) (tgt rel : Int) (comp : Bool) (hrep : Rep S w b l) (hg : Good l) :
    Calls Try.prog 16 #[at_ b, .int .i64 tgt, .int .i64 rel, .bool comp] w fun e w' => ∃ v, e = .returned v ∧ Recs RS 28 w.heap.size w' v (makeP l tgt rel comp) ∧ Below w.heap.size w w' := by
  have hnot : ∀ (x : Bool) (w : World), (Op.unary .not (.bool x)).run Try.prog w = .ok (.bool (!x)) w := fun _ _ => rfl
  have hmf : ∀ (fn : Fn) (first cap : Array Value) (w : World), (Instr.makeFunc fn first cap).run Try.prog w = .ok (.func fn first cap) w := fun _ _ _ _ => rfl
  have hRl : (makeP l tgt rel comp).length ≤ 128 := Nat.le_trans (makeP_len hg.tree) hg.len
  obtain ⟨R, hR⟩ : ∃ R, R = makeP l tgt rel comp := ⟨_, rfl⟩
  rw [← hR] at hRl
  rw [← hR]
  have HR := Lib.hid hR
  have HREP : Hid (∀ W, Below w.heap.size w W → Rep S W b l) := Lib.hid fun W hb => O.since hrep hb
  have Hm := Lib.hid hm
  have Hg := Lib.hid hg
  -- the two boxes
  obtain ⟨W2, hW2⟩ : ∃ W2, W2 = (w.alloc (.cells #[at_ b] 33)).alloc (.cells #[.int .i64 rel] 3) := ⟨_, rfl⟩
  have hb2 : Below w.heap.size w W2 := by
    rw [hW2]
    exact ((Below.refl _ w).alloc (Nat.le_refl _) _).alloc (by simp) _
  have hs2 : W2.heap.size = w.heap.size + 2 := by rw [hW2]; simp
  have hf2 : Has W2 w.heap.size (.cells #[at_ b] 33 (0, 0)) := by
    rw [hW2]
    exact (Has.fresh _ _).more _
  have hr2 : Has W2 (w.heap.size + 1) (.cells #[.int .i64 rel] 3 (0, 0)) := by
    rw [hW2]
    have := Has.fresh (w.alloc (.cells #[at_ b] 33)) (.cells #[.int .i64 rel] 3)
    simpa using this
  have HW2 := Lib.hid hW2
  have HB2 := Lib.hid hb2
  have HS2 := Lib.hid hs2
  have HF2 := Lib.hid hf2
  have HR2 := Lib.hid hr2
  have q0 : W2.cell? ⟨w.heap.size, 0, none⟩ = some (at_ b) := hf2.cell 0
  clear hR hrep hg hm hW2 hb2 hs2 hf2 hr2
  cases ht : thereB l tgt with
  | false =>
    have e0 : R = [] := by rw [HR.out, makeP_no ht]
    subst e0
    have Ht := Lib.hid ht
    clear ht HR
    go_enter Try.func16, Try.ntmps16
    go_wp2_with fail
    rw [← HW2.out]
    refine (nodeNo M' (HREP.out _ HB2.out) Hg.out Ht.out).mono ?_
    rintro e w3 ⟨A3, c3, rfl, -, hb3⟩
    have HF := Lib.hid ((HB2.out.trans (hb3.mono HB2.out.size)).alloc (Nat.le_trans HB2.out.size hb3.size) (.cells #[.int .i64 0, .int .i64 0, .int .i64 0, .int .i64 0, .int .i64 0, .bool false, .string ⟨#[]⟩, .string ⟨#[]⟩, .slice A3 0 c3] 52))
    clear hb3
    go_wp2
    go_ret
    exact ⟨_, rfl, Recs.nil _ _ _ _, HF.out⟩
  | true =>
    have Ht := Lib.hid ht
    obtain ⟨sk, hsk⟩ : ∃ sk, sk = (decide (rel ≠ tgt) && decide (aimL l rel tgt = tgt)) := ⟨_, rfl⟩
    have HSK := Lib.hid hsk
    clear ht hsk
    go_enter Try.func16, Try.ntmps16
    go_wp2_with fail
    rw [← HW2.out]
    refine (nodeYes M' (HREP.out _ HB2.out) Hg.out Ht.out).mono ?_
    rintro e w3 ⟨A3, c3, rfl, -, hb3⟩
    obtain ⟨d, hd⟩ : ∃ d, d = nd l tgt := ⟨_, rfl⟩
    rw [← hd]
    obtain ⟨W4, hW4⟩ : ∃ W4, W4 = w3.alloc (.cells #[.int .i64 d.kind, .int .i64 d.parent, .int .i64 d.host, .int .i64 d.shadow, .int .i64 d.mode, .bool d.slot, .string d.name, .string d.want, .slice A3 d.kids.length c3] 52) := ⟨_, rfl⟩
    have hb4 : Below W2.heap.size W2 W4 := by
      rw [hW4]
      exact hb3.alloc hb3.size _
    have HB4 := Lib.hid (HB2.out.trans (hb4.mono HB2.out.size))
    have HF4 := Lib.hid (HF2.out.below hb4 HF2.out.inside)
    have HR4 := Lib.hid (HR2.out.below hb4 HR2.out.inside)
    have q4 : W4.cell? ⟨w.heap.size, 0, none⟩ = some (at_ b) := HF4.out.cell 0
    have r4 : W4.cell? ⟨w.heap.size + 1, 0, none⟩ = some (.int .i64 rel) := HR4.out.cell 0
    have hq4 : w.heap.size < W4.heap.size := HF4.out.inside
    have hr4 : w.heap.size + 1 < W4.heap.size := HR4.out.inside
    have HW4 := Lib.hid hW4
    rw [hW4] at q4 r4
    clear hb3 hb4 hW4 hd HB2 HF2 HR2 q0
    go_upto_region 2 with (fail)
    rw [← HW4.out] at q4 r4 ⊢
    go_cut [36] (fun v wc => v = .bool sk ∧ Below W4.heap.size W4 wc)
    case first =>
      by_cases hrt : rel = tgt
      · have z1 : (rel != tgt) = false := by simpa using hrt
        have e1 : sk = false := by rw [HSK.out, decide_eq_false (fun e => e hrt), Bool.false_and]
        subst e1
        clear HSK hrt
        go_wp2
        go_meet
        exact ⟨rfl, Below.refl _ _⟩
      · have z1 : (rel != tgt) = true := by simpa using hrt
        have e1 : sk = decide (aimL l rel tgt = tgt) := by rw [HSK.out, decide_eq_true hrt, Bool.true_and]
        have E1 := Lib.hid e1
        clear HSK hrt e1
        go_wp2_with fail
        refine (aiAim O M' rel tgt (HREP.out _ HB4.out) Hg.out).mono ?_
        rintro e w5 ⟨rfl, hb5⟩
        have HB5 := Lib.hid hb5
        clear hb5
        by_cases ha : aimL l rel tgt = tgt
        · have z2 : (aimL l rel tgt == tgt) = true := by simpa using ha
          have e2 : sk = true := by rw [E1.out, decide_eq_true ha]
          obtain ⟨x, hx⟩ : ∃ x, x = aimL l rel tgt := ⟨_, rfl⟩
          rw [← hx] at z2
          rw [← hx]
          subst e2
          clear E1 ha hx
          go_wp2
          go_meet
          exact ⟨rfl, HB5.out⟩
        · have z2 : (aimL l rel tgt == tgt) = false := by simpa using ha
          have e2 : sk = false := by rw [E1.out, decide_eq_false ha]
          obtain ⟨x, hx⟩ : ∃ x, x = aimL l rel tgt := ⟨_, rfl⟩
          rw [← hx] at z2
          rw [← hx]
          subst e2
          clear E1 ha hx
          go_wp2
          go_meet
          exact ⟨rfl, HB5.out⟩
    case rest =>
      obtain ⟨rfl, hbc⟩ := hcut
      have HBc := Lib.hid (HB4.out.trans (hbc.mono HB4.out.size))
      have HFc := Lib.hid (HF4.out.below hbc HF4.out.inside)
      have HRc := Lib.hid (HR4.out.below hbc HR4.out.inside)
      have hnc : W4.heap.size ≤ wc.heap.size := hbc.size
      clear hbc q4 r4 HF4 HR4 HB4
      cases hk : sk with
      | true =>
        have e0 : R = [] := by
          rw [hk] at HSK
          have h2 := HSK.out.symm
          rw [Bool.and_eq_true, decide_eq_true_eq, decide_eq_true_eq] at h2
          rw [HR.out, makeP_shut Hg.out.tree Ht.out h2.2 h2.1]
        subst e0
        clear hk HSK
        go_wp2
        go_ret
        exact ⟨_, rfl, Recs.nil _ _ _ _, HBc.out⟩
      | false =>
        have e0 : R = ⟨tgt, tgt, aimL l rel tgt, crB l tgt, false⟩ :: restP l rel tgt comp tgt tgt := by
          rw [hk] at HSK
          have h2 := HSK.out.symm
          rw [HR.out, makeP_go Hg.out.tree Ht.out]
          rintro ⟨h3, h4⟩
          rw [decide_eq_true h3, decide_eq_true h4] at h2
          cases h2
        have E0 := Lib.hid e0
        clear hk HSK e0
        obtain ⟨W6, hW6⟩ : ∃ W6, W6 = (wc.alloc (.cells #[.slice none 0 0] 22)).alloc (.cells #[.int .i64 0] 3) := ⟨_, rfl⟩
        have hb6 : Below wc.heap.size wc W6 := by
          rw [hW6]
          exact ((Below.refl _ wc).alloc (Nat.le_refl _) _).alloc (by simp) _
        have hs6 : W6.heap.size = wc.heap.size + 2 := by rw [hW6]; simp
        have h6s : Has W6 wc.heap.size (.cells #[.slice none 0 0] 22 (0, 0)) := by
          rw [hW6]
          exact (Has.fresh _ _).more _
        have h6a : Has W6 (wc.heap.size + 1) (.cells #[.int .i64 0] 3 (0, 0)) := by
          rw [hW6]
          have := Has.fresh (wc.alloc (.cells #[.slice none 0 0] 22)) (.cells #[.int .i64 0] 3)
          simpa using this
        have hG6 : GE w b rel w.heap.size (w.heap.size + 1) wc.heap.size (wc.heap.size + 1) (wc.heap.size + 2) W6 (.slice none 0 0) 0 [] :=
          ⟨⟨Nat.le_refl _, by omega, by omega, by omega, by omega, by omega⟩, HBc.out.trans (hb6.mono HBc.out.size), HFc.out.below hb6 HFc.out.inside, HRc.out.below hb6 HRc.out.inside, h6s, h6a, Recs.nil _ _ _ _⟩
        have hfst : (decide (ofL l 0 = tgt) && crB l (rootL l tgt)) = false := by
          rw [ofL_no thereB_zero, decide_eq_false fun e => by have := Ht.out; rw [← e, thereB_zero] at this; cases this]
          rfl
        have hC := ptGather O M' Hm.out tgt tgt (HREP.out w (Below.refl _ _)) Hg.out Ht.out hG6 (by simp)
        rw [hfst, List.nil_append] at hC
        have C := Lib.hid hC
        have HW6 := Lib.hid hW6
        clear hW6 hb6 hs6 h6s h6a hG6 HFc HRc hfst hC
        go_wp2_with fail
        rw [← HW6.out]
        refine C.out.mono ?_
        rintro e w7 ⟨rfl, v7, hG7⟩
        have H7 := Lib.hid hG7
        clear hG7 C HW6
        go_wp2_with fail
        go_loopw [14] (fun t wr => ∃ (tt prev : Int) (v : Value) (xs : List Stp), t = .int .i64 tt ∧ GE w b rel w.heap.size (w.heap.size + 1) wc.heap.size (wc.heap.size + 1) (wc.heap.size + 2) wr v prev xs ∧ thereB l prev = true ∧ xs ++ restP l rel tgt comp prev tt = R) (fun _ wr => mu l (intOf ((wr.cell? ⟨wc.heap.size + 1, 0, none⟩).getD (.int .i64 0))))
        case atStart => exact ⟨tgt, tgt, v7, _, rfl, H7.out, Ht.out, E0.out.symm⟩
        case round =>
          obtain ⟨tt, prev, v, xs, rfl, hG, hp, hxs⟩ := hrel
          have HG := Lib.hid hG
          have Hp := Lib.hid hp
          have Hxs := Lib.hid hxs
          have hxl : xs.length ≤ 1000000 := by have := app_len2 hxs; omega
          have p0 := hG.hf.cell 0
          have p1 := hG.ha.cell 0
          have Hmu : Hid (intOf ((wr.cell? ⟨wc.heap.size + 1, 0, none⟩).getD (.int .i64 0)) = prev) := Lib.hid (by rw [hG.ha.cell 0]; rfl)
          clear hG hp hxs H7 E0
          go_wp2_with fail
          refine (ptParent O M' prev tgt comp (HREP.out _ HG.out.below) Hg.out).mono ?_
          rintro e w8 ⟨rfl, hb8⟩
          have H8 := Lib.hid (HG.out.next hb8)
          clear hb8 HG p0 p1
          have e1 := rest_end (l := l) (rel := rel) (tgt := tgt) (prev := prev) (t := tt) (comp := comp)
          have e2 := fun i => rest_held (l := l) (rel := rel) (tgt := tgt) (prev := prev) (t := tt) (i := i) (comp := comp) Hg.out.tree
          have e3 := fun i => rest_stop (l := l) (rel := rel) (tgt := tgt) (prev := prev) (t := tt) (i := i) (comp := comp) Hg.out.tree
          have e4 := fun i => rest_new (l := l) (rel := rel) (tgt := tgt) (prev := prev) (t := tt) (i := i) (comp := comp) Hg.out.tree
          have e5 := fun i => mu_pos (l := l) (tgt := tgt) (prev := prev) (i := i) (comp := comp) Hg.out.tree
          have e6 := fun i => csB_par (l := l) (tgt := tgt) (prev := prev) (i := i) (comp := comp)
          have e7 : parE l tgt comp prev ≠ 0 → thereB l (parE l tgt comp prev) = true := fun h => (parE_there Hg.out.tree h).2
          obtain ⟨i, hi⟩ : ∃ i, i = parE l tgt comp prev := ⟨_, rfl⟩
          rw [← hi] at e1 e7
          rw [← hi]
          have e2 := e2 i hi.symm
          have e3 := e3 i hi.symm
          have e4 := e4 i hi.symm
          have e5 := e5 i hi.symm
          have e6 := e6 i hi.symm
          clear hi
          by_cases h0 : i = 0
          · have e8 : xs = R := by rw [← Hxs.out, e1 h0, List.append_nil]
            subst h0
            have E8 := Lib.hid e8
            have q0 := H8.out.hs.cell 0
            clear e1 e2 e3 e4 e5 e6 e7 e8
            go_wp2
            go_ret
            rw [← E8.out]
            exact ⟨_, rfl, own_base H8.out.rows (by have := H8.out.low; omega), H8.out.below⟩
          · have z0 : (i == 0) = false := by simpa using h0
            have E2 := Lib.hid (e2 h0)
            have E3 := Lib.hid (e3 h0)
            have E4 := Lib.hid (e4 h0)
            have E5 := Lib.hid (e5 h0)
            have E6 := Lib.hid (e6 h0)
            have E7 := Lib.hid (e7 h0)
            have h8d := Lib.hid (H8.out.next (Below.refl _ _).drew)
            have HQ : Hid (∀ W, GE w b rel w.heap.size (w.heap.size + 1) wc.heap.size (wc.heap.size + 1) (wc.heap.size + 2) W v prev xs → W.cell? ⟨w.heap.size, 0, none⟩ = some (at_ b)) := Lib.hid fun W q => q.hf.cell 0
            clear e1 e2 e3 e4 e5 e6 e7 h0
            go_wp2_with fail
            refine wp_region_way (late := []) (S := fun W => W.cell? ⟨w.heap.size, 0, none⟩ = some (at_ b)) (y := Way.takes [0, 1, 2, 4] (.run 3 (.run 5 (.take 6 .fin)))) (by kernel_rfl) (by kernel_rfl) rfl (by kernel_rfl) (HQ.out _ h8d.out) (fun hHeld => ?_)
            simp only [Way.takes]
            (repeat (first | (refine way_skip (by simp only [List.getElem?_toArray, List.getElem?_cons_succ, List.getElem?_cons_zero]; rfl) (by rfl) hHeld ?_; (try simp only [Act.put, List.setIfInBounds_toArray, List.set_cons_zero, List.set_cons_succ])) | (refine way_pass (by simp only [List.getElem?_toArray, List.getElem?_cons_succ, List.getElem?_cons_zero]; rfl) (by rfl) hHeld ?_; (try simp only [Act.put, List.setIfInBounds_toArray, List.set_cons_zero, List.set_cons_succ])) | (refine way_take (v := ?_) (by simp only [List.getElem?_toArray, List.getElem?_cons_succ, List.getElem?_cons_zero]; rfl) (by rfl) ?_ hHeld ?_; rotate_left; (focus (intro w hSw; (try dsimp only at hSw); go_simp; (try with_reducible rfl); done)); (try simp only [Act.put, List.setIfInBounds_toArray, List.set_cons_zero, List.set_cons_succ]))))
            refine way_run (by simp only [List.getElem?_toArray, List.getElem?_cons_succ, List.getElem?_cons_zero]; rfl) (by rfl) (fun K hK => ?_)
            go_simp
            refine (kinRoot O M' tt (HREP.out _ h8d.out.below) Hg.out).mono ?_
            rintro e w9 ⟨rfl, hb9⟩
            have H9 := Lib.hid (h8d.out.next hb9)
            clear hb9 h8d H8
            go_simp
            refine hK.out _ _ (HQ.out _ H9.out) (fun hHeld => ?_)
            clear hK K
            (try simp only [Act.put, List.setIfInBounds_toArray, List.set_cons_zero, List.set_cons_succ])
            refine way_run (by simp only [List.getElem?_toArray, List.getElem?_cons_succ, List.getElem?_cons_zero]; rfl) (by rfl) (fun K hK => ?_)
            go_simp
            refine (shHolds O M' (rootL l tt) i (HREP.out _ H9.out.below) Hg.out).mono ?_
            rintro e w10 ⟨rfl, hb10⟩
            have H10 := Lib.hid (H9.out.next hb10)
            clear hb10 H9
            go_simp
            refine hK.out _ _ (HQ.out _ H10.out) (fun hHeld => ?_)
            clear hK K
            (try simp only [Act.put, List.setIfInBounds_toArray, List.set_cons_zero, List.set_cons_succ])
            (repeat (first | (refine way_skip (by simp only [List.getElem?_toArray, List.getElem?_cons_succ, List.getElem?_cons_zero]; rfl) (by rfl) hHeld ?_; (try simp only [Act.put, List.setIfInBounds_toArray, List.set_cons_zero, List.set_cons_succ])) | (refine way_pass (by simp only [List.getElem?_toArray, List.getElem?_cons_succ, List.getElem?_cons_zero]; rfl) (by rfl) hHeld ?_; (try simp only [Act.put, List.setIfInBounds_toArray, List.set_cons_zero, List.set_cons_succ])) | (refine way_take (v := ?_) (by simp only [List.getElem?_toArray, List.getElem?_cons_succ, List.getElem?_cons_zero]; rfl) (by rfl) ?_ hHeld ?_; rotate_left; (focus (intro w hSw; (try dsimp only at hSw); go_simp; (try with_reducible rfl); done)); (try simp only [Act.put, List.setIfInBounds_toArray, List.set_cons_zero, List.set_cons_succ]))))
            refine way_done ?_
            clear hHeld HQ
            cases hh : hasB (over l i) (rootL l tt) with
            | true =>
              have e9 := E2.out hh
              have CC := ptGather O M' Hm.out i 0 (HREP.out w (Below.refl _ _)) Hg.out E7.out H10.out hxl
              rw [← E6.out] at CC
              have C := Lib.hid CC
              have E9 := Lib.hid e9
              clear hh e9 CC E2 E3 E4 E6
              go_wp2_with fail
              refine C.out.mono ?_
              rintro e w11 ⟨rfl, v11, hG11⟩
              have H11 := Lib.hid hG11
              clear hG11 C
              go_wp2
              go_roundw
              case rel =>
                refine ⟨tt, i, v11, _, rfl, H11.out, E7.out, ?_⟩
                rw [← Hxs.out, E9.out, List.append_assoc]
                rfl
              case measure =>
                rw [H11.out.ha.cell 0, Hmu.out]
                exact E5.out
            | false =>
              have f3 := E3.out hh
              have f4 := E4.out hh
              have F3 := Lib.hid f3
              have F4 := Lib.hid f4
              clear hh f3 f4 E2 E3 E4
              have r0 := H10.out.hf.cell 0
              have r1 := H10.out.hr.cell 0
              go_wp2_with fail
              refine (aiAim O M' rel i (HREP.out _ H10.out.below) Hg.out).mono ?_
              rintro e w11 ⟨rfl, hb11⟩
              have H11 := Lib.hid (H10.out.next hb11)
              clear hb11 H10 r0 r1
              by_cases ha : aimL l rel i = i
              · have e8 : xs = R := by rw [← Hxs.out, F3.out ha, List.append_nil]
                have E8 := Lib.hid e8
                have z2 : (aimL l rel i == i) = true := by simpa using ha
                obtain ⟨x, hx⟩ : ∃ x, x = aimL l rel i := ⟨_, rfl⟩
                rw [← hx] at z2
                rw [← hx]
                have q0 := H11.out.hs.cell 0
                clear ha e8 F3 F4 hx
                go_wp2
                go_ret
                rw [← E8.out]
                exact ⟨_, rfl, own_base H11.out.rows (by have := H11.out.low; omega), H11.out.below⟩
              · have z2 : (aimL l rel i == i) = false := by simpa using ha
                have E9 := Lib.hid (F4.out ha)
                have CC := ptGather O M' Hm.out i i (HREP.out w (Below.refl _ _)) Hg.out E7.out H11.out hxl
                rw [← E6.out] at CC
                have C := Lib.hid CC
                obtain ⟨x, hx⟩ : ∃ x, x = aimL l rel i := ⟨_, rfl⟩
                rw [← hx] at z2
                rw [← hx]
                clear ha CC F3 F4 E6 hx
                go_wp2_with fail
                refine C.out.mono ?_
                rintro e w12 ⟨rfl, v12, hG12⟩
                have H12 := Lib.hid hG12
                clear hG12 C
                go_wp2
                go_roundw
                case rel =>
                  refine ⟨i, i, v12, _, rfl, H12.out, E7.out, ?_⟩
                  rw [← Hxs.out, E9.out, List.append_assoc]
                  rfl
                case measure =>
                  rw [H12.out.ha.cell 0, Hmu.out]
                  exact E5.out
end
end Go.Proofs.Ytphpbeapibohiaa

namespace Go.Proofs.Ytphpbeapibohiaa
open Go Go.RowKit

section
variable {Rep : (Nat → Prop) → World → Nat → List Nd → Prop}
set_option maxHeartbeats 8000000 in
set_option maxRecDepth 100000 in
theorem built_any (O : ForestOk Rep) (A : Option Addr) (n c : Nat) (xs : List Ac) (w : World) (hn : xs.length = n) (h : Acts w A xs) (hs : Small xs) :
    Calls Try.prog 15 #[.slice A n c] w fun e w' => ∃ b, e = .returned (at_ b) ∧ Rep (fun i => w.heap.size ≤ i) w' b (forest xs) ∧ Below w.heap.size w w' := by
  have H := Lib.hid h
  have Hn := Lib.hid hn
  have Hs := Lib.hid hs
  have hnb : n ≤ 300 := by rw [← hn]; exact hs.1
  clear h hn hs
  go_enter Try.func15, Try.ntmps15
  go_wp2_with fail
  refine (O.new (fun i => w.heap.size ≤ i) w (fun _ h => h)).mono ?_
  rintro e w1 ⟨b, rfl, hR1, hb1⟩
  go_wp2_with fail
  go_loopw [4] (fun i wr => ∃ j : Nat, i = .int .i64 j ∧ j ≤ n ∧ Rep (fun i => w.heap.size ≤ i) wr b (forest (xs.take j)) ∧ Below w.heap.size w wr) (fun i _ => n - (intOf i).toNat)
  case atStart => exact ⟨0, rfl, Nat.zero_le _, hR1, hb1⟩
  case round =>
    obtain ⟨j, rfl, hj, hR, hb⟩ := hrel
    clear hR1 hb1
    by_cases hjn : (j : Int) < n
    · have hjx : j < xs.length := by rw [Hn.out]; omega
      have hj3 : (j : Int) < 300 := by omega
      obtain ⟨b', off, A1, c1, A2, c2, rfl, hB, hc, hL, hA⟩ := H.out j hjx
      have hsn : forest (xs.take (j + 1)) = actL (forest (xs.take j)) xs[j] := by
        rw [List.take_add_one, List.getElem?_eq_getElem hjx]
        exact forest_snoc _ _
      have hxl : xs[j].l.length ≤ 200 := Hs.out.2 _ (List.getElem_mem hjx)
      have hg : Good (forest (xs.take j)) := good_take Hs.out j
      obtain ⟨l, hl⟩ : ∃ l, l = forest (xs.take j) := ⟨_, rfl⟩
      rw [← hl] at hsn hg hR
      obtain ⟨x, hx⟩ : ∃ x, x = xs[j] := ⟨_, rfl⟩
      rw [← hx] at hc hL hA hsn hxl
      clear hl hx
      have hc' : ∀ f, f < 14 → wr.cell? ⟨b', off + j * 14 + f, none⟩ = (actCells x (.slice A1 x.n.kids.length c1) (.slice A2 x.l.length c2))[f]? := fun f hf => by
        rw [hb.cell (p := ⟨b', off + j * 14 + f, none⟩) hB, Nat.add_assoc]
        exact hc f hf
      have hapart : 0 < x.l.length → ∀ b'' off' s, A2 = some ⟨b'', off', s⟩ → b'' < w.heap.size := fun h0 b'' off' s e => by
        obtain ⟨b3, off3, e3, hb3, _⟩ := hA.nums 0 h0
        rw [e] at e3
        cases e3
        exact hb3
      obtain ⟨kx, ax, bx, sx, ⟨k, pa, ho, sh, m, sl, na, wa, ks⟩, xl⟩ := x
      have g0 : wr.cell? ⟨b', off + j * 14, none⟩ = some (.int .i64 kx) := hc' 0 (by omega)
      have g1 : wr.cell? ⟨b', off + j * 14 + 1, none⟩ = some (.int .i64 ax) := hc' 1 (by omega)
      have g2 : wr.cell? ⟨b', off + j * 14 + 2, none⟩ = some (.int .i64 bx) := hc' 2 (by omega)
      have g3 : wr.cell? ⟨b', off + j * 14 + 3, none⟩ = some (.string sx) := hc' 3 (by omega)
      have g4 : wr.cell? ⟨b', off + j * 14 + 4, none⟩ = some (.int .i64 k) := hc' 4 (by omega)
      have g5 : wr.cell? ⟨b', off + j * 14 + 5, none⟩ = some (.int .i64 pa) := hc' 5 (by omega)
      have g6 : wr.cell? ⟨b', off + j * 14 + 6, none⟩ = some (.int .i64 ho) := hc' 6 (by omega)
      have g7 : wr.cell? ⟨b', off + j * 14 + 7, none⟩ = some (.int .i64 sh) := hc' 7 (by omega)
      have g8 : wr.cell? ⟨b', off + j * 14 + 8, none⟩ = some (.int .i64 m) := hc' 8 (by omega)
      have g9 : wr.cell? ⟨b', off + j * 14 + 9, none⟩ = some (.bool sl) := hc' 9 (by omega)
      have g10 : wr.cell? ⟨b', off + j * 14 + 10, none⟩ = some (.string na) := hc' 10 (by omega)
      have g11 : wr.cell? ⟨b', off + j * 14 + 11, none⟩ = some (.string wa) := hc' 11 (by omega)
      have g12 : wr.cell? ⟨b', off + j * 14 + 12, none⟩ = some (.slice A1 ks.length c1) := hc' 12 (by omega)
      have g13 : wr.cell? ⟨b', off + j * 14 + 13, none⟩ = some (.slice A2 xl.length c2) := hc' 13 (by omega)
      obtain ⟨q1, q2, q3, q4, q5, q6⟩ := hA
      have hxl' : xl.length ≤ 200 := hxl
      have hbb : Below wr.heap.size wr (wr.alloc (.cells #[.int .i64 kx, .int .i64 ax, .int .i64 bx, .string sx, .int .i64 k, .int .i64 pa, .int .i64 ho, .int .i64 sh, .int .i64 m, .bool sl, .string na, .string wa, .slice A1 ks.length c1, .slice A2 xl.length c2] 54)) := (Below.refl _ wr).alloc (Nat.le_refl _) _
      have HR := Lib.hid (O.below hR hbb)
      have HS : Hid (Fut (fun i => w.heap.size ≤ i) (wr.alloc (.cells #[.int .i64 kx, .int .i64 ax, .int .i64 bx, .string sx, .int .i64 k, .int .i64 pa, .int .i64 ho, .int .i64 sh, .int .i64 m, .bool sl, .string na, .string wa, .slice A1 ks.length c1, .slice A2 xl.length c2] 54)).heap.size) := Lib.hid fun i hi => Nat.le_trans (Nat.le_trans hb.size hbb.size) hi
      have H1 : Hid (ListIn (wr.alloc (.cells #[.int .i64 kx, .int .i64 ax, .int .i64 bx, .string sx, .int .i64 k, .int .i64 pa, .int .i64 ho, .int .i64 sh, .int .i64 m, .bool sl, .string na, .string wa, .slice A1 ks.length c1, .slice A2 xl.length c2] 54)) A1 c1 ks) := Lib.hid ((hL.below hb).below hbb)
      have H6 : Hid (ListIn (wr.alloc (.cells #[.int .i64 kx, .int .i64 ax, .int .i64 bx, .string sx, .int .i64 k, .int .i64 pa, .int .i64 ho, .int .i64 sh, .int .i64 m, .bool sl, .string na, .string wa, .slice A1 ks.length c1, .slice A2 xl.length c2] 54)) A2 c2 xl) := Lib.hid ((ListIn.below ⟨q4, q5, q6⟩ hb).below hbb)
      have HB : Hid (Below w.heap.size w (wr.alloc (.cells #[.int .i64 kx, .int .i64 ax, .int .i64 bx, .string sx, .int .i64 k, .int .i64 pa, .int .i64 ho, .int .i64 sh, .int .i64 m, .bool sl, .string na, .string wa, .slice A1 ks.length c1, .slice A2 xl.length c2] 54))) := Lib.hid (hb.alloc hb.size _)
      have HA := Lib.hid hapart
      have Hg := Lib.hid hg
      have Hsn := Lib.hid hsn
      have Q1 : sx.size ≤ 9223372036854775807 := q1
      have Q2 : na.size ≤ 9223372036854775807 := q2
      have Q3 : wa.size ≤ 9223372036854775807 := q3
      clear hc hc' hsn hL hR hapart hbb hg q4 q5 q6 hxl q1 q2 q3
      by_cases h0 : kx = 0
      · subst h0
        have e1 : actL l ⟨0, ax, bx, sx, ⟨k, pa, ho, sh, m, sl, na, wa, ks⟩, xl⟩ = mkL l ⟨k, pa, ho, sh, m, sl, na, wa, ks⟩ := rfl
        have E1 := Lib.hid e1
        clear e1
        go_wp2_with fail
        refine (O.make (fun i => w.heap.size ≤ i) _ b l k pa ho sh m sl na wa ks A1 c1 HR.out Hg.out HS.out Q2 Q3 H1.out).mono ?_
        rintro e w2 ⟨rfl, hR2, hk2⟩
        go_wp2
        go_roundw
        case rel => exact ⟨j + 1, by go_num, by omega, by rw [Hsn.out, E1.out]; exact hR2, below_then HB.out hk2 HB.out.size fun i hi hh => by omega⟩
        case measure => simp [intOf]; omega
      · have h0' : (kx == 0) = false := by simpa using h0
        by_cases h1 : kx = 1
        · subst h1
          have e1 : actL l ⟨1, ax, bx, sx, ⟨k, pa, ho, sh, m, sl, na, wa, ks⟩, xl⟩ = putL l ax xl := rfl
          have E1 := Lib.hid e1
          clear e1
          go_wp2_with fail
          refine (O.put (fun i => w.heap.size ≤ i) _ b l ax xl A2 c2 HR.out Hg.out HS.out hxl' H6.out fun h0 b2 off2 s e _ hh => by have := HA.out h0 b2 off2 s e; omega).mono ?_
          rintro e w2 ⟨rfl, hR2, hk2⟩
          go_wp2
          go_roundw
          case rel => exact ⟨j + 1, by go_num, by omega, by rw [Hsn.out, E1.out]; exact hR2, below_then HB.out hk2 HB.out.size fun i hi hh => by omega⟩
          case measure => simp [intOf]; omega
        · have h1' : (kx == 1) = false := by simpa using h1
          by_cases h2 : kx = 2
          · subst h2
            have e1 : actL l ⟨2, ax, bx, sx, ⟨k, pa, ho, sh, m, sl, na, wa, ks⟩, xl⟩ = tieL l ax bx := rfl
            have E1 := Lib.hid e1
            clear e1
            go_wp2_with fail
            refine (O.tie (fun i => w.heap.size ≤ i) _ b l ax bx HR.out Hg.out HS.out).mono ?_
            rintro e w2 ⟨rfl, hR2, hk2⟩
            go_wp2
            go_roundw
            case rel => exact ⟨j + 1, by go_num, by omega, by rw [Hsn.out, E1.out]; exact hR2, below_then HB.out hk2 HB.out.size fun i hi hh => by omega⟩
            case measure => simp [intOf]; omega
          · have h2' : (kx == 2) = false := by simpa using h2
            by_cases h3 : kx = 3
            · subst h3
              have e1 : actL l ⟨3, ax, bx, sx, ⟨k, pa, ho, sh, m, sl, na, wa, ks⟩, xl⟩ = nameL l ax sx := rfl
              have E1 := Lib.hid e1
              clear e1
              go_wp2_with fail
              refine (O.name (fun i => w.heap.size ≤ i) _ b l ax sx HR.out Hg.out HS.out Q1).mono ?_
              rintro e w2 ⟨rfl, hR2, hk2⟩
              go_wp2
              go_roundw
              case rel => exact ⟨j + 1, by go_num, by omega, by rw [Hsn.out, E1.out]; exact hR2, below_then HB.out hk2 HB.out.size fun i hi hh => by omega⟩
              case measure => simp [intOf]; omega
            · have h3' : (kx == 3) = false := by simpa using h3
              by_cases h4 : kx = 4
              · subst h4
                have e1 : actL l ⟨4, ax, bx, sx, ⟨k, pa, ho, sh, m, sl, na, wa, ks⟩, xl⟩ = wantL l ax sx := rfl
                have E1 := Lib.hid e1
                clear e1
                go_wp2_with fail
                refine (O.want (fun i => w.heap.size ≤ i) _ b l ax sx HR.out Hg.out HS.out Q1).mono ?_
                rintro e w2 ⟨rfl, hR2, hk2⟩
                go_wp2
                go_roundw
                case rel => exact ⟨j + 1, by go_num, by omega, by rw [Hsn.out, E1.out]; exact hR2, below_then HB.out hk2 HB.out.size fun i hi hh => by omega⟩
                case measure => simp [intOf]; omega
              · have h4' : (kx == 4) = false := by simpa using h4
                have e1 : actL l ⟨kx, ax, bx, sx, ⟨k, pa, ho, sh, m, sl, na, wa, ks⟩, xl⟩ = l := by simp only [actL, if_neg h0, if_neg h1, if_neg h2, if_neg h3, if_neg h4]
                have E1 := Lib.hid e1
                clear e1
                go_wp2
                go_roundw
                case rel => exact ⟨j + 1, by go_num, by omega, by rw [Hsn.out, E1.out]; exact HR.out, HB.out⟩
                case measure => simp [intOf]; omega
    · go_wp2
      go_ret
      refine ⟨b, rfl, ?_, hb⟩
      rw [List.take_of_length_le (by rw [Hn.out]; omega)] at hR
      exact hR
end
end Go.Proofs.Ytphpbeapibohiaa

namespace Go.Proofs.Ytphpbeapibohiaa
open Go Go.RowKit

section
variable {G : Nat → Prop}
end
end Go.Proofs.Ytphpbeapibohiaa

namespace Go.Proofs.Ytphpbeapibohiaa
open Go Go.RowKit

/-- How many nodes ahead of number j have that parent and that kind. -/
def cntP (l : List Nd) (id kind : Int) (j : Nat) : Nat := ((List.range j).filter fun i : Nat => decide ((nd l ((i : Int) + 1)).parent = id ∧ (nd l ((i : Int) + 1)).kind = kind)).length
theorem cntP_step {l : List Nd} {id kind : Int} {j : Nat} : cntP l id kind (j + 1) = cntP l id kind j + if (nd l ((j : Int) + 1)).parent = id ∧ (nd l ((j : Int) + 1)).kind = kind then 1 else 0 := by
  unfold cntP
  rw [List.range_succ, List.filter_append, List.length_append]
  congr 1
  by_cases h : (nd l ((j : Int) + 1)).parent = id ∧ (nd l ((j : Int) + 1)).kind = kind
  · rw [if_pos h, List.filter_cons_of_pos (by simpa using h)]
    rfl
  · rw [if_neg h, List.filter_cons_of_neg (by simpa using h)]
    rfl
theorem cntP_le (l : List Nd) (id kind : Int) (j : Nat) : cntP l id kind j ≤ j := by
  have := List.length_filter_le (fun i : Nat => decide ((nd l ((i : Int) + 1)).parent = id ∧ (nd l ((i : Int) + 1)).kind = kind)) (List.range j)
  rw [List.length_range] at this
  exact this
/-- Those of a parent are its children. -/
theorem cntP_all {l : List Nd} (T : Tree l) {id kind : Int} (ht : thereB l id = true) : cntP l id kind l.length = cntL l kind (kidsL l id) := by
  unfold kidsL
  rw [if_pos ht]
  unfold cntP cntL
  have hp : List.Perm (((List.range l.length).filter fun i : Nat => decide ((nd l ((i : Int) + 1)).parent = id ∧ (nd l ((i : Int) + 1)).kind = kind)).map fun i : Nat => (i : Int) + 1) ((nd l id).kids.filter fun k => decide ((nd l k).kind = kind)) := by
    refine (List.perm_ext_iff_of_nodup ?_ ?_).2 fun k => ?_
    · exact List.pairwise_map.2 ((List.nodup_range.filter _).imp fun h e => h (by omega))
    · exact (T.once id ht).filter _
    · rw [List.mem_map, List.mem_filter]
      constructor
      · rintro ⟨i, hi, rfl⟩
        rw [List.mem_filter, List.mem_range] at hi
        obtain ⟨hlt, hq⟩ := hi
        obtain ⟨h1, h2⟩ := of_decide_eq_true hq
        have hth : thereB l ((i : Int) + 1) = true := thereB_iff.2 ⟨by omega, by omega⟩
        have hne : (nd l ((i : Int) + 1)).parent ≠ 0 := by rw [h1]; exact there_pos ht
        have := (T.par _ hth hne).2
        rw [h1] at this
        exact ⟨this, decide_eq_true h2⟩
      · rintro ⟨hk, hq⟩
        obtain ⟨h1, h2⟩ := T.kid id ht k hk
        obtain ⟨m, rfl, hm⟩ := there_at h1
        exact ⟨m, List.mem_filter.2 ⟨List.mem_range.2 hm, decide_eq_true ⟨h2, of_decide_eq_true hq⟩⟩, rfl⟩
  have := hp.length_eq
  rw [List.length_map] at this
  exact this

section
variable {G : Nat → Prop} {l : List Nd} {A : Option Addr} {c : Nat} {w : World}
/-- The children of a node, as the list holds them. -/
theorem Nodes.row (h : Nodes G w 0 A c l) {m : Nat} (hm : m < l.length) : ∃ g A1 c1, A = some ⟨g, 0, none⟩ ∧ g < w.heap.size ∧ w.cell? ⟨g, m * 9 + 8, none⟩ = some (.slice A1 (nd l ((m : Int) + 1)).kids.length c1) ∧ ListIn w A1 c1 (nd l ((m : Int) + 1)).kids ∧ w.cell? ⟨g, m * 9 + 1, none⟩ = some (.int .i64 (nd l ((m : Int) + 1)).parent) ∧ w.cell? ⟨g, m * 9, none⟩ = some (.int .i64 (nd l ((m : Int) + 1)).kind) := by
  obtain ⟨g, k, rfl, -, hg, hk, -, c0, c1, -, -, -, -, -, -, c8⟩ := h.nine hm
  obtain ⟨A1, n1, rfl, hL⟩ := (Pile.of_kids (base := 0) hk fun _ _ _ => Nat.zero_le _).form
  exact ⟨g, A1, n1, rfl, hg, c8, hL, c1, c0⟩
theorem rowL_no {id : Int} (h : thereB l id = false) : rowL l id = [] := by unfold rowL; rw [if_neg (by rw [h]; decide)]
end
end Go.Proofs.Ytphpbeapibohiaa

namespace Go.Proofs.Ytphpbeapibohiaa
open Go Go.RowKit

/-- A forest and a list of the same nodes. -/
structure Two (Rep : (Nat → Prop) → World → Nat → List Nd → Prop) (w : World) (b : Nat) (A : Option Addr) (c : Nat) (l : List Nd) (v : World) : Prop where
  rep : Rep (fun _ => True) v b l
  nodes : Nodes (fun _ => True) v 0 A c l
  below : Below w.heap.size w v
section
variable {Rep : (Nat → Prop) → World → Nat → List Nd → Prop} {w v v' : World} {b : Nat} {A : Option Addr} {c : Nat} {l : List Nd}
theorem Two.next (O : ForestOk Rep) (h : Two Rep w b A c l v) (hb : Below v.heap.size v v') : Two Rep w b A c l v' := ⟨O.since h.rep hb, h.nodes.below hb, h.below.trans (hb.mono h.below.size)⟩
theorem sameInts_self (xs : List Int) : sameInts xs xs = true := decide_eq_true rfl
/-- A forest, and what is below it. -/
structure One (Rep : (Nat → Prop) → World → Nat → List Nd → Prop) (w : World) (b : Nat) (l : List Nd) (v : World) : Prop where
  rep : Rep (fun _ => True) v b l
  below : Below w.heap.size w v
theorem One.next (O : ForestOk Rep) {w v v' : World} {b : Nat} {l : List Nd} (h : One Rep w b l v) (hb : Below v.heap.size v v') : One Rep w b l v' := ⟨O.since h.rep hb, h.below.trans (hb.mono h.below.size)⟩
end
end Go.Proofs.Ytphpbeapibohiaa

namespace Go.Proofs.Ytphpbeapibohiaa
open Go Go.RowKit

section
variable {Rep : (Nat → Prop) → World → Nat → List Nd → Prop}
set_option maxHeartbeats 8000000 in
set_option maxRecDepth 100000 in
theorem seeHides_any (O : ForestOk Rep) (M : ForestMore Rep) (A : Option Addr) (n c : Nat) (xs : List Ac) (tgt rel : Int) (comp : Bool) (w : World) (hn : xs.length = n) (hm : n ≤ maxLen) (h : Acts w A xs) :
    Calls Try.prog 5 #[.slice A n c, .int .i64 tgt, .int .i64 rel, .bool comp] w fun e w' => e = .returned (.bool true) ∧ Below w.heap.size w w' := by
  have hnot : ∀ (x : Bool) (w : World), (Op.unary .not (.bool x)).run Try.prog w = .ok (.bool (!x)) w := fun _ _ => rfl
  have H := Lib.hid h
  have Hn := Lib.hid hn
  have Hm := Lib.hid hm
  clear h hn hm
  go_enter Try.func5, Try.ntmps5
  go_wp2_with fail
  refine (awake15 w).mono ?_
  rintro e w0 ⟨rfl, hb0⟩
  go_wp2_with fail
  refine (great_any A n c xs w0 Hn.out Hm.out (H.out.below hb0)).mono ?_
  rintro e w1 ⟨⟨gr, rfl, hgr⟩, rfl⟩
  cases gr with
  | true =>
    go_wp2
    go_ret
    exact ⟨rfl, hb0⟩
  | false =>
    have Hs := Lib.hid (hgr rfl)
    have Hb0 := Lib.hid hb0
    clear hgr hb0
    go_wp2_with fail
    refine (built_any O A n c xs w0 Hn.out (H.out.below Hb0.out) Hs.out).mono ?_
    rintro e w1 ⟨b, rfl, hR, hb1⟩
    have Hg := Lib.hid (good_forest Hs.out)
    have HM := Lib.hid (moded_forest xs)
    obtain ⟨l, hl⟩ : ∃ l, l = forest xs := ⟨_, rfl⟩
    rw [← hl] at hR Hg HM
    have hO1 : One Rep w b l w1 := ⟨O.wide hR (S' := fun _ => True) fun _ _ _ => trivial, Hb0.out.trans (hb1.mono Hb0.out.size)⟩
    have T1 := Lib.hid hO1
    clear hR hb1 hO1 Hb0 hl Hs H Hn
    go_wp2_with fail
    refine (ptMake O M HM.out tgt rel comp T1.out.rep Hg.out).mono ?_
    rintro e w2 ⟨v2, rfl, hv2, hb2⟩
    have T2 := Lib.hid (T1.out.next O hb2)
    have hl2 : (makeP l tgt rel comp).length ≤ 300 := by
      have h1 := makeP_len (rel := rel) (tgt := tgt) (comp := comp) Hg.out.tree
      have h2 := Hg.out.len
      omega
    have hh : ∀ v x, x ∈ seeP (makeP l tgt rel comp) v → hidL l x v = false := fun v x h => see_hides Hg.out.tree h
    obtain ⟨P, hP⟩ : ∃ P, P = makeP l tgt rel comp := ⟨_, rfl⟩
    rw [← hP] at hv2 hl2 hh
    obtain ⟨A2, c2, rfl, hr2⟩ := hv2.form
    obtain ⟨N, hN⟩ : ∃ N, N = P.length := ⟨_, rfl⟩
    rw [← hN] at hl2
    rw [← hN]
    have HN := Lib.hid hN
    have HR2 := Lib.hid hr2
    have HH := Lib.hid hh
    clear hb2 T1 hP hv2 hr2 hN hh
    go_wp2_with fail
    go_loopw [11] (fun i wr => ∃ k : Nat, i = .int .i64 k ∧ k ≤ N ∧ Below w2.heap.size w2 wr) (fun i _ => N - (intOf i).toNat)
    case atStart => exact ⟨0, rfl, Nat.zero_le _, Below.refl _ _⟩
    case round =>
      obtain ⟨k, rfl, hk, hb⟩ := hrel
      by_cases hkn : (k : Int) < N
      · obtain ⟨wo, hwo⟩ : ∃ wo : World, wo = wr := ⟨_, rfl⟩
        subst hwo
        have hkl : k < P.length := by rw [← HN.out]; omega
        have Hb := Lib.hid hb
        have HX : Hid (∀ W, Below wo.heap.size wo W → ∃ b2 o2, A2 = some ⟨b2, o2, none⟩ ∧ W.cell? ⟨b2, o2 + k * 5, none⟩ = some (.int .i64 P[k].node)) := Lib.hid fun W hW => by
          obtain ⟨b2, o2, e, x0, -⟩ := five_of ((HR2.out.below hb).below hW) hkl
          exact ⟨b2, o2, e, x0⟩
        have HRr := Lib.hid (HR2.out.below hb)
        obtain ⟨v, hv⟩ : ∃ v, v = P[k].node := ⟨_, rfl⟩
        rw [← hv] at HX
        obtain ⟨b2, o2, rfl, x0⟩ := HX.out wo (Below.refl _ _)
        have hwk : IntKind.i64.wrap ((k : Int) + 1) = (k : Int) + 1 := wrap_small (by omega) (by omega)
        clear hv hkl hb
        go_wp2_with fail
        refine (seFrom v HRr.out HN.out.symm hl2).mono ?_
        rintro e w3 ⟨x, rfl, hx, hb3⟩
        obtain ⟨A3, c3, rfl, hL3⟩ := own_list hx
        have HL3 := Lib.hid hL3
        have HB3 := Lib.hid hb3
        have HH3 := Lib.hid (HH.out v)
        have hln : (seeP P v).length ≤ 300 := by
          have := (see_sub (p := P) (v := v)).length_le
          rw [List.length_map, ← HN.out] at this
          omega
        obtain ⟨L, hL⟩ : ∃ L, L = seeP P v := ⟨_, rfl⟩
        rw [← hL] at HL3 HH3 hln
        rw [← hL]
        obtain ⟨r, hr⟩ : ∃ r, r = L.length := ⟨_, rfl⟩
        rw [← hr] at hln
        rw [← hr]
        have HRL := Lib.hid hr
        clear hx hb3 hL3 hL hr x0 HRr
        go_wp2_with fail
        go_loopw [13] (fun j wq => ∃ q : Nat, j = .int .i64 q ∧ q ≤ r ∧ Below w3.heap.size w3 wq) (fun j _ => r - (intOf j).toNat)
        case atStart => exact ⟨0, rfl, Nat.zero_le _, Below.refl _ _⟩
        case round =>
          obtain ⟨q, rfl, hq, hbq⟩ := hrel
          by_cases hqr : (q : Int) < r
          · have hql : q < L.length := by rw [← HRL.out]; omega
            have hmem := HH3.out L[q] (List.getElem_mem hql)
            have HY : Hid (∀ W, Below wr.heap.size wr W → ∃ b3 o3, (A3 = some ⟨b3, o3, none⟩ ∧ W.cell? ⟨b3, o3 + q, none⟩ = some (.int .i64 L[q])) ∧ W.cell? ⟨b2, o2 + k * 5, none⟩ = some (.int .i64 v)) := Lib.hid fun W hW => by
              have h3 := hbq.trans (hW.mono hbq.size)
              obtain ⟨b3, o3, e, hB, x1⟩ := HL3.out.nums q hql
              obtain ⟨b4, o4, e4, x2⟩ := HX.out W (HB3.out.trans (h3.mono HB3.out.size))
              obtain ⟨rfl, rfl⟩ : b2 = b4 ∧ o2 = o4 := by simpa using e4
              exact ⟨b3, o3, ⟨e, (h3.cell (p := ⟨b3, o3 + q, none⟩) hB).trans x1⟩, x2⟩
            obtain ⟨y, hy⟩ : ∃ y, y = L[q] := ⟨_, rfl⟩
            rw [← hy] at hmem HY
            obtain ⟨b3, o3, ⟨rfl, -⟩, -⟩ := HY.out wr (Below.refl _ _)
            have HS : Hid (∀ W, Below wr.heap.size wr W → W.cell? ⟨b3, o3 + q, none⟩ = some (.int .i64 y) ∧ W.cell? ⟨b2, o2 + k * 5, none⟩ = some (.int .i64 v)) := Lib.hid fun W hW => by
              obtain ⟨b5, o5, ⟨e5, x1⟩, x2⟩ := HY.out W hW
              obtain ⟨rfl, rfl⟩ : b3 = b5 ∧ o3 = o5 := by simpa using e5
              exact ⟨x1, x2⟩
            have HMEM := Lib.hid hmem
            have hwq : IntKind.i64.wrap ((q : Int) + 1) = (q : Int) + 1 := wrap_small (by omega) (by omega)
            have Hbq := Lib.hid hbq
            have Td := Lib.hid ((T2.out.next O (Hb.out.trans ((HB3.out.trans (hbq.mono HB3.out.size)).mono Hb.out.size))).next O (Below.refl _ _).drew)
            have hd0 := HS.out _ (Below.refl _ _).drew
            clear hy hmem HY hql hbq
            go_wp2_with fail
            refine wp_region_way (late := []) (S := fun W => W.cell? ⟨b3, o3 + q, none⟩ = some (.int .i64 y) ∧ W.cell? ⟨b2, o2 + k * 5, none⟩ = some (.int .i64 v)) (y := Way.takes [0, 1, 2, 3, 4, 5, 6, 7, 8, 9] (.run 10 .fin)) (by kernel_rfl) (by kernel_rfl) rfl (by kernel_rfl) hd0 (fun hHeld => ?_)
            simp only [Way.takes]
            (repeat (first | (refine way_skip (by simp only [List.getElem?_toArray, List.getElem?_cons_succ, List.getElem?_cons_zero]; rfl) (by rfl) hHeld ?_; (try simp only [Act.put, List.setIfInBounds_toArray, List.set_cons_zero, List.set_cons_succ])) | (refine way_pass (by simp only [List.getElem?_toArray, List.getElem?_cons_succ, List.getElem?_cons_zero]; rfl) (by rfl) hHeld ?_; (try simp only [Act.put, List.setIfInBounds_toArray, List.set_cons_zero, List.set_cons_succ])) | (refine way_take (v := ?_) (by simp only [List.getElem?_toArray, List.getElem?_cons_succ, List.getElem?_cons_zero]; rfl) (by rfl) ?_ hHeld ?_; rotate_left; (focus (intro w hSw; (try dsimp only at hSw); go_simp; (try with_reducible rfl); done)); (try simp only [Act.put, List.setIfInBounds_toArray, List.set_cons_zero, List.set_cons_succ]))))
            refine way_run (by simp only [List.getElem?_toArray, List.getElem?_cons_succ, List.getElem?_cons_zero]; rfl) (by rfl) (fun K hK => ?_)
            go_simp
            refine (shHidden O M y v Td.out.rep Hg.out).mono ?_
            rintro e w4 ⟨rfl, hb4⟩
            rw [HMEM.out]
            have hbr4 : Below wr.heap.size wr w4 := (Below.refl _ wr).drew.trans hb4
            have hS4 := HS.out _ hbr4
            have HBQ := Lib.hid (Hbq.out.trans (hbr4.mono Hbq.out.size))
            go_simp
            refine hK.out _ _ hS4 (fun hHeld => ?_)
            clear hK K hb4 hbr4 Td HS hS4 hd0
            (try simp only [Act.put, List.setIfInBounds_toArray, List.set_cons_zero, List.set_cons_succ])
            refine way_done ?_
            clear hHeld
            go_wp2
            go_roundw
            case rel => exact ⟨q + 1, by go_num, by omega, HBQ.out⟩
            case measure => simp [intOf]; omega
          · have HF : Hid (Below w2.heap.size w2 wr) := Lib.hid (Hb.out.trans ((HB3.out.trans (hbq.mono HB3.out.size)).mono Hb.out.size))
            clear hbq
            go_wp2
            go_roundw
            case rel => exact ⟨k + 1, by go_num, by omega, HF.out⟩
            case measure => simp [intOf]; omega
      · have HF := Lib.hid (T2.out.next O hb)
        clear hb
        go_wp2
        go_ret
        exact ⟨rfl, HF.out.below⟩
end
end Go.Proofs.Ytphpbeapibohiaa

namespace Go.Proofs.Ytphpbeapibohiaa
open Go Go.RowKit

theorem nested_is {l : List Nd} {target rel : Int} {comp : Bool} {i k : Nat} (T : Tree l) (hi : i < (makeP l target rel comp).length) (hk : k < (makeP l target rel comp).length) :
    hidL l (makeP l target rel comp)[i].node (makeP l target rel comp)[k].node = !hasB (seeP (makeP l target rel comp) (makeP l target rel comp)[k].node) (makeP l target rel comp)[i].node := by
  cases hh : hidL l (makeP l target rel comp)[i].node (makeP l target rel comp)[k].node with
  | false =>
    have := see_nested T hk hi hh
    unfold hasB
    rw [decide_eq_true this]
    rfl
  | true =>
    have h2 : (makeP l target rel comp)[i].node ∉ seeP (makeP l target rel comp) (makeP l target rel comp)[k].node := fun h => by
      rw [see_hides T h] at hh
      cases hh
    unfold hasB
    rw [decide_eq_false h2]
    rfl
section
variable {Rep : (Nat → Prop) → World → Nat → List Nd → Prop}
set_option maxHeartbeats 8000000 in
set_option maxRecDepth 100000 in
theorem seeNested_any (O : ForestOk Rep) (M : ForestMore Rep) (A : Option Addr) (n c : Nat) (xs : List Ac) (tgt : Int) (comp : Bool) (w : World) (hn : xs.length = n) (hm : n ≤ maxLen) (h : Acts w A xs) :
    Calls Try.prog 7 #[.slice A n c, .int .i64 tgt, .bool comp] w fun e w' => e = .returned (.bool true) ∧ Below w.heap.size w w' := by
  have hnot : ∀ (x : Bool) (w : World), (Op.unary .not (.bool x)).run Try.prog w = .ok (.bool (!x)) w := fun _ _ => rfl
  have H := Lib.hid h
  have Hn := Lib.hid hn
  have Hm := Lib.hid hm
  clear h hn hm
  go_enter Try.func7, Try.ntmps7
  go_wp2_with fail
  refine (awake15 w).mono ?_
  rintro e w0 ⟨rfl, hb0⟩
  go_wp2_with fail
  refine (great_any A n c xs w0 Hn.out Hm.out (H.out.below hb0)).mono ?_
  rintro e w1 ⟨⟨gr, rfl, hgr⟩, rfl⟩
  cases gr with
  | true =>
    go_wp2
    go_ret
    exact ⟨rfl, hb0⟩
  | false =>
    have Hs := Lib.hid (hgr rfl)
    have Hb0 := Lib.hid hb0
    clear hgr hb0
    go_wp2_with fail
    refine (built_any O A n c xs w0 Hn.out (H.out.below Hb0.out) Hs.out).mono ?_
    rintro e w1 ⟨b, rfl, hR, hb1⟩
    have Hg := Lib.hid (good_forest Hs.out)
    have HM := Lib.hid (moded_forest xs)
    obtain ⟨l, hl⟩ : ∃ l, l = forest xs := ⟨_, rfl⟩
    rw [← hl] at hR Hg HM
    have hO1 : One Rep w b l w1 := ⟨O.wide hR (S' := fun _ => True) fun _ _ _ => trivial, Hb0.out.trans (hb1.mono Hb0.out.size)⟩
    have T1 := Lib.hid hO1
    clear hR hb1 hO1 Hb0 hl Hs H Hn
    go_wp2_with fail
    refine (ptMake O M HM.out tgt 0 comp T1.out.rep Hg.out).mono ?_
    rintro e w2 ⟨v2, rfl, hv2, hb2⟩
    have T2 := Lib.hid (T1.out.next O hb2)
    have hl2 : (makeP l tgt 0 comp).length ≤ 300 := by
      have h1 := makeP_len (rel := 0) (tgt := tgt) (comp := comp) Hg.out.tree
      have h2 := Hg.out.len
      omega
    have hh : ∀ (i k : Nat) (hi : i < (makeP l tgt 0 comp).length) (hk : k < (makeP l tgt 0 comp).length), hidL l (makeP l tgt 0 comp)[i].node (makeP l tgt 0 comp)[k].node = !hasB (seeP (makeP l tgt 0 comp) (makeP l tgt 0 comp)[k].node) (makeP l tgt 0 comp)[i].node := fun i k hi hk => nested_is Hg.out.tree hi hk
    obtain ⟨P, hP⟩ : ∃ P, P = makeP l tgt 0 comp := ⟨_, rfl⟩
    rw [← hP] at hv2 hl2 hh
    obtain ⟨A2, c2, rfl, hr2⟩ := hv2.form
    obtain ⟨N, hN⟩ : ∃ N, N = P.length := ⟨_, rfl⟩
    rw [← hN] at hl2
    rw [← hN]
    have HN := Lib.hid hN
    have HR2 := Lib.hid hr2
    have HH := Lib.hid hh
    clear hb2 T1 hP hv2 hr2 hN hh
    go_wp2_with fail
    go_loopw [9] (fun i wr => ∃ k : Nat, i = .int .i64 k ∧ k ≤ N ∧ Below w2.heap.size w2 wr) (fun i _ => N - (intOf i).toNat)
    case atStart => exact ⟨0, rfl, Nat.zero_le _, Below.refl _ _⟩
    case round =>
      obtain ⟨k, rfl, hk, hb⟩ := hrel
      by_cases hkn : (k : Int) < N
      · obtain ⟨wo, hwo⟩ : ∃ wo : World, wo = wr := ⟨_, rfl⟩
        subst hwo
        have hkl : k < P.length := by rw [← HN.out]; omega
        have Hb := Lib.hid hb
        have HX : Hid (∀ W, Below wo.heap.size wo W → ∃ b2 o2, A2 = some ⟨b2, o2, none⟩ ∧ W.cell? ⟨b2, o2 + k * 5, none⟩ = some (.int .i64 P[k].node)) := Lib.hid fun W hW => by
          obtain ⟨b2, o2, e, x0, -⟩ := five_of ((HR2.out.below hb).below hW) hkl
          exact ⟨b2, o2, e, x0⟩
        have HRr := Lib.hid (HR2.out.below hb)
        have hh2 : ∀ (i : Nat) (hi : i < P.length), hidL l P[i].node P[k].node = !hasB (seeP P P[k].node) P[i].node := fun i hi => HH.out i k hi hkl
        obtain ⟨v, hv⟩ : ∃ v, v = P[k].node := ⟨_, rfl⟩
        rw [← hv] at HX hh2
        have HH3 := Lib.hid hh2
        obtain ⟨b2, o2, rfl, x0⟩ := HX.out wo (Below.refl _ _)
        have hwk : IntKind.i64.wrap ((k : Int) + 1) = (k : Int) + 1 := wrap_small (by omega) (by omega)
        clear hv hkl hb hh2
        go_wp2_with fail
        refine (seFrom v HRr.out HN.out.symm hl2).mono ?_
        rintro e w3 ⟨x, rfl, hx, hb3⟩
        obtain ⟨A3, c3, rfl, hL3⟩ := own_list hx
        have HL3 := Lib.hid hL3
        have HB3 := Lib.hid hb3
        have hln : (seeP P v).length ≤ 300 := by
          have := (see_sub (p := P) (v := v)).length_le
          rw [List.length_map, ← HN.out] at this
          omega
        obtain ⟨L, hL⟩ : ∃ L, L = seeP P v := ⟨_, rfl⟩
        rw [← hL] at HL3 HH3 hln
        rw [← hL]
        obtain ⟨r, hr⟩ : ∃ r, r = L.length := ⟨_, rfl⟩
        rw [← hr] at hln
        rw [← hr]
        have HRL := Lib.hid hr
        clear hx hb3 hL3 hL hr x0 HRr
        go_wp2_with fail
        go_loopw [11] (fun j wq => ∃ q : Nat, j = .int .i64 q ∧ q ≤ N ∧ Below w3.heap.size w3 wq) (fun j _ => N - (intOf j).toNat)
        case atStart => exact ⟨0, rfl, Nat.zero_le _, Below.refl _ _⟩
        case round =>
          obtain ⟨q, rfl, hq, hbq⟩ := hrel
          by_cases hqr : (q : Int) < N
          · have hql : q < P.length := by rw [← HN.out]; omega
            have hmem := HH3.out q hql
            have HY : Hid (∀ W, Below wr.heap.size wr W → W.cell? ⟨b2, o2 + q * 5, none⟩ = some (.int .i64 P[q].node) ∧ W.cell? ⟨b2, o2 + k * 5, none⟩ = some (.int .i64 v)) := Lib.hid fun W hW => by
              have h3 := hbq.trans (hW.mono hbq.size)
              have h4 := HB3.out.trans (h3.mono HB3.out.size)
              obtain ⟨b3, o3, e3, x1, -⟩ := five_of ((HR2.out.below Hb.out).below h4) hql
              obtain ⟨b4, o4, e4, x2⟩ := HX.out W h4
              obtain ⟨rfl, rfl⟩ : b2 = b3 ∧ o2 = o3 := by simpa using e3
              obtain ⟨rfl, rfl⟩ : b2 = b4 ∧ o2 = o4 := by simpa using e4
              exact ⟨x1, x2⟩
            obtain ⟨y, hy⟩ : ∃ y, y = P[q].node := ⟨_, rfl⟩
            rw [← hy] at hmem HY
            have HS := HY
            have HMEM := Lib.hid hmem
            have hwq : IntKind.i64.wrap ((q : Int) + 1) = (q : Int) + 1 := wrap_small (by omega) (by omega)
            have Hbq := Lib.hid hbq
            have Td := Lib.hid ((T2.out.next O (Hb.out.trans ((HB3.out.trans (hbq.mono HB3.out.size)).mono Hb.out.size))).next O (Below.refl _ _).drew)
            have hd0 := HS.out _ (Below.refl _ _).drew
            clear hy hmem HY hql hbq
            go_wp2_with fail
            refine wp_region_way (late := []) (S := fun W => W.cell? ⟨b2, o2 + q * 5, none⟩ = some (.int .i64 y) ∧ W.cell? ⟨b2, o2 + k * 5, none⟩ = some (.int .i64 v)) (y := Way.takes [0, 1, 2, 3, 4, 5, 6, 7, 8, 9, 10, 12, 13, 14, 15, 16, 17] (.run 11 (.run 18 (.take 19 .fin)))) (by kernel_rfl) (by kernel_rfl) rfl (by kernel_rfl) hd0 (fun hHeld => ?_)
            simp only [Way.takes]
            (repeat (first | (refine way_skip (by simp only [List.getElem?_toArray, List.getElem?_cons_succ, List.getElem?_cons_zero]; rfl) (by rfl) hHeld ?_; (try simp only [Act.put, List.setIfInBounds_toArray, List.set_cons_zero, List.set_cons_succ])) | (refine way_pass (by simp only [List.getElem?_toArray, List.getElem?_cons_succ, List.getElem?_cons_zero]; rfl) (by rfl) hHeld ?_; (try simp only [Act.put, List.setIfInBounds_toArray, List.set_cons_zero, List.set_cons_succ])) | (refine way_take (v := ?_) (by simp only [List.getElem?_toArray, List.getElem?_cons_succ, List.getElem?_cons_zero]; rfl) (by rfl) ?_ hHeld ?_; rotate_left; (focus (intro w hSw; (try dsimp only at hSw); go_simp; (try with_reducible rfl); done)); (try simp only [Act.put, List.setIfInBounds_toArray, List.set_cons_zero, List.set_cons_succ]))))
            refine way_run (by simp only [List.getElem?_toArray, List.getElem?_cons_succ, List.getElem?_cons_zero]; rfl) (by rfl) (fun K hK => ?_)
            go_simp
            refine (shHidden O M y v Td.out.rep Hg.out).mono ?_
            rintro e w4 ⟨rfl, hb4⟩
            rw [HMEM.out]
            have hbr4 : Below wr.heap.size wr w4 := (Below.refl _ wr).drew.trans hb4
            have hS4 := HS.out _ hbr4
            have HBQ := Lib.hid (Hbq.out.trans (hbr4.mono Hbq.out.size))
            have HL4 := Lib.hid (HL3.out.below HBQ.out)
            go_simp
            refine hK.out _ _ hS4 (fun hHeld => ?_)
            clear hK K hb4 hbr4 Td HS hd0
            (try simp only [Act.put, List.setIfInBounds_toArray, List.set_cons_zero, List.set_cons_succ])
            refine way_run (by simp only [List.getElem?_toArray, List.getElem?_cons_succ, List.getElem?_cons_zero]; rfl) (by rfl) (fun K hK => ?_)
            go_simp
            refine (has_any L A3 r c3 y w4 HRL.out (by omega) HL4.out.nums).mono ?_
            rintro e w5 ⟨rfl, rfl⟩
            obtain ⟨hb, hhb⟩ : ∃ hb, hb = hasB L y := ⟨_, rfl⟩
            rw [← hhb]
            have hne : ((!hb) == hb) = false := by cases hb <;> rfl
            clear hhb
            go_simp
            refine hK.out _ _ hS4 (fun hHeld => ?_)
            clear hK K hS4
            (try simp only [Act.put, List.setIfInBounds_toArray, List.set_cons_zero, List.set_cons_succ])
            (repeat (first | (refine way_skip (by simp only [List.getElem?_toArray, List.getElem?_cons_succ, List.getElem?_cons_zero]; rfl) (by rfl) hHeld ?_; (try simp only [Act.put, List.setIfInBounds_toArray, List.set_cons_zero, List.set_cons_succ])) | (refine way_pass (by simp only [List.getElem?_toArray, List.getElem?_cons_succ, List.getElem?_cons_zero]; rfl) (by rfl) hHeld ?_; (try simp only [Act.put, List.setIfInBounds_toArray, List.set_cons_zero, List.set_cons_succ])) | (refine way_take (v := ?_) (by simp only [List.getElem?_toArray, List.getElem?_cons_succ, List.getElem?_cons_zero]; rfl) (by rfl) ?_ hHeld ?_; rotate_left; (focus (intro w hSw; (try dsimp only at hSw); go_simp; (try with_reducible rfl); done)); (try simp only [Act.put, List.setIfInBounds_toArray, List.set_cons_zero, List.set_cons_succ]))))
            refine way_done ?_
            clear hHeld
            go_wp2
            go_roundw
            case rel => exact ⟨q + 1, by go_num, by omega, HBQ.out⟩
            case measure => simp [intOf]; omega
          · have HF : Hid (Below w2.heap.size w2 wr) := Lib.hid (Hb.out.trans ((HB3.out.trans (hbq.mono HB3.out.size)).mono Hb.out.size))
            clear hbq
            go_wp2
            go_roundw
            case rel => exact ⟨k + 1, by go_num, by omega, HF.out⟩
            case measure => simp [intOf]; omega
      · have HF := Lib.hid (T2.out.next O hb)
        clear hb
        go_wp2
        go_ret
        exact ⟨rfl, HF.out.below⟩
end
end Go.Proofs.Ytphpbeapibohiaa

namespace Go.Proofs.Ytphpbeapibohiaa
open Go Go.RowKit
theorem seeHides_here (A : Option Addr) (n c : Nat) (xs : List Ac) (tgt rel : Int) (comp : Bool) (w : World) (hn : xs.length = n) (hm : n ≤ maxLen) (h : Acts w A xs) :
    Calls Try.prog 5 #[.slice A n c, .int .i64 tgt, .int .i64 rel, .bool comp] w fun e w' => e = .returned (.bool true) ∧ Below w.heap.size w w' := seeHides_any arOk arMore A n c xs tgt rel comp w hn hm h
theorem seeNested_here (A : Option Addr) (n c : Nat) (xs : List Ac) (tgt : Int) (comp : Bool) (w : World) (hn : xs.length = n) (hm : n ≤ maxLen) (h : Acts w A xs) :
    Calls Try.prog 7 #[.slice A n c, .int .i64 tgt, .bool comp] w fun e w' => e = .returned (.bool true) ∧ Below w.heap.size w w' := seeNested_any arOk arMore A n c xs tgt comp w hn hm h
end Go.Proofs.Ytphpbeapibohiaa

namespace Go.Proofs.Ytphpbeapibohiaa
open Go.ChangeShapes Go.WideShapes Go.ChangeAt Go.RowKit
open Go.ChangeMaps (open_string shut_string)

set_option maxRecDepth 100000 in
theorem seeHides_lifted (os : Os) (started : os.Started) (H : Type) (enc : TypeId × Value → H) :
    ReturnsInHanded {} Try.checked os 5 .any (Rows.seeHidesSpec.pre6 enc Try.prog Try.f5 Rows.seeHidesRow.domain false) (Rows.seeHidesSpec.post enc Try.prog Try.f5 false true false false) := by
  refine returnsInHanded_of_change (C := Try.checked) own started (by kernel_rfl) Try.func5
    (ChangeSpec.witness6 (enc := enc) (C := Try.checked) false ⟨#[], #[.slice none 0 0, .int .i64 0, .int .i64 0, .bool false], []⟩ 8 (by kernel_rfl) (by kernel_rfl) (by kernel_rfl) (by kernel_rfl)) ?_
  intro W base args ds gs before hval0 hW hcnd _
  have hval : ∀ (j : Nat) t v, Try.f5.params[j]? = some t → args[j]? = some v → Value.okWide Try.prog W .any base t v := hval0
  clear hval0 hcnd
  have hW' := hW
  obtain ⟨p, q, hA0, hV, rfl, hfz, hnd⟩ := hW
  have hA : DataW.TrodAll enc Try.prog W 0 (fun _ => true) true Try.f5.params.toList args.toList ds p := hA0
  rw [Try.params5] at hA hval
  obtain ⟨v0, vs0, d0, ds0, p0, q0, hargs, rfl, rfl, h0, r0⟩ := trodAll_cons hA
  obtain ⟨v1, vs1, d1, ds1, p1, q1, rfl, rfl, rfl, h1, r1⟩ := trodAll_cons r0
  obtain ⟨v2, vs2, d2, ds2, p2, q2, rfl, rfl, rfl, h2, r2⟩ := trodAll_cons r1
  obtain ⟨v3, vs3, d3, ds3, p3, q3, rfl, rfl, rfl, h3, r3⟩ := trodAll_cons r2
  obtain ⟨rfl, rfl, rfl⟩ := trodAll_nil r3
  obtain rfl : args = #[v0, v1, v2, v3] := by cases args; simp_all
  obtain ⟨rfl, rfl⟩ := trodVars_none hV
  obtain ⟨A0, n0, c0, rfl⟩ := okWide_slice Try.underlying31 (hval 0 31 v0 rfl rfl)
  have k0 := h0
  have lt0 : ∀ x ∈ p0, x.block < W.heap.size := by obtain ⟨m, hm⟩ := k0; exact DataW.trod_lt m _ _ _ hm
  obtain ⟨x0, l0, y0, z0, q0x⟩ : ∃ xs : List Ac, xs.length = n0 ∧ Acts W A0 xs ∧ n0 ≤ c0 ∧ n0 ≤ maxLen := by
    obtain ⟨fuel, hf⟩ := h0
    exact acts_in hf
  obtain ⟨a1, rfl, rfl, rfl, w1⟩ := open_int Try.underlying3 (hval 1 3 v1 rfl rfl) h1
  obtain ⟨a2, rfl, rfl, rfl, w2⟩ := open_int Try.underlying3 (hval 2 3 v2 rfl rfl) h2
  obtain ⟨b3, rfl, rfl, rfl⟩ := open_bool Try.underlying4 (hval 3 4 v3 rfl rfl) h3
  clear hA0
  refine (seeHides_here A0 n0 c0 x0 a1 a2 b3 W l0 q0x y0).mono fun e W' ⟨he, bel⟩ => ?_
  subst he
  exact ⟨_, rfl, _, _, _, [], _, [], hW', trodAll_mk1 (shut_bool Try.underlying4 _), (trodAll_cons_mk (Below.trod laidOut (by kernel_rfl) (of_decide_eq_true (by kernel_rfl)) k0 bel lt0) (trodAll_cons_mk (shut_int Try.underlying3 w1) (trodAll_cons_mk (shut_int Try.underlying3 w2) (trodAll_cons_mk (shut_bool Try.underlying4 b3) trodAll_mk0)))), rfl, bel.frame _, fun h => by cases h⟩

theorem seeHides_holds : Rows.SeeHidesSaid :=
  OpenClaim.holds_of_wide 5 Try.f5 rfl rfl rfl rfl rfl rfl rfl ⟨rfl, rfl, rfl, rfl, rfl⟩ rfl rfl rfl rfl rfl (by kernel_rfl) Try.func5 (by kernel_rfl)
    (of_decide_eq_true (by kernel_rfl)) (by unfold Func.isWrapper; rw [if_neg (by decide +kernel)]; exact ⟨rfl, rfl⟩)
    (fun os started H enc _ => seeHides_lifted os started H enc)
end Go.Proofs.Ytphpbeapibohiaa
