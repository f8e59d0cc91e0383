/-
  What the function that package path's Make gathers with does.
  What package path's Make does with an arena that keeps its promises.
  towncrierref13.Path of two paths that are the same.
  What towncrierlaw14.awake does: it answers true.
  What towncrierref05.Order does.
  What towncrierref09.Slots and Of do.
  What towncrierref08.Host, Whole, Holds, Hidden and Closed do.
  What towncrierref10.Aim does.
-/
import Derived.Test.YtciajmaejpapfaaPartF
import Derived.Laws.EntriesVeiled
import Derived.Deep.DeepCutAuto

namespace Go.Proofs.Ytciajmaejpapfaa
open Go Go.RowKit

theorem Try.infoStep : (Try.prog.info? 38).map (fun i => (i.zero, i.size, i.bytes)) = some (some (.agg #[.int .i64 0, .int .i64 0, .int .i64 0, .bool false, .bool false]), 5, 32) := by kernel_rfl
/-- What the function closes over, and the path so far: the forest's pointer, the related node, the list and the last entry's node in four blocks; M: the list's rows lie from there on. -/
structure GE (w0 : World) (b : Nat) (rel : Int) (bf br bs ba M : Nat) (w : World) (v : Value) (prev : Int) (xs : List Stp) : Prop where
  low : w0.heap.size ≤ bf ∧ bf < br ∧ br < bs ∧ bs < ba ∧ ba < M ∧ M ≤ w.heap.size
  below : Below w0.heap.size w0 w
  hf : Has w bf (.cells #[at_ b] 25 (0, 0))
  hr : Has w br (.cells #[.int .i64 rel] 3 (0, 0))
  hs : Has w bs (.cells #[v] 32 (0, 0))
  ha : Has w ba (.cells #[.int .i64 prev] 3 (0, 0))
  rows : Recs RS 38 M w v xs
section
variable {w0 w w' : World} {b bf br bs ba M : Nat} {rel prev at' : Int} {v v' : Value} {xs xs' : List Stp}
theorem GE.next (h : GE w0 b rel bf br bs ba M w v prev xs) (k : Below w.heap.size w w') : GE w0 b rel bf br bs ba M w' v prev xs :=
  ⟨⟨h.low.1, h.low.2.1, h.low.2.2.1, h.low.2.2.2.1, h.low.2.2.2.2.1, Nat.le_trans h.low.2.2.2.2.2 k.size⟩, h.below.trans (k.mono h.below.size), h.hf.below k h.hf.inside, h.hr.below k h.hr.inside, h.hs.below k h.hs.inside, h.ha.below k h.ha.inside, h.rows.below k⟩
/-- The list is another one, in the old row or a new one. -/
theorem GE.pushed (h : GE w0 b rel bf br bs ba M w v prev xs) (k : Keeps (fun i => v.ownBlock = some i) w w') (hp : Recs RS 38 M w' v' xs') : GE w0 b rel bf br bs ba M (w'.setCell ⟨bs, 0, none⟩ v') v' prev xs' := by
  obtain ⟨l1, l2, l3, l4, l5, l6⟩ := h.low
  have hv : ∀ g, v.ownBlock = some g → M ≤ g := fun g hg => (h.rows.in_ g hg).1
  have k2 : Keeps (fun i => v.ownBlock = some i ∨ i = bs) w (w'.setCell ⟨bs, 0, none⟩ v') := (k.wide fun _ _ hF => .inl hF).store (p := ⟨bs, 0, none⟩) (.inl (.inr rfl)) _
  have k3 : Keeps (fun i => i = bs) w' (w'.setCell ⟨bs, 0, none⟩ v') := Keeps.store (F := fun i => i = bs) (p := ⟨bs, 0, none⟩) (Keeps.refl _ _) (.inl rfl) _
  have hs' : Has w' bs (.cells #[v] 32 (0, 0)) := h.hs.kept k fun e => by have := hv _ e; omega
  have far : ∀ i, i < M → i ≠ bs → ¬ (v.ownBlock = some i ∨ i = bs) := fun i hi hne hF => by
    rcases hF with hF | hF
    · have := hv _ hF; omega
    · exact hne hF
  refine ⟨⟨l1, l2, l3, l4, l5, Nat.le_trans l6 k2.grows⟩, below_then h.below k2 h.below.size fun i hi hF => ?_, h.hf.kept k2 (far _ (by omega) (by omega)), h.hr.kept k2 (far _ (by omega) (by omega)), ?_, h.ha.kept k2 (far _ (by omega) (by omega)), hp.kept k3 fun g hg e => ?_⟩
  · rcases hF with hF | hF
    · have := hv _ hF; omega
    · omega
  · have := hs'.stored 0 v'
    simpa using this
  · have := (hp.in_ g hg).1
    omega
/-- The last entry's node is another one. -/
theorem GE.moved (h : GE w0 b rel bf br bs ba M w v prev xs) (at' : Int) : GE w0 b rel bf br bs ba M (w.setCell ⟨ba, 0, none⟩ (.int .i64 at')) v at' xs := by
  obtain ⟨l1, l2, l3, l4, l5, l6⟩ := h.low
  have k : Keeps (fun i => i = ba) w (w.setCell ⟨ba, 0, none⟩ (.int .i64 at')) := Keeps.store (F := fun i => i = ba) (p := ⟨ba, 0, none⟩) (Keeps.refl _ _) (.inl rfl) _
  refine ⟨⟨l1, l2, l3, l4, l5, Nat.le_trans l6 k.grows⟩, below_then h.below k h.below.size fun i hi hF => by omega, h.hf.kept k (by omega), h.hr.kept k (by omega), h.hs.kept k (by omega), ?_, h.rows.kept k fun g hg e => ?_⟩
  · have := h.ha.stored 0 (.int .i64 at')
    simpa using this
  · have := (h.rows.in_ g hg).1
    omega
end
section
variable {Rep : (Nat → Prop) → World → Nat → List Nd → Prop} {S : Nat → Prop} {w0 w : World} {b bf br bs ba M : Nat} {l : List Nd} {rel prev : Int} {v : Value} {xs : List Stp}
set_option maxHeartbeats 8000000 in
set_option maxRecDepth 100000 in
theorem ptGather (O : ForestOk Rep) (M' : ForestMore Rep) (hm : Moded l) (at' told : Int) (hrep : Rep S w0 b l) (hg : Good l) (ht : thereB l at' = true) (h : GE w0 b rel bf br bs ba M w v prev xs) (hl : xs.length ≤ 1000000) :
    Calls Try.prog 32 #[.int .i64 at', .int .i64 told, .pointer (some ⟨bs, 0, none⟩), .pointer (some ⟨bf, 0, none⟩), .pointer (some ⟨br, 0, none⟩), .pointer (some ⟨ba, 0, none⟩)] w fun e w' => e = .returned (.tuple #[]) ∧ ∃ v', GE w0 b rel bf br bs ba M w' v' at' (xs ++ [⟨at', told, aimL l rel at', crB l at', decide (ofL l prev = at') && crB l (rootL l at')⟩]) := by
  obtain ⟨X, hX⟩ : ∃ X, X = aimL l rel at' := ⟨_, rfl⟩
  obtain ⟨C, hC⟩ : ∃ C, C = crB l at' := ⟨_, rfl⟩
  obtain ⟨D, hD⟩ : ∃ D, D = (decide (ofL l prev = at') && crB l (rootL l at')) := ⟨_, rfl⟩
  rw [← hX, ← hC, ← hD]
  have HREP : Hid (∀ W, Below w0.heap.size w0 W → Rep S W b l) := Lib.hid fun W hb => O.since hrep hb
  have HS : Hid (∀ W, GE w0 b rel bf br bs ba M W v prev xs → (W.cell? ⟨bs, 0, none⟩ = some v ∧ W.cell? ⟨bf, 0, none⟩ = some (at_ b) ∧ W.cell? ⟨br, 0, none⟩ = some (.int .i64 rel) ∧ W.cell? ⟨ba, 0, none⟩ = some (.int .i64 prev))) := Lib.hid fun W q => ⟨q.hs.cell 0, q.hf.cell 0, q.hr.cell 0, q.ha.cell 0⟩
  have H := Lib.hid h
  have Hm := Lib.hid hm
  have Hg := Lib.hid hg
  have Ht := Lib.hid ht
  have HX := Lib.hid hX
  have HC := Lib.hid hC
  have HD := Lib.hid hD
  have HRt := Lib.hid (rootL_there hg.tree ht)
  -- behind the append and the store
  have HE : Hid (∀ W1 g4 c4 w4, GE w0 b rel bf br bs ba M W1 v prev xs → Recs RS 38 M w4 (.slice (some ⟨g4, 0, none⟩) (xs.length + 1) c4) (xs ++ [⟨at', told, X, C, D⟩]) → Keeps (fun i => v.ownBlock = some i) W1 w4 →
      (w4.cell? ⟨bs, 0, none⟩ = some v ∧ w4.cell? ⟨bf, 0, none⟩ = some (at_ b) ∧ w4.cell? ⟨br, 0, none⟩ = some (.int .i64 rel) ∧ w4.cell? ⟨ba, 0, none⟩ = some (.int .i64 prev)) ∧ w4.frozen? ⟨bs, 0, none⟩ = false ∧
      Hid (GE w0 b rel bf br bs ba M (w4.setCell ⟨bs, 0, none⟩ (.slice (some ⟨g4, 0, none⟩) (xs.length + 1) c4)) (.slice (some ⟨g4, 0, none⟩) (xs.length + 1) c4) prev (xs ++ [⟨at', told, X, C, D⟩]))) := Lib.hid fun W1 g4 c4 w4 q hR hk => by
    obtain ⟨l1, l2, l3, l4, l5, l6⟩ := q.low
    have hv : ∀ i, i < M → ¬ v.ownBlock = some i := fun i hi e => by have := (q.rows.in_ _ e).1; omega
    have hs4 := q.hs.kept hk (hv _ (by omega))
    exact ⟨⟨hs4.cell 0, (q.hf.kept hk (hv _ (by omega))).cell 0, (q.hr.kept hk (hv _ (by omega))).cell 0, (q.ha.kept hk (hv _ (by omega))).cell 0⟩, hs4.free 0, Lib.hid (q.pushed hk hR)⟩
  obtain ⟨j0, qi, qz0, qz1, qz2⟩ := info_parts Try.infoStep
  have Qi := Lib.hid qi
  have Qz0 := Lib.hid qz0
  have Qz1 := Lib.hid qz1
  have Qz2 := Lib.hid qz2
  clear h hm hg ht hX hC hD hrep qi qz0 qz1 qz2
  go_enter Try.func32, Try.ntmps32
  go_wp2_with fail
  refine wp_region_way (late := [25]) (S := fun W => (W.cell? ⟨bs, 0, none⟩ = some v ∧ W.cell? ⟨bf, 0, none⟩ = some (at_ b) ∧ W.cell? ⟨br, 0, none⟩ = some (.int .i64 rel) ∧ W.cell? ⟨ba, 0, none⟩ = some (.int .i64 prev))) (y := Way.takes [0, 1, 2, 3, 4, 5, 7, 8, 10, 11, 13] (.run 6 (.run 9 (.run 12 (Way.takes [14, 15, 16, 17, 18] (.run 19 (.run 20 (Way.takes [21, 22] (.run 23 (.run 24 (.run 25 .fin))))))))))) (by kernel_rfl) (by kernel_rfl) rfl (by kernel_rfl) (HS.out _ (H.out.next (Below.refl _ _).drew)) (fun hHeld => ?_)
  simp only [Way.takes]
  (repeat (first | (refine way_skip (by simp only [List.getElem?_toArray, List.getElem?_cons_succ, List.getElem?_cons_zero]; rfl) (by rfl) hHeld ?_; (try simp only [Act.put, List.setIfInBounds_toArray, List.set_cons_zero, List.set_cons_succ])) | (refine way_pass (by simp only [List.getElem?_toArray, List.getElem?_cons_succ, List.getElem?_cons_zero]; rfl) (by rfl) hHeld ?_; (try simp only [Act.put, List.setIfInBounds_toArray, List.set_cons_zero, List.set_cons_succ])) | (refine way_take (v := ?_) (by simp only [List.getElem?_toArray, List.getElem?_cons_succ, List.getElem?_cons_zero]; rfl) (by rfl) ?_ hHeld ?_; rotate_left; (focus (intro w hSw; (try dsimp only at hSw); go_simp; (try with_reducible rfl); done)); (try simp only [Act.put, List.setIfInBounds_toArray, List.set_cons_zero, List.set_cons_succ]))))
  refine way_run (by simp only [List.getElem?_toArray, List.getElem?_cons_succ, List.getElem?_cons_zero]; rfl) (by rfl) (fun K hK => ?_)
  go_simp
  have H0 := Lib.hid (H.out.next (Below.refl _ _).drew)
  clear H
  refine (aiAim O M' rel at' (HREP.out _ H0.out.below) Hg.out).mono ?_
  rintro e w1 ⟨rfl, hb1⟩
  rw [← HX.out]
  have H1 := Lib.hid (H0.out.next hb1)
  clear hb1 H0
  go_simp
  refine hK.out _ _ (HS.out _ H1.out) (fun hHeld => ?_)
  clear hK K
  (try simp only [Act.put, List.setIfInBounds_toArray, List.set_cons_zero, List.set_cons_succ])
  refine way_run (by simp only [List.getElem?_toArray, List.getElem?_cons_succ, List.getElem?_cons_zero]; rfl) (by rfl) (fun K hK => ?_)
  go_simp
  refine (ptClosed M' Hm.out at' (HREP.out _ H1.out.below) Hg.out Ht.out).mono ?_
  rintro e w2 ⟨rfl, hb2⟩
  rw [← HC.out]
  have H2 := Lib.hid (H1.out.next hb2)
  clear hb2 H1
  go_simp
  refine hK.out _ _ (HS.out _ H2.out) (fun hHeld => ?_)
  clear hK K
  (try simp only [Act.put, List.setIfInBounds_toArray, List.set_cons_zero, List.set_cons_succ])
  refine way_run (by simp only [List.getElem?_toArray, List.getElem?_cons_succ, List.getElem?_cons_zero]; rfl) (by rfl) (fun K hK => ?_)
  go_simp
  refine (slOf O M' prev (HREP.out _ H2.out.below) Hg.out).mono ?_
  rintro e w3 ⟨rfl, hb3⟩
  have H3 := Lib.hid (H2.out.next hb3)
  clear hb3 H2
  go_simp
  refine hK.out _ _ (HS.out _ H3.out) (fun hHeld => ?_)
  clear hK K
  (try simp only [Act.put, List.setIfInBounds_toArray, List.set_cons_zero, List.set_cons_succ])
  by_cases hq : ofL l prev = at'
  · have z1 : (ofL l prev == at') = true := by simpa using hq
    have eD : D = crB l (rootL l at') := by rw [HD.out, decide_eq_true hq, Bool.true_and]
    have ED := Lib.hid eD
    obtain ⟨o, ho⟩ : ∃ o, o = ofL l prev := ⟨_, rfl⟩
    rw [← ho] at z1
    rw [← ho]
    clear hq eD ho HD
    (repeat (first | (refine way_skip (by simp only [List.getElem?_toArray, List.getElem?_cons_succ, List.getElem?_cons_zero]; rfl) (by rfl) hHeld ?_; (try simp only [Act.put, List.setIfInBounds_toArray, List.set_cons_zero, List.set_cons_succ])) | (refine way_pass (by simp only [List.getElem?_toArray, List.getElem?_cons_succ, List.getElem?_cons_zero]; rfl) (by rfl) hHeld ?_; (try simp only [Act.put, List.setIfInBounds_toArray, List.set_cons_zero, List.set_cons_succ])) | (refine way_take (v := ?_) (by simp only [List.getElem?_toArray, List.getElem?_cons_succ, List.getElem?_cons_zero]; rfl) (by rfl) ?_ hHeld ?_; rotate_left; (focus (intro w hSw; (try dsimp only at hSw); go_simp; (try with_reducible rfl); done)); (try simp only [Act.put, List.setIfInBounds_toArray, List.set_cons_zero, List.set_cons_succ]))))
    refine way_run (by simp only [List.getElem?_toArray, List.getElem?_cons_succ, List.getElem?_cons_zero]; rfl) (by rfl) (fun K hK => ?_)
    go_simp
    refine (kinRoot O M' at' (HREP.out _ H3.out.below) Hg.out).mono ?_
    rintro e w4 ⟨rfl, hb4⟩
    have H4 := Lib.hid (H3.out.next hb4)
    clear hb4 H3
    go_simp
    refine hK.out _ _ (HS.out _ H4.out) (fun hHeld => ?_)
    clear hK K
    (try simp only [Act.put, List.setIfInBounds_toArray, List.set_cons_zero, List.set_cons_succ])
    refine way_run (by simp only [List.getElem?_toArray, List.getElem?_cons_succ, List.getElem?_cons_zero]; rfl) (by rfl) (fun K hK => ?_)
    go_simp
    refine (ptClosed M' Hm.out (rootL l at') (HREP.out _ H4.out.below) Hg.out HRt.out).mono ?_
    rintro e w5 ⟨rfl, hb5⟩
    rw [← ED.out]
    have H5 := Lib.hid (H4.out.next hb5)
    clear hb5 H4
    go_simp
    refine hK.out _ _ (HS.out _ H5.out) (fun hHeld => ?_)
    clear hK K
    (try simp only [Act.put, List.setIfInBounds_toArray, List.set_cons_zero, List.set_cons_succ])
    (repeat (first | (refine way_skip (by simp only [List.getElem?_toArray, List.getElem?_cons_succ, List.getElem?_cons_zero]; rfl) (by rfl) hHeld ?_; (try simp only [Act.put, List.setIfInBounds_toArray, List.set_cons_zero, List.set_cons_succ])) | (refine way_pass (by simp only [List.getElem?_toArray, List.getElem?_cons_succ, List.getElem?_cons_zero]; rfl) (by rfl) hHeld ?_; (try simp only [Act.put, List.setIfInBounds_toArray, List.set_cons_zero, List.set_cons_succ])) | (refine way_take (v := ?_) (by simp only [List.getElem?_toArray, List.getElem?_cons_succ, List.getElem?_cons_zero]; rfl) (by rfl) ?_ hHeld ?_; rotate_left; (focus (intro w hSw; (try dsimp only at hSw); go_simp; (try with_reducible rfl); done)); (try simp only [Act.put, List.setIfInBounds_toArray, List.set_cons_zero, List.set_cons_succ]))))
    refine way_run (by simp only [List.getElem?_toArray, List.getElem?_cons_succ, List.getElem?_cons_zero]; rfl) (by rfl) (fun K hK => ?_)
    go_simp
    have H6 := Lib.hid (H5.out.next ((Below.refl _ w5).alloc (Nat.le_refl _) (.cells #[.int .i64 at', .int .i64 told, .int .i64 X, .bool C, .bool D] 38)))
    have HN6 : Hid (Has (w5.alloc (.cells #[.int .i64 at', .int .i64 told, .int .i64 X, .bool C, .bool D] 38)) w5.heap.size (.cells #[.int .i64 at', .int .i64 told, .int .i64 X, .bool C, .bool D] 38 (0, 0))) := Lib.hid (Has.fresh w5 (.cells #[.int .i64 at', .int .i64 told, .int .i64 X, .bool C, .bool D] 38))
    clear H5
    refine hK.out _ _ (HS.out _ H6.out) (fun hHeld => ?_)
    clear hK K
    (try simp only [Act.put, List.setIfInBounds_toArray, List.set_cons_zero, List.set_cons_succ])
    refine way_run (by simp only [List.getElem?_toArray, List.getElem?_cons_succ, List.getElem?_cons_zero]; rfl) (by rfl) (fun K hK => ?_)
    refine wp_pushR (R := RS) (x := ⟨at', told, X, C, D⟩) (v := v) (xs := xs) (base := M) (.tmp 8) (.tmp 31) 32 rfl j0 _ 32 Try.underlying32 Qi.out Qz0.out Qz1.out Qz2.out rfl rfl H6.out.rows rfl HN6.out hl (by omega) H6.out.low.2.2.2.2.2 (fun g4 c4 w6 hR6 hk6 _ _ => ?_)
    obtain ⟨hq6, hz6, HG6⟩ := HE.out _ g4 c4 w6 H6.out hR6 hk6
    have q66 := hq6.1
    have Q6 := Lib.hid hq6
    clear hR6 hk6 hq6 H6 HN6 HE HS
    refine hK.out _ _ Q6.out (fun hHeld => ?_)
    clear hK K
    (try simp only [Act.put, List.setIfInBounds_toArray, List.set_cons_zero, List.set_cons_succ])
    refine way_last (by rfl) (by simp only [List.getElem?_toArray, List.getElem?_cons_succ, List.getElem?_cons_zero]; rfl) (by rfl) (fun K hK => ?_)
    go_simp
    refine hK.out _ _ ?_
    clear hK K
    refine way_done ?_
    clear hHeld q66 hz6 Q6
    have q7 := HG6.out.ha.cell 0
    have z7 := HG6.out.ha.free 0
    obtain ⟨w7, hw7⟩ : ∃ w7, w7 = w6.setCell ⟨bs, 0, none⟩ (.slice (some ⟨g4, 0, none⟩) (xs.length + 1) c4) := ⟨_, rfl⟩
    rw [← hw7] at HG6 q7 z7
    rw [← hw7]
    clear hw7
    have HF := Lib.hid (HG6.out.moved at')
    go_wp2
    first | go_end0 | (simp only [Exit.inBlock, Exit.then]; refine bodyPost_ret (results_none rfl _ _ _) rfl ?_) | refine bodyPost_ret (results_none rfl _ _ _) rfl ?_
    exact ⟨rfl, _, HF.out⟩
  · have z1 : (ofL l prev == at') = false := by simpa using hq
    have eD : D = false := by rw [HD.out, decide_eq_false hq, Bool.false_and]
    obtain ⟨o, ho⟩ : ∃ o, o = ofL l prev := ⟨_, rfl⟩
    rw [← ho] at z1
    rw [← ho]
    subst eD
    clear hq ho HD
    (repeat (first | (refine way_skip (by simp only [List.getElem?_toArray, List.getElem?_cons_succ, List.getElem?_cons_zero]; rfl) (by rfl) hHeld ?_; (try simp only [Act.put, List.setIfInBounds_toArray, List.set_cons_zero, List.set_cons_succ])) | (refine way_pass (by simp only [List.getElem?_toArray, List.getElem?_cons_succ, List.getElem?_cons_zero]; rfl) (by rfl) hHeld ?_; (try simp only [Act.put, List.setIfInBounds_toArray, List.set_cons_zero, List.set_cons_succ])) | (refine way_take (v := ?_) (by simp only [List.getElem?_toArray, List.getElem?_cons_succ, List.getElem?_cons_zero]; rfl) (by rfl) ?_ hHeld ?_; rotate_left; (focus (intro w hSw; (try dsimp only at hSw); go_simp; (try with_reducible rfl); done)); (try simp only [Act.put, List.setIfInBounds_toArray, List.set_cons_zero, List.set_cons_succ]))))
    refine way_run (by simp only [List.getElem?_toArray, List.getElem?_cons_succ, List.getElem?_cons_zero]; rfl) (by rfl) (fun K hK => ?_)
    go_simp
    have H6 := Lib.hid (H3.out.next ((Below.refl _ w3).alloc (Nat.le_refl _) (.cells #[.int .i64 at', .int .i64 told, .int .i64 X, .bool C, .bool false] 38)))
    have HN6 : Hid (Has (w3.alloc (.cells #[.int .i64 at', .int .i64 told, .int .i64 X, .bool C, .bool false] 38)) w3.heap.size (.cells #[.int .i64 at', .int .i64 told, .int .i64 X, .bool C, .bool false] 38 (0, 0))) := Lib.hid (Has.fresh w3 (.cells #[.int .i64 at', .int .i64 told, .int .i64 X, .bool C, .bool false] 38))
    clear H3
    refine hK.out _ _ (HS.out _ H6.out) (fun hHeld => ?_)
    clear hK K
    (try simp only [Act.put, List.setIfInBounds_toArray, List.set_cons_zero, List.set_cons_succ])
    refine way_run (by simp only [List.getElem?_toArray, List.getElem?_cons_succ, List.getElem?_cons_zero]; rfl) (by rfl) (fun K hK => ?_)
    refine wp_pushR (R := RS) (x := ⟨at', told, X, C, false⟩) (v := v) (xs := xs) (base := M) (.tmp 8) (.tmp 31) 32 rfl j0 _ 32 Try.underlying32 Qi.out Qz0.out Qz1.out Qz2.out rfl rfl H6.out.rows rfl HN6.out hl (by omega) H6.out.low.2.2.2.2.2 (fun g4 c4 w6 hR6 hk6 _ _ => ?_)
    obtain ⟨hq6, hz6, HG6⟩ := HE.out _ g4 c4 w6 H6.out hR6 hk6
    have q66 := hq6.1
    have Q6 := Lib.hid hq6
    clear hR6 hk6 hq6 H6 HN6 HE HS
    refine hK.out _ _ Q6.out (fun hHeld => ?_)
    clear hK K
    (try simp only [Act.put, List.setIfInBounds_toArray, List.set_cons_zero, List.set_cons_succ])
    refine way_last (by rfl) (by simp only [List.getElem?_toArray, List.getElem?_cons_succ, List.getElem?_cons_zero]; rfl) (by rfl) (fun K hK => ?_)
    go_simp
    refine hK.out _ _ ?_
    clear hK K
    refine way_done ?_
    clear hHeld q66 hz6 Q6
    have q7 := HG6.out.ha.cell 0
    have z7 := HG6.out.ha.free 0
    obtain ⟨w7, hw7⟩ : ∃ w7, w7 = w6.setCell ⟨bs, 0, none⟩ (.slice (some ⟨g4, 0, none⟩) (xs.length + 1) c4) := ⟨_, rfl⟩
    rw [← hw7] at HG6 q7 z7
    rw [← hw7]
    clear hw7
    have HF := Lib.hid (HG6.out.moved at')
    go_wp2
    first | go_end0 | (simp only [Exit.inBlock, Exit.then]; refine bodyPost_ret (results_none rfl _ _ _) rfl ?_) | refine bodyPost_ret (results_none rfl _ _ _) rfl ?_
    exact ⟨rfl, _, HF.out⟩
end
end Go.Proofs.Ytciajmaejpapfaa

namespace Go.Proofs.Ytciajmaejpapfaa
open Go Go.RowKit

section
variable {Rep : (Nat → Prop) → World → Nat → List Nd → Prop} {S : Nat → Prop} {w : World} {b : Nat} {l : List Nd}
set_option maxHeartbeats 8000000 in
set_option maxRecDepth 100000 in
theorem ptMake (O : ForestOk Rep) (M' : ForestMore Rep) (hm : Moded l) (tgt rel : Int) (comp : Bool) (hrep : Rep S w b l) (hg : Good l) :
    Calls Try.prog 14 #[at_ b, .int .i64 tgt, .int .i64 rel, .bool comp] w fun e w' => ∃ v, e = .returned v ∧ Recs RS 38 w.heap.size w' v (makeP l tgt rel comp) ∧ Below w.heap.size w w' := by
  have hnot : ∀ (x : Bool) (w : World), (Op.unary .not (.bool x)).run Try.prog w = .ok (.bool (!x)) w := fun _ _ => rfl
  have hmf : ∀ (fn : Fn) (first cap : Array Value) (w : World), (Instr.makeFunc fn first cap).run Try.prog w = .ok (.func fn first cap) w := fun _ _ _ _ => rfl
  have hRl : (makeP l tgt rel comp).length ≤ 128 := Nat.le_trans (makeP_len hg.tree) hg.len
  obtain ⟨R, hR⟩ : ∃ R, R = makeP l tgt rel comp := ⟨_, rfl⟩
  rw [← hR] at hRl
  rw [← hR]
  have HR := Lib.hid hR
  have HREP : Hid (∀ W, Below w.heap.size w W → Rep S W b l) := Lib.hid fun W hb => O.since hrep hb
  have Hm := Lib.hid hm
  have Hg := Lib.hid hg
  -- the two boxes
  obtain ⟨W2, hW2⟩ : ∃ W2, W2 = (w.alloc (.cells #[at_ b] 25)).alloc (.cells #[.int .i64 rel] 3) := ⟨_, rfl⟩
  have hb2 : Below w.heap.size w W2 := by
    rw [hW2]
    exact ((Below.refl _ w).alloc (Nat.le_refl _) _).alloc (by simp) _
  have hs2 : W2.heap.size = w.heap.size + 2 := by rw [hW2]; simp
  have hf2 : Has W2 w.heap.size (.cells #[at_ b] 25 (0, 0)) := by
    rw [hW2]
    exact (Has.fresh _ _).more _
  have hr2 : Has W2 (w.heap.size + 1) (.cells #[.int .i64 rel] 3 (0, 0)) := by
    rw [hW2]
    have := Has.fresh (w.alloc (.cells #[at_ b] 25)) (.cells #[.int .i64 rel] 3)
    simpa using this
  have HW2 := Lib.hid hW2
  have HB2 := Lib.hid hb2
  have HS2 := Lib.hid hs2
  have HF2 := Lib.hid hf2
  have HR2 := Lib.hid hr2
  have q0 : W2.cell? ⟨w.heap.size, 0, none⟩ = some (at_ b) := hf2.cell 0
  clear hR hrep hg hm hW2 hb2 hs2 hf2 hr2
  cases ht : thereB l tgt with
  | false =>
    have e0 : R = [] := by rw [HR.out, makeP_no ht]
    subst e0
    have Ht := Lib.hid ht
    clear ht HR
    go_enter Try.func14, Try.ntmps14
    go_wp2_with fail
    rw [← HW2.out]
    refine (nodeNo M' (HREP.out _ HB2.out) Hg.out Ht.out).mono ?_
    rintro e w3 ⟨A3, c3, rfl, -, hb3⟩
    have HF := Lib.hid ((HB2.out.trans (hb3.mono HB2.out.size)).alloc (Nat.le_trans HB2.out.size hb3.size) (.cells #[.int .i64 0, .int .i64 0, .int .i64 0, .int .i64 0, .int .i64 0, .bool false, .string ⟨#[]⟩, .string ⟨#[]⟩, .slice A3 0 c3] 43))
    clear hb3
    go_wp2
    go_ret
    exact ⟨_, rfl, Recs.nil _ _ _ _, HF.out⟩
  | true =>
    have Ht := Lib.hid ht
    obtain ⟨sk, hsk⟩ : ∃ sk, sk = (decide (rel ≠ tgt) && decide (aimL l rel tgt = tgt)) := ⟨_, rfl⟩
    have HSK := Lib.hid hsk
    clear ht hsk
    go_enter Try.func14, Try.ntmps14
    go_wp2_with fail
    rw [← HW2.out]
    refine (nodeYes M' (HREP.out _ HB2.out) Hg.out Ht.out).mono ?_
    rintro e w3 ⟨A3, c3, rfl, -, hb3⟩
    obtain ⟨d, hd⟩ : ∃ d, d = nd l tgt := ⟨_, rfl⟩
    rw [← hd]
    obtain ⟨W4, hW4⟩ : ∃ W4, W4 = w3.alloc (.cells #[.int .i64 d.kind, .int .i64 d.parent, .int .i64 d.host, .int .i64 d.shadow, .int .i64 d.mode, .bool d.slot, .string d.name, .string d.want, .slice A3 d.kids.length c3] 43) := ⟨_, rfl⟩
    have hb4 : Below W2.heap.size W2 W4 := by
      rw [hW4]
      exact hb3.alloc hb3.size _
    have HB4 := Lib.hid (HB2.out.trans (hb4.mono HB2.out.size))
    have HF4 := Lib.hid (HF2.out.below hb4 HF2.out.inside)
    have HR4 := Lib.hid (HR2.out.below hb4 HR2.out.inside)
    have q4 : W4.cell? ⟨w.heap.size, 0, none⟩ = some (at_ b) := HF4.out.cell 0
    have r4 : W4.cell? ⟨w.heap.size + 1, 0, none⟩ = some (.int .i64 rel) := HR4.out.cell 0
    have hq4 : w.heap.size < W4.heap.size := HF4.out.inside
    have hr4 : w.heap.size + 1 < W4.heap.size := HR4.out.inside
    have HW4 := Lib.hid hW4
    rw [hW4] at q4 r4
    clear hb3 hb4 hW4 hd HB2 HF2 HR2 q0
    go_upto_region 2 with (fail)
    rw [← HW4.out] at q4 r4 ⊢
    go_cut [36] (fun v wc => v = .bool sk ∧ Below W4.heap.size W4 wc)
    case first =>
      by_cases hrt : rel = tgt
      · have z1 : (rel != tgt) = false := by simpa using hrt
        have e1 : sk = false := by rw [HSK.out, decide_eq_false (fun e => e hrt), Bool.false_and]
        subst e1
        clear HSK hrt
        go_wp2
        go_meet
        exact ⟨rfl, Below.refl _ _⟩
      · have z1 : (rel != tgt) = true := by simpa using hrt
        have e1 : sk = decide (aimL l rel tgt = tgt) := by rw [HSK.out, decide_eq_true hrt, Bool.true_and]
        have E1 := Lib.hid e1
        clear HSK hrt e1
        go_wp2_with fail
        refine (aiAim O M' rel tgt (HREP.out _ HB4.out) Hg.out).mono ?_
        rintro e w5 ⟨rfl, hb5⟩
        have HB5 := Lib.hid hb5
        clear hb5
        by_cases ha : aimL l rel tgt = tgt
        · have z2 : (aimL l rel tgt == tgt) = true := by simpa using ha
          have e2 : sk = true := by rw [E1.out, decide_eq_true ha]
          obtain ⟨x, hx⟩ : ∃ x, x = aimL l rel tgt := ⟨_, rfl⟩
          rw [← hx] at z2
          rw [← hx]
          subst e2
          clear E1 ha hx
          go_wp2
          go_meet
          exact ⟨rfl, HB5.out⟩
        · have z2 : (aimL l rel tgt == tgt) = false := by simpa using ha
          have e2 : sk = false := by rw [E1.out, decide_eq_false ha]
          obtain ⟨x, hx⟩ : ∃ x, x = aimL l rel tgt := ⟨_, rfl⟩
          rw [← hx] at z2
          rw [← hx]
          subst e2
          clear E1 ha hx
          go_wp2
          go_meet
          exact ⟨rfl, HB5.out⟩
    case rest =>
      obtain ⟨rfl, hbc⟩ := hcut
      have HBc := Lib.hid (HB4.out.trans (hbc.mono HB4.out.size))
      have HFc := Lib.hid (HF4.out.below hbc HF4.out.inside)
      have HRc := Lib.hid (HR4.out.below hbc HR4.out.inside)
      have hnc : W4.heap.size ≤ wc.heap.size := hbc.size
      clear hbc q4 r4 HF4 HR4 HB4
      cases hk : sk with
      | true =>
        have e0 : R = [] := by
          rw [hk] at HSK
          have h2 := HSK.out.symm
          rw [Bool.and_eq_true, decide_eq_true_eq, decide_eq_true_eq] at h2
          rw [HR.out, makeP_shut Hg.out.tree Ht.out h2.2 h2.1]
        subst e0
        clear hk HSK
        go_wp2
        go_ret
        exact ⟨_, rfl, Recs.nil _ _ _ _, HBc.out⟩
      | false =>
        have e0 : R = ⟨tgt, tgt, aimL l rel tgt, crB l tgt, false⟩ :: restP l rel tgt comp tgt tgt := by
          rw [hk] at HSK
          have h2 := HSK.out.symm
          rw [HR.out, makeP_go Hg.out.tree Ht.out]
          rintro ⟨h3, h4⟩
          rw [decide_eq_true h3, decide_eq_true h4] at h2
          cases h2
        have E0 := Lib.hid e0
        clear hk HSK e0
        obtain ⟨W6, hW6⟩ : ∃ W6, W6 = (wc.alloc (.cells #[.slice none 0 0] 32)).alloc (.cells #[.int .i64 0] 3) := ⟨_, rfl⟩
        have hb6 : Below wc.heap.size wc W6 := by
          rw [hW6]
          exact ((Below.refl _ wc).alloc (Nat.le_refl _) _).alloc (by simp) _
        have hs6 : W6.heap.size = wc.heap.size + 2 := by rw [hW6]; simp
        have h6s : Has W6 wc.heap.size (.cells #[.slice none 0 0] 32 (0, 0)) := by
          rw [hW6]
          exact (Has.fresh _ _).more _
        have h6a : Has W6 (wc.heap.size + 1) (.cells #[.int .i64 0] 3 (0, 0)) := by
          rw [hW6]
          have := Has.fresh (wc.alloc (.cells #[.slice none 0 0] 32)) (.cells #[.int .i64 0] 3)
          simpa using this
        have hG6 : GE w b rel w.heap.size (w.heap.size + 1) wc.heap.size (wc.heap.size + 1) (wc.heap.size + 2) W6 (.slice none 0 0) 0 [] :=
          ⟨⟨Nat.le_refl _, by omega, by omega, by omega, by omega, by omega⟩, HBc.out.trans (hb6.mono HBc.out.size), HFc.out.below hb6 HFc.out.inside, HRc.out.below hb6 HRc.out.inside, h6s, h6a, Recs.nil _ _ _ _⟩
        have hfst : (decide (ofL l 0 = tgt) && crB l (rootL l tgt)) = false := by
          rw [ofL_no thereB_zero, decide_eq_false fun e => by have := Ht.out; rw [← e, thereB_zero] at this; cases this]
          rfl
        have hC := ptGather O M' Hm.out tgt tgt (HREP.out w (Below.refl _ _)) Hg.out Ht.out hG6 (by simp)
        rw [hfst, List.nil_append] at hC
        have C := Lib.hid hC
        have HW6 := Lib.hid hW6
        clear hW6 hb6 hs6 h6s h6a hG6 HFc HRc hfst hC
        go_wp2_with fail
        rw [← HW6.out]
        refine C.out.mono ?_
        rintro e w7 ⟨rfl, v7, hG7⟩
        have H7 := Lib.hid hG7
        clear hG7 C HW6
        go_wp2_with fail
        go_loopw [14] (fun t wr => ∃ (tt prev : Int) (v : Value) (xs : List Stp), t = .int .i64 tt ∧ GE w b rel w.heap.size (w.heap.size + 1) wc.heap.size (wc.heap.size + 1) (wc.heap.size + 2) wr v prev xs ∧ thereB l prev = true ∧ xs ++ restP l rel tgt comp prev tt = R) (fun _ wr => mu l (intOf ((wr.cell? ⟨wc.heap.size + 1, 0, none⟩).getD (.int .i64 0))))
        case atStart => exact ⟨tgt, tgt, v7, _, rfl, H7.out, Ht.out, E0.out.symm⟩
        case round =>
          obtain ⟨tt, prev, v, xs, rfl, hG, hp, hxs⟩ := hrel
          have HG := Lib.hid hG
          have Hp := Lib.hid hp
          have Hxs := Lib.hid hxs
          have hxl : xs.length ≤ 1000000 := by have := app_len2 hxs; omega
          have p0 := hG.hf.cell 0
          have p1 := hG.ha.cell 0
          have Hmu : Hid (intOf ((wr.cell? ⟨wc.heap.size + 1, 0, none⟩).getD (.int .i64 0)) = prev) := Lib.hid (by rw [hG.ha.cell 0]; rfl)
          clear hG hp hxs H7 E0
          go_wp2_with fail
          refine (ptParent O M' prev tgt comp (HREP.out _ HG.out.below) Hg.out).mono ?_
          rintro e w8 ⟨rfl, hb8⟩
          have H8 := Lib.hid (HG.out.next hb8)
          clear hb8 HG p0 p1
          have e1 := rest_end (l := l) (rel := rel) (tgt := tgt) (prev := prev) (t := tt) (comp := comp)
          have e2 := fun i => rest_held (l := l) (rel := rel) (tgt := tgt) (prev := prev) (t := tt) (i := i) (comp := comp) Hg.out.tree
          have e3 := fun i => rest_stop (l := l) (rel := rel) (tgt := tgt) (prev := prev) (t := tt) (i := i) (comp := comp) Hg.out.tree
          have e4 := fun i => rest_new (l := l) (rel := rel) (tgt := tgt) (prev := prev) (t := tt) (i := i) (comp := comp) Hg.out.tree
          have e5 := fun i => mu_pos (l := l) (tgt := tgt) (prev := prev) (i := i) (comp := comp) Hg.out.tree
          have e6 := fun i => csB_par (l := l) (tgt := tgt) (prev := prev) (i := i) (comp := comp)
          have e7 : parE l tgt comp prev ≠ 0 → thereB l (parE l tgt comp prev) = true := fun h => (parE_there Hg.out.tree h).2
          obtain ⟨i, hi⟩ : ∃ i, i = parE l tgt comp prev := ⟨_, rfl⟩
          rw [← hi] at e1 e7
          rw [← hi]
          have e2 := e2 i hi.symm
          have e3 := e3 i hi.symm
          have e4 := e4 i hi.symm
          have e5 := e5 i hi.symm
          have e6 := e6 i hi.symm
          clear hi
          by_cases h0 : i = 0
          · have e8 : xs = R := by rw [← Hxs.out, e1 h0, List.append_nil]
            subst h0
            have E8 := Lib.hid e8
            have q0 := H8.out.hs.cell 0
            clear e1 e2 e3 e4 e5 e6 e7 e8
            go_wp2
            go_ret
            rw [← E8.out]
            exact ⟨_, rfl, own_base H8.out.rows (by have := H8.out.low; omega), H8.out.below⟩
          · have z0 : (i == 0) = false := by simpa using h0
            have E2 := Lib.hid (e2 h0)
            have E3 := Lib.hid (e3 h0)
            have E4 := Lib.hid (e4 h0)
            have E5 := Lib.hid (e5 h0)
            have E6 := Lib.hid (e6 h0)
            have E7 := Lib.hid (e7 h0)
            have h8d := Lib.hid (H8.out.next (Below.refl _ _).drew)
            have HQ : Hid (∀ W, GE w b rel w.heap.size (w.heap.size + 1) wc.heap.size (wc.heap.size + 1) (wc.heap.size + 2) W v prev xs → W.cell? ⟨w.heap.size, 0, none⟩ = some (at_ b)) := Lib.hid fun W q => q.hf.cell 0
            clear e1 e2 e3 e4 e5 e6 e7 h0
            go_wp2_with fail
            refine wp_region_way (late := []) (S := fun W => W.cell? ⟨w.heap.size, 0, none⟩ = some (at_ b)) (y := Way.takes [0, 1, 2, 4] (.run 3 (.run 5 (.take 6 .fin)))) (by kernel_rfl) (by kernel_rfl) rfl (by kernel_rfl) (HQ.out _ h8d.out) (fun hHeld => ?_)
            simp only [Way.takes]
            (repeat (first | (refine way_skip (by simp only [List.getElem?_toArray, List.getElem?_cons_succ, List.getElem?_cons_zero]; rfl) (by rfl) hHeld ?_; (try simp only [Act.put, List.setIfInBounds_toArray, List.set_cons_zero, List.set_cons_succ])) | (refine way_pass (by simp only [List.getElem?_toArray, List.getElem?_cons_succ, List.getElem?_cons_zero]; rfl) (by rfl) hHeld ?_; (try simp only [Act.put, List.setIfInBounds_toArray, List.set_cons_zero, List.set_cons_succ])) | (refine way_take (v := ?_) (by simp only [List.getElem?_toArray, List.getElem?_cons_succ, List.getElem?_cons_zero]; rfl) (by rfl) ?_ hHeld ?_; rotate_left; (focus (intro w hSw; (try dsimp only at hSw); go_simp; (try with_reducible rfl); done)); (try simp only [Act.put, List.setIfInBounds_toArray, List.set_cons_zero, List.set_cons_succ]))))
            refine way_run (by simp only [List.getElem?_toArray, List.getElem?_cons_succ, List.getElem?_cons_zero]; rfl) (by rfl) (fun K hK => ?_)
            go_simp
            refine (kinRoot O M' tt (HREP.out _ h8d.out.below) Hg.out).mono ?_
            rintro e w9 ⟨rfl, hb9⟩
            have H9 := Lib.hid (h8d.out.next hb9)
            clear hb9 h8d H8
            go_simp
            refine hK.out _ _ (HQ.out _ H9.out) (fun hHeld => ?_)
            clear hK K
            (try simp only [Act.put, List.setIfInBounds_toArray, List.set_cons_zero, List.set_cons_succ])
            refine way_run (by simp only [List.getElem?_toArray, List.getElem?_cons_succ, List.getElem?_cons_zero]; rfl) (by rfl) (fun K hK => ?_)
            go_simp
            refine (shHolds O M' (rootL l tt) i (HREP.out _ H9.out.below) Hg.out).mono ?_
            rintro e w10 ⟨rfl, hb10⟩
            have H10 := Lib.hid (H9.out.next hb10)
            clear hb10 H9
            go_simp
            refine hK.out _ _ (HQ.out _ H10.out) (fun hHeld => ?_)
            clear hK K
            (try simp only [Act.put, List.setIfInBounds_toArray, List.set_cons_zero, List.set_cons_succ])
            (repeat (first | (refine way_skip (by simp only [List.getElem?_toArray, List.getElem?_cons_succ, List.getElem?_cons_zero]; rfl) (by rfl) hHeld ?_; (try simp only [Act.put, List.setIfInBounds_toArray, List.set_cons_zero, List.set_cons_succ])) | (refine way_pass (by simp only [List.getElem?_toArray, List.getElem?_cons_succ, List.getElem?_cons_zero]; rfl) (by rfl) hHeld ?_; (try simp only [Act.put, List.setIfInBounds_toArray, List.set_cons_zero, List.set_cons_succ])) | (refine way_take (v := ?_) (by simp only [List.getElem?_toArray, List.getElem?_cons_succ, List.getElem?_cons_zero]; rfl) (by rfl) ?_ hHeld ?_; rotate_left; (focus (intro w hSw; (try dsimp only at hSw); go_simp; (try with_reducible rfl); done)); (try simp only [Act.put, List.setIfInBounds_toArray, List.set_cons_zero, List.set_cons_succ]))))
            refine way_done ?_
            clear hHeld HQ
            cases hh : hasB (over l i) (rootL l tt) with
            | true =>
              have e9 := E2.out hh
              have CC := ptGather O M' Hm.out i 0 (HREP.out w (Below.refl _ _)) Hg.out E7.out H10.out hxl
              rw [← E6.out] at CC
              have C := Lib.hid CC
              have E9 := Lib.hid e9
              clear hh e9 CC E2 E3 E4 E6
              go_wp2_with fail
              refine C.out.mono ?_
              rintro e w11 ⟨rfl, v11, hG11⟩
              have H11 := Lib.hid hG11
              clear hG11 C
              go_wp2
              go_roundw
              case rel =>
                refine ⟨tt, i, v11, _, rfl, H11.out, E7.out, ?_⟩
                rw [← Hxs.out, E9.out, List.append_assoc]
                rfl
              case measure =>
                rw [H11.out.ha.cell 0, Hmu.out]
                exact E5.out
            | false =>
              have f3 := E3.out hh
              have f4 := E4.out hh
              have F3 := Lib.hid f3
              have F4 := Lib.hid f4
              clear hh f3 f4 E2 E3 E4
              have r0 := H10.out.hf.cell 0
              have r1 := H10.out.hr.cell 0
              go_wp2_with fail
              refine (aiAim O M' rel i (HREP.out _ H10.out.below) Hg.out).mono ?_
              rintro e w11 ⟨rfl, hb11⟩
              have H11 := Lib.hid (H10.out.next hb11)
              clear hb11 H10 r0 r1
              by_cases ha : aimL l rel i = i
              · have e8 : xs = R := by rw [← Hxs.out, F3.out ha, List.append_nil]
                have E8 := Lib.hid e8
                have z2 : (aimL l rel i == i) = true := by simpa using ha
                obtain ⟨x, hx⟩ : ∃ x, x = aimL l rel i := ⟨_, rfl⟩
                rw [← hx] at z2
                rw [← hx]
                have q0 := H11.out.hs.cell 0
                clear ha e8 F3 F4 hx
                go_wp2
                go_ret
                rw [← E8.out]
                exact ⟨_, rfl, own_base H11.out.rows (by have := H11.out.low; omega), H11.out.below⟩
              · have z2 : (aimL l rel i == i) = false := by simpa using ha
                have E9 := Lib.hid (F4.out ha)
                have CC := ptGather O M' Hm.out i i (HREP.out w (Below.refl _ _)) Hg.out E7.out H11.out hxl
                rw [← E6.out] at CC
                have C := Lib.hid CC
                obtain ⟨x, hx⟩ : ∃ x, x = aimL l rel i := ⟨_, rfl⟩
                rw [← hx] at z2
                rw [← hx]
                clear ha CC F3 F4 E6 hx
                go_wp2_with fail
                refine C.out.mono ?_
                rintro e w12 ⟨rfl, v12, hG12⟩
                have H12 := Lib.hid hG12
                clear hG12 C
                go_wp2
                go_roundw
                case rel =>
                  refine ⟨i, i, v12, _, rfl, H12.out, E7.out, ?_⟩
                  rw [← Hxs.out, E9.out, List.append_assoc]
                  rfl
                case measure =>
                  rw [H12.out.ha.cell 0, Hmu.out]
                  exact E5.out
end
end Go.Proofs.Ytciajmaejpapfaa

namespace Go.Proofs.Ytciajmaejpapfaa
open Go Go.RowKit

theorem five_of {w : World} {A : Option Addr} {c k : Nat} {ps : List Stp} (h : RecIn RS w A c ps) (hk : k < ps.length) : ∃ b off, A = some ⟨b, off, none⟩ ∧
    w.cell? ⟨b, off + k * 5, none⟩ = some (.int .i64 ps[k].node) ∧ w.cell? ⟨b, off + k * 5 + 1, none⟩ = some (.int .i64 ps[k].target) ∧ w.cell? ⟨b, off + k * 5 + 2, none⟩ = some (.int .i64 ps[k].related) ∧ w.cell? ⟨b, off + k * 5 + 3, none⟩ = some (.bool ps[k].cr) ∧ w.cell? ⟨b, off + k * 5 + 4, none⟩ = some (.bool ps[k].cs) := by
  obtain ⟨b, off, e, _, hc⟩ := h.at_ k hk
  refine ⟨b, off, e, ?_⟩
  simp only [Nat.add_assoc]
  exact ⟨hc 0 (by decide), hc 1 (by decide), hc 2 (by decide), hc 3 (by decide), hc 4 (by decide)⟩
section
variable {w : World}
set_option maxHeartbeats 4000000 in
theorem pathSame (ps : List Stp) (n : Nat) (A A' : Option Addr) (c c' : Nat) (w : World) (hn : ps.length = n) (hl : n ≤ 1000000) (h : RecIn RS w A c ps) (h' : RecIn RS w A' c' ps) :
    Calls Try.prog 13 #[.slice A n c, .slice A' n c'] w fun e w' => e = .returned (.bool true) ∧ ∃ m, w' = w.drewN m := by
  have HN := Lib.hid hn
  have H := Lib.hid h
  have H' := Lib.hid h'
  have y0 : ((n : Int) != (n : Int)) = false := by simp
  clear hn h h'
  go_enter Try.func13, Try.ntmps13
  go_wp2
  go_loopw [5] (fun i wr => ∃ k m : Nat, i = .int .i64 k ∧ k ≤ n ∧ wr = w.drewN m) (fun i _ => n - (intOf i).toNat)
  case atStart => exact ⟨0, 0, rfl, Nat.zero_le _, rfl⟩
  case round =>
    obtain ⟨k, m, rfl, hk, rfl⟩ := hrel
    by_cases hlt : (k : Int) < n
    · have hkn : k < ps.length := by rw [HN.out]; omega
      obtain ⟨b, off, rfl, c0, c1, c2, c3, c4⟩ := five_of H.out hkn
      obtain ⟨b', off', rfl, d0, d1, d2, d3, d4⟩ := five_of H'.out hkn
      obtain ⟨x, hx⟩ : ∃ x, x = ps[k] := ⟨_, rfl⟩
      rw [← hx] at c0 c1 c2 c3 c4 d0 d1 d2 d3 d4
      obtain ⟨x0, x1, x2, x3, x4⟩ := x
      simp only at c0 c1 c2 c3 c4 d0 d1 d2 d3 d4
      have hwk : IntKind.i64.wrap ((k : Int) + 1) = (k : Int) + 1 := wrap_small (by omega) (by omega)
      clear hx hkn
      go_wp2
      go_quiet (fail)
      go_wp2
      go_roundw
      case rel => exact ⟨k + 1, m + nq, by go_num, by omega, rfl⟩
      case measure => simp [intOf]; omega
    · go_wp2
      go_ret
      exact ⟨rfl, m, rfl⟩
end
end Go.Proofs.Ytciajmaejpapfaa

namespace Go.Proofs.Ytciajmaejpapfaa
open Go Go.RowKit

theorem openTen_err (n : Nat) (h : n < 128) : mkErr n (shadeNd 1) = 0 := by
  have := mkErr_rest (n := n) (k := 3) (pa := 0) (ho := 0) (sh := 0) (m := 1) (sl := false) (na := ⟨#[]⟩) (wa := ⟨#[]⟩) (ks := []) (by omega) (by omega) (by omega) (by
    rw [okName_empty empty_is, empty_is]
    simp)
  rw [if_neg (by omega)] at this
  exact this
theorem elemTen_err (n : Nat) (h : n < 128) : mkErr n elem = 0 := by
  have := mkErr_rest (n := n) (k := 2) (pa := 0) (ho := 0) (sh := 0) (m := 0) (sl := false) (na := ⟨#[]⟩) (wa := ⟨#[]⟩) (ks := []) (by omega) (by omega) (by omega) (by
    rw [okName_empty empty_is]
    simp)
  rw [if_neg (by omega)] at this
  exact this
/-- The calls of the document's example. -/
def actE14 : Ac := ⟨0, 0, 0, ⟨#[]⟩, elem, []⟩
def actS14 : Ac := ⟨0, 0, 0, ⟨#[]⟩, shadeNd 1, []⟩
def actP14 : Ac := ⟨1, 1, 0, ⟨#[]⟩, Nd.zero, [2]⟩
def actI14 : Ac := ⟨2, 2, 3, ⟨#[]⟩, Nd.zero, []⟩
def actQ14 : Ac := ⟨1, 2, 0, ⟨#[]⟩, Nd.zero, [4]⟩
def acts14 : List Ac := [actE14, actE14, actS14, actE14, actP14, actI14, actQ14]
theorem acts14_small : Small acts14 := by
  unfold Small
  decide
theorem acts14_forest : forest acts14 = putL (tieL (putL [elem, elem, shadeNd 1, elem] 1 [2]) 2 3) 2 [4] := by
  have e3 : mkL [elem, elem] (shadeNd 1) = [elem, elem, shadeNd 1] := by
    unfold mkL
    rw [if_pos (openTen_err _ (by simp))]
    rfl
  have e4 : mkL [elem, elem, shadeNd 1] elem = [elem, elem, shadeNd 1, elem] := by
    unfold mkL
    rw [if_pos (elemTen_err _ (by simp))]
    rfl
  show putL (tieL (putL (mkL (mkL (mkL (mkL [] elem) elem) (shadeNd 1)) elem) 1 [2]) 2 3) 2 [4] = _
  rw [two_elems, e3, e4]
theorem acts14_path : ∃ x y z : Stp, makeP (forest acts14) 4 0 true = [x, y, z] ∧ x.node = 4 ∧ y.node = 2 ∧ z.node = 1 := by
  have h : (makeP (forest acts14) 4 0 true).map Stp.node = [4, 2, 1] := by rw [acts14_forest]; decide +kernel
  obtain ⟨P, hP⟩ : ∃ P, P = makeP (forest acts14) 4 0 true := ⟨_, rfl⟩
  rw [← hP] at h
  rw [← hP]
  clear hP
  rcases P with _ | ⟨x, _ | ⟨y, _ | ⟨z, _ | ⟨u, r⟩⟩⟩⟩ <;> simp at h
  exact ⟨x, y, z, rfl, h⟩
theorem acts14_in (w : World) : Acts (((w.alloc (.cells #[.int .i64 2] 3)).alloc (.cells #[.int .i64 4] 3)).alloc (.cells #[.int .i64 0, .int .i64 0, .int .i64 0, .string ⟨#[]⟩, .int .i64 2, .int .i64 0, .int .i64 0, .int .i64 0, .int .i64 0, .bool false, .string ⟨#[]⟩, .string ⟨#[]⟩, .slice none 0 0, .slice none 0 0, .int .i64 0, .int .i64 0, .int .i64 0, .string ⟨#[]⟩, .int .i64 2, .int .i64 0, .int .i64 0, .int .i64 0, .int .i64 0, .bool false, .string ⟨#[]⟩, .string ⟨#[]⟩, .slice none 0 0, .slice none 0 0, .int .i64 0, .int .i64 0, .int .i64 0, .string ⟨#[]⟩, .int .i64 3, .int .i64 0, .int .i64 0, .int .i64 0, .int .i64 1, .bool false, .string ⟨#[]⟩, .string ⟨#[]⟩, .slice none 0 0, .slice none 0 0, .int .i64 0, .int .i64 0, .int .i64 0, .string ⟨#[]⟩, .int .i64 2, .int .i64 0, .int .i64 0, .int .i64 0, .int .i64 0, .bool false, .string ⟨#[]⟩, .string ⟨#[]⟩, .slice none 0 0, .slice none 0 0, .int .i64 1, .int .i64 1, .int .i64 0, .string ⟨#[]⟩, .int .i64 0, .int .i64 0, .int .i64 0, .int .i64 0, .int .i64 0, .bool false, .string ⟨#[]⟩, .string ⟨#[]⟩, .slice none 0 0, .slice (some ⟨w.heap.size, 0, none⟩) 1 1, .int .i64 2, .int .i64 2, .int .i64 3, .string ⟨#[]⟩, .int .i64 0, .int .i64 0, .int .i64 0, .int .i64 0, .int .i64 0, .bool false, .string ⟨#[]⟩, .string ⟨#[]⟩, .slice none 0 0, .slice none 0 0, .int .i64 1, .int .i64 2, .int .i64 0, .string ⟨#[]⟩, .int .i64 0, .int .i64 0, .int .i64 0, .int .i64 0, .int .i64 0, .bool false, .string ⟨#[]⟩, .string ⟨#[]⟩, .slice none 0 0, .slice (some ⟨w.heap.size + 1, 0, none⟩) 1 1] 47)) (some ⟨w.heap.size + 2, 0, none⟩) acts14 := by
  have h1 : Has (((w.alloc (.cells #[.int .i64 2] 3)).alloc (.cells #[.int .i64 4] 3)).alloc (.cells #[.int .i64 0, .int .i64 0, .int .i64 0, .string ⟨#[]⟩, .int .i64 2, .int .i64 0, .int .i64 0, .int .i64 0, .int .i64 0, .bool false, .string ⟨#[]⟩, .string ⟨#[]⟩, .slice none 0 0, .slice none 0 0, .int .i64 0, .int .i64 0, .int .i64 0, .string ⟨#[]⟩, .int .i64 2, .int .i64 0, .int .i64 0, .int .i64 0, .int .i64 0, .bool false, .string ⟨#[]⟩, .string ⟨#[]⟩, .slice none 0 0, .slice none 0 0, .int .i64 0, .int .i64 0, .int .i64 0, .string ⟨#[]⟩, .int .i64 3, .int .i64 0, .int .i64 0, .int .i64 0, .int .i64 1, .bool false, .string ⟨#[]⟩, .string ⟨#[]⟩, .slice none 0 0, .slice none 0 0, .int .i64 0, .int .i64 0, .int .i64 0, .string ⟨#[]⟩, .int .i64 2, .int .i64 0, .int .i64 0, .int .i64 0, .int .i64 0, .bool false, .string ⟨#[]⟩, .string ⟨#[]⟩, .slice none 0 0, .slice none 0 0, .int .i64 1, .int .i64 1, .int .i64 0, .string ⟨#[]⟩, .int .i64 0, .int .i64 0, .int .i64 0, .int .i64 0, .int .i64 0, .bool false, .string ⟨#[]⟩, .string ⟨#[]⟩, .slice none 0 0, .slice (some ⟨w.heap.size, 0, none⟩) 1 1, .int .i64 2, .int .i64 2, .int .i64 3, .string ⟨#[]⟩, .int .i64 0, .int .i64 0, .int .i64 0, .int .i64 0, .int .i64 0, .bool false, .string ⟨#[]⟩, .string ⟨#[]⟩, .slice none 0 0, .slice none 0 0, .int .i64 1, .int .i64 2, .int .i64 0, .string ⟨#[]⟩, .int .i64 0, .int .i64 0, .int .i64 0, .int .i64 0, .int .i64 0, .bool false, .string ⟨#[]⟩, .string ⟨#[]⟩, .slice none 0 0, .slice (some ⟨w.heap.size + 1, 0, none⟩) 1 1] 47)) w.heap.size (.cells #[.int .i64 2] 3 (0, 0)) := ((Has.fresh _ _).more _).more _
  have h1' : Has (((w.alloc (.cells #[.int .i64 2] 3)).alloc (.cells #[.int .i64 4] 3)).alloc (.cells #[.int .i64 0, .int .i64 0, .int .i64 0, .string ⟨#[]⟩, .int .i64 2, .int .i64 0, .int .i64 0, .int .i64 0, .int .i64 0, .bool false, .string ⟨#[]⟩, .string ⟨#[]⟩, .slice none 0 0, .slice none 0 0, .int .i64 0, .int .i64 0, .int .i64 0, .string ⟨#[]⟩, .int .i64 2, .int .i64 0, .int .i64 0, .int .i64 0, .int .i64 0, .bool false, .string ⟨#[]⟩, .string ⟨#[]⟩, .slice none 0 0, .slice none 0 0, .int .i64 0, .int .i64 0, .int .i64 0, .string ⟨#[]⟩, .int .i64 3, .int .i64 0, .int .i64 0, .int .i64 0, .int .i64 1, .bool false, .string ⟨#[]⟩, .string ⟨#[]⟩, .slice none 0 0, .slice none 0 0, .int .i64 0, .int .i64 0, .int .i64 0, .string ⟨#[]⟩, .int .i64 2, .int .i64 0, .int .i64 0, .int .i64 0, .int .i64 0, .bool false, .string ⟨#[]⟩, .string ⟨#[]⟩, .slice none 0 0, .slice none 0 0, .int .i64 1, .int .i64 1, .int .i64 0, .string ⟨#[]⟩, .int .i64 0, .int .i64 0, .int .i64 0, .int .i64 0, .int .i64 0, .bool false, .string ⟨#[]⟩, .string ⟨#[]⟩, .slice none 0 0, .slice (some ⟨w.heap.size, 0, none⟩) 1 1, .int .i64 2, .int .i64 2, .int .i64 3, .string ⟨#[]⟩, .int .i64 0, .int .i64 0, .int .i64 0, .int .i64 0, .int .i64 0, .bool false, .string ⟨#[]⟩, .string ⟨#[]⟩, .slice none 0 0, .slice none 0 0, .int .i64 1, .int .i64 2, .int .i64 0, .string ⟨#[]⟩, .int .i64 0, .int .i64 0, .int .i64 0, .int .i64 0, .int .i64 0, .bool false, .string ⟨#[]⟩, .string ⟨#[]⟩, .slice none 0 0, .slice (some ⟨w.heap.size + 1, 0, none⟩) 1 1] 47)) (w.heap.size + 1) (.cells #[.int .i64 4] 3 (0, 0)) := by
    have := (Has.fresh (w.alloc (.cells #[.int .i64 2] 3)) (.cells #[.int .i64 4] 3)).more (.cells #[.int .i64 0, .int .i64 0, .int .i64 0, .string ⟨#[]⟩, .int .i64 2, .int .i64 0, .int .i64 0, .int .i64 0, .int .i64 0, .bool false, .string ⟨#[]⟩, .string ⟨#[]⟩, .slice none 0 0, .slice none 0 0, .int .i64 0, .int .i64 0, .int .i64 0, .string ⟨#[]⟩, .int .i64 2, .int .i64 0, .int .i64 0, .int .i64 0, .int .i64 0, .bool false, .string ⟨#[]⟩, .string ⟨#[]⟩, .slice none 0 0, .slice none 0 0, .int .i64 0, .int .i64 0, .int .i64 0, .string ⟨#[]⟩, .int .i64 3, .int .i64 0, .int .i64 0, .int .i64 0, .int .i64 1, .bool false, .string ⟨#[]⟩, .string ⟨#[]⟩, .slice none 0 0, .slice none 0 0, .int .i64 0, .int .i64 0, .int .i64 0, .string ⟨#[]⟩, .int .i64 2, .int .i64 0, .int .i64 0, .int .i64 0, .int .i64 0, .bool false, .string ⟨#[]⟩, .string ⟨#[]⟩, .slice none 0 0, .slice none 0 0, .int .i64 1, .int .i64 1, .int .i64 0, .string ⟨#[]⟩, .int .i64 0, .int .i64 0, .int .i64 0, .int .i64 0, .int .i64 0, .bool false, .string ⟨#[]⟩, .string ⟨#[]⟩, .slice none 0 0, .slice (some ⟨w.heap.size, 0, none⟩) 1 1, .int .i64 2, .int .i64 2, .int .i64 3, .string ⟨#[]⟩, .int .i64 0, .int .i64 0, .int .i64 0, .int .i64 0, .int .i64 0, .bool false, .string ⟨#[]⟩, .string ⟨#[]⟩, .slice none 0 0, .slice none 0 0, .int .i64 1, .int .i64 2, .int .i64 0, .string ⟨#[]⟩, .int .i64 0, .int .i64 0, .int .i64 0, .int .i64 0, .int .i64 0, .bool false, .string ⟨#[]⟩, .string ⟨#[]⟩, .slice none 0 0, .slice (some ⟨w.heap.size + 1, 0, none⟩) 1 1] 47)
    rw [show (w.alloc (.cells #[.int .i64 2] 3)).heap.size = w.heap.size + 1 by simp] at this
    exact this
  have h2 : Has (((w.alloc (.cells #[.int .i64 2] 3)).alloc (.cells #[.int .i64 4] 3)).alloc (.cells #[.int .i64 0, .int .i64 0, .int .i64 0, .string ⟨#[]⟩, .int .i64 2, .int .i64 0, .int .i64 0, .int .i64 0, .int .i64 0, .bool false, .string ⟨#[]⟩, .string ⟨#[]⟩, .slice none 0 0, .slice none 0 0, .int .i64 0, .int .i64 0, .int .i64 0, .string ⟨#[]⟩, .int .i64 2, .int .i64 0, .int .i64 0, .int .i64 0, .int .i64 0, .bool false, .string ⟨#[]⟩, .string ⟨#[]⟩, .slice none 0 0, .slice none 0 0, .int .i64 0, .int .i64 0, .int .i64 0, .string ⟨#[]⟩, .int .i64 3, .int .i64 0, .int .i64 0, .int .i64 0, .int .i64 1, .bool false, .string ⟨#[]⟩, .string ⟨#[]⟩, .slice none 0 0, .slice none 0 0, .int .i64 0, .int .i64 0, .int .i64 0, .string ⟨#[]⟩, .int .i64 2, .int .i64 0, .int .i64 0, .int .i64 0, .int .i64 0, .bool false, .string ⟨#[]⟩, .string ⟨#[]⟩, .slice none 0 0, .slice none 0 0, .int .i64 1, .int .i64 1, .int .i64 0, .string ⟨#[]⟩, .int .i64 0, .int .i64 0, .int .i64 0, .int .i64 0, .int .i64 0, .bool false, .string ⟨#[]⟩, .string ⟨#[]⟩, .slice none 0 0, .slice (some ⟨w.heap.size, 0, none⟩) 1 1, .int .i64 2, .int .i64 2, .int .i64 3, .string ⟨#[]⟩, .int .i64 0, .int .i64 0, .int .i64 0, .int .i64 0, .int .i64 0, .bool false, .string ⟨#[]⟩, .string ⟨#[]⟩, .slice none 0 0, .slice none 0 0, .int .i64 1, .int .i64 2, .int .i64 0, .string ⟨#[]⟩, .int .i64 0, .int .i64 0, .int .i64 0, .int .i64 0, .int .i64 0, .bool false, .string ⟨#[]⟩, .string ⟨#[]⟩, .slice none 0 0, .slice (some ⟨w.heap.size + 1, 0, none⟩) 1 1] 47)) (w.heap.size + 2) (.cells #[.int .i64 0, .int .i64 0, .int .i64 0, .string ⟨#[]⟩, .int .i64 2, .int .i64 0, .int .i64 0, .int .i64 0, .int .i64 0, .bool false, .string ⟨#[]⟩, .string ⟨#[]⟩, .slice none 0 0, .slice none 0 0, .int .i64 0, .int .i64 0, .int .i64 0, .string ⟨#[]⟩, .int .i64 2, .int .i64 0, .int .i64 0, .int .i64 0, .int .i64 0, .bool false, .string ⟨#[]⟩, .string ⟨#[]⟩, .slice none 0 0, .slice none 0 0, .int .i64 0, .int .i64 0, .int .i64 0, .string ⟨#[]⟩, .int .i64 3, .int .i64 0, .int .i64 0, .int .i64 0, .int .i64 1, .bool false, .string ⟨#[]⟩, .string ⟨#[]⟩, .slice none 0 0, .slice none 0 0, .int .i64 0, .int .i64 0, .int .i64 0, .string ⟨#[]⟩, .int .i64 2, .int .i64 0, .int .i64 0, .int .i64 0, .int .i64 0, .bool false, .string ⟨#[]⟩, .string ⟨#[]⟩, .slice none 0 0, .slice none 0 0, .int .i64 1, .int .i64 1, .int .i64 0, .string ⟨#[]⟩, .int .i64 0, .int .i64 0, .int .i64 0, .int .i64 0, .int .i64 0, .bool false, .string ⟨#[]⟩, .string ⟨#[]⟩, .slice none 0 0, .slice (some ⟨w.heap.size, 0, none⟩) 1 1, .int .i64 2, .int .i64 2, .int .i64 3, .string ⟨#[]⟩, .int .i64 0, .int .i64 0, .int .i64 0, .int .i64 0, .int .i64 0, .bool false, .string ⟨#[]⟩, .string ⟨#[]⟩, .slice none 0 0, .slice none 0 0, .int .i64 1, .int .i64 2, .int .i64 0, .string ⟨#[]⟩, .int .i64 0, .int .i64 0, .int .i64 0, .int .i64 0, .int .i64 0, .bool false, .string ⟨#[]⟩, .string ⟨#[]⟩, .slice none 0 0, .slice (some ⟨w.heap.size + 1, 0, none⟩) 1 1] 47 (0, 0)) := by
    have := Has.fresh ((w.alloc (.cells #[.int .i64 2] 3)).alloc (.cells #[.int .i64 4] 3)) (.cells #[.int .i64 0, .int .i64 0, .int .i64 0, .string ⟨#[]⟩, .int .i64 2, .int .i64 0, .int .i64 0, .int .i64 0, .int .i64 0, .bool false, .string ⟨#[]⟩, .string ⟨#[]⟩, .slice none 0 0, .slice none 0 0, .int .i64 0, .int .i64 0, .int .i64 0, .string ⟨#[]⟩, .int .i64 2, .int .i64 0, .int .i64 0, .int .i64 0, .int .i64 0, .bool false, .string ⟨#[]⟩, .string ⟨#[]⟩, .slice none 0 0, .slice none 0 0, .int .i64 0, .int .i64 0, .int .i64 0, .string ⟨#[]⟩, .int .i64 3, .int .i64 0, .int .i64 0, .int .i64 0, .int .i64 1, .bool false, .string ⟨#[]⟩, .string ⟨#[]⟩, .slice none 0 0, .slice none 0 0, .int .i64 0, .int .i64 0, .int .i64 0, .string ⟨#[]⟩, .int .i64 2, .int .i64 0, .int .i64 0, .int .i64 0, .int .i64 0, .bool false, .string ⟨#[]⟩, .string ⟨#[]⟩, .slice none 0 0, .slice none 0 0, .int .i64 1, .int .i64 1, .int .i64 0, .string ⟨#[]⟩, .int .i64 0, .int .i64 0, .int .i64 0, .int .i64 0, .int .i64 0, .bool false, .string ⟨#[]⟩, .string ⟨#[]⟩, .slice none 0 0, .slice (some ⟨w.heap.size, 0, none⟩) 1 1, .int .i64 2, .int .i64 2, .int .i64 3, .string ⟨#[]⟩, .int .i64 0, .int .i64 0, .int .i64 0, .int .i64 0, .int .i64 0, .bool false, .string ⟨#[]⟩, .string ⟨#[]⟩, .slice none 0 0, .slice none 0 0, .int .i64 1, .int .i64 2, .int .i64 0, .string ⟨#[]⟩, .int .i64 0, .int .i64 0, .int .i64 0, .int .i64 0, .int .i64 0, .bool false, .string ⟨#[]⟩, .string ⟨#[]⟩, .slice none 0 0, .slice (some ⟨w.heap.size + 1, 0, none⟩) 1 1] 47)
    rw [show ((w.alloc (.cells #[.int .i64 2] 3)).alloc (.cells #[.int .i64 4] 3)).heap.size = w.heap.size + 2 by simp] at this
    exact this
  have h3 := acts_lit (rows := [(actE14, (none, 0), none, 0), (actE14, (none, 0), none, 0), (actS14, (none, 0), none, 0), (actE14, (none, 0), none, 0), (actP14, (none, 0), some ⟨w.heap.size, 0, none⟩, 1), (actI14, (none, 0), none, 0), (actQ14, (none, 0), some ⟨w.heap.size + 1, 0, none⟩, 1)]) h2 (by
    intro r hr
    have eE : ListIn (((w.alloc (.cells #[.int .i64 2] 3)).alloc (.cells #[.int .i64 4] 3)).alloc (.cells #[.int .i64 0, .int .i64 0, .int .i64 0, .string ⟨#[]⟩, .int .i64 2, .int .i64 0, .int .i64 0, .int .i64 0, .int .i64 0, .bool false, .string ⟨#[]⟩, .string ⟨#[]⟩, .slice none 0 0, .slice none 0 0, .int .i64 0, .int .i64 0, .int .i64 0, .string ⟨#[]⟩, .int .i64 2, .int .i64 0, .int .i64 0, .int .i64 0, .int .i64 0, .bool false, .string ⟨#[]⟩, .string ⟨#[]⟩, .slice none 0 0, .slice none 0 0, .int .i64 0, .int .i64 0, .int .i64 0, .string ⟨#[]⟩, .int .i64 3, .int .i64 0, .int .i64 0, .int .i64 0, .int .i64 1, .bool false, .string ⟨#[]⟩, .string ⟨#[]⟩, .slice none 0 0, .slice none 0 0, .int .i64 0, .int .i64 0, .int .i64 0, .string ⟨#[]⟩, .int .i64 2, .int .i64 0, .int .i64 0, .int .i64 0, .int .i64 0, .bool false, .string ⟨#[]⟩, .string ⟨#[]⟩, .slice none 0 0, .slice none 0 0, .int .i64 1, .int .i64 1, .int .i64 0, .string ⟨#[]⟩, .int .i64 0, .int .i64 0, .int .i64 0, .int .i64 0, .int .i64 0, .bool false, .string ⟨#[]⟩, .string ⟨#[]⟩, .slice none 0 0, .slice (some ⟨w.heap.size, 0, none⟩) 1 1, .int .i64 2, .int .i64 2, .int .i64 3, .string ⟨#[]⟩, .int .i64 0, .int .i64 0, .int .i64 0, .int .i64 0, .int .i64 0, .bool false, .string ⟨#[]⟩, .string ⟨#[]⟩, .slice none 0 0, .slice none 0 0, .int .i64 1, .int .i64 2, .int .i64 0, .string ⟨#[]⟩, .int .i64 0, .int .i64 0, .int .i64 0, .int .i64 0, .int .i64 0, .bool false, .string ⟨#[]⟩, .string ⟨#[]⟩, .slice none 0 0, .slice (some ⟨w.heap.size + 1, 0, none⟩) 1 1] 47)) none 0 actE14.n.kids ∧ ActIn (((w.alloc (.cells #[.int .i64 2] 3)).alloc (.cells #[.int .i64 4] 3)).alloc (.cells #[.int .i64 0, .int .i64 0, .int .i64 0, .string ⟨#[]⟩, .int .i64 2, .int .i64 0, .int .i64 0, .int .i64 0, .int .i64 0, .bool false, .string ⟨#[]⟩, .string ⟨#[]⟩, .slice none 0 0, .slice none 0 0, .int .i64 0, .int .i64 0, .int .i64 0, .string ⟨#[]⟩, .int .i64 2, .int .i64 0, .int .i64 0, .int .i64 0, .int .i64 0, .bool false, .string ⟨#[]⟩, .string ⟨#[]⟩, .slice none 0 0, .slice none 0 0, .int .i64 0, .int .i64 0, .int .i64 0, .string ⟨#[]⟩, .int .i64 3, .int .i64 0, .int .i64 0, .int .i64 0, .int .i64 1, .bool false, .string ⟨#[]⟩, .string ⟨#[]⟩, .slice none 0 0, .slice none 0 0, .int .i64 0, .int .i64 0, .int .i64 0, .string ⟨#[]⟩, .int .i64 2, .int .i64 0, .int .i64 0, .int .i64 0, .int .i64 0, .bool false, .string ⟨#[]⟩, .string ⟨#[]⟩, .slice none 0 0, .slice none 0 0, .int .i64 1, .int .i64 1, .int .i64 0, .string ⟨#[]⟩, .int .i64 0, .int .i64 0, .int .i64 0, .int .i64 0, .int .i64 0, .bool false, .string ⟨#[]⟩, .string ⟨#[]⟩, .slice none 0 0, .slice (some ⟨w.heap.size, 0, none⟩) 1 1, .int .i64 2, .int .i64 2, .int .i64 3, .string ⟨#[]⟩, .int .i64 0, .int .i64 0, .int .i64 0, .int .i64 0, .int .i64 0, .bool false, .string ⟨#[]⟩, .string ⟨#[]⟩, .slice none 0 0, .slice none 0 0, .int .i64 1, .int .i64 2, .int .i64 0, .string ⟨#[]⟩, .int .i64 0, .int .i64 0, .int .i64 0, .int .i64 0, .int .i64 0, .bool false, .string ⟨#[]⟩, .string ⟨#[]⟩, .slice none 0 0, .slice (some ⟨w.heap.size + 1, 0, none⟩) 1 1] 47)) actE14 none 0 := ⟨listNone _, Nat.zero_le _, Nat.zero_le _, Nat.zero_le _, Nat.le_refl _, fun _ => rfl, (listNone _).nums⟩
    have eS : ListIn (((w.alloc (.cells #[.int .i64 2] 3)).alloc (.cells #[.int .i64 4] 3)).alloc (.cells #[.int .i64 0, .int .i64 0, .int .i64 0, .string ⟨#[]⟩, .int .i64 2, .int .i64 0, .int .i64 0, .int .i64 0, .int .i64 0, .bool false, .string ⟨#[]⟩, .string ⟨#[]⟩, .slice none 0 0, .slice none 0 0, .int .i64 0, .int .i64 0, .int .i64 0, .string ⟨#[]⟩, .int .i64 2, .int .i64 0, .int .i64 0, .int .i64 0, .int .i64 0, .bool false, .string ⟨#[]⟩, .string ⟨#[]⟩, .slice none 0 0, .slice none 0 0, .int .i64 0, .int .i64 0, .int .i64 0, .string ⟨#[]⟩, .int .i64 3, .int .i64 0, .int .i64 0, .int .i64 0, .int .i64 1, .bool false, .string ⟨#[]⟩, .string ⟨#[]⟩, .slice none 0 0, .slice none 0 0, .int .i64 0, .int .i64 0, .int .i64 0, .string ⟨#[]⟩, .int .i64 2, .int .i64 0, .int .i64 0, .int .i64 0, .int .i64 0, .bool false, .string ⟨#[]⟩, .string ⟨#[]⟩, .slice none 0 0, .slice none 0 0, .int .i64 1, .int .i64 1, .int .i64 0, .string ⟨#[]⟩, .int .i64 0, .int .i64 0, .int .i64 0, .int .i64 0, .int .i64 0, .bool false, .string ⟨#[]⟩, .string ⟨#[]⟩, .slice none 0 0, .slice (some ⟨w.heap.size, 0, none⟩) 1 1, .int .i64 2, .int .i64 2, .int .i64 3, .string ⟨#[]⟩, .int .i64 0, .int .i64 0, .int .i64 0, .int .i64 0, .int .i64 0, .bool false, .string ⟨#[]⟩, .string ⟨#[]⟩, .slice none 0 0, .slice none 0 0, .int .i64 1, .int .i64 2, .int .i64 0, .string ⟨#[]⟩, .int .i64 0, .int .i64 0, .int .i64 0, .int .i64 0, .int .i64 0, .bool false, .string ⟨#[]⟩, .string ⟨#[]⟩, .slice none 0 0, .slice (some ⟨w.heap.size + 1, 0, none⟩) 1 1] 47)) none 0 actS14.n.kids ∧ ActIn (((w.alloc (.cells #[.int .i64 2] 3)).alloc (.cells #[.int .i64 4] 3)).alloc (.cells #[.int .i64 0, .int .i64 0, .int .i64 0, .string ⟨#[]⟩, .int .i64 2, .int .i64 0, .int .i64 0, .int .i64 0, .int .i64 0, .bool false, .string ⟨#[]⟩, .string ⟨#[]⟩, .slice none 0 0, .slice none 0 0, .int .i64 0, .int .i64 0, .int .i64 0, .string ⟨#[]⟩, .int .i64 2, .int .i64 0, .int .i64 0, .int .i64 0, .int .i64 0, .bool false, .string ⟨#[]⟩, .string ⟨#[]⟩, .slice none 0 0, .slice none 0 0, .int .i64 0, .int .i64 0, .int .i64 0, .string ⟨#[]⟩, .int .i64 3, .int .i64 0, .int .i64 0, .int .i64 0, .int .i64 1, .bool false, .string ⟨#[]⟩, .string ⟨#[]⟩, .slice none 0 0, .slice none 0 0, .int .i64 0, .int .i64 0, .int .i64 0, .string ⟨#[]⟩, .int .i64 2, .int .i64 0, .int .i64 0, .int .i64 0, .int .i64 0, .bool false, .string ⟨#[]⟩, .string ⟨#[]⟩, .slice none 0 0, .slice none 0 0, .int .i64 1, .int .i64 1, .int .i64 0, .string ⟨#[]⟩, .int .i64 0, .int .i64 0, .int .i64 0, .int .i64 0, .int .i64 0, .bool false, .string ⟨#[]⟩, .string ⟨#[]⟩, .slice none 0 0, .slice (some ⟨w.heap.size, 0, none⟩) 1 1, .int .i64 2, .int .i64 2, .int .i64 3, .string ⟨#[]⟩, .int .i64 0, .int .i64 0, .int .i64 0, .int .i64 0, .int .i64 0, .bool false, .string ⟨#[]⟩, .string ⟨#[]⟩, .slice none 0 0, .slice none 0 0, .int .i64 1, .int .i64 2, .int .i64 0, .string ⟨#[]⟩, .int .i64 0, .int .i64 0, .int .i64 0, .int .i64 0, .int .i64 0, .bool false, .string ⟨#[]⟩, .string ⟨#[]⟩, .slice none 0 0, .slice (some ⟨w.heap.size + 1, 0, none⟩) 1 1] 47)) actS14 none 0 := ⟨listNone _, Nat.zero_le _, Nat.zero_le _, Nat.zero_le _, Nat.le_refl _, fun _ => rfl, (listNone _).nums⟩
    have eI : ListIn (((w.alloc (.cells #[.int .i64 2] 3)).alloc (.cells #[.int .i64 4] 3)).alloc (.cells #[.int .i64 0, .int .i64 0, .int .i64 0, .string ⟨#[]⟩, .int .i64 2, .int .i64 0, .int .i64 0, .int .i64 0, .int .i64 0, .bool false, .string ⟨#[]⟩, .string ⟨#[]⟩, .slice none 0 0, .slice none 0 0, .int .i64 0, .int .i64 0, .int .i64 0, .string ⟨#[]⟩, .int .i64 2, .int .i64 0, .int .i64 0, .int .i64 0, .int .i64 0, .bool false, .string ⟨#[]⟩, .string ⟨#[]⟩, .slice none 0 0, .slice none 0 0, .int .i64 0, .int .i64 0, .int .i64 0, .string ⟨#[]⟩, .int .i64 3, .int .i64 0, .int .i64 0, .int .i64 0, .int .i64 1, .bool false, .string ⟨#[]⟩, .string ⟨#[]⟩, .slice none 0 0, .slice none 0 0, .int .i64 0, .int .i64 0, .int .i64 0, .string ⟨#[]⟩, .int .i64 2, .int .i64 0, .int .i64 0, .int .i64 0, .int .i64 0, .bool false, .string ⟨#[]⟩, .string ⟨#[]⟩, .slice none 0 0, .slice none 0 0, .int .i64 1, .int .i64 1, .int .i64 0, .string ⟨#[]⟩, .int .i64 0, .int .i64 0, .int .i64 0, .int .i64 0, .int .i64 0, .bool false, .string ⟨#[]⟩, .string ⟨#[]⟩, .slice none 0 0, .slice (some ⟨w.heap.size, 0, none⟩) 1 1, .int .i64 2, .int .i64 2, .int .i64 3, .string ⟨#[]⟩, .int .i64 0, .int .i64 0, .int .i64 0, .int .i64 0, .int .i64 0, .bool false, .string ⟨#[]⟩, .string ⟨#[]⟩, .slice none 0 0, .slice none 0 0, .int .i64 1, .int .i64 2, .int .i64 0, .string ⟨#[]⟩, .int .i64 0, .int .i64 0, .int .i64 0, .int .i64 0, .int .i64 0, .bool false, .string ⟨#[]⟩, .string ⟨#[]⟩, .slice none 0 0, .slice (some ⟨w.heap.size + 1, 0, none⟩) 1 1] 47)) none 0 actI14.n.kids ∧ ActIn (((w.alloc (.cells #[.int .i64 2] 3)).alloc (.cells #[.int .i64 4] 3)).alloc (.cells #[.int .i64 0, .int .i64 0, .int .i64 0, .string ⟨#[]⟩, .int .i64 2, .int .i64 0, .int .i64 0, .int .i64 0, .int .i64 0, .bool false, .string ⟨#[]⟩, .string ⟨#[]⟩, .slice none 0 0, .slice none 0 0, .int .i64 0, .int .i64 0, .int .i64 0, .string ⟨#[]⟩, .int .i64 2, .int .i64 0, .int .i64 0, .int .i64 0, .int .i64 0, .bool false, .string ⟨#[]⟩, .string ⟨#[]⟩, .slice none 0 0, .slice none 0 0, .int .i64 0, .int .i64 0, .int .i64 0, .string ⟨#[]⟩, .int .i64 3, .int .i64 0, .int .i64 0, .int .i64 0, .int .i64 1, .bool false, .string ⟨#[]⟩, .string ⟨#[]⟩, .slice none 0 0, .slice none 0 0, .int .i64 0, .int .i64 0, .int .i64 0, .string ⟨#[]⟩, .int .i64 2, .int .i64 0, .int .i64 0, .int .i64 0, .int .i64 0, .bool false, .string ⟨#[]⟩, .string ⟨#[]⟩, .slice none 0 0, .slice none 0 0, .int .i64 1, .int .i64 1, .int .i64 0, .string ⟨#[]⟩, .int .i64 0, .int .i64 0, .int .i64 0, .int .i64 0, .int .i64 0, .bool false, .string ⟨#[]⟩, .string ⟨#[]⟩, .slice none 0 0, .slice (some ⟨w.heap.size, 0, none⟩) 1 1, .int .i64 2, .int .i64 2, .int .i64 3, .string ⟨#[]⟩, .int .i64 0, .int .i64 0, .int .i64 0, .int .i64 0, .int .i64 0, .bool false, .string ⟨#[]⟩, .string ⟨#[]⟩, .slice none 0 0, .slice none 0 0, .int .i64 1, .int .i64 2, .int .i64 0, .string ⟨#[]⟩, .int .i64 0, .int .i64 0, .int .i64 0, .int .i64 0, .int .i64 0, .bool false, .string ⟨#[]⟩, .string ⟨#[]⟩, .slice none 0 0, .slice (some ⟨w.heap.size + 1, 0, none⟩) 1 1] 47)) actI14 none 0 := ⟨listNone _, Nat.zero_le _, Nat.zero_le _, Nat.zero_le _, Nat.le_refl _, fun _ => rfl, (listNone _).nums⟩
    have eP : ListIn (((w.alloc (.cells #[.int .i64 2] 3)).alloc (.cells #[.int .i64 4] 3)).alloc (.cells #[.int .i64 0, .int .i64 0, .int .i64 0, .string ⟨#[]⟩, .int .i64 2, .int .i64 0, .int .i64 0, .int .i64 0, .int .i64 0, .bool false, .string ⟨#[]⟩, .string ⟨#[]⟩, .slice none 0 0, .slice none 0 0, .int .i64 0, .int .i64 0, .int .i64 0, .string ⟨#[]⟩, .int .i64 2, .int .i64 0, .int .i64 0, .int .i64 0, .int .i64 0, .bool false, .string ⟨#[]⟩, .string ⟨#[]⟩, .slice none 0 0, .slice none 0 0, .int .i64 0, .int .i64 0, .int .i64 0, .string ⟨#[]⟩, .int .i64 3, .int .i64 0, .int .i64 0, .int .i64 0, .int .i64 1, .bool false, .string ⟨#[]⟩, .string ⟨#[]⟩, .slice none 0 0, .slice none 0 0, .int .i64 0, .int .i64 0, .int .i64 0, .string ⟨#[]⟩, .int .i64 2, .int .i64 0, .int .i64 0, .int .i64 0, .int .i64 0, .bool false, .string ⟨#[]⟩, .string ⟨#[]⟩, .slice none 0 0, .slice none 0 0, .int .i64 1, .int .i64 1, .int .i64 0, .string ⟨#[]⟩, .int .i64 0, .int .i64 0, .int .i64 0, .int .i64 0, .int .i64 0, .bool false, .string ⟨#[]⟩, .string ⟨#[]⟩, .slice none 0 0, .slice (some ⟨w.heap.size, 0, none⟩) 1 1, .int .i64 2, .int .i64 2, .int .i64 3, .string ⟨#[]⟩, .int .i64 0, .int .i64 0, .int .i64 0, .int .i64 0, .int .i64 0, .bool false, .string ⟨#[]⟩, .string ⟨#[]⟩, .slice none 0 0, .slice none 0 0, .int .i64 1, .int .i64 2, .int .i64 0, .string ⟨#[]⟩, .int .i64 0, .int .i64 0, .int .i64 0, .int .i64 0, .int .i64 0, .bool false, .string ⟨#[]⟩, .string ⟨#[]⟩, .slice none 0 0, .slice (some ⟨w.heap.size + 1, 0, none⟩) 1 1] 47)) none 0 actP14.n.kids ∧ ActIn (((w.alloc (.cells #[.int .i64 2] 3)).alloc (.cells #[.int .i64 4] 3)).alloc (.cells #[.int .i64 0, .int .i64 0, .int .i64 0, .string ⟨#[]⟩, .int .i64 2, .int .i64 0, .int .i64 0, .int .i64 0, .int .i64 0, .bool false, .string ⟨#[]⟩, .string ⟨#[]⟩, .slice none 0 0, .slice none 0 0, .int .i64 0, .int .i64 0, .int .i64 0, .string ⟨#[]⟩, .int .i64 2, .int .i64 0, .int .i64 0, .int .i64 0, .int .i64 0, .bool false, .string ⟨#[]⟩, .string ⟨#[]⟩, .slice none 0 0, .slice none 0 0, .int .i64 0, .int .i64 0, .int .i64 0, .string ⟨#[]⟩, .int .i64 3, .int .i64 0, .int .i64 0, .int .i64 0, .int .i64 1, .bool false, .string ⟨#[]⟩, .string ⟨#[]⟩, .slice none 0 0, .slice none 0 0, .int .i64 0, .int .i64 0, .int .i64 0, .string ⟨#[]⟩, .int .i64 2, .int .i64 0, .int .i64 0, .int .i64 0, .int .i64 0, .bool false, .string ⟨#[]⟩, .string ⟨#[]⟩, .slice none 0 0, .slice none 0 0, .int .i64 1, .int .i64 1, .int .i64 0, .string ⟨#[]⟩, .int .i64 0, .int .i64 0, .int .i64 0, .int .i64 0, .int .i64 0, .bool false, .string ⟨#[]⟩, .string ⟨#[]⟩, .slice none 0 0, .slice (some ⟨w.heap.size, 0, none⟩) 1 1, .int .i64 2, .int .i64 2, .int .i64 3, .string ⟨#[]⟩, .int .i64 0, .int .i64 0, .int .i64 0, .int .i64 0, .int .i64 0, .bool false, .string ⟨#[]⟩, .string ⟨#[]⟩, .slice none 0 0, .slice none 0 0, .int .i64 1, .int .i64 2, .int .i64 0, .string ⟨#[]⟩, .int .i64 0, .int .i64 0, .int .i64 0, .int .i64 0, .int .i64 0, .bool false, .string ⟨#[]⟩, .string ⟨#[]⟩, .slice none 0 0, .slice (some ⟨w.heap.size + 1, 0, none⟩) 1 1] 47)) actP14 (some ⟨w.heap.size, 0, none⟩) 1 := ⟨listNone _, Nat.zero_le _, Nat.zero_le _, Nat.zero_le _, Nat.le_refl _, (fun e => by cases e), (listLit (xs := [2]) h1).nums⟩
    have eQ : ListIn (((w.alloc (.cells #[.int .i64 2] 3)).alloc (.cells #[.int .i64 4] 3)).alloc (.cells #[.int .i64 0, .int .i64 0, .int .i64 0, .string ⟨#[]⟩, .int .i64 2, .int .i64 0, .int .i64 0, .int .i64 0, .int .i64 0, .bool false, .string ⟨#[]⟩, .string ⟨#[]⟩, .slice none 0 0, .slice none 0 0, .int .i64 0, .int .i64 0, .int .i64 0, .string ⟨#[]⟩, .int .i64 2, .int .i64 0, .int .i64 0, .int .i64 0, .int .i64 0, .bool false, .string ⟨#[]⟩, .string ⟨#[]⟩, .slice none 0 0, .slice none 0 0, .int .i64 0, .int .i64 0, .int .i64 0, .string ⟨#[]⟩, .int .i64 3, .int .i64 0, .int .i64 0, .int .i64 0, .int .i64 1, .bool false, .string ⟨#[]⟩, .string ⟨#[]⟩, .slice none 0 0, .slice none 0 0, .int .i64 0, .int .i64 0, .int .i64 0, .string ⟨#[]⟩, .int .i64 2, .int .i64 0, .int .i64 0, .int .i64 0, .int .i64 0, .bool false, .string ⟨#[]⟩, .string ⟨#[]⟩, .slice none 0 0, .slice none 0 0, .int .i64 1, .int .i64 1, .int .i64 0, .string ⟨#[]⟩, .int .i64 0, .int .i64 0, .int .i64 0, .int .i64 0, .int .i64 0, .bool false, .string ⟨#[]⟩, .string ⟨#[]⟩, .slice none 0 0, .slice (some ⟨w.heap.size, 0, none⟩) 1 1, .int .i64 2, .int .i64 2, .int .i64 3, .string ⟨#[]⟩, .int .i64 0, .int .i64 0, .int .i64 0, .int .i64 0, .int .i64 0, .bool false, .string ⟨#[]⟩, .string ⟨#[]⟩, .slice none 0 0, .slice none 0 0, .int .i64 1, .int .i64 2, .int .i64 0, .string ⟨#[]⟩, .int .i64 0, .int .i64 0, .int .i64 0, .int .i64 0, .int .i64 0, .bool false, .string ⟨#[]⟩, .string ⟨#[]⟩, .slice none 0 0, .slice (some ⟨w.heap.size + 1, 0, none⟩) 1 1] 47)) none 0 actQ14.n.kids ∧ ActIn (((w.alloc (.cells #[.int .i64 2] 3)).alloc (.cells #[.int .i64 4] 3)).alloc (.cells #[.int .i64 0, .int .i64 0, .int .i64 0, .string ⟨#[]⟩, .int .i64 2, .int .i64 0, .int .i64 0, .int .i64 0, .int .i64 0, .bool false, .string ⟨#[]⟩, .string ⟨#[]⟩, .slice none 0 0, .slice none 0 0, .int .i64 0, .int .i64 0, .int .i64 0, .string ⟨#[]⟩, .int .i64 2, .int .i64 0, .int .i64 0, .int .i64 0, .int .i64 0, .bool false, .string ⟨#[]⟩, .string ⟨#[]⟩, .slice none 0 0, .slice none 0 0, .int .i64 0, .int .i64 0, .int .i64 0, .string ⟨#[]⟩, .int .i64 3, .int .i64 0, .int .i64 0, .int .i64 0, .int .i64 1, .bool false, .string ⟨#[]⟩, .string ⟨#[]⟩, .slice none 0 0, .slice none 0 0, .int .i64 0, .int .i64 0, .int .i64 0, .string ⟨#[]⟩, .int .i64 2, .int .i64 0, .int .i64 0, .int .i64 0, .int .i64 0, .bool false, .string ⟨#[]⟩, .string ⟨#[]⟩, .slice none 0 0, .slice none 0 0, .int .i64 1, .int .i64 1, .int .i64 0, .string ⟨#[]⟩, .int .i64 0, .int .i64 0, .int .i64 0, .int .i64 0, .int .i64 0, .bool false, .string ⟨#[]⟩, .string ⟨#[]⟩, .slice none 0 0, .slice (some ⟨w.heap.size, 0, none⟩) 1 1, .int .i64 2, .int .i64 2, .int .i64 3, .string ⟨#[]⟩, .int .i64 0, .int .i64 0, .int .i64 0, .int .i64 0, .int .i64 0, .bool false, .string ⟨#[]⟩, .string ⟨#[]⟩, .slice none 0 0, .slice none 0 0, .int .i64 1, .int .i64 2, .int .i64 0, .string ⟨#[]⟩, .int .i64 0, .int .i64 0, .int .i64 0, .int .i64 0, .int .i64 0, .bool false, .string ⟨#[]⟩, .string ⟨#[]⟩, .slice none 0 0, .slice (some ⟨w.heap.size + 1, 0, none⟩) 1 1] 47)) actQ14 (some ⟨w.heap.size + 1, 0, none⟩) 1 := ⟨listNone _, Nat.zero_le _, Nat.zero_le _, Nat.zero_le _, Nat.le_refl _, (fun e => by cases e), (listLit (xs := [4]) h1').nums⟩
    simp only [List.mem_cons, List.not_mem_nil, or_false] at hr
    rcases hr with rfl | rfl | rfl | rfl | rfl | rfl | rfl
    · exact eE
    · exact eE
    · exact eS
    · exact eE
    · exact eP
    · exact eI
    · exact eQ)
  exact h3

section
variable {Rep : (Nat → Prop) → World → Nat → List Nd → Prop}
set_option maxHeartbeats 4000000 in
set_option maxRecDepth 100000 in
theorem awake14_any (O : ForestOk Rep) (M : ForestMore Rep) (w : World) : Calls Try.prog 7 #[] w fun e w' => e = .returned (.bool true) ∧ Below w.heap.size w w' := by
  have hA := acts14_in (w.alloc (.cells #[.int .i64 2, .int .i64 0, .int .i64 0, .int .i64 0, .int .i64 0, .bool false, .string ⟨#[]⟩, .string ⟨#[]⟩, .slice none 0 0] 43))
  rw [show (w.alloc (.cells #[.int .i64 2, .int .i64 0, .int .i64 0, .int .i64 0, .int .i64 0, .bool false, .string ⟨#[]⟩, .string ⟨#[]⟩, .slice none 0 0] 43)).heap.size = w.heap.size + 1 by simp] at hA
  have HA := Lib.hid hA
  have Hg := Lib.hid (good_forest acts14_small)
  have Hm := Lib.hid (moded_forest acts14)
  obtain ⟨x, y, z, hP, hx, hy, hz⟩ := acts14_path
  obtain ⟨l, hl⟩ : ∃ l, l = forest acts14 := ⟨_, rfl⟩
  have HL := Lib.hid hl
  rw [← hl] at hP Hg Hm
  have HP := Lib.hid hP
  have Hx := Lib.hid hx
  have Hy := Lib.hid hy
  have Hz := Lib.hid hz
  clear hl hA hP hx hy hz
  go_enter Try.func7, Try.ntmps7
  go_wp2_with fail
  refine (built_any O _ 7 7 acts14 _ rfl HA.out acts14_small).mono ?_
  rintro e w1 ⟨b, rfl, hR, hb1⟩
  rw [← HL.out] at hR
  have hB1 : Below w.heap.size w w1 := Below.trans (((((Below.refl _ w).alloc (Nat.le_refl _) _).alloc (by simp) _).alloc (by simp; omega) _).alloc (by simp; omega) _) (hb1.mono (by simp; omega))
  have HB1 := Lib.hid hB1
  have HR := Lib.hid (O.wide hR (S' := fun _ => True) fun _ _ _ => trivial)
  clear hR hb1 HA HL hB1
  go_wp2_with fail
  refine (ptMake O M Hm.out 4 0 true HR.out Hg.out).mono ?_
  rintro e w2 ⟨v, rfl, hv, hb2⟩
  rw [HP.out] at hv
  obtain ⟨A2, c2, rfl, hr2⟩ := hv.form
  have HB2 := Lib.hid (HB1.out.trans (hb2.mono HB1.out.size))
  obtain ⟨b2, o2, e2, y0, -⟩ := five_of hr2 (k := 0) (by simp)
  obtain ⟨b3, o3, e3, y1, -⟩ := five_of hr2 (k := 1) (by simp)
  obtain ⟨b4, o4, e4, y2, -⟩ := five_of hr2 (k := 2) (by simp)
  subst e2
  obtain ⟨rfl, rfl⟩ : b2 = b3 ∧ o2 = o3 := by simpa using e3
  obtain ⟨rfl, rfl⟩ : b2 = b4 ∧ o2 = o4 := by simpa using e4
  have x0 : w2.cell? ⟨b2, o2, none⟩ = some (.int .i64 4) := by rw [← Hx.out]; simpa using y0
  have x1 : w2.cell? ⟨b2, o2 + 5, none⟩ = some (.int .i64 2) := by rw [← Hy.out]; simpa using y1
  have x2 : w2.cell? ⟨b2, o2 + 10, none⟩ = some (.int .i64 1) := by rw [← Hz.out]; simpa using y2
  rw [show ([x, y, z] : List Stp).length = 3 from rfl]
  clear hv hb2 hr2 e3 e4 y0 y1 y2
  go_wp2
  go_ret
  exact ⟨rfl, HB2.out⟩
end
end Go.Proofs.Ytciajmaejpapfaa

namespace Go.Proofs.Ytciajmaejpapfaa
open Go Go.RowKit

theorem snoc_of {ws : List Int} (h : ws ≠ []) : ∃ vs k, ws = vs ++ [k] := ⟨ws.dropLast, ws.getLast h, (List.dropLast_concat_getLast h).symm⟩
theorem flat_ge {f : Int → List Int} : ∀ (ks : List Int), (∀ k ∈ ks, 1 ≤ (f k).length) → ks.length ≤ (ks.flatMap f).length
  | [], _ => Nat.le_refl _
  | k :: r, h => by
    have h1 := h k (by simp)
    have h2 := flat_ge r fun k' hk' => h k' (by simp [hk'])
    rw [List.flatMap_cons, List.length_append, List.length_cons]
    omega
theorem drop_rev {ks : List Int} {j : Nat} (hj : j < ks.length) : (ks.drop j).reverse = (ks.drop (j + 1)).reverse ++ [ks[j]] := by
  rw [List.drop_eq_getElem_cons hj, List.reverse_cons]

section
variable {G : Nat → Prop} {l : List Nd} {A : Option Addr} {c : Nat} {w : World}
/-- What is told, and who waits. -/
structure Waits (l : List Nd) (R : List Int) (w wr : World) (o a : Value) (xs ws : List Int) : Prop where
  out : Pile w.heap.size wr o xs
  wait : Pile w.heap.size wr a ws
  apart : ∀ g, a.ownBlock = some g → o.ownBlock ≠ some g
  all : xs ++ ws.reverse.flatMap (ordL l) = R
  there : ∀ x ∈ ws, thereB l x = true
  below : Below w.heap.size w wr
set_option maxHeartbeats 8000000 in
set_option maxRecDepth 100000 in
theorem refOrder (id : Int) (hg : Good l) (h : Nodes G w 0 A c l) :
    Calls Try.prog 75 #[.slice A l.length c, .int .i64 id] w fun e w' => ∃ v, e = .returned v ∧ Pile w.heap.size w' v (ordL l id) ∧ Below w.heap.size w w' := by
  have hnot : ∀ (x : Bool) (w : World), (Op.unary .not (.bool x)).run Try.prog w = .ok (.bool (!x)) w := fun _ _ => rfl
  have hll := hg.len
  have H := Lib.hid h
  have Hg := Lib.hid hg
  cases ht : thereB l id with
  | false =>
    have e0 := ordL_no ht
    have E0 := Lib.hid e0
    have Ht := Lib.hid ht
    clear e0 ht h hg
    go_enter Try.func75, Try.ntmps75
    go_wp2_with fail
    refine (there_any l A c id w).mono ?_
    rintro e w1 ⟨rfl, rfl⟩
    rw [Ht.out]
    go_wp2
    go_ret
    rw [E0.out]
    exact ⟨_, rfl, Pile.nil _ _, Below.refl _ _⟩
  | true =>
    have hRl : (ordL l id).length ≤ 128 := Nat.le_trans (ordL_len hg.tree id) hg.len
    obtain ⟨R, hR⟩ : ∃ R, R = ordL l id := ⟨_, rfl⟩
    rw [← hR] at hRl
    rw [← hR]
    have hW0 : Waits l R w (w.alloc (.cells #[.int .i64 id] 3)) (.slice none 0 0) (.slice (some ⟨w.heap.size, 0, none⟩) 1 1) [] [id] :=
      ⟨Pile.nil _ _, Pile.lit w [id] 1 rfl (by decide) (Nat.le_refl _), (fun g _ e => by cases e), by rw [hR]; simp, (fun x hx => by rw [List.mem_singleton.1 hx]; exact ht), (Below.refl _ w).alloc (Nat.le_refl _) _⟩
    have HW0 := Lib.hid hW0
    have Ht := Lib.hid ht
    clear ht h hg hW0 hR
    go_enter Try.func75, Try.ntmps75
    go_wp2_with fail
    refine (there_any l A c id w).mono ?_
    rintro e w1 ⟨rfl, rfl⟩
    rw [Ht.out]
    go_wp2_with fail
    go_loopw [5, 6, 7] (fun o a s wr => ∃ (xs ws : List Int), s = .int .i64 xs.length ∧ Waits l R w wr o a xs ws) (fun _ _ s _ => 1000 - (intOf s).toNat)
    case atStart => exact ⟨[], [id], rfl, HW0.out⟩
    case round =>
      obtain ⟨xs, ws, rfl, hW⟩ := hrel
      clear HW0
      obtain ⟨Ao, co, rfl, -⟩ := hW.out.form
      obtain ⟨Aw, cw, rfl, hLw⟩ := hW.wait.form
      by_cases hws : ws = []
      · subst hws
        have e0 : xs = R := by rw [← hW.all]; simp
        go_wp2
        go_ret
        rw [← e0]
        exact ⟨_, rfl, hW.out, hW.below⟩
      · obtain ⟨vs, k, rfl⟩ := snoc_of hws
        have hk : thereB l k = true := hW.there k (by simp)
        have hst := ordL_step Hg.out.tree hk
        have hxr : xs.length < R.length := by
          rw [← hW.all, List.reverse_append, List.reverse_singleton, List.singleton_append, List.flatMap_cons, hst]
          simp
        obtain ⟨bw, offw, rfl, -, cw0⟩ := hLw.nums vs.length (by simp)
        rw [List.getElem_append_right (Nat.le_refl _)] at cw0
        simp only [Nat.sub_self, List.getElem_singleton] at cw0
        have hlen : (vs ++ [k]).length = vs.length + 1 := by simp
        rw [hlen]
        have hWw := hW.wait
        rw [hlen] at hWw
        obtain ⟨gw, eg, hclip⟩ := hWw.clip rfl
        obtain ⟨rfl, rfl⟩ : bw = gw ∧ offw = 0 := by simpa using eg
        obtain ⟨m, rfl, hm⟩ := there_at hk
        obtain ⟨g, A1, c1, rfl, hgw, ck, hL, -, -⟩ := H.out.row hm
        rw [Nat.zero_add] at cw0
        have hvl : vs.length ≤ 1000 := by
          have h1 := flat_ge (f := ordL l) (vs ++ [(m : Int) + 1]).reverse fun x hx => by
            rw [ordL_step Hg.out.tree (hW.there x (List.mem_reverse.1 hx))]
            simp
          have h2 := congrArg List.length hW.all
          rw [List.length_append] at h2
          rw [List.length_reverse, hlen] at h1
          omega
        have hx3 : (xs.length : Int) < 1000 := by omega
        have ckr : wr.cell? ⟨g, m * 9 + 8, none⟩ = _ := (hW.below.cell (p := ⟨g, m * 9 + 8, none⟩) hgw).trans ck
        have hcap : vs.length + 1 ≤ cw := by have := hLw.cap; rw [hlen] at this; exact this
        have hown := hW.out.lt
        obtain ⟨ks, hks⟩ : ∃ ks, ks = (nd l ((m : Int) + 1)).kids := ⟨_, rfl⟩
        have hkl : ks.length ≤ 200 := by rw [hks]; exact few_nd Hg.out.few _
        have hkth : ∀ x ∈ ks, thereB l x = true := fun x hx => (Hg.out.tree.kid _ hk x (hks ▸ hx)).1
        rw [← hks] at ckr hL hst
        have hall : (xs ++ [(m : Int) + 1]) ++ (vs ++ ks.reverse).reverse.flatMap (ordL l) = R := by
          rw [← hW.all, List.reverse_append, List.reverse_append, List.reverse_reverse, List.reverse_singleton, List.singleton_append, List.flatMap_append, List.flatMap_cons, hst, List.append_assoc, List.cons_append]
          rfl
        have hvth : ∀ x ∈ vs, thereB l x = true := fun x hx => hW.there x (by simp [hx])
        have hwapart : ∀ g, (Value.slice (some ⟨bw, 0, none⟩) vs.length vs.length).ownBlock = some g → (Value.slice Ao xs.length co).ownBlock ≠ some g := hW.apart
        have hbwl : bw < wr.heap.size := (hclip.lt bw rfl).2
        have HP2 : Hid (Pile w.heap.size (wr.alloc (.cells #[.int .i64 ((m : Int) + 1)] 3)) (.slice Ao xs.length co) xs) := Lib.hid (hW.out.alloc _)
        have HB2 : Hid (Has (wr.alloc (.cells #[.int .i64 ((m : Int) + 1)] 3)) wr.heap.size (.cells #[.int .i64 ((m : Int) + 1)] 3 (0, 0))) := Lib.hid (Has.fresh _ _)
        have HS2 : Hid (w.heap.size ≤ (wr.alloc (.cells #[.int .i64 ((m : Int) + 1)] 3)).heap.size) := Lib.hid (by have := hW.below.size; simp; omega)
        have hxl : xs.length ≤ 1000000 := by omega
        have HE : Hid (∀ g2 cap w2, Pile w.heap.size w2 (.slice (some ⟨g2, 0, none⟩) (xs.length + 1) cap) (xs ++ [(m : Int) + 1]) → Keeps (fun i => (Value.slice Ao xs.length co).ownBlock = some i) (wr.alloc (.cells #[.int .i64 ((m : Int) + 1)] 3)) w2 → ((Value.slice Ao xs.length co).ownBlock = some g2 ∨ (wr.alloc (.cells #[.int .i64 ((m : Int) + 1)] 3)).heap.size ≤ g2) →
            w2.cell? ⟨g, m * 9 + 8, none⟩ = some (.slice A1 ks.length c1) ∧ Hid (Pile w.heap.size w2 (.slice (some ⟨bw, 0, none⟩) vs.length vs.length) vs ∧ bw ≠ g2 ∧ Below w.heap.size w w2)) := Lib.hid fun g2 cap w2 hp2 hk2 hat => by
          have hb2 : Below w.heap.size w w2 := below_then (hW.below.alloc hW.below.size _) hk2 (by have := hW.below.size; simp; omega) fun i hi e => by have := (hown _ e).1; omega
          refine ⟨(hb2.cell (p := ⟨g, m * 9 + 8, none⟩) hgw).trans (by rw [← ckr]; exact (hW.below.cell (p := ⟨g, m * 9 + 8, none⟩) hgw).symm), Lib.hid ⟨(hclip.alloc _).kept hk2 fun g' hg' e => hwapart g' hg' e, fun e => ?_, hb2⟩⟩
          subst e
          rcases hat with h | h
          · exact hwapart bw rfl h
          · simp at h
            omega
        have ckw := ck
        rw [← hks] at ckw
        have Hall := Lib.hid hall
        have Hkth := Lib.hid hkth
        have Hvth := Lib.hid hvth
        have HL := Lib.hid hL
        have hRl' : xs.length + 1 ≤ 1000 := by omega
        clear hall hkth hvth hL hst hW hWw hLw hclip hown hwapart hks hk ckr hws eg ck hxr hlen hbwl
        go_wp2_with (at_builtin; refine wpList_push rfl (.tmp 40) (.tmp 42) rfl rfl HP2.out rfl HB2.out hxl HS2.out ?_; intro g2 cap w2 hp2 hk2 hat _; obtain ⟨d8, HK⟩ := HE.out g2 cap w2 hp2 hk2 hat)
        obtain ⟨n, hn⟩ : ∃ n, n = ks.length := ⟨_, rfl⟩
        rw [← hn] at d8 hkl ckw
        rw [← hn]
        have Hn := Lib.hid hn
        have HP := Lib.hid hp2
        have C8 := Lib.hid ckw
        clear ckw
        clear hn hp2 hk2 hat HE HP2 HB2 HS2
        go_loopw [6, 9] (fun a i w3 => ∃ (j : Nat) (ws3 : List Int), j ≤ n ∧ i = .int .i64 ((j : Int) - 1) ∧ ws3 = vs ++ (ks.drop j).reverse ∧ Pile w.heap.size w3 a ws3 ∧ Pile w.heap.size w3 (.slice (some ⟨g2, 0, none⟩) (xs.length + 1) cap) (xs ++ [(m : Int) + 1]) ∧ (∀ g', a.ownBlock = some g' → g2 ≠ g') ∧ Below w.heap.size w w3) (fun _ i _ => (intOf i + 1).toNat)
        case atStart =>
          obtain ⟨h1, h2, h3⟩ := HK.out
          refine ⟨n, vs, Nat.le_refl _, rfl, ?_, h1, HP.out, fun g' hg' e => ?_, h3⟩
          · rw [List.drop_of_length_le (by rw [Hn.out]; exact Nat.le_refl _)]
            simp
          · obtain rfl : bw = g' := by simpa [Value.ownBlock] using hg'
            exact h2 e.symm
        case round =>
          obtain ⟨j, ws3, hj, rfl, hw3, hPa, hPo, hap, hb3⟩ := hrel
          clear HK HP d8
          obtain ⟨Aa, ca, rfl, -⟩ := hPa.form
          cases j with
          | zero =>
            have e1 : (((0 : Nat) : Int) - 1) = -1 := rfl
            rw [e1]
            have hW' : Waits l R w wr (.slice (some ⟨g2, 0, none⟩) (xs.length + 1) cap) (.slice Aa ws3.length ca) (xs ++ [(m : Int) + 1]) ws3 := by
              subst hw3
              refine ⟨hPo, hPa, fun g' hg' e => hap g' hg' (by simpa [Value.ownBlock] using e), Hall.out, fun x hx => ?_, hb3⟩
              rcases List.mem_append.1 hx with hx | hx
              · exact Hvth.out x hx
              · exact Hkth.out x (List.mem_reverse.1 hx)
            have HW := Lib.hid hW'
            clear hW' e1 hPa hPo hap hb3 hw3
            go_wp2
            go_roundw
            case rel => exact ⟨xs ++ [(m : Int) + 1], ws3, by rw [List.length_append]; go_num, HW.out⟩
            case measure => simp [intOf]; omega
          | succ j =>
            have e1 : (((j + 1 : Nat) : Int) - 1) = (j : Int) := by omega
            rw [e1]
            have hjk : j < ks.length := by rw [← Hn.out]; omega
            obtain ⟨bk, offk, rfl, hbk, ckk⟩ := HL.out.nums j hjk
            have hdr := drop_rev hjk
            obtain ⟨y, hy⟩ : ∃ y, y = ks[j] := ⟨_, rfl⟩
            rw [← hy] at ckk hdr
            have d8 : wr.cell? ⟨g, m * 9 + 8, none⟩ = some (.slice (some ⟨bk, offk, none⟩) n c1) := (hb3.cell (p := ⟨g, m * 9 + 8, none⟩) hgw).trans C8.out
            have dk : wr.cell? ⟨bk, offk + j, none⟩ = some (.int .i64 y) := (hb3.cell (p := ⟨bk, offk + j, none⟩) hbk).trans ckk
            have hnew : ws3 ++ [y] = vs ++ (ks.drop j).reverse := by rw [hw3, hdr, List.append_assoc]
            have hl3 : ws3.length ≤ 1000000 := by
              have := Hn.out
              rw [hw3, List.length_append, List.length_reverse, List.length_drop]
              omega
            have hown := hPa.lt
            have HP2 : Hid (Pile w.heap.size (wr.alloc (.cells #[.int .i64 y] 3)) (.slice Aa ws3.length ca) ws3) := Lib.hid (hPa.alloc _)
            have HB2 : Hid (Has (wr.alloc (.cells #[.int .i64 y] 3)) wr.heap.size (.cells #[.int .i64 y] 3 (0, 0))) := Lib.hid (Has.fresh _ _)
            have HS2 : Hid (w.heap.size ≤ (wr.alloc (.cells #[.int .i64 y] 3)).heap.size) := Lib.hid (by have := hb3.size; simp; omega)
            have hg2 : g2 < wr.heap.size := (hPo.lt g2 rfl).2
            have HE : Hid (∀ g4 cap4 w4, Keeps (fun i => (Value.slice Aa ws3.length ca).ownBlock = some i) (wr.alloc (.cells #[.int .i64 y] 3)) w4 → ((Value.slice Aa ws3.length ca).ownBlock = some g4 ∨ (wr.alloc (.cells #[.int .i64 y] 3)).heap.size ≤ g4) →
                Pile w.heap.size w4 (.slice (some ⟨g2, 0, none⟩) (xs.length + 1) cap) (xs ++ [(m : Int) + 1]) ∧ (∀ g', (Value.slice (some ⟨g4, 0, none⟩) (ws3.length + 1) cap4).ownBlock = some g' → g2 ≠ g') ∧ Below w.heap.size w w4) := Lib.hid fun g4 cap4 w4 hk4 hat4 => by
              refine ⟨(hPo.alloc _).kept hk4 fun g' hg' e => ?_, fun g' hg' e => ?_, below_then (hb3.alloc hb3.size _) hk4 (by have := hb3.size; simp; omega) fun i hi e => by have := (hown _ e).1; omega⟩
              · obtain rfl : g2 = g' := by simpa [Value.ownBlock] using hg'
                exact hap g2 e rfl
              · obtain rfl : g4 = g' := by simpa [Value.ownBlock] using hg'
                subst e
                rcases hat4 with h | h
                · exact hap g2 h rfl
                · simp at h
                  omega
            have Hnew := Lib.hid hnew
            clear e1 hdr hy ckk hw3 hPa hPo hap hb3 hnew hown hjk
            go_wp2_with (at_builtin; refine wpList_push rfl (.tmp 56) (.tmp 66) rfl rfl HP2.out rfl HB2.out hl3 HS2.out ?_; intro g4 cap4 w4 hp4 hk4 hat4 _)
            go_roundw
            case rel =>
              obtain ⟨q1, q2, q3⟩ := HE.out g4 cap4 w4 hk4 hat4
              exact ⟨j, ws3 ++ [y], by omega, rfl, Hnew.out, by simpa using hp4, q1, q2, q3⟩
            case measure => simp [intOf]
end
end Go.Proofs.Ytciajmaejpapfaa

namespace Go.Proofs.Ytciajmaejpapfaa
open Go Go.RowKit

theorem named_step {l : List Nd} {n : ByteArray} {xs : List Int} {j : Nat} (hj : j < xs.length) : namedL l n (xs.drop j) = (if ((nd l xs[j]).name.toList == n.toList) = true then [xs[j]] else []) ++ namedL l n (xs.drop (j + 1)) := by
  rw [List.drop_eq_getElem_cons hj]
  unfold namedL
  rw [List.filter_cons]
  split <;> rfl
section
variable {G : Nat → Prop} {w : World} {A : Option Addr} {c : Nat} {l : List Nd}
set_option maxHeartbeats 4000000 in
set_option maxRecDepth 100000 in
theorem rsSlots (id : Int) (hg : Good l) (h : Nodes G w 0 A c l) :
    Calls Try.prog 60 #[.slice A l.length c, .int .i64 id] w fun e w' => ∃ v, e = .returned v ∧ Pile w.heap.size w' v (slotsL l id) ∧ Below w.heap.size w w' := by
  have C := Lib.hid (refOrder id hg h)
  have H := Lib.hid h
  have hll := hg.len
  have hRl : (ordL l id).length ≤ 128 := Nat.le_trans (ordL_len hg.tree id) hg.len
  have hall : ∀ x ∈ ordL l id, thereB l x = true := fun x hx => ordL_there hg.tree hx
  have hsl : slotsL l id = (ordL l id).filter fun x => (nd l x).slot := rfl
  rw [hsl]
  obtain ⟨R, hR⟩ : ∃ R, R = ordL l id := ⟨_, rfl⟩
  rw [← hR] at hRl C hall
  rw [← hR]
  have Hall := Lib.hid hall
  clear h hg hR hsl hall
  go_enter Try.func60, Try.ntmps60
  go_wp2_with fail
  refine C.out.mono ?_
  rintro e w1 ⟨v, rfl, hP, hb⟩
  obtain ⟨A2, c2, rfl, hL⟩ := hP.form
  have HL := Lib.hid hL
  have Hb := Lib.hid hb
  have Hs1 := Lib.hid hb.size
  have HN := Lib.hid (H.out.below hb)
  obtain ⟨n, hn⟩ : ∃ n, n = R.length := ⟨_, rfl⟩
  rw [← hn] at hRl
  rw [← hn]
  have Hn := Lib.hid hn
  clear C hP hL hb hn
  go_wp2_with fail
  go_loopw [5, 7] (fun o k wr => ∃ j : Nat, k = .int .i64 j ∧ j ≤ n ∧ Pile w1.heap.size wr o ((R.take j).filter fun x => (nd l x).slot) ∧ Below w1.heap.size w1 wr) (fun _ k _ => n - (intOf k).toNat)
  case atStart => exact ⟨0, rfl, Nat.zero_le _, Pile.nil _ _, Below.refl _ _⟩
  case round =>
    obtain ⟨j, rfl, hj, hPo, hbr⟩ := hrel
    obtain ⟨Ao, co, rfl, -⟩ := hPo.form
    by_cases hjn : (j : Int) < n
    · have hjk : j < R.length := by rw [← Hn.out]; omega
      obtain ⟨b', off, rfl, hB, hc0⟩ := HL.out.nums j hjk
      have hc : wr.cell? ⟨b', off + j, none⟩ = some (.int .i64 R[j]) := (hbr.cell (p := ⟨b', off + j, none⟩) hB).trans hc0
      have hth := Hall.out R[j] (List.getElem_mem hjk)
      have htk : R.take (j + 1) = R.take j ++ [R[j]] := by rw [List.take_add_one, List.getElem?_eq_getElem hjk]; rfl
      have hxl : ((R.take j).filter fun x => (nd l x).slot).length ≤ 1000000 := by
        have h1 := List.length_filter_le (fun x => (nd l x).slot) (R.take j)
        rw [List.length_take] at h1
        omega
      obtain ⟨y, hy⟩ : ∃ y, y = R[j] := ⟨_, rfl⟩
      rw [← hy] at hc hth htk
      have hst : ((R.take (j + 1)).filter fun x => (nd l x).slot) = ((R.take j).filter fun x => (nd l x).slot) ++ [y].filter fun x => (nd l x).slot := by rw [htk, List.filter_append]
      obtain ⟨xs, hxs⟩ : ∃ xs, xs = (R.take j).filter fun x => (nd l x).slot := ⟨_, rfl⟩
      rw [← hxs] at hst hxl hPo
      rw [← hxs]
      obtain ⟨m, rfl, hm⟩ := there_at hth
      obtain ⟨g, k, rfl, -, hgw, -, -, -, -, -, -, -, c5, -⟩ := HN.out.nine hm
      have d5 : wr.cell? ⟨g, m * 9 + 5, none⟩ = some (.bool (nd l ((m : Int) + 1)).slot) := (hbr.cell (p := ⟨g, m * 9 + 5, none⟩) hgw).trans c5
      have Hst := Lib.hid hst
      clear hst hc0 hy hxs hjk htk hB hth c5
      cases hs : (nd l ((m : Int) + 1)).slot with
      | true =>
        have hfin : xs ++ [(m : Int) + 1] = ((R.take (j + 1)).filter fun x => (nd l x).slot) := by rw [Hst.out]; simp [hs]
        have Hfin := Lib.hid hfin
        have hown : ∀ g, (Value.slice Ao xs.length co).ownBlock = some g → w1.heap.size ≤ g ∧ g < wr.heap.size := hPo.lt
        have HP2 : Hid (Pile w1.heap.size (wr.alloc (.cells #[.int .i64 ((m : Int) + 1)] 3)) (.slice Ao xs.length co) xs) := Lib.hid (hPo.alloc _)
        have HB2 : Hid (Has (wr.alloc (.cells #[.int .i64 ((m : Int) + 1)] 3)) wr.heap.size (.cells #[.int .i64 ((m : Int) + 1)] 3 (0, 0))) := Lib.hid (Has.fresh _ _)
        have HS2 : Hid (w1.heap.size ≤ (wr.alloc (.cells #[.int .i64 ((m : Int) + 1)] 3)).heap.size) := Lib.hid (by have := hbr.size; simp; omega)
        have HE : Hid (∀ w4, Keeps (fun i => (Value.slice Ao xs.length co).ownBlock = some i) (wr.alloc (.cells #[.int .i64 ((m : Int) + 1)] 3)) w4 → Below w1.heap.size w1 w4) := Lib.hid fun w4 hk4 =>
          below_then (hbr.alloc hbr.size _) hk4 (by have := hbr.size; simp; omega) fun i hi e => by have := (hown _ e).1; omega
        rw [hs] at d5
        clear hfin hown hPo hbr hs Hst
        go_wp2_with (at_builtin; refine wpList_push rfl (.tmp 26) (.tmp 31) rfl rfl HP2.out rfl HB2.out hxl HS2.out ?_; intro g' cap w4 hp4 hk4 _ _)
        go_roundw
        case rel => exact ⟨j + 1, by go_num, by omega, by rw [← Hfin.out]; simpa using hp4, HE.out w4 hk4⟩
        case measure => simp [intOf]; omega
      | false =>
        have hfin : xs = ((R.take (j + 1)).filter fun x => (nd l x).slot) := by rw [Hst.out]; simp [hs]
        have Hfin := Lib.hid hfin
        have HF : Hid (Pile w1.heap.size wr (.slice Ao xs.length co) xs ∧ Below w1.heap.size w1 wr) := Lib.hid ⟨hPo, hbr⟩
        rw [hs] at d5
        clear hfin hPo hbr hs Hst
        go_wp2
        go_roundw
        case rel => exact ⟨j + 1, by go_num, by omega, by rw [← Hfin.out]; exact HF.out.1, HF.out.2⟩
        case measure => simp [intOf]; omega
    · have he : ((R.take j).filter fun x => (nd l x).slot) = R.filter fun x => (nd l x).slot := by rw [List.take_of_length_le (by rw [← Hn.out]; omega)]
      rw [he] at hPo
      rw [he]
      clear he
      go_wp2
      go_ret
      exact ⟨_, rfl, hPo.from_ Hs1.out, Hb.out.trans (hbr.mono Hs1.out)⟩
set_option maxHeartbeats 8000000 in
set_option maxRecDepth 100000 in
theorem rsOf (id : Int) (hg : Good l) (h : Nodes G w 0 A c l) :
    Calls Try.prog 29 #[.slice A l.length c, .int .i64 id] w fun e w' => e = .returned (.int .i64 (ofL l id)) ∧ Below w.heap.size w w' := by
  have hnot : ∀ (x : Bool) (w : World), (Op.unary .not (.bool x)).run Try.prog w = .ok (.bool (!x)) w := fun _ _ => rfl
  have hll := hg.len
  have H := Lib.hid h
  have Hg := Lib.hid hg
  obtain ⟨R, hR⟩ : ∃ R, R = ofL l id := ⟨_, rfl⟩
  rw [← hR]
  cases ht : thereB l id with
  | false =>
    rw [ofL_no ht] at hR
    have HR := Lib.hid hR
    have Ht := Lib.hid ht
    clear ht h hg hR
    go_enter Try.func29, Try.ntmps29
    go_wp2_with fail
    refine (there_any l A c id w).mono ?_
    rintro e w1 ⟨rfl, rfl⟩
    rw [Ht.out]
    go_wp2
    go_ret
    rw [HR.out]
    exact ⟨rfl, Below.refl _ _⟩
  | true =>
    obtain ⟨m, rfl, hm⟩ := there_at ht
    obtain ⟨g, k, rfl, -, hgw, -, -, c0, c1, -, -, -, -, -, c7, -⟩ := h.nine hm
    have hTp := hg.tree.par _ ht
    have hTs := fun hp => hg.tree.shade (nd l ((m : Int) + 1)).parent hp
    have hk : (nd l ((m : Int) + 1)).kind ≠ 2 → R = 0 := fun h => by rw [hR, ofL_kind h]
    have ha : (nd l ((m : Int) + 1)).kind = 2 → R = headL (namedL l (nd l ((m : Int) + 1)).want (slotsL l (shOf l (nd l ((m : Int) + 1)).parent))) := fun h => by rw [hR, ofL_at ht h]
    obtain ⟨d, hd⟩ : ∃ d, d = nd l ((m : Int) + 1) := ⟨_, rfl⟩
    rw [← hd] at c0 c1 c7 hTp hTs hk ha
    have Ht := Lib.hid ht
    have HTp := Lib.hid hTp
    have Hk := Lib.hid hk
    have Ha := Lib.hid ha
    clear ht h hg hR hd hTp hk ha hTs
    go_enter Try.func29, Try.ntmps29
    go_wp2_with fail
    refine (there_any l _ c ((m : Int) + 1) w).mono ?_
    rintro e w1 ⟨rfl, rfl⟩
    rw [Ht.out]
    by_cases hk2 : d.kind = 2
    · have zk : (d.kind != 2) = false := by simpa using hk2
      have e1 := Ha.out hk2
      by_cases hp0 : d.parent = 0
      · have e2 : R = 0 := by
          rw [e1, hp0, shOf_no (there_zero l), slotsL_no (there_zero l)]
          rfl
        have E2 := Lib.hid e2
        have zp : (d.parent == 0) = true := by simpa using hp0
        clear e1 e2 hk2 hp0
        go_wp2
        go_ret
        rw [E2.out]
        exact ⟨rfl, Below.refl _ _⟩
      · have zp : (d.parent == 0) = false := by simpa using hp0
        obtain ⟨hpt, -⟩ := HTp.out hp0
        rw [shOf_at hpt] at e1
        obtain ⟨mp, hmp, hml⟩ := there_at hpt
        obtain ⟨g', k', e', -, -, -, -, -, -, -, c3, -⟩ := H.out.nine hml
        obtain rfl : g = g' := by simpa using e'
        rw [hmp] at e1 c1 zp
        obtain ⟨sh, hsh⟩ : ∃ sh, sh = (nd l ((mp : Int) + 1)).shadow := ⟨_, rfl⟩
        rw [← hsh] at c3 e1
        have zm : IntKind.i64.wrap ((mp : Int) + 1 - 1) = (mp : Int) := by rw [wrap_small (by omega) (by omega)]; omega
        by_cases hs0 : sh = 0
        · have e2 : R = 0 := by
            rw [e1, hs0, slotsL_no (there_zero l)]
            rfl
          have E2 := Lib.hid e2
          have zs : (sh == 0) = true := by simpa using hs0
          clear e1 e2 hk2 hp0 hpt hmp hsh hs0 e'
          go_wp2
          go_ret
          rw [E2.out]
          exact ⟨rfl, Below.refl _ _⟩
        · have E1 := Lib.hid e1
          have zs : (sh == 0) = false := by simpa using hs0
          clear e1 hk2 hp0 hpt hmp hsh hs0 e'
          go_wp2_with fail
          refine (rsSlots sh Hg.out H.out).mono ?_
          rintro e w2 ⟨v, rfl, hP, hb⟩
          have hsl : (slotsL l sh).length ≤ 128 := Nat.le_trans (slots_len Hg.out.tree sh) Hg.out.len
          have hall : ∀ x ∈ slotsL l sh, thereB l x = true := fun x hx => ordL_there Hg.out.tree (List.mem_filter.1 hx).1
          obtain ⟨xs, hxs⟩ : ∃ xs, xs = slotsL l sh := ⟨_, rfl⟩
          rw [← hxs] at hsl hall hP E1
          obtain ⟨A2, c2, rfl, hL⟩ := hP.form
          obtain ⟨n, hn⟩ : ∃ n, n = xs.length := ⟨_, rfl⟩
          rw [← hn] at hsl
          rw [← hn]
          have e7 : w2.cell? ⟨g, m * 9 + 7, none⟩ = some (.string d.want) := (hb.cell (p := ⟨g, m * 9 + 7, none⟩) hgw).trans c7
          have Hn := Lib.hid hn
          have HL := Lib.hid hL
          have Hall := Lib.hid hall
          have HN := Lib.hid (H.out.below hb)
          have hgw2 : g < w2.heap.size := Nat.lt_of_lt_of_le hgw hb.size
          have Hb := Lib.hid hb
          clear hP hL hall hxs hn hb
          go_wp2_with fail
          go_loopw [7] (fun k wr => ∃ j : Nat, k = .int .i64 j ∧ j ≤ n ∧ R = headL (namedL l d.want (xs.drop j)) ∧ Below w2.heap.size w2 wr) (fun k _ => n - (intOf k).toNat)
          case atStart => exact ⟨0, rfl, Nat.zero_le _, E1.out, Below.refl _ _⟩
          case round =>
            obtain ⟨j, rfl, hj, hRj, hbr⟩ := hrel
            have HRj := Lib.hid hRj
            clear hRj
            by_cases hjn : (j : Int) < n
            · have hjk : j < xs.length := by rw [← Hn.out]; omega
              obtain ⟨b', off, rfl, hB, hc0⟩ := HL.out.nums j hjk
              have hc : wr.cell? ⟨b', off + j, none⟩ = some (.int .i64 xs[j]) := (hbr.cell (p := ⟨b', off + j, none⟩) hB).trans hc0
              have f7 : wr.cell? ⟨g, m * 9 + 7, none⟩ = some (.string d.want) := (hbr.cell (p := ⟨g, m * 9 + 7, none⟩) hgw2).trans e7
              have hth := Hall.out xs[j] (List.getElem_mem hjk)
              have hst := named_step (l := l) (n := d.want) hjk
              obtain ⟨y, hy⟩ : ∃ y, y = xs[j] := ⟨_, rfl⟩
              rw [← hy] at hc hth hst
              obtain ⟨my, rfl, hmy⟩ := there_at hth
              obtain ⟨g', k', e', -, -, -, -, -, -, -, -, -, -, c6, -⟩ := (HN.out.below hbr).nine hmy
              obtain rfl : g = g' := by simpa using e'
              obtain ⟨nm, hnm⟩ : ∃ nm, nm = (nd l ((my : Int) + 1)).name := ⟨_, rfl⟩
              rw [← hnm] at c6 hst
              have zy : IntKind.i64.wrap ((my : Int) + 1 - 1) = (my : Int) := by rw [wrap_small (by omega) (by omega)]; omega
              have zm' : IntKind.i64.wrap ((m : Int) + 1 - 1) = (m : Int) := by rw [wrap_small (by omega) (by omega)]; omega
              have hmy' : (my : Int) < (l.length : Int) := by omega
              have hm' : (m : Int) < (l.length : Int) := by omega
              have Hst := Lib.hid hst
              clear hst hy hth hjk e' hnm hB hc0
              go_upto_region 10 with fail
              go_quiet (fail)
              have HBr : Hid (Below w2.heap.size w2 (wr.drewN nq)) := Lib.hid (below_draws hbr nq)
              cases hq : (nm.toList == d.want.toList) with
              | true =>
                have e1 : R = (my : Int) + 1 := by
                  rw [HRj.out, Hst.out, hq]
                  rfl
                have E1 := Lib.hid e1
                clear e1
                go_wp2
                go_ret
                rw [E1.out]
                exact ⟨rfl, Hb.out.trans (HBr.out.mono Hb.out.size)⟩
              | false =>
                have e1 : R = headL (namedL l d.want (xs.drop (j + 1))) := by
                  rw [HRj.out, Hst.out, hq]
                  rfl
                have E1 := Lib.hid e1
                clear e1
                go_wp2
                go_roundw
                case rel => exact ⟨j + 1, by go_num, by omega, E1.out, HBr.out⟩
                case measure => simp [intOf]; omega
            · have e1 : R = 0 := by
                rw [HRj.out, List.drop_of_length_le (by rw [← Hn.out]; omega)]
                rfl
              have E1 := Lib.hid e1
              clear e1
              go_wp2
              go_ret
              rw [E1.out]
              exact ⟨rfl, Hb.out.trans (hbr.mono Hb.out.size)⟩
    · have zk : (d.kind != 2) = true := by simpa using hk2
      have e1 := Hk.out hk2
      have E1 := Lib.hid e1
      clear e1 hk2
      go_wp2
      go_ret
      rw [E1.out]
      exact ⟨rfl, Below.refl _ _⟩
end
end Go.Proofs.Ytciajmaejpapfaa

namespace Go.Proofs.Ytciajmaejpapfaa
open Go Go.RowKit

section
variable {l : List Nd} {i : Int}
theorem whole_at (T : Tree l) (h : hostL l i = 0) : wholeL l i = rootL l i := by
  cases ht : thereB l i with
  | false => rw [whole_no ht, rootL_no ht]
  | true => exact whole_end T ht h
theorem hostL_kind (T : Tree l) (h : thereB l i = true) (hk : (nd l (rootL l i)).kind ≠ 3) : hostL l i = 0 := by
  rw [hostL_at h]
  exact Decidable.byContradiction fun h0 => hk (T.host _ (rootL_there T h) h0).1
theorem hostL_from (h : hostL l i ≠ 0) : thereB l i = true := by
  cases ht : thereB l i with
  | true => rfl
  | false => exact absurd (hostL_no ht) h
end
section
variable {G : Nat → Prop} {w : World} {A : Option Addr} {c : Nat} {l : List Nd}
set_option maxHeartbeats 2000000 in
set_option maxRecDepth 100000 in
theorem rsHost (id : Int) (hg : Good l) (h : Nodes G w 0 A c l) :
    Calls Try.prog 62 #[.slice A l.length c, .int .i64 id] w fun e w' => e = .returned (.int .i64 (hostL l id)) ∧ Below w.heap.size w w' := by
  have H := Lib.hid h
  have Hg := Lib.hid hg
  have hll := hg.len
  obtain ⟨R, hR⟩ : ∃ R, R = hostL l id := ⟨_, rfl⟩
  rw [← hR]
  have HR := Lib.hid hR
  clear h hg hR
  go_enter Try.func62, Try.ntmps62
  go_wp2_with fail
  refine (refRoot l A c id w Hg.out H.out).mono ?_
  rintro e w1 ⟨rfl, hb1⟩
  cases ht : thereB l id with
  | false =>
    have e0 := rootL_no ht
    have e1 : R = 0 := by rw [HR.out, hostL_no ht]
    subst e1
    rw [e0]
    clear e0 ht HR
    go_wp2
    go_ret
    exact ⟨rfl, hb1⟩
  | true =>
    have hrt := rootL_there Hg.out.tree ht
    have e1 := hostL_at ht
    have e2 := hostL_kind Hg.out.tree ht
    obtain ⟨m, hr, hm⟩ := there_at hrt
    rw [hr] at e1 e2
    rw [hr]
    have hN := H.out.below hb1
    obtain ⟨g, k, rfl, -, hgw, -, -, c0, -, c2, -⟩ := hN.nine hm
    obtain ⟨d, hd⟩ : ∃ d, d = nd l ((m : Int) + 1) := ⟨_, rfl⟩
    rw [← hd] at c0 c2 e1 e2
    have z1 : (((m : Int) + 1) == 0) = false := by rw [beq_eq_false_iff_ne]; omega
    by_cases hk : d.kind = 3
    · have e3 : R = d.host := by rw [HR.out, e1]
      have z3 : (d.kind != 3) = false := by simpa using hk
      subst e3
      clear hr hrt e1 e2 ht hd HR hN hk
      go_wp2
      go_ret
      exact ⟨rfl, hb1⟩
    · have e3 : R = 0 := by rw [HR.out, e2 hk]
      have z3 : (d.kind != 3) = true := by simpa using hk
      subst e3
      clear hr hrt e1 e2 ht hd HR hN hk
      go_wp2
      go_ret
      exact ⟨rfl, hb1⟩
set_option maxHeartbeats 4000000 in
set_option maxRecDepth 100000 in
theorem rsHolds (x id : Int) (hg : Good l) (h : Nodes G w 0 A c l) :
    Calls Try.prog 37 #[.slice A l.length c, .int .i64 x, .int .i64 id] w fun e w' => e = .returned (.bool (hasB (over l id) x)) ∧ Below w.heap.size w w' := by
  have H := Lib.hid h
  have Hg := Lib.hid hg
  have hll := hg.len
  obtain ⟨R, hR⟩ : ∃ R, R = hasB (over l id) x := ⟨_, rfl⟩
  rw [← hR]
  have HR := Lib.hid hR.symm
  have H0 := Lib.hid (over_short hg.tree id)
  clear h hg hR
  go_enter Try.func37, Try.ntmps37
  go_wp2_with fail
  go_loopw [2, 7] (fun a k wr => ∃ (i : Int) (j : Nat), a = .int .i64 i ∧ k = .int .i64 j ∧ hasB (over l i) x = R ∧ j ≤ l.length + 1 ∧ (i ≠ 0 → j + (over l i).length ≤ l.length) ∧ Below w.heap.size w wr) (fun _ k _ => l.length + 2 - (intOf k).toNat)
  case atStart => exact ⟨id, 0, rfl, rfl, HR.out, Nat.zero_le _, fun _ => by have := H0.out; omega, Below.refl _ _⟩
  case round =>
    obtain ⟨i, j, rfl, rfl, hi, hj1, hj, hb⟩ := hrel
    have Hi := Lib.hid hi
    have Hb := Lib.hid hb
    have Hn := Lib.hid (H.out.kept (Keeps.of_below (F := fun i => w.heap.size ≤ i) hb fun _ _ h => h) fun _ hi => Nat.not_le.2 hi)
    clear hi hb HR H0
    by_cases h0 : i = 0
    · subst h0
      have e0 : R = false := by
        rw [← Hi.out, over_zero]
        rfl
      subst e0
      clear hj
      by_cases hjl : (j : Int) ≤ l.length
      · go_wp2
        go_ret
        exact ⟨rfl, Hb.out⟩
      · go_wp2
        go_ret
        exact ⟨rfl, Hb.out⟩
    · have Hj := Lib.hid (hj h0)
      have hjl : (j : Int) ≤ l.length := by have := Hj.out; omega
      have z0 : (i != 0) = true := by simpa using h0
      clear hj h0
      go_wp2_with fail
      refine (refAbove l A c x i wr Hg.out Hn.out).mono ?_
      rintro e w1 ⟨rfl, hb1⟩
      have Hb1 := Lib.hid (Hb.out.trans (hb1.mono Hb.out.size))
      have Hn1 := Lib.hid (Hn.out.below hb1)
      clear hb1
      cases ha : hasB (parL l i) x with
      | true =>
        have e0 : R = true := by
          rw [← Hi.out]
          exact over_hit Hg.out.tree ha
        subst e0
        clear ha
        go_wp2
        go_ret
        exact ⟨rfl, Hb1.out⟩
      | false =>
        have Ha := Lib.hid ha
        clear ha
        go_wp2_with fail
        refine (rsHost i Hg.out Hn1.out).mono ?_
        rintro e w2 ⟨rfl, hb2⟩
        have Hb2 := Lib.hid (Hb1.out.trans (hb2.mono Hb1.out.size))
        clear hb2
        have e1 : hasB (over l (hostL l i)) x = R := by
          cases ht : thereB l i with
          | true => rw [hostL_at ht, ← over_miss Hg.out.tree ht Ha.out]; exact Hi.out
          | false => rw [hostL_no ht, over_zero, ← Hi.out, over_none ht]
        have e2 : hostL l i ≠ 0 → j + 1 + (over l (hostL l i)).length ≤ l.length := fun h => by
          have h1 := host_less Hg.out.tree (hostL_from h)
          have h2 := Hj.out
          omega
        have E1 := Lib.hid e1
        have E2 := Lib.hid e2
        clear e1 e2
        go_wp2
        go_roundw
        case rel => exact ⟨_, j + 1, rfl, by go_num, E1.out, by omega, E2.out, Hb2.out⟩
        case measure => simp [intOf]; omega
end
end Go.Proofs.Ytciajmaejpapfaa

namespace Go.Proofs.Ytciajmaejpapfaa
open Go Go.RowKit

section
variable {G : Nat → Prop} {w : World} {A : Option Addr} {c : Nat} {l : List Nd}
set_option maxHeartbeats 4000000 in
set_option maxRecDepth 100000 in
theorem raAim (a x : Int) (hg : Good l) (h : Nodes G w 0 A c l) :
    Calls Try.prog 35 #[.slice A l.length c, .int .i64 a, .int .i64 x] w fun e w' => e = .returned (.int .i64 (aimL l a x)) ∧ Below w.heap.size w w' := by
  have hnot : ∀ (x : Bool) (w : World), (Op.unary .not (.bool x)).run Try.prog w = .ok (.bool (!x)) w := fun _ _ => rfl
  have H := Lib.hid h
  have Hg := Lib.hid hg
  have hll := hg.len
  obtain ⟨R, hR⟩ : ∃ R, R = aimL l a x := ⟨_, rfl⟩
  rw [← hR]
  have HR := Lib.hid hR.symm
  have H0 := Lib.hid (over_short hg.tree a)
  clear h hg hR
  go_enter Try.func35, Try.ntmps35
  go_wp2_with fail
  refine (there_any l A c a w).mono ?_
  rintro e w0 ⟨rfl, rfl⟩
  cases hat : thereB l a with
  | false =>
    have e0 : R = 0 := by rw [← HR.out, aimL_no hat]
    subst e0
    clear hat
    go_wp2
    go_ret
    exact ⟨rfl, Below.refl _ _⟩
  | true =>
    have Hat := Lib.hid hat
    clear hat
    go_wp2_with fail
    go_loopw [1, 7] (fun v k wr => ∃ (i : Int) (j : Nat), v = .int .i64 i ∧ k = .int .i64 j ∧ thereB l i = true ∧ aimL l i x = R ∧ j + (over l i).length ≤ l.length ∧ Below w.heap.size w wr) (fun _ k _ => l.length + 1 - (intOf k).toNat)
    case atStart => exact ⟨a, 0, rfl, rfl, Hat.out, HR.out, by have := H0.out; omega, Below.refl _ _⟩
    case round =>
      obtain ⟨i, j, rfl, rfl, ht, hi, hj, hb⟩ := hrel
      have Ht := Lib.hid ht
      have Hi := Lib.hid hi
      have Hj := Lib.hid hj
      have Hb := Lib.hid hb
      have Hn := Lib.hid (H.out.kept (Keeps.of_below (F := fun i => w.heap.size ≤ i) hb fun _ _ h => h) fun _ hi => Nat.not_le.2 hi)
      have hjl : (j : Int) ≤ l.length := by omega
      clear hi hj hb ht HR H0 Hat
      go_wp2_with fail
      refine (rsHost i Hg.out Hn.out).mono ?_
      rintro e w1 ⟨rfl, hb1⟩
      have Hb1 := Lib.hid (Hb.out.trans (hb1.mono Hb.out.size))
      have Hn1 := Lib.hid (Hn.out.below hb1)
      clear hb1 Hb Hn
      have e1 : hostL l i = 0 → aimL l i x = i := fun h => aimL_stop Ht.out (aimB_end h)
      have e2 : hasB (over l x) (rootL l i) = true → aimL l i x = i := fun h => aimL_stop Ht.out (aimB_held h)
      have e3 : hostL l i ≠ 0 → hasB (over l x) (rootL l i) = false → aimL l (hostL l i) x = aimL l i x := fun h h' => (aimL_up Hg.out.tree (aimB_go h h')).symm
      have e4 := host_less Hg.out.tree Ht.out
      have e5 : hostL l i ≠ 0 → thereB l (hostL l i) = true := hostL_there Hg.out.tree
      rw [Hi.out] at e1 e2 e3
      obtain ⟨ho, hho⟩ : ∃ ho, ho = hostL l i := ⟨_, rfl⟩
      rw [← hho] at e1 e3 e4 e5
      rw [← hho]
      have Hho := Lib.hid hho
      have E2 := Lib.hid e2
      have E4 := Lib.hid e4
      clear hho e2 e4
      by_cases h0 : ho = 0
      · have e0 : R = i := e1 h0
        subst e0
        subst h0
        clear e1 e3 e5
        go_wp2
        go_ret
        exact ⟨rfl, Hb1.out⟩
      · have z0 : (ho == 0) = false := by simpa using h0
        have E3 := Lib.hid (e3 h0)
        have E5 := Lib.hid (e5 h0)
        clear e1 e3 e5 h0
        go_wp2_with fail
        refine (refRoot l A c i w1 Hg.out Hn1.out).mono ?_
        rintro e w2 ⟨rfl, hb2⟩
        have Hb2 := Lib.hid (Hb1.out.trans (hb2.mono Hb1.out.size))
        have Hn2 := Lib.hid (Hn1.out.below hb2)
        clear hb2 Hb1 Hn1
        go_wp2_with fail
        refine (rsHolds (rootL l i) x Hg.out Hn2.out).mono ?_
        rintro e w3 ⟨rfl, hb3⟩
        have Hb3 := Lib.hid (Hb2.out.trans (hb3.mono Hb2.out.size))
        have Hn3 := Lib.hid (Hn2.out.below hb3)
        clear hb3 Hb2 Hn2
        cases hh : hasB (over l x) (rootL l i) with
        | true =>
          have e0 : R = i := E2.out hh
          subst e0
          clear hh
          go_wp2
          go_ret
          exact ⟨rfl, Hb3.out⟩
        | false =>
          have F3 := Lib.hid (E3.out hh)
          clear hh E3 E2
          go_wp2_with fail
          refine (rsHost i Hg.out Hn3.out).mono ?_
          rintro e w4 ⟨rfl, hb4⟩
          rw [← Hho.out]
          have Hb4 := Lib.hid (Hb3.out.trans (hb4.mono Hb3.out.size))
          clear hb4
          go_wp2
          go_roundw
          case rel => exact ⟨_, j + 1, rfl, by go_num, E5.out, F3.out, by have := E4.out; have := Hj.out; omega, Hb4.out⟩
          case measure => simp [intOf]; omega
end
end Go.Proofs.Ytciajmaejpapfaa
