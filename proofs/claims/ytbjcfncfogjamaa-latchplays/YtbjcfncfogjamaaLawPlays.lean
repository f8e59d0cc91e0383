/-
  What towncrierlaw03.LatchPlays does: it answers true.
-/
import Derived.Test.YtbjcfncfogjamaaPlay3
import Derived.Test.YtbjcfncfogjamaaLate
namespace Go.Proofs.Ytbjcfncfogjamaa
open Go Go.RowKit

/-- The count behind a call. -/
theorem sum_step (s : Nat → Bool) (c : Nat → Int) {k : Nat} (hk : k < 3) : (bif s k then c 0 + c 1 + c 2 else c 0 + c 1 + c 2 + 1) = (bif s k then c else upd c k (c k + 1)) 0 + (bif s k then c else upd c k (c k + 1)) 1 + (bif s k then c else upd c k (c k + 1)) 2 := by
  cases s k with
  | true => rfl
  | false =>
    match k, hk with
    | 0, _ => simp [upd]; omega
    | 1, _ => simp [upd]; omega
    | 2, _ => simp [upd]; omega
theorem cnt_step (s : Nat → Bool) (c : Nat → Int) (k : Nat) (h : ∀ k, (s k = false → c k = 0) ∧ 0 ≤ c k ∧ c k ≤ 1) :
    ∀ i, (upd s k true i = false → (bif s k then c else upd c k (c k + 1)) i = 0) ∧ 0 ≤ (bif s k then c else upd c k (c k + 1)) i ∧ (bif s k then c else upd c k (c k + 1)) i ≤ 1 := by
  intro i
  by_cases hik : i = k
  · subst hik
    rw [upd_same]
    cases hs : s i with
    | true => exact ⟨fun h => absurd h (by decide), (h i).2⟩
    | false =>
      have h0 := (h i).1 hs
      simp only [cond_false, upd_same, h0]
      exact ⟨fun h => absurd h (by decide), by omega, by omega⟩
  · rw [upd_other _ _ hik]
    cases s k with
    | true => exact h i
    | false =>
      simp only [cond_false]
      rw [upd_other _ _ hik]
      exact h i

set_option maxHeartbeats 4000000 in
set_option maxRecDepth 100000 in
theorem latchPlays_any (A : Option Addr) (n c : Nat) (xs : List Int) (w : World) (hl : xs.length = n) (hx : Nums w w.heap.size A .u8 xs) (hwf : ∀ z ∈ xs, 0 ≤ z ∧ z ≤ 255) (hn : n ≤ maxLen) :
    Calls Try.prog 3 #[.slice A n c] w fun e w' => e = .returned (.bool true) ∧ Below w.heap.size w w' := by
  have hnot : ∀ (x : Bool) (w : World), (Op.unary .not (.bool x)).run Try.prog w = .ok (.bool (!x)) w := fun _ _ => rfl
  have hmf : ∀ (fn : Fn) (first cap : Array Value) (w : World), (Instr.makeFunc fn first cap).run Try.prog w = .ok (.func fn first cap) w := fun _ _ _ _ => rfl
  unfold maxLen at hn
  by_cases hbig : n ≤ 200
  case neg =>
    have hbig' : (200 : Int) < n := by omega
    clear hx hwf hl
    go_enter Try.func3, Try.ntmps3
    go_wp2_with fail
    refine (awake_any _).mono ?_
    rintro e w0 ⟨rfl, hb0⟩
    go_wp2
    go_ret
    exact ⟨rfl, hb0⟩
  have hbig' : ¬ (200 : Int) < n := by omega
  have Hx := Lib.hid hx
  have Hl := Lib.hid hl
  clear hx hl
  go_enter Try.func3, Try.ntmps3
  go_wp2_with fail
  refine (awake_any _).mono ?_
  rintro e w0 ⟨rfl, hb0⟩
  have hlt : w.heap.size ≤ w0.heap.size := hb0.size
  go_wp2_with fail
  obtain ⟨B, hB⟩ : ∃ B, B = w0.heap.size := ⟨_, rfl⟩
  obtain ⟨Bc, hBc⟩ : ∃ Bc, Bc = B + 1 + 1 := ⟨_, rfl⟩
  obtain ⟨Bx, hBx⟩ : ∃ Bx, Bx = B + 1 := ⟨_, rfl⟩
  obtain ⟨w1, hw1⟩ : ∃ w1, w1 = ((w0.alloc (.cells #[.slice none 0 0] 24)).alloc (.cells #[.bool false, .int .i64 0, .bool false, .int .i64 0, .bool false, .int .i64 0] 27)).alloc (.cells #[.int .i64 0] 3) := ⟨_, rfl⟩
  have hM : Made w1 B Bx Bc 0 (.slice none 0 0) [] := by
    rw [hBc, hBx, hB, hw1]
    refine ⟨rfl, Has.more (Has.more (Has.fresh _ _) _) _, World.ownsRow_nil _ _ _ _, fun _ h => absurd h (by simp), List.nodup_nil, ?_, ?_, fun _ h => absurd h (by simp)⟩
    · have := Has.more (Has.fresh (w0.alloc (.cells #[.slice none 0 0] 24)) (.cells #[.bool false, .int .i64 0, .bool false, .int .i64 0, .bool false, .int .i64 0] 27)) (.cells #[.int .i64 0] 3)
      simpa [Three, xcells] using this
    · have := Has.fresh ((w0.alloc (.cells #[.slice none 0 0] 24)).alloc (.cells #[.bool false, .int .i64 0, .bool false, .int .i64 0, .bool false, .int .i64 0] 27)) (.cells #[.int .i64 0] 3)
      simpa [Num] using this
  have hB1 : Below w.heap.size w w1 := by
    rw [hw1]
    exact ((hb0.alloc hlt _).alloc (by simp; omega) _).alloc (by simp; omega) _
  have hltB : w.heap.size ≤ B := by omega
  rw [← hw1, ← hB, ← hBc, ← hBx]
  have q1 : B < Bx := by omega
  have q2 : Bx < Bc := by omega
  clear hw1 hB hlt hb0 hBc hBx
  obtain ⟨i0, hi, hz0, hz1, hz2⟩ := info_parts Try.infoPtr
  have Hi := Lib.hid hi
  have Hz0 := Lib.hid hz0
  have Hz1 := Lib.hid hz1
  have Hz2 := Lib.hid hz2
  clear hi hz0 hz1 hz2
  go_loopw [6] (fun i wr => ∃ (k : Nat) (v : Value) (ps : List Nat), i = .int .i64 k ∧ k ≤ 3 ∧ Made wr B Bx Bc k v ps ∧ Below w.heap.size w wr) (fun i _ => 3 - (intOf i).toNat)
  case atStart => exact ⟨0, _, _, rfl, by omega, hM, hB1⟩
  case round =>
    obtain ⟨k, v, ps, rfl, hk, hm, hb⟩ := hrel
    clear hM hB1
    by_cases hk3 : (k : Int) < 3
    · go_wp2_with fail
      have hcl : wr.cell? ⟨B, 0, none⟩ = some v := Has.cell hm.list 0
      have hsz := Has.inside hm.list
      refine wp_region_late (S := fun w' => w'.cell? ⟨B, 0, none⟩ = some v) (late := [4]) (pin := [1, 2, 3, 4]) (l := [0, 1, 2, 3, 4]) (by kernel_rfl) (by kernel_rfl) (by kernel_rfl) (by kernel_rfl) hcl (fun hHeld => ?_)
      simp only [picked, List.getElem?_cons_succ, List.getElem?_cons_zero]
      (repeat (first | (refine late_skip (by rfl) (by rfl) hHeld ?_; (try simp only [Act.put, List.setIfInBounds_toArray, List.set_cons_zero, List.set_cons_succ])) | (refine late_pass (by rfl) (by rfl) (by rfl) hHeld ?_; (try simp only [Act.put, List.setIfInBounds_toArray, List.set_cons_zero, List.set_cons_succ])) | (refine late_take (v := ?_) (by rfl) (by rfl) ?_ hHeld ?_; rotate_left; (focus (intro w hSw; (try dsimp only at hSw); go_simp; (try with_reducible rfl); done)); (try simp only [Act.put, List.setIfInBounds_toArray, List.set_cons_zero, List.set_cons_succ]))))
      refine late_run (by rfl) (by rfl) (by rfl) (fun K hK => ?_)
      go_simp
      refine (new_any _).mono ?_
      rintro e w2 ⟨rfl, hl2, hb2, hs2⟩
      have hl2' : Lat w2 wr.heap.size false := hl2
      have hb2' : Below wr.heap.size wr w2 := ⟨hb2.os, hb2.tape, hb2.output, hb2.size, hb2.block⟩
      have hs2' : w2.heap.size = wr.heap.size + 1 := hs2
      have Hs2 := Lib.hid hs2'
      have hlt2 : wr.heap.size < w2.heap.size := by omega
      clear hl2 hb2 hs2 hs2'
      go_simp
      have hcl2 : w2.cell? ⟨B, 0, none⟩ = some v := (hb2'.cell hsz).trans hcl
      have hcl3 : (w2.alloc (.cells #[.pointer (some ⟨wr.heap.size, 0, none⟩)] 28)).cell? ⟨B, 0, none⟩ = some v := (World.cell?_alloc_past _ _ _ (Nat.lt_trans hsz hlt2)).trans hcl2
      have hown3 : (w2.alloc (.cells #[.pointer (some ⟨wr.heap.size, 0, none⟩)] 28)).ownsRow (Bc + 1) 28 1 v k (ptrs ps) := (own_kept hm.own (Keeps.of_below (F := fun _ => False) hb2' fun i hi hge => by omega) fun _ _ h => h).alloc _
      have hBc3 : Bc + 1 ≤ wr.heap.size := Has.inside hm.num
      refine hK.out _ _ hcl2 (fun hHeld => ?_)
      clear hK K
      (try simp only [Act.put, List.setIfInBounds_toArray, List.set_cons_zero, List.set_cons_succ])
      refine late_run (by rfl) (by rfl) (by rfl) (fun K hK => ?_)
      go_simp
      refine hK.out _ _ hcl3 (fun hHeld => ?_)
      clear hK K
      (try simp only [Act.put, List.setIfInBounds_toArray, List.set_cons_zero, List.set_cons_succ])
      refine late_run (by rfl) (by rfl) (by rfl) (fun K hK => ?_)
      refine wp_append_own _ (.tmp 19) (.tmp 21) 24 rfl (Bc + 1) 28 i0 (.pointer none) 1 8 Try.underlying24 Hi.out Hz0.out Hz1.out Hz2.out rfl (by decide) v k (ptrs ps) rfl hown3 ⟨w2.heap.size, 0, none⟩ 1 1 [.pointer (some ⟨wr.heap.size, 0, none⟩)] rfl rfl ?_ ?_ (by unfold maxLen; omega) (by omega) (by simp; omega) (fun v' w4 ho hg _ => ?_)
      · exact World.news_of_block (Has.fresh _ _)
      · intro u hu
        obtain rfl := List.mem_singleton.1 hu
        rfl
      obtain ⟨hB4, hm4, hk4⟩ := made_step hm q1 q2 hl2' hb2' ho hg
      obtain ⟨g', cap', rfl, -, -⟩ := ho.form (by omega)
      have hc4 : w4.cell? ⟨B, 0, none⟩ = some v := Has.cell hB4 0
      have hf4 : w4.frozen? ⟨B, 0, none⟩ = false := Has.free hB4 0
      refine hK.out _ _ hc4 (fun hHeld => ?_)
      clear hK K ho hg
      (try simp only [Act.put, List.setIfInBounds_toArray, List.set_cons_zero, List.set_cons_succ])
      refine late_last (by rfl) (by rfl) (by rfl) (by rfl) (fun K hK => ?_)
      go_simp
      refine hK.out _ _ ?_
      clear hK K
      (try simp only [Act.put, List.setIfInBounds_toArray, List.set_cons_zero, List.set_cons_succ])
      refine late_done ?_
      go_wp2
      go_roundw
      case rel => exact ⟨k + 1, _, _, by go_num, by omega, hm4, below_then hb hk4 hb.size fun i hi h => by omega⟩
      case measure => simp [intOf]; omega
    · obtain rfl : k = 3 := by omega
      obtain ⟨g, cap, cur, p, hp⟩ := made_play hm q1 q2
      clear hk3 hk
      go_wp2_with fail
      go_loopw [7] (fun i wr' => ∃ (j : Nat) (s : Nat → Bool) (c : Nat → Int), i = .int .i64 j ∧ j ≤ n ∧ Play wr' B Bx Bc g cap cur p s (c 0 + c 1 + c 2) s c ∧ (∀ k, (s k = false → c k = 0) ∧ 0 ≤ c k ∧ c k ≤ 1) ∧ Below w.heap.size w wr') (fun i _ => n - (intOf i).toNat)
      case atStart => exact ⟨0, _, _, rfl, by omega, hp, fun _ => ⟨fun _ => rfl, by omega, by omega⟩, hb⟩
      case round =>
        obtain ⟨j, s, c, rfl, hj, hpl, hcnt, hb'⟩ := hrel
        clear hp hb hm
        by_cases hjn : (j : Int) < n
        · have hjl : j < xs.length := by rw [Hl.out]; omega
          obtain ⟨b, off, rfl, hbb, hcu⟩ := (Hx.out j hjl).below hb'
          obtain ⟨z, hz⟩ : ∃ z, z = xs[j] := ⟨_, rfl⟩
          rw [← hz] at hcu
          obtain ⟨z0, z1⟩ := hwf z (hz ▸ List.getElem_mem hjl)
          clear hz
          obtain ⟨x, rfl⟩ : ∃ x : Nat, z = (x : Int) := ⟨z.toNat, by omega⟩
          obtain ⟨k, hk3, hk⟩ : ∃ k : Nat, k < 3 ∧ (x : Int).tmod 3 = (k : Int) := ⟨x % 3, by omega, rfl⟩
          obtain ⟨o, ho3, ho⟩ : ∃ o : Nat, o < 3 ∧ (x : Int) / 3 % 3 = (o : Int) := ⟨x / 3 % 3, by omega, by omega⟩
          have hk3' : (k : Int) < 3 := by omega
          have hcu2 : (wr.alloc (.cells #[.int .i64 k] 3)).cell? ⟨b, off + j, none⟩ = some (.int .u8 x) := (World.cell?_alloc_past _ _ _ (Nat.lt_of_lt_of_le hbb hb'.size)).trans hcu
          have hBw := Has.inside hpl.seen.1
          have hBcw := Has.inside hpl.num
          have hplk := hpl.more (.cells #[.int .i64 k] 3)
          have hnk : Num (wr.alloc (.cells #[.int .i64 k] 3)) wr.heap.size k := Has.fresh _ _
          have hbk : Below w.heap.size w (wr.alloc (.cells #[.int .i64 k] 3)) := hb'.alloc hb'.size _
          have e0 := (hcnt 0).2
          have e1 := (hcnt 1).2
          have e2 := (hcnt 2).2
          obtain ⟨e00, e01⟩ := e0
          obtain ⟨e10, e11⟩ := e1
          obtain ⟨e20, e21⟩ := e2
          rcases (show o = 0 ∨ o = 1 ∨ o = 2 from by omega) with rfl | rfl | rfl
          · have hpli := hplk.more (.cells #[.bool false] 4)
            have hni : Num ((wr.alloc (.cells #[.int .i64 k] 3)).alloc (.cells #[.bool false] 4)) wr.heap.size k := Has.more hnk _
            have hti : Truth ((wr.alloc (.cells #[.int .i64 k] 3)).alloc (.cells #[.bool false] 4)) (wr.heap.size + 1) false := by
              have := Has.fresh (wr.alloc (.cells #[.int .i64 k] 3)) (.cells #[.bool false] 4)
              simpa [Truth] using this
            have hbi : Below w.heap.size w ((wr.alloc (.cells #[.int .i64 k] 3)).alloc (.cells #[.bool false] 4)) := hbk.alloc hbk.size _
            obtain ⟨wk, hwk⟩ : ∃ wk, wk = (wr.alloc (.cells #[.int .i64 k] 3)).alloc (.cells #[.bool false] 4) := ⟨_, rfl⟩
            rw [← hwk] at hpli hni hti hbi
            have Hwk := Lib.hid hwk.symm
            clear hwk
            go_wp2_with fail
            rw [Hwk.out]
            obtain ⟨Bi, hBi⟩ : ∃ Bi, Bi = wr.heap.size + 1 := ⟨_, rfl⟩
            rw [← hBi]
            rw [← hBi] at hti
            obtain ⟨t, ht⟩ : ∃ t, t = !s k := ⟨_, rfl⟩
            have hcs := cnt_step s c k hcnt
            have hss := sum_step s c hk3
            obtain ⟨c', hc'⟩ : ∃ c', c' = (bif s k then c else upd c k (c k + 1)) := ⟨_, rfl⟩
            obtain ⟨m', hm'⟩ : ∃ m', m' = (bif s k then c 0 + c 1 + c 2 else c 0 + c 1 + c 2 + 1) := ⟨_, rfl⟩
            have C1 := plays_do B Bx Bc g cap k wr.heap.size Bi cur p s s (c 0 + c 1 + c 2) c
            have C2 := plays_refDo B Bx Bc g cap k wr.heap.size Bi cur p (upd s k true) s m' c
            rw [← ht, ← hm'] at C1
            rw [← ht, ← hc'] at C2
            rw [← hc'] at hcs hss
            rw [← hm'] at hss
            have C1 := Lib.hid C1
            have C2 := Lib.hid C2
            have hcb : ∀ k, 0 ≤ c k ∧ c k ≤ 1 := fun k => (hcnt k).2
            have hBiB : B < Bi := by omega
            have hkc : wr.heap.size ≠ Bc := by omega
            clear ht hc' hm' hBi
            have S0 : wk.cell? ⟨B, 0, none⟩ = some (.slice (some ⟨g, 0, none⟩) 3 cap) ∧ wk.cell? ⟨wr.heap.size, 0, none⟩ = some (.int .i64 k) ∧ wk.cell? ⟨g, k, none⟩ = some (.pointer (some ⟨p k, 0, none⟩)) ∧ wk.cell? ⟨Bi, 0, none⟩ = some (.bool false) := ⟨hpli.seen.list, Has.cell hni 0, hpli.seen.at_ hk3, Has.cell hti 0⟩
            refine wp_region_ord (S := fun w' => w'.cell? ⟨B, 0, none⟩ = some (.slice (some ⟨g, 0, none⟩) 3 cap) ∧ w'.cell? ⟨wr.heap.size, 0, none⟩ = some (.int .i64 k) ∧ w'.cell? ⟨g, k, none⟩ = some (.pointer (some ⟨p k, 0, none⟩)) ∧ w'.cell? ⟨Bi, 0, none⟩ = some (.bool false)) (pin := [5, 8]) (l := [0, 1, 2, 3, 4, 6, 7, 5, 8, 9, 10, 11, 12]) (by kernel_rfl) (by kernel_rfl) (by kernel_rfl) (by kernel_rfl) S0 (fun hHeld => ?_)
            simp only [picked, List.getElem?_cons_succ, List.getElem?_cons_zero]
            (repeat (first | (refine ord_skip (by rfl) (by rfl) hHeld ?_; (try simp only [Act.put, List.setIfInBounds_toArray, List.set_cons_zero, List.set_cons_succ])) | (refine ord_pass (by rfl) (by rfl) (by rfl) hHeld ?_; (try simp only [Act.put, List.setIfInBounds_toArray, List.set_cons_zero, List.set_cons_succ])) | (refine ord_take (v := ?_) (by rfl) (by rfl) ?_ hHeld ?_; rotate_left; (focus (intro w hSw; (try dsimp only at hSw); go_simp; (try with_reducible rfl); done)); (try simp only [Act.put, List.setIfInBounds_toArray, List.set_cons_zero, List.set_cons_succ]))))
            refine ord_run (by rfl) (by rfl) (by rfl) (fun K hK => ?_)
            go_simp
            refine (C1.out _ hk3 (by omega) (by omega) (hpli.drewN 1) (Has.drewN hni 1) (Has.drewN hti 1) hBiB hkc).mono ?_
            rintro e w2 ⟨rfl, h2, hn2, ht2, k2⟩
            go_simp
            refine hK.out _ _ ⟨h2.seen.list, Has.cell hn2 0, h2.seen.at_ hk3, Has.cell ht2 0⟩ (fun hHeld => ?_)
            clear hK K
            (try simp only [Act.put, List.setIfInBounds_toArray, List.set_cons_zero, List.set_cons_succ])
            (repeat (first | (refine ord_skip (by rfl) (by rfl) hHeld ?_; (try simp only [Act.put, List.setIfInBounds_toArray, List.set_cons_zero, List.set_cons_succ])) | (refine ord_pass (by rfl) (by rfl) (by rfl) hHeld ?_; (try simp only [Act.put, List.setIfInBounds_toArray, List.set_cons_zero, List.set_cons_succ])) | (refine ord_take (v := ?_) (by rfl) (by rfl) ?_ hHeld ?_; rotate_left; (focus (intro w hSw; (try dsimp only at hSw); go_simp; (try with_reducible rfl); done)); (try simp only [Act.put, List.setIfInBounds_toArray, List.set_cons_zero, List.set_cons_succ]))))
            refine ord_run (by rfl) (by rfl) (by rfl) (fun K hK => ?_)
            go_simp
            refine (C2.out _ hk3 hcb h2 hn2 ht2).mono ?_
            rintro e w3 ⟨rfl, h3, hn3, ht3, k3⟩
            go_simp
            refine hK.out _ _ ⟨h3.seen.list, Has.cell hn3 0, h3.seen.at_ hk3, Has.cell ht3 0⟩ (fun hHeld => ?_)
            clear hK K
            (try simp only [Act.put, List.setIfInBounds_toArray, List.set_cons_zero, List.set_cons_succ])
            (repeat (first | (refine ord_skip (by rfl) (by rfl) hHeld ?_; (try simp only [Act.put, List.setIfInBounds_toArray, List.set_cons_zero, List.set_cons_succ])) | (refine ord_pass (by rfl) (by rfl) (by rfl) hHeld ?_; (try simp only [Act.put, List.setIfInBounds_toArray, List.set_cons_zero, List.set_cons_succ])) | (refine ord_take (v := ?_) (by rfl) (by rfl) ?_ hHeld ?_; rotate_left; (focus (intro w hSw; (try dsimp only at hSw); go_simp; (try with_reducible rfl); done)); (try simp only [Act.put, List.setIfInBounds_toArray, List.set_cons_zero, List.set_cons_succ]))))
            refine ord_done ?_
            have hb3 : Below w.heap.size w w3 := below_then (below_then (below_draws hbi 1) k2 hbi.size fun i hi hB => by omega) k3 (Nat.le_trans hbi.size k2.grows) fun i hi hB => by omega
            rw [hss] at h3
            clear S0 hHeld hss C1 C2 e00 e01 e10 e11 e20 e21
            have e0 := (hcs 0).2
            have e1 := (hcs 1).2
            have e2 := (hcs 2).2
            obtain ⟨e00, e01⟩ := e0
            obtain ⟨e10, e11⟩ := e1
            obtain ⟨e20, e21⟩ := e2
            have d1 := h3.seen.list
            have d2 := h3.seen.at_ hk3
            have d3 : w3.cell? ⟨wr.heap.size, 0, none⟩ = some (.int .i64 k) := Has.cell hn3 0
            have d4 := h3.three.shut hk3
            have d5 : w3.cell? ⟨Bx, 1, none⟩ = some (.int .i64 (c' 0)) := h3.three.calls (k := 0) (by omega)
            have d6 : w3.cell? ⟨Bx, 3, none⟩ = some (.int .i64 (c' 1)) := h3.three.calls (k := 1) (by omega)
            have d7 : w3.cell? ⟨Bx, 5, none⟩ = some (.int .i64 (c' 2)) := h3.three.calls (k := 2) (by omega)
            have d8 : w3.cell? ⟨Bc, 0, none⟩ = some (.int .i64 (c' 0 + c' 1 + c' 2)) := Has.cell h3.num 0
            have d9 := h3.lats k hk3
            go_wp2_with fail
            go_quiet ((go_at_call 9; exact Calls.quiet_of_same ((done_any _ _ _ (Has.drewN d9 _)).mono fun _ _ h => ⟨h.1, h.2.symm⟩)))
            go_wp2
            go_roundw
            case rel => exact ⟨j + 1, _, c', by go_num, by omega, h3.drewN _, hcs, below_draws hb3 _⟩
            case measure => simp [intOf]; omega
          · obtain ⟨wk, hwk⟩ : ∃ wk, wk = wr.alloc (.cells #[.int .i64 k] 3) := ⟨_, rfl⟩
            rw [← hwk] at hplk hnk hbk
            have Hwk := Lib.hid hwk.symm
            clear hwk
            go_wp2_with fail
            rw [Hwk.out]
            obtain ⟨t, ht⟩ : ∃ t, t = !s k := ⟨_, rfl⟩
            have C1 := plays_none B Bx Bc g cap k wr.heap.size cur p s s (c 0 + c 1 + c 2) c
            have C2 := plays_refNone B Bx Bc g cap k wr.heap.size cur p (upd s k true) s (c 0 + c 1 + c 2) c
            rw [← ht] at C1 C2
            have C1 := Lib.hid C1
            have C2 := Lib.hid C2
            clear ht
            have S0 : wk.cell? ⟨B, 0, none⟩ = some (.slice (some ⟨g, 0, none⟩) 3 cap) ∧ wk.cell? ⟨wr.heap.size, 0, none⟩ = some (.int .i64 k) ∧ wk.cell? ⟨g, k, none⟩ = some (.pointer (some ⟨p k, 0, none⟩)) := ⟨hplk.seen.list, Has.cell hnk 0, hplk.seen.at_ hk3⟩
            refine wp_region_ord (S := fun w' => w'.cell? ⟨B, 0, none⟩ = some (.slice (some ⟨g, 0, none⟩) 3 cap) ∧ w'.cell? ⟨wr.heap.size, 0, none⟩ = some (.int .i64 k) ∧ w'.cell? ⟨g, k, none⟩ = some (.pointer (some ⟨p k, 0, none⟩))) (pin := [4, 7]) (l := [0, 1, 2, 3, 5, 6, 4, 7, 8]) (by kernel_rfl) (by kernel_rfl) (by kernel_rfl) (by kernel_rfl) S0 (fun hHeld => ?_)
            simp only [picked, List.getElem?_cons_succ, List.getElem?_cons_zero]
            (repeat (first | (refine ord_skip (by rfl) (by rfl) hHeld ?_; (try simp only [Act.put, List.setIfInBounds_toArray, List.set_cons_zero, List.set_cons_succ])) | (refine ord_pass (by rfl) (by rfl) (by rfl) hHeld ?_; (try simp only [Act.put, List.setIfInBounds_toArray, List.set_cons_zero, List.set_cons_succ])) | (refine ord_take (v := ?_) (by rfl) (by rfl) ?_ hHeld ?_; rotate_left; (focus (intro w hSw; (try dsimp only at hSw); go_simp; (try with_reducible rfl); done)); (try simp only [Act.put, List.setIfInBounds_toArray, List.set_cons_zero, List.set_cons_succ]))))
            refine ord_run (by rfl) (by rfl) (by rfl) (fun K hK => ?_)
            go_simp
            refine (C1.out _ hk3 (hplk.drewN 1) (Has.drewN hnk 1)).mono ?_
            rintro e w2 ⟨rfl, h2, hn2, k2⟩
            go_simp
            refine hK.out _ _ ⟨h2.seen.list, Has.cell hn2 0, h2.seen.at_ hk3⟩ (fun hHeld => ?_)
            clear hK K
            (try simp only [Act.put, List.setIfInBounds_toArray, List.set_cons_zero, List.set_cons_succ])
            (repeat (first | (refine ord_skip (by rfl) (by rfl) hHeld ?_; (try simp only [Act.put, List.setIfInBounds_toArray, List.set_cons_zero, List.set_cons_succ])) | (refine ord_pass (by rfl) (by rfl) (by rfl) hHeld ?_; (try simp only [Act.put, List.setIfInBounds_toArray, List.set_cons_zero, List.set_cons_succ])) | (refine ord_take (v := ?_) (by rfl) (by rfl) ?_ hHeld ?_; rotate_left; (focus (intro w hSw; (try dsimp only at hSw); go_simp; (try with_reducible rfl); done)); (try simp only [Act.put, List.setIfInBounds_toArray, List.set_cons_zero, List.set_cons_succ]))))
            refine ord_run (by rfl) (by rfl) (by rfl) (fun K hK => ?_)
            go_simp
            refine (C2.out _ hk3 h2 hn2).mono ?_
            rintro e w3 ⟨rfl, h3, hn3, k3⟩
            go_simp
            refine hK.out _ _ ⟨h3.seen.list, Has.cell hn3 0, h3.seen.at_ hk3⟩ (fun hHeld => ?_)
            clear hK K
            (try simp only [Act.put, List.setIfInBounds_toArray, List.set_cons_zero, List.set_cons_succ])
            (repeat (first | (refine ord_skip (by rfl) (by rfl) hHeld ?_; (try simp only [Act.put, List.setIfInBounds_toArray, List.set_cons_zero, List.set_cons_succ])) | (refine ord_pass (by rfl) (by rfl) (by rfl) hHeld ?_; (try simp only [Act.put, List.setIfInBounds_toArray, List.set_cons_zero, List.set_cons_succ])) | (refine ord_take (v := ?_) (by rfl) (by rfl) ?_ hHeld ?_; rotate_left; (focus (intro w hSw; (try dsimp only at hSw); go_simp; (try with_reducible rfl); done)); (try simp only [Act.put, List.setIfInBounds_toArray, List.set_cons_zero, List.set_cons_succ]))))
            refine ord_done ?_
            have hb3 : Below w.heap.size w w3 := below_then (below_then (below_draws hbk 1) k2 hbk.size fun i hi hB => by omega) k3 (Nat.le_trans hbk.size k2.grows) fun i hi hB => by omega
            have hcnt3 : ∀ i, (upd s k true i = false → c i = 0) ∧ 0 ≤ c i ∧ c i ≤ 1 := fun i => ⟨fun hi => (hcnt i).1 (by
              unfold upd at hi
              split at hi
              · cases hi
              · exact hi), (hcnt i).2⟩
            clear S0 hHeld
            have d1 := h3.seen.list
            have d2 := h3.seen.at_ hk3
            have d3 : w3.cell? ⟨wr.heap.size, 0, none⟩ = some (.int .i64 k) := Has.cell hn3 0
            have d4 := h3.three.shut hk3
            have d5 : w3.cell? ⟨Bx, 1, none⟩ = some (.int .i64 (c 0)) := h3.three.calls (k := 0) (by omega)
            have d6 : w3.cell? ⟨Bx, 3, none⟩ = some (.int .i64 (c 1)) := h3.three.calls (k := 1) (by omega)
            have d7 : w3.cell? ⟨Bx, 5, none⟩ = some (.int .i64 (c 2)) := h3.three.calls (k := 2) (by omega)
            have d8 : w3.cell? ⟨Bc, 0, none⟩ = some (.int .i64 (c 0 + c 1 + c 2)) := Has.cell h3.num 0
            have d9 := h3.lats k hk3
            go_wp2_with fail
            go_quiet ((go_at_call 9; exact Calls.quiet_of_same ((done_any _ _ _ (Has.drewN d9 _)).mono fun _ _ h => ⟨h.1, h.2.symm⟩)))
            go_wp2
            go_roundw
            case rel => exact ⟨j + 1, _, c, by go_num, by omega, h3.drewN _, hcnt3, below_draws hb3 _⟩
            case measure => simp [intOf]; omega
          · obtain ⟨wk, hwk⟩ : ∃ wk, wk = wr.alloc (.cells #[.int .i64 k] 3) := ⟨_, rfl⟩
            rw [← hwk] at hplk hnk hbk
            have Hwk := Lib.hid hwk.symm
            clear hwk
            go_wp2_with fail
            rw [Hwk.out]
            have d1 := hplk.seen.list
            have d2 := hplk.seen.at_ hk3
            have d3 : wk.cell? ⟨wr.heap.size, 0, none⟩ = some (.int .i64 k) := Has.cell hnk 0
            have d4 := hplk.three.shut hk3
            have d5 : wk.cell? ⟨Bx, 1, none⟩ = some (.int .i64 (c 0)) := hplk.three.calls (k := 0) (by omega)
            have d6 : wk.cell? ⟨Bx, 3, none⟩ = some (.int .i64 (c 1)) := hplk.three.calls (k := 1) (by omega)
            have d7 : wk.cell? ⟨Bx, 5, none⟩ = some (.int .i64 (c 2)) := hplk.three.calls (k := 2) (by omega)
            have d8 : wk.cell? ⟨Bc, 0, none⟩ = some (.int .i64 (c 0 + c 1 + c 2)) := Has.cell hplk.num 0
            have d9 := hplk.lats k hk3
            go_quiet ((go_at_call 9; exact Calls.quiet_of_same ((done_any _ _ _ (Has.drewN d9 _)).mono fun _ _ h => ⟨h.1, h.2.symm⟩)))
            go_wp2
            go_roundw
            case rel => exact ⟨j + 1, s, c, by go_num, by omega, hplk.drewN _, hcnt, below_draws hbk _⟩
            case measure => simp [intOf]; omega
        · go_wp2
          go_ret
          exact ⟨rfl, hb'⟩
end Go.Proofs.Ytbjcfncfogjamaa
