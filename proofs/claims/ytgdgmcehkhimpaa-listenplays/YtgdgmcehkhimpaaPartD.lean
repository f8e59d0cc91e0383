/-
  What towncrierlaw12.ListenPlays does: it answers true.
  Proved: the law answers true for every input, and each argument reads afterwards as it read before. No condition.
-/
import Derived.Test.YtgdgmcehkhimpaaPartC
import Derived.Deep.CutBlock
import Derived.Test.YtgdgmcehkhimpaaRows
import Derived.ProofKit
import Derived.OpenShut
import Derived.ChangeOld

namespace Go.Proofs.Ytgdgmcehkhimpaa
open Go Go.RowKit

section
set_option maxHeartbeats 64000000 in
set_option maxRecDepth 100000 in
theorem listenPlays_any (A : Option Addr) (n c : Nat) (cs : List Lcal) (w : World) (hn : cs.length = n) (h : Lcals w A cs) :
    Calls Try.prog 3 #[.slice A n c] w fun e w' => e = .returned (.bool true) ∧ Below w.heap.size w w' := by
  have hnot : ∀ (x : Bool) (w : World), (Op.unary .not (.bool x)).run Try.prog w = .ok (.bool (!x)) w := fun _ _ => rfl
  have HA := Lib.hid (awake12 w)
  have HN := Lib.hid hn
  have H := Lib.hid h
  clear hn h
  go_enter Try.func3, Try.ntmps3
  go_wp2_with fail
  refine HA.out.mono ?_
  rintro e w1 ⟨rfl, hb1⟩
  have HB1 := Lib.hid hb1
  clear hb1 HA
  by_cases hbig : 700 < n
  · have z0 : decide ((n : Int) > 700) = true := decide_eq_true (by omega)
    clear hbig
    go_wp2
    go_ret
    exact ⟨rfl, HB1.out⟩
  have z0 : decide ((n : Int) > 700) = false := decide_eq_false (by omega)
  have hn700 : n ≤ 700 := by omega
  clear hbig
  go_wp2_with fail
  refine (lsNew (fun i => w1.heap.size ≤ i) w1 (fun _ h => h)).mono ?_
  rintro e w2 ⟨rfl, hL2, hb2⟩
  obtain ⟨S1, h1, -⟩ := liv_new (w0 := w) (lstOk w1.heap.size []) hL2 HB1.out hb2
  have hb2' := HB1.out.trans (hb2.mono HB1.out.size)
  have hb3 : Below w2.heap.size w2 (w2.alloc (.cells #[.slice none 0 0, .slice none 0 0] 30)) := (Below.refl _ w2).alloc (Nat.le_refl _) _
  have hR3 : Rls (fun i => w2.heap.size ≤ i) (w2.alloc (.cells #[.slice none 0 0, .slice none 0 0] 30)) w2.heap.size [] := ⟨_, _, Has.fresh _ _, Recs.nil _ _ _ _, Recs.nil _ _ _ _, Nat.le_refl _, (fun _ h => by cases h), (fun _ h => by cases h)⟩
  obtain ⟨S2, h3, hs3⟩ := liv_new (w0 := w) (rlsOk w2.heap.size []) hR3 hb2' hb3
  have hD : Duo w S1 S2 w1.heap.size w2.heap.size [] (w2.alloc (.cells #[.slice none 0 0, .slice none 0 0] 30)) := ⟨h1.next (lstOk _ _) hb3, h3, fun i hi => hs3 i (h1.low i hi).2⟩
  have HD := Lib.hid hD
  obtain ⟨b, hb⟩ : ∃ b, b = w1.heap.size := ⟨_, rfl⟩
  rw [← hb] at HD
  rw [← hb]
  clear hL2 hb2 h1 hb2' hb3 hR3 h3 hs3 hD hb HB1
  unfold ptrL
  go_wp2_with fail
  obtain ⟨x, hx⟩ : ∃ x, x = w2.heap.size := ⟨_, rfl⟩
  rw [← hx] at HD
  rw [← hx]
  clear hx
  go_loopw [5] (fun i wr => ∃ (k : Nat) (S1 S2 : Nat → Prop) (B : List Ls), i = .int .i64 k ∧ k ≤ n ∧ Duo w S1 S2 b x B wr) (fun i _ => n - (intOf i).toNat)
  case atStart => exact ⟨0, S1, S2, [], rfl, Nat.zero_le _, HD.out⟩
  case round =>
    obtain ⟨k, S1, S2, B, rfl, hk, hD⟩ := hrel
    have HD := Lib.hid hD
    clear hD
    by_cases hlt : (k : Int) < n
    · have hkn : k < cs.length := by rw [HN.out]; omega
      obtain ⟨ba, off, rfl, hba, hcell, hty, hnr⟩ := H.out k hkn
      obtain ⟨cx, hcx⟩ : ∃ cx, cx = cs[k] := ⟨_, rfl⟩
      rw [← hcx] at hcell hty hnr
      obtain ⟨kx, nx, ix, xi, xt, xc, xa, xo, xp, xs, xr, xn⟩ := cx
      simp only at hty hnr
      have hcr : ∀ f, f < 11 → wr.cell? ⟨ba, off + k * 11 + f, none⟩ = (Lcal.cells ⟨kx, nx, ix, xi, xt, xc, xa, xo, xp, xs, xr, xn⟩)[f]? := fun f hf => (HD.out.prog.below.cell (p := ⟨ba, off + k * 11 + f, none⟩) hba).trans (hcell f hf)
      obtain ⟨⟨g0, g1, g2⟩, g3, g4, g5, g6, g7, g8, g9, g10⟩ := eleven_of hcr
      simp only at g0 g1 g2 g3 g4 g5 g6 g7 g8 g9 g10
      have hbox : Below wr.heap.size wr (wr.alloc (.cells #[.int .i64 kx, .int .i64 nx, .int .i64 ix, .int .i64 xi, .string xt, .int .i64 xc, .bool xa, .bool xo, .bool xp, .int .i64 xs, .bool xr] 36)) := (Below.refl _ wr).alloc (Nat.le_refl _) _
      have HBx : Hid (Has (wr.alloc (.cells #[.int .i64 kx, .int .i64 nx, .int .i64 ix, .int .i64 xi, .string xt, .int .i64 xc, .bool xa, .bool xo, .bool xp, .int .i64 xs, .bool xr] 36)) wr.heap.size (.cells #[.int .i64 kx, .int .i64 nx, .int .i64 ix, .int .i64 xi, .string xt, .int .i64 xc, .bool xa, .bool xo, .bool xp, .int .i64 xs, .bool xr] 36 (0, 0))) := Lib.hid (Has.fresh _ _)
      have HDx := Lib.hid (HD.out.next hbox)
      have hfx : Free S1 S2 wr.heap.size := ⟨fun e => by have := (HD.out.prog.low _ e).2; omega, fun e => by have := (HD.out.doc.low _ e).2; omega⟩
      have HFx := Lib.hid hfx
      have HTy := Lib.hid hty
      have HNr := Lib.hid hnr
      have hwk : IntKind.i64.wrap ((k : Int) + 1) = (k : Int) + 1 := wrap_small (by omega) (by omega)
      have HWK := Lib.hid hwk
      have HBl := Lib.hid (Nat.le_trans HD.out.len (show 512 ≤ 1000 by decide))
      clear hcx hcell hcr hbox hfx hkn hty hnr hwk hba HD
      go_upto_block 2 with (fail)
      go_cut [] (fun wc => ∃ S1' S2' B', Duo w S1' S2' b x B' wc ∧ Free S1' S2' wr.heap.size ∧ Has wc wr.heap.size (.cells #[.int .i64 kx, .int .i64 nx, .int .i64 ix, .int .i64 xi, .string xt, .int .i64 xc, .bool xa, .bool xo, .bool xp, .int .i64 xs, .bool xr] 36 (0, 0)))
      case first => as_aux_lemma =>
        have f0 := HBx.out.cell 0
        have f1 := HBx.out.cell 1
        have f2 := HBx.out.cell 2
        clear g0 g1 g2 g3 g4 g5 g6 g7 g8 g9 g10
        by_cases hk0 : kx = 0
        · as_aux_lemma =>
          subst hk0
          have CA := Lib.hid (duoAdd (node := nx) (xi := xi) (xt := xt) (xc := xc) (xa := xa) (xo := xo) (xp := xp) (xs := xs) (xr := xr) HDx.out HNr.out HTy.out)
          have CR : Hid (∀ W S1' B1, Half w S1' S2 b x B1 B W → B1 = addLs B nx (⟨xi, xt, xc, xa, xo, xp, xs, xr, 0⟩ : Ls) → Calls Try.prog 9 #[.pointer (some ⟨x, 0, none⟩), .int .i64 nx, .agg #[.int .i64 xi, .string xt, .int .i64 xc, .bool xa, .bool xo, .bool xp, .int .i64 xs, .bool xr]] W fun e w' => e = .returned (.tuple #[.int .i64 (lsNo B nx (⟨xi, xt, xc, xa, xo, xp, xs, xr, 0⟩ : Ls)), .int .i64 (lsErr B nx (⟨xi, xt, xc, xa, xo, xp, xs, xr, 0⟩ : Ls))]) ∧ (∃ S2', Duo w S1' S2' b x B1 w' ∧ ∀ i, i < W.heap.size → Free S1' S2 i → Free S1' S2' i) ∧ Keeps S2 W w') := Lib.hid fun W S1' B1 h he => halfAdd h HBl.out HTy.out he
          unfold ptrL at CA
          obtain ⟨no, hno⟩ : ∃ no, no = lsNo B nx (⟨xi, xt, xc, xa, xo, xp, xs, xr, 0⟩ : Ls) := ⟨_, rfl⟩
          obtain ⟨er, her⟩ : ∃ er, er = lsErr B nx (⟨xi, xt, xc, xa, xo, xp, xs, xr, 0⟩ : Ls) := ⟨_, rfl⟩
          rw [← hno, ← her] at CA
          simp only [← hno, ← her] at CR
          clear hno her
          have y1 : (no != no) = false := by simp
          have y2 : (er != er) = false := by simp
          go_wp2_with fail
          refine CA.out.mono ?_
          rintro e w5 ⟨rfl, ⟨S5, h5, hS5⟩, hk5⟩
          have HX5 := Lib.hid (HBx.out.kept hk5 HFx.out.1)
          have HF5 := Lib.hid (hS5 _ HBx.out.inside HFx.out)
          have CR5 := Lib.hid (CR.out w5 S5 _ h5 rfl)
          have f1 := HX5.out.cell 1
          have f3 := HX5.out.cell 3
          have f4 := HX5.out.cell 4
          have f5 := HX5.out.cell 5
          have f6 := HX5.out.cell 6
          have f7 := HX5.out.cell 7
          have f8 := HX5.out.cell 8
          have f9 := HX5.out.cell 9
          have f10 := HX5.out.cell 10
          clear hS5 hk5 h5 CA CR
          go_wp2_with fail
          refine CR5.out.mono ?_
          rintro e w6 ⟨rfl, ⟨S6, h6, hS6⟩, hk6⟩
          have HX6 := Lib.hid (HX5.out.kept hk6 HF5.out.2)
          have HF6 := Lib.hid (hS6 _ HX5.out.inside HF5.out)
          have HD6 := Lib.hid h6
          clear hS6 hk6 h6 CR5 f0 f1 f2 f3 f4 f5 f6 f7 f8 f9 f10
          go_wp2
          go_meet
          exact ⟨S5, S6, _, HD6.out, HF6.out, HX6.out⟩
        · have zk : (kx == 0) = false := by simpa using hk0
          by_cases hk1 : kx = 1
          · as_aux_lemma =>
            subst hk1
            clear hk0
            have hdr : Below (wr.alloc (.cells #[.int .i64 1, .int .i64 nx, .int .i64 ix, .int .i64 xi, .string xt, .int .i64 xc, .bool xa, .bool xo, .bool xp, .int .i64 xs, .bool xr] 36)).heap.size (wr.alloc (.cells #[.int .i64 1, .int .i64 nx, .int .i64 ix, .int .i64 xi, .string xt, .int .i64 xc, .bool xa, .bool xo, .bool xp, .int .i64 xs, .bool xr] 36)) (wr.alloc (.cells #[.int .i64 1, .int .i64 nx, .int .i64 ix, .int .i64 xi, .string xt, .int .i64 xc, .bool xa, .bool xo, .bool xp, .int .i64 xs, .bool xr] 36)).drew := (Below.refl _ (wr.alloc (.cells #[.int .i64 1, .int .i64 nx, .int .i64 ix, .int .i64 xi, .string xt, .int .i64 xc, .bool xa, .bool xo, .bool xp, .int .i64 xs, .bool xr] 36))).drew
            have CK := Lib.hid (duoKill ix (HDx.out.next hdr))
            have CR : Hid (∀ W S1' B1, Half w S1' S2 b x B1 B W → B1 = killLs B ix → Calls Try.prog 11 #[.pointer (some ⟨x, 0, none⟩), .int .i64 ix] W fun e w' => e = .returned (.bool (lsAlive B ix)) ∧ (∃ S2', Duo w S1' S2' b x B1 w' ∧ ∀ i, i < W.heap.size → Free S1' S2 i → Free S1' S2' i) ∧ Keeps S2 W w') := Lib.hid fun W S1' B1 h he => halfKill ix h HBl.out he
            unfold ptrL at CK
            obtain ⟨al, hal⟩ : ∃ al, al = lsAlive B ix := ⟨_, rfl⟩
            rw [← hal] at CK
            simp only [← hal] at CR
            have y1 : (al != al) = false := by simp
            have HXd : Hid (Has (wr.alloc (.cells #[.int .i64 1, .int .i64 nx, .int .i64 ix, .int .i64 xi, .string xt, .int .i64 xc, .bool xa, .bool xo, .bool xp, .int .i64 xs, .bool xr] 36)).drew wr.heap.size (.cells #[.int .i64 1, .int .i64 nx, .int .i64 ix, .int .i64 xi, .string xt, .int .i64 xc, .bool xa, .bool xo, .bool xp, .int .i64 xs, .bool xr] 36 (0, 0))) := Lib.hid HBx.out
            clear hal hdr
            go_wp2_with fail
            refine wp_region_way (late := []) (S := fun W => W.cell? ⟨wr.heap.size, 2, none⟩ = some (.int .i64 ix)) (y := Way.takes [0, 1, 2, 4, 5, 6] (.run 3 (.run 7 (.run 8 .fin)))) (by kernel_rfl) (by kernel_rfl) rfl (by kernel_rfl) (HXd.out.cell 2) (fun hHeld => ?_)
            simp only [Way.takes]
            (repeat (first | (refine way_skip (by simp only [List.getElem?_toArray, List.getElem?_cons_succ, List.getElem?_cons_zero]; rfl) (by rfl) hHeld ?_; (try simp only [Act.put, List.setIfInBounds_toArray, List.set_cons_zero, List.set_cons_succ])) | (refine way_pass (by simp only [List.getElem?_toArray, List.getElem?_cons_succ, List.getElem?_cons_zero]; rfl) (by rfl) hHeld ?_; (try simp only [Act.put, List.setIfInBounds_toArray, List.set_cons_zero, List.set_cons_succ])) | (refine way_take (v := ?_) (by simp only [List.getElem?_toArray, List.getElem?_cons_succ, List.getElem?_cons_zero]; rfl) (by rfl) ?_ hHeld ?_; rotate_left; (focus (intro w hSw; (try dsimp only at hSw); go_simp; (try with_reducible rfl); done)); (try simp only [Act.put, List.setIfInBounds_toArray, List.set_cons_zero, List.set_cons_succ]))))
            refine way_run (by simp only [List.getElem?_toArray, List.getElem?_cons_succ, List.getElem?_cons_zero]; rfl) (by rfl) (fun K hK => ?_)
            go_simp
            refine CK.out.mono ?_
            rintro e w5 ⟨rfl, ⟨S5, h5, hS5⟩, hk5⟩
            have HX5 := Lib.hid (HXd.out.kept hk5 HFx.out.1)
            have HF5 := Lib.hid (hS5 _ HXd.out.inside HFx.out)
            have CR5 := Lib.hid (CR.out w5 S5 _ h5 rfl)
            clear hS5 hk5 h5 CK CR f0 f1 f2
            refine hK.out _ _ (HX5.out.cell 2) (fun hHeld => ?_)
            clear hK K
            (try simp only [Act.put, List.setIfInBounds_toArray, List.set_cons_zero, List.set_cons_succ])
            refine way_run (by simp only [List.getElem?_toArray, List.getElem?_cons_succ, List.getElem?_cons_zero]; rfl) (by rfl) (fun K hK => ?_)
            go_simp
            refine CR5.out.mono ?_
            rintro e w6 ⟨rfl, ⟨S6, h6, hS6⟩, hk6⟩
            have HX6 := Lib.hid (HX5.out.kept hk6 HF5.out.2)
            have HF6 := Lib.hid (hS6 _ HX5.out.inside HF5.out)
            have HD6 := Lib.hid h6
            clear hS6 hk6 h6 CR5
            refine hK.out _ _ (HX6.out.cell 2) (fun hHeld => ?_)
            clear hK K
            (try simp only [Act.put, List.setIfInBounds_toArray, List.set_cons_zero, List.set_cons_succ])
            refine way_run (by simp only [List.getElem?_toArray, List.getElem?_cons_succ, List.getElem?_cons_zero]; rfl) (by rfl) (fun K hK => ?_)
            go_simp
            refine hK.out _ _ (HX6.out.cell 2) (fun hHeld => ?_)
            clear hK K
            (try simp only [Act.put, List.setIfInBounds_toArray, List.set_cons_zero, List.set_cons_succ])
            refine way_done ?_
            go_wp2
            go_meet
            exact ⟨S5, S6, _, HD6.out, HF6.out, HX6.out⟩
          · have zk1 : (kx == 1) = false := by simpa using hk1
            by_cases hk2 : kx = 2
            · as_aux_lemma =>
              subst hk2
              clear hk0 hk1
              have CF : Hid (∀ W, Below (wr.alloc (.cells #[.int .i64 2, .int .i64 nx, .int .i64 ix, .int .i64 xi, .string xt, .int .i64 xc, .bool xa, .bool xo, .bool xp, .int .i64 xs, .bool xr] 36)).heap.size (wr.alloc (.cells #[.int .i64 2, .int .i64 nx, .int .i64 ix, .int .i64 xi, .string xt, .int .i64 xc, .bool xa, .bool xo, .bool xp, .int .i64 xs, .bool xr] 36)) W → Calls Try.prog 12 #[.pointer (some ⟨b, 0, none⟩), .int .i64 nx, .string xt, .int .i64 xc, .bool xa] W fun e w' => e = .returned (.int .i64 (findLs B nx xt xc xa)) ∧ Below W.heap.size W w') := Lib.hid fun W hW => lsFind_any nx xc xt xa (HDx.out.next hW).prog.rep HNr.out.1 HNr.out.2
              have CR : Hid (∀ W, Below (wr.alloc (.cells #[.int .i64 2, .int .i64 nx, .int .i64 ix, .int .i64 xi, .string xt, .int .i64 xc, .bool xa, .bool xo, .bool xp, .int .i64 xs, .bool xr] 36)).heap.size (wr.alloc (.cells #[.int .i64 2, .int .i64 nx, .int .i64 ix, .int .i64 xi, .string xt, .int .i64 xc, .bool xa, .bool xo, .bool xp, .int .i64 xs, .bool xr] 36)) W → Calls Try.prog 13 #[.pointer (some ⟨x, 0, none⟩), .int .i64 nx, .string xt, .int .i64 xc, .bool xa] W fun e w' => e = .returned (.int .i64 (findLs B nx xt xc xa)) ∧ Below W.heap.size W w') := Lib.hid fun W hW => rlFind nx xc xt xa (HDx.out.next hW).doc.rep HBl.out
              obtain ⟨r, hr⟩ : ∃ r, r = findLs B nx xt xc xa := ⟨_, rfl⟩
              rw [← hr] at CF CR
              have y1 : (r != r) = false := by simp
              have HS : Hid (∀ W, Below (wr.alloc (.cells #[.int .i64 2, .int .i64 nx, .int .i64 ix, .int .i64 xi, .string xt, .int .i64 xc, .bool xa, .bool xo, .bool xp, .int .i64 xs, .bool xr] 36)).heap.size (wr.alloc (.cells #[.int .i64 2, .int .i64 nx, .int .i64 ix, .int .i64 xi, .string xt, .int .i64 xc, .bool xa, .bool xo, .bool xp, .int .i64 xs, .bool xr] 36)) W → W.cell? ⟨wr.heap.size, 1, none⟩ = some (.int .i64 nx) ∧ W.cell? ⟨wr.heap.size, 4, none⟩ = some (.string xt) ∧ W.cell? ⟨wr.heap.size, 5, none⟩ = some (.int .i64 xc) ∧ W.cell? ⟨wr.heap.size, 6, none⟩ = some (.bool xa)) := Lib.hid fun W hW => by
                have hq := HBx.out.below hW HBx.out.inside
                exact ⟨hq.cell 1, hq.cell 4, hq.cell 5, hq.cell 6⟩
              clear hr
              go_wp2_with fail
              refine wp_region_way (late := []) (S := fun W => W.cell? ⟨wr.heap.size, 1, none⟩ = some (.int .i64 nx) ∧ W.cell? ⟨wr.heap.size, 4, none⟩ = some (.string xt) ∧ W.cell? ⟨wr.heap.size, 5, none⟩ = some (.int .i64 xc) ∧ W.cell? ⟨wr.heap.size, 6, none⟩ = some (.bool xa)) (y := Way.takes [0, 1, 2, 3, 4, 5, 6, 7, 8, 9, 10, 11, 12, 14, 15, 16, 17, 18, 19, 20, 21, 22, 23, 24, 25, 26] (.run 13 (.run 27 (.run 28 .fin)))) (by kernel_rfl) (by kernel_rfl) rfl (by kernel_rfl) (HS.out _ (Below.refl _ _).drew) (fun hHeld => ?_)
              simp only [Way.takes]
              (repeat (first | (refine way_skip (by simp only [List.getElem?_toArray, List.getElem?_cons_succ, List.getElem?_cons_zero]; rfl) (by rfl) hHeld ?_; (try simp only [Act.put, List.setIfInBounds_toArray, List.set_cons_zero, List.set_cons_succ])) | (refine way_pass (by simp only [List.getElem?_toArray, List.getElem?_cons_succ, List.getElem?_cons_zero]; rfl) (by rfl) hHeld ?_; (try simp only [Act.put, List.setIfInBounds_toArray, List.set_cons_zero, List.set_cons_succ])) | (refine way_take (v := ?_) (by simp only [List.getElem?_toArray, List.getElem?_cons_succ, List.getElem?_cons_zero]; rfl) (by rfl) ?_ hHeld ?_; rotate_left; (focus (intro w hSw; (try dsimp only at hSw); go_simp; (try with_reducible rfl); done)); (try simp only [Act.put, List.setIfInBounds_toArray, List.set_cons_zero, List.set_cons_succ]))))
              refine way_run (by simp only [List.getElem?_toArray, List.getElem?_cons_succ, List.getElem?_cons_zero]; rfl) (by rfl) (fun K hK => ?_)
              go_simp
              refine (CF.out _ (Below.refl _ _).drew).mono ?_
              rintro e w5 ⟨rfl, hb5⟩
              have HB5 := Lib.hid ((Below.refl _ (wr.alloc (.cells #[.int .i64 2, .int .i64 nx, .int .i64 ix, .int .i64 xi, .string xt, .int .i64 xc, .bool xa, .bool xo, .bool xp, .int .i64 xs, .bool xr] 36))).drew.trans hb5)
              have HQ5 := Lib.hid (HS.out w5 HB5.out)
              clear hb5 CF f0 f1 f2
              refine hK.out _ _ HQ5.out (fun hHeld => ?_)
              clear hK K
              (try simp only [Act.put, List.setIfInBounds_toArray, List.set_cons_zero, List.set_cons_succ])
              refine way_run (by simp only [List.getElem?_toArray, List.getElem?_cons_succ, List.getElem?_cons_zero]; rfl) (by rfl) (fun K hK => ?_)
              go_simp
              refine (CR.out _ HB5.out).mono ?_
              rintro e w6 ⟨rfl, hb6⟩
              have HB6 := Lib.hid (HB5.out.trans (hb6.mono HB5.out.size))
              have HQ6 := Lib.hid (HS.out w6 HB6.out)
              have HD6 := Lib.hid (HDx.out.next HB6.out)
              have HX6 := Lib.hid (HBx.out.below HB6.out HBx.out.inside)
              clear hb6 CR HQ5 HB5 HS
              refine hK.out _ _ HQ6.out (fun hHeld => ?_)
              clear hK K
              (try simp only [Act.put, List.setIfInBounds_toArray, List.set_cons_zero, List.set_cons_succ])
              refine way_run (by simp only [List.getElem?_toArray, List.getElem?_cons_succ, List.getElem?_cons_zero]; rfl) (by rfl) (fun K hK => ?_)
              go_simp
              refine hK.out _ _ HQ6.out (fun hHeld => ?_)
              clear hK K
              (try simp only [Act.put, List.setIfInBounds_toArray, List.set_cons_zero, List.set_cons_succ])
              refine way_done ?_
              clear hHeld HQ6
              go_wp2
              go_meet
              exact ⟨S1, S2, B, HD6.out, HFx.out, HX6.out⟩
            · have zk2 : (kx == 2) = false := by simpa using hk2
              clear hk0 hk1 hk2
              go_wp2
              go_meet
              exact ⟨S1, S2, B, HDx.out, HFx.out, HBx.out⟩
      case rest => as_aux_lemma =>
        obtain ⟨T1, T2, C, hD, hF, hX⟩ := hcut
        have HD := Lib.hid hD
        have HF := Lib.hid hF
        have HX := Lib.hid hX
        have f1 := hX.cell 1
        have CT := Lib.hid (lsAt_any nx hD.prog.rep HNr.out.1 HNr.out.2)
        have hCl := hD.len
        unfold ptrL at CT
        clear hD hF hX HBx HDx HFx HBl g0 g1 g2 g3 g4 g5 g6 g7 g8 g9 g10
        obtain ⟨wo, hwo⟩ : ∃ wo : World, wo = wr := ⟨_, rfl⟩
        subst hwo
        go_wp2_with fail
        refine CT.out.mono ?_
        rintro e w5 ⟨⟨va, rfl, hR⟩, hb5⟩
        obtain ⟨M, hM⟩ : ∃ M, M = atLs C nx := ⟨_, rfl⟩
        have hMl := Nat.le_trans (atLs_len C nx) hCl
        rw [← hM] at hR hMl
        obtain ⟨Aa, ca, rfl, -⟩ := hR.form
        obtain ⟨N, hN⟩ : ∃ N, N = M.length := ⟨_, rfl⟩
        rw [← hN] at hR hMl ⊢
        have HNM := Lib.hid hN
        have HR := Lib.hid hR
        have HLow : Hid (∀ i, T1 i ∨ T2 i → i < wc.heap.size) := Lib.hid fun i hi => hi.elim (fun h => (HD.out.prog.low i h).2) fun h => (HD.out.doc.low i h).2
        have HWlow := Lib.hid HD.out.prog.below.size
        have HXlow := Lib.hid HX.out.inside
        have HD5 := Lib.hid (HD.out.next hb5)
        have HX5 := Lib.hid (HX.out.below hb5 HX.out.inside)
        have CA : Hid (∀ W, Below w5.heap.size w5 W → Calls Try.prog 16 #[.pointer (some ⟨x, 0, none⟩), .int .i64 nx] W fun e w' => (∃ vb, e = .returned vb ∧ Recs RL 34 W.heap.size w' vb M) ∧ Below W.heap.size W w') := Lib.hid fun W hW => by
          rw [hM]
          exact rlAt nx (HD5.out.next hW).doc.rep (by omega)
        have CL : Hid (∀ W, Below w5.heap.size w5 W → Calls Try.prog 17 #[.pointer (some ⟨b, 0, none⟩)] W fun e w' => e = .returned (.int .i64 C.length) ∧ ∃ n, w' = W.drewN n) := Lib.hid fun W hW => lsLen (HD5.out.next hW).prog.rep
        obtain ⟨vL, vN, hRA⟩ := HD5.out.doc.rep
        obtain ⟨⟨AL, cL, rfl⟩, AN, cN, rfl⟩ := hRA.forms
        have HRA := Lib.hid hRA
        obtain ⟨NC, hNC⟩ : ∃ NC, NC = C.length := ⟨_, rfl⟩
        rw [← hNC] at CL
        have HNC := Lib.hid hNC
        have HS : Hid (∀ W, Below w5.heap.size w5 W → W.cell? ⟨wo.heap.size, 1, none⟩ = some (.int .i64 nx) ∧ W.cell? ⟨x, 0, none⟩ = some (.slice AL NC cL)) := Lib.hid fun W hW => ⟨(HX5.out.below hW HX5.out.inside).cell 1, by
          rw [HNC.out]
          exact (HRA.out.below hW).head.cell 0⟩
        have y1 : ((NC : Int) != (NC : Int)) = false := by simp
        have HB5 := Lib.hid hb5
        clear hR hb5 hM hRA hNC CT HD HX f1 hN
        go_wp2_with fail
        refine wp_region_way (late := []) (S := fun W => W.cell? ⟨wo.heap.size, 1, none⟩ = some (.int .i64 nx) ∧ W.cell? ⟨x, 0, none⟩ = some (.slice AL NC cL)) (y := Way.takes [0, 1, 2, 3] (.run 4 (.run 5 (Way.takes [6, 7, 8, 10, 11, 12, 13, 14] (.run 9 (Way.takes [15, 16] .fin)))))) (by kernel_rfl) (by kernel_rfl) rfl (by kernel_rfl) (HS.out _ (Below.refl _ _).drew) (fun hHeld => ?_)
        simp only [Way.takes]
        (repeat (first | (refine way_skip (by simp only [List.getElem?_toArray, List.getElem?_cons_succ, List.getElem?_cons_zero]; rfl) (by rfl) hHeld ?_; (try simp only [Act.put, List.setIfInBounds_toArray, List.set_cons_zero, List.set_cons_succ])) | (refine way_pass (by simp only [List.getElem?_toArray, List.getElem?_cons_succ, List.getElem?_cons_zero]; rfl) (by rfl) hHeld ?_; (try simp only [Act.put, List.setIfInBounds_toArray, List.set_cons_zero, List.set_cons_succ])) | (refine way_take (v := ?_) (by simp only [List.getElem?_toArray, List.getElem?_cons_succ, List.getElem?_cons_zero]; rfl) (by rfl) ?_ hHeld ?_; rotate_left; (focus (intro w hSw; (try dsimp only at hSw); go_simp; (try with_reducible rfl); done)); (try simp only [Act.put, List.setIfInBounds_toArray, List.set_cons_zero, List.set_cons_succ]))))
        refine way_run (by simp only [List.getElem?_toArray, List.getElem?_cons_succ, List.getElem?_cons_zero]; rfl) (by rfl) (fun K hK => ?_)
        go_simp
        refine (CA.out _ (Below.refl _ _).drew).mono ?_
        rintro e w6 ⟨⟨vb, rfl, hRb⟩, hb6⟩
        have HB6 := Lib.hid ((Below.refl _ w5).drew.trans hb6)
        have CS := Lib.hid (same_of (by rw [← HNM.out]; omega) (HR.out.below HB6.out) hRb)
        have HQ6 := Lib.hid (HS.out w6 HB6.out)
        clear hb6 hRb CA
        go_simp
        refine hK.out _ _ HQ6.out (fun hHeld => ?_)
        clear hK K
        (try simp only [Act.put, List.setIfInBounds_toArray, List.set_cons_zero, List.set_cons_succ])
        refine way_run (by simp only [List.getElem?_toArray, List.getElem?_cons_succ, List.getElem?_cons_zero]; rfl) (by rfl) (fun K hK => ?_)
        go_simp
        refine CS.out.mono ?_
        rintro e w7 ⟨rfl, n7, hw7⟩
        have HB7 := Lib.hid (show Below w5.heap.size w5 w7 by rw [hw7]; exact below_draws HB6.out n7)
        have HQ7 := Lib.hid (HS.out w7 HB7.out)
        clear hw7 CS HQ6 HB6
        go_simp
        refine hK.out _ _ HQ7.out (fun hHeld => ?_)
        clear hK K
        (try simp only [Act.put, List.setIfInBounds_toArray, List.set_cons_zero, List.set_cons_succ])
        (repeat (first | (refine way_skip (by simp only [List.getElem?_toArray, List.getElem?_cons_succ, List.getElem?_cons_zero]; rfl) (by rfl) hHeld ?_; (try simp only [Act.put, List.setIfInBounds_toArray, List.set_cons_zero, List.set_cons_succ])) | (refine way_pass (by simp only [List.getElem?_toArray, List.getElem?_cons_succ, List.getElem?_cons_zero]; rfl) (by rfl) hHeld ?_; (try simp only [Act.put, List.setIfInBounds_toArray, List.set_cons_zero, List.set_cons_succ])) | (refine way_take (v := ?_) (by simp only [List.getElem?_toArray, List.getElem?_cons_succ, List.getElem?_cons_zero]; rfl) (by rfl) ?_ hHeld ?_; rotate_left; (focus (intro w hSw; (try dsimp only at hSw); go_simp; (try with_reducible rfl); done)); (try simp only [Act.put, List.setIfInBounds_toArray, List.set_cons_zero, List.set_cons_succ]))))
        refine way_run (by simp only [List.getElem?_toArray, List.getElem?_cons_succ, List.getElem?_cons_zero]; rfl) (by rfl) (fun K hK => ?_)
        go_simp
        refine (CL.out _ HB7.out).mono ?_
        rintro e w8 ⟨rfl, n8, hw8⟩
        have HB8 := Lib.hid (show Below w5.heap.size w5 w8 by rw [hw8]; exact below_draws HB7.out n8)
        have HQ8 := Lib.hid (HS.out w8 HB8.out)
        clear hw8 CL HQ7 HB7
        go_simp
        refine hK.out _ _ HQ8.out (fun hHeld => ?_)
        clear hK K
        (try simp only [Act.put, List.setIfInBounds_toArray, List.set_cons_zero, List.set_cons_succ])
        (repeat (first | (refine way_skip (by simp only [List.getElem?_toArray, List.getElem?_cons_succ, List.getElem?_cons_zero]; rfl) (by rfl) hHeld ?_; (try simp only [Act.put, List.setIfInBounds_toArray, List.set_cons_zero, List.set_cons_succ])) | (refine way_pass (by simp only [List.getElem?_toArray, List.getElem?_cons_succ, List.getElem?_cons_zero]; rfl) (by rfl) hHeld ?_; (try simp only [Act.put, List.setIfInBounds_toArray, List.set_cons_zero, List.set_cons_succ])) | (refine way_take (v := ?_) (by simp only [List.getElem?_toArray, List.getElem?_cons_succ, List.getElem?_cons_zero]; rfl) (by rfl) ?_ hHeld ?_; rotate_left; (focus (intro w hSw; (try dsimp only at hSw); go_simp; (try with_reducible rfl); done)); (try simp only [Act.put, List.setIfInBounds_toArray, List.set_cons_zero, List.set_cons_succ]))))
        refine way_done ?_
        clear hHeld HQ8 HS
        -- the program's answer is written over
        have HD8 := Lib.hid (HD5.out.next HB8.out)
        have HX8 := Lib.hid (HX5.out.below HB8.out HX5.out.inside)
        have HR8 := Lib.hid (HR.out.below HB8.out)
        have HScr : Hid (N = 0 ∨ ∃ q cur, Aa = some ⟨q, 0, none⟩ ∧ Has w8 q (.cells cur 34 (0, 0)) ∧ N * 8 ≤ cur.size) := Lib.hid (by
          rcases HR8.out.2 with ⟨_, h0⟩ | ⟨q, cap, cur, hv, _, hh, h1, _, h3, _⟩
          · exact .inl (by rw [HNM.out]; exact h0)
          · refine .inr ⟨q, cur, by injection hv, hh, ?_⟩
            rw [h3, HNM.out]
            exact Nat.mul_le_mul_right _ h1)
        clear HB5 HB8 HD5 HX5 HR HRA HNC y1
        go_wp2_with fail
        go_loopw [12] (fun i wi => ∃ j : Nat, i = .int .i64 j ∧ j ≤ N ∧ Hid (N = 0 ∨ ∃ q cur, Aa = some ⟨q, 0, none⟩ ∧ Has wi q (.cells cur 34 (0, 0)) ∧ N * 8 ≤ cur.size) ∧ Keeps (fun t => (Value.slice Aa N ca).ownBlock = some t) w8 wi) (fun i _ => N - (intOf i).toNat)
        case atStart => exact ⟨0, rfl, Nat.zero_le _, HScr, Keeps.refl _ _⟩
        case round =>
          obtain ⟨j, rfl, hj, HSc, hkr⟩ := hrel
          by_cases hlj : (j : Int) < N
          · obtain ⟨q, cur, rfl, hh, hsz⟩ : ∃ q cur, Aa = some ⟨q, 0, none⟩ ∧ Has wr q (.cells cur 34 (0, 0)) ∧ N * 8 ≤ cur.size := HSc.out.resolve_left (by omega)
            have hlt2 : j * 8 + 2 < cur.size := by omega
            have hcj : wr.cell? ⟨q, j * 8 + 2, none⟩ = some cur[j * 8 + 2] := by rw [hh.cell, Array.getElem?_eq_getElem hlt2]
            have hfj := hh.free (j * 8 + 2)
            obtain ⟨u0, hu0⟩ : ∃ u0, u0 = cur[j * 8 + 2] := ⟨_, rfl⟩
            rw [← hu0] at hcj
            have HS2 : Hid (N = 0 ∨ ∃ q' cur, (some ⟨q, 0, none⟩ : Option Addr) = some ⟨q', 0, none⟩ ∧ Has (wr.setCell ⟨q, j * 8 + 2, none⟩ (.int .i64 99)) q' (.cells cur 34 (0, 0)) ∧ N * 8 ≤ cur.size) := Lib.hid (.inr ⟨q, _, rfl, hh.stored _ _, by simpa using hsz⟩)
            have HK2 := Lib.hid (hkr.store (p := ⟨q, j * 8 + 2, none⟩) (.inl rfl) (.int .i64 99))
            have hwj : IntKind.i64.wrap ((j : Int) + 1) = (j : Int) + 1 := wrap_small (by omega) (by omega)
            clear hh hsz hlt2 hu0 hkr HSc
            go_wp2
            go_roundw
            case rel => exact ⟨j + 1, by go_num, by omega, HS2, HK2.out⟩
            case measure => simp [intOf]; omega
          · have HK := Lib.hid hkr
            have hge : ∀ t, (Value.slice Aa N ca).ownBlock = some t → wc.heap.size ≤ t := fun t ht => (HR8.out.in_ t ht).1
            have HD9 := Lib.hid (HD8.out.keep hkr (fun i hi ht => by have := hge i ht; have := HLow.out i (.inl hi); omega) (fun i hi ht => by have := hge i ht; have := HLow.out i (.inr hi); omega) fun i hi ht => by have := hge i ht; have := HWlow.out; omega)
            have HX9 := Lib.hid (HX8.out.kept hkr fun ht => by have := hge _ ht; have := HXlow.out; omega)
            have f2 := HX9.out.cell 2
            have HGet := Lib.hid (lsGet ix HD9.out.prog.rep)
            unfold ptrL at HGet
            obtain ⟨vL, vN, hRA⟩ := HD9.out.doc.rep
            obtain ⟨⟨AL, cL, rfl⟩, AN, cN, rfl⟩ := hRA.forms
            have HRA := Lib.hid hRA
            obtain ⟨NC, hNC⟩ : ∃ NC, NC = C.length := ⟨_, rfl⟩
            have HNC := Lib.hid hNC
            have hcl9 : NC ≤ 512 := by rw [hNC]; exact HD9.out.len
            clear hkr hge HSc hRA hNC HR8 HD8 HX8 HLow HWlow HXlow HK HScr
            cases hth : lThere C ix with
            | true => as_aux_lemma =>
              obtain ⟨j, hij, hjC⟩ := lThere_at hth
              have hget := HGet.out
              rw [hth, if_pos rfl, hij, lsAt_at hjC] at hget
              obtain ⟨q, c1, r, c2, e1, e2, -, hnd, hcl⟩ := HRA.out.at_ hjC
              obtain ⟨rfl, rfl⟩ : AL = some ⟨q, 0, none⟩ ∧ cL = c1 := by injection e1 with e1 _ e3; exact ⟨e1, e3⟩
              obtain ⟨rfl, rfl⟩ : AN = some ⟨r, 0, none⟩ ∧ cN = c2 := by injection e2 with e1 _ e3; exact ⟨e1, e3⟩
              obtain ⟨k0, k1, k2, k3, k4, k5, k6, k7⟩ := eight_of hcl
              have hwh : (if lThere C ix = true then (lsAt C ix).node else 0) = C[j].node := by rw [if_pos hth, hij, lsAt_at hjC]
              have CW0 : ∀ W, Below wr.heap.size wr W → Calls Try.prog 19 #[.pointer (some ⟨b, 0, none⟩), .int .i64 ix] W fun e w' => e = .returned (.int .i64 C[j].node) ∧ Below W.heap.size W w' := fun W hW => by
                have := lsWhere ix (HD9.out.next hW).prog.rep
                rw [hwh] at this
                exact this.mono fun e w' ⟨he, m, hm⟩ => ⟨he, by rw [hm]; exact below_drawn W m⟩
              obtain ⟨y, hy⟩ : ∃ y, y = C[j] := ⟨_, rfl⟩
              rw [← hy] at hget k0 k1 k2 k3 k4 k5 k6 k7 hnd
              simp only [← hy] at CW0
              obtain ⟨yi, yt, yc, ya, yo, yp, ys, yr, yn⟩ := y
              simp only at k0 k1 k2 k3 k4 k5 k6 k7 hnd CW0
              rw [← hij] at hget
              unfold Ls.agg at hget
              have d1 : decide (1 ≤ ix) = true := decide_eq_true (by omega)
              have d2 : decide (ix ≤ (NC : Int)) = true := decide_eq_true (by rw [HNC.out]; omega)
              have hwi : IntKind.i64.wrap (ix - 1) = (j : Int) := by rw [wrap_small (by omega) (by omega)]; omega
              have hjN : (j : Int) < NC := by rw [HNC.out]; omega
              have hjN2 : j < NC := by omega
              have HG := Lib.hid hget
              have hC0 : wr.cell? ⟨x, 0, none⟩ = some (.slice (some ⟨q, 0, none⟩) NC cL) := by rw [HNC.out]; exact HRA.out.head.cell 0
              have hC1 : wr.cell? ⟨x, 1, none⟩ = some (.slice (some ⟨r, 0, none⟩) NC cN) := by rw [HNC.out]; exact HRA.out.head.cell 1
              have HM0 : Hid (∀ W, Below wr.heap.size wr W → (W.cell? ⟨q, j * 8, none⟩ = some (.int .i64 yi) ∧ W.cell? ⟨q, j * 8 + 1, none⟩ = some (.string yt) ∧ W.cell? ⟨q, j * 8 + 2, none⟩ = some (.int .i64 yc) ∧ W.cell? ⟨q, j * 8 + 3, none⟩ = some (.bool ya) ∧ W.cell? ⟨q, j * 8 + 4, none⟩ = some (.bool yo) ∧ W.cell? ⟨q, j * 8 + 5, none⟩ = some (.bool yp) ∧ W.cell? ⟨q, j * 8 + 6, none⟩ = some (.int .i64 ys) ∧ W.cell? ⟨q, j * 8 + 7, none⟩ = some (.bool yr)) ∧ W.cell? ⟨wo.heap.size, 2, none⟩ = some (.int .i64 ix) ∧ W.cell? ⟨x, 0, none⟩ = some (.slice (some ⟨q, 0, none⟩) NC cL) ∧ W.cell? ⟨x, 1, none⟩ = some (.slice (some ⟨r, 0, none⟩) NC cN) ∧ W.cell? ⟨r, j, none⟩ = some (.int .i64 yn)) := Lib.hid fun W hW =>
                ⟨⟨(hW.cell (p := ⟨q, j * 8, none⟩) (cell_in (a := ⟨q, j * 8, none⟩) k0)).trans k0, (hW.cell (p := ⟨q, j * 8 + 1, none⟩) (cell_in (a := ⟨q, j * 8, none⟩) k0)).trans k1, (hW.cell (p := ⟨q, j * 8 + 2, none⟩) (cell_in (a := ⟨q, j * 8, none⟩) k0)).trans k2, (hW.cell (p := ⟨q, j * 8 + 3, none⟩) (cell_in (a := ⟨q, j * 8, none⟩) k0)).trans k3, (hW.cell (p := ⟨q, j * 8 + 4, none⟩) (cell_in (a := ⟨q, j * 8, none⟩) k0)).trans k4, (hW.cell (p := ⟨q, j * 8 + 5, none⟩) (cell_in (a := ⟨q, j * 8, none⟩) k0)).trans k5, (hW.cell (p := ⟨q, j * 8 + 6, none⟩) (cell_in (a := ⟨q, j * 8, none⟩) k0)).trans k6, (hW.cell (p := ⟨q, j * 8 + 7, none⟩) (cell_in (a := ⟨q, j * 8, none⟩) k0)).trans k7⟩,
                  (hW.cell (p := ⟨wo.heap.size, 2, none⟩) (cell_in (a := ⟨wo.heap.size, 2, none⟩) f2)).trans f2, (hW.cell (p := ⟨x, 0, none⟩) (cell_in (a := ⟨x, 0, none⟩) hC0)).trans hC0, (hW.cell (p := ⟨x, 1, none⟩) (cell_in (a := ⟨x, 1, none⟩) hC1)).trans hC1, (hW.cell (p := ⟨r, j, none⟩) (cell_in (a := ⟨r, j, none⟩) hnd)).trans hnd⟩
              have CW0 := Lib.hid CW0
              have y1 : (yn != yn) = false := by simp
              clear hget hcl hnd k0 k1 k2 k3 k4 k5 k6 k7 hy hij hjC hC0 hC1 e1 e2 HRA HGet hth hwh HX9 HNC
              go_wp2_with fail
              refine HG.out.mono ?_
              rintro e w10 ⟨rfl, hb10⟩
              have hb11 : Below w10.heap.size w10 (w10.alloc (.cells #[.int .i64 yi, .string yt, .int .i64 yc, .bool ya, .bool yo, .bool yp, .int .i64 ys, .bool yr] 34)) := (Below.refl _ w10).alloc (Nat.le_refl _) _
              have hbw : Below wr.heap.size wr (w10.alloc (.cells #[.int .i64 yi, .string yt, .int .i64 yc, .bool ya, .bool yo, .bool yp, .int .i64 ys, .bool yr] 34)) := hb10.trans (hb11.mono hb10.size)
              have hbx : Has (w10.alloc (.cells #[.int .i64 yi, .string yt, .int .i64 yc, .bool ya, .bool yo, .bool yp, .int .i64 ys, .bool yr] 34)) w10.heap.size (.cells #[.int .i64 yi, .string yt, .int .i64 yc, .bool ya, .bool yo, .bool yp, .int .i64 ys, .bool yr] 34 (0, 0)) := Has.fresh _ _
              have HS : Hid (∀ W, Below (w10.alloc (.cells #[.int .i64 yi, .string yt, .int .i64 yc, .bool ya, .bool yo, .bool yp, .int .i64 ys, .bool yr] 34)).heap.size (w10.alloc (.cells #[.int .i64 yi, .string yt, .int .i64 yc, .bool ya, .bool yo, .bool yp, .int .i64 ys, .bool yr] 34)) W → (W.cell? ⟨w10.heap.size, 0, none⟩ = some (.int .i64 yi) ∧ W.cell? ⟨w10.heap.size, 1, none⟩ = some (.string yt) ∧ W.cell? ⟨w10.heap.size, 2, none⟩ = some (.int .i64 yc) ∧ W.cell? ⟨w10.heap.size, 3, none⟩ = some (.bool ya) ∧ W.cell? ⟨w10.heap.size, 4, none⟩ = some (.bool yo) ∧ W.cell? ⟨w10.heap.size, 5, none⟩ = some (.bool yp) ∧ W.cell? ⟨w10.heap.size, 6, none⟩ = some (.int .i64 ys) ∧ W.cell? ⟨w10.heap.size, 7, none⟩ = some (.bool yr)) ∧ (W.cell? ⟨q, j * 8, none⟩ = some (.int .i64 yi) ∧ W.cell? ⟨q, j * 8 + 1, none⟩ = some (.string yt) ∧ W.cell? ⟨q, j * 8 + 2, none⟩ = some (.int .i64 yc) ∧ W.cell? ⟨q, j * 8 + 3, none⟩ = some (.bool ya) ∧ W.cell? ⟨q, j * 8 + 4, none⟩ = some (.bool yo) ∧ W.cell? ⟨q, j * 8 + 5, none⟩ = some (.bool yp) ∧ W.cell? ⟨q, j * 8 + 6, none⟩ = some (.int .i64 ys) ∧ W.cell? ⟨q, j * 8 + 7, none⟩ = some (.bool yr)) ∧ W.cell? ⟨wo.heap.size, 2, none⟩ = some (.int .i64 ix) ∧ W.cell? ⟨x, 0, none⟩ = some (.slice (some ⟨q, 0, none⟩) NC cL) ∧ W.cell? ⟨x, 1, none⟩ = some (.slice (some ⟨r, 0, none⟩) NC cN) ∧ W.cell? ⟨r, j, none⟩ = some (.int .i64 yn)) := Lib.hid fun W hW => by
                have hq := hbx.below hW hbx.inside
                exact ⟨⟨hq.cell 0, hq.cell 1, hq.cell 2, hq.cell 3, hq.cell 4, hq.cell 5, hq.cell 6, hq.cell 7⟩, HM0.out W (hbw.trans (hW.mono hbw.size))⟩
              have CW : Hid (∀ W, Below (w10.alloc (.cells #[.int .i64 yi, .string yt, .int .i64 yc, .bool ya, .bool yo, .bool yp, .int .i64 ys, .bool yr] 34)).heap.size (w10.alloc (.cells #[.int .i64 yi, .string yt, .int .i64 yc, .bool ya, .bool yo, .bool yp, .int .i64 ys, .bool yr] 34)) W → Calls Try.prog 19 #[.pointer (some ⟨b, 0, none⟩), .int .i64 ix] W fun e w' => e = .returned (.int .i64 yn) ∧ Below W.heap.size W w') := Lib.hid fun W hW => CW0.out W (hbw.trans (hW.mono hbw.size))
              have HD11 := Lib.hid (HD9.out.next hbw)
              obtain ⟨-, -, e2, e0, -, -⟩ := HS.out _ (Below.refl _ _)
              clear hb10 hb11 hbw hbx HM0 CW0 HD9 HG f2
              go_wp2_with fail
              go_quiet (fail)
              go_wp2_with fail
              refine wp_region_way (late := []) (S := fun W => (W.cell? ⟨w10.heap.size, 0, none⟩ = some (.int .i64 yi) ∧ W.cell? ⟨w10.heap.size, 1, none⟩ = some (.string yt) ∧ W.cell? ⟨w10.heap.size, 2, none⟩ = some (.int .i64 yc) ∧ W.cell? ⟨w10.heap.size, 3, none⟩ = some (.bool ya) ∧ W.cell? ⟨w10.heap.size, 4, none⟩ = some (.bool yo) ∧ W.cell? ⟨w10.heap.size, 5, none⟩ = some (.bool yp) ∧ W.cell? ⟨w10.heap.size, 6, none⟩ = some (.int .i64 ys) ∧ W.cell? ⟨w10.heap.size, 7, none⟩ = some (.bool yr)) ∧ (W.cell? ⟨q, j * 8, none⟩ = some (.int .i64 yi) ∧ W.cell? ⟨q, j * 8 + 1, none⟩ = some (.string yt) ∧ W.cell? ⟨q, j * 8 + 2, none⟩ = some (.int .i64 yc) ∧ W.cell? ⟨q, j * 8 + 3, none⟩ = some (.bool ya) ∧ W.cell? ⟨q, j * 8 + 4, none⟩ = some (.bool yo) ∧ W.cell? ⟨q, j * 8 + 5, none⟩ = some (.bool yp) ∧ W.cell? ⟨q, j * 8 + 6, none⟩ = some (.int .i64 ys) ∧ W.cell? ⟨q, j * 8 + 7, none⟩ = some (.bool yr)) ∧ W.cell? ⟨wo.heap.size, 2, none⟩ = some (.int .i64 ix) ∧ W.cell? ⟨x, 0, none⟩ = some (.slice (some ⟨q, 0, none⟩) NC cL) ∧ W.cell? ⟨x, 1, none⟩ = some (.slice (some ⟨r, 0, none⟩) NC cN) ∧ W.cell? ⟨r, j, none⟩ = some (.int .i64 yn)) (y := Way.takes [0, 1, 2, 3, 4, 5, 6, 7, 8, 9, 10, 11, 12, 13, 14, 15, 16, 17, 18, 19, 20, 22, 23, 24, 25, 26, 27, 28, 29, 30] (.run 21 (Way.takes [31, 32, 33, 34, 35, 36, 37, 38, 39, 40, 41, 42, 43, 44, 45] (.run 46 (Way.takes [47, 48, 49, 50] .fin))))) (by kernel_rfl) (by kernel_rfl) rfl (by kernel_rfl) (HS.out _ (below_draws (Below.refl _ _) _).drew) (fun hHeld => ?_)
              simp only [Way.takes]
              (repeat (first | (refine way_skip (by simp only [List.getElem?_toArray, List.getElem?_cons_succ, List.getElem?_cons_zero]; rfl) (by rfl) hHeld ?_; (try simp only [Act.put, List.setIfInBounds_toArray, List.set_cons_zero, List.set_cons_succ])) | (refine way_pass (by simp only [List.getElem?_toArray, List.getElem?_cons_succ, List.getElem?_cons_zero]; rfl) (by rfl) hHeld ?_; (try simp only [Act.put, List.setIfInBounds_toArray, List.set_cons_zero, List.set_cons_succ])) | (refine way_take (v := ?_) (by simp only [List.getElem?_toArray, List.getElem?_cons_succ, List.getElem?_cons_zero]; rfl) (by rfl) ?_ hHeld ?_; rotate_left; (focus (intro w hSw; (try dsimp only at hSw); go_simp; (try with_reducible rfl); done)); (try simp only [Act.put, List.setIfInBounds_toArray, List.set_cons_zero, List.set_cons_succ]))))
              refine way_run (by simp only [List.getElem?_toArray, List.getElem?_cons_succ, List.getElem?_cons_zero]; rfl) (by rfl) (fun K hK => ?_)
              go_simp
              refine (CW.out _ (below_draws (Below.refl _ _) _).drew).mono ?_
              rintro e w13 ⟨rfl, hb13⟩
              have HB13 := Lib.hid ((below_draws (Below.refl _ (w10.alloc (.cells #[.int .i64 yi, .string yt, .int .i64 yc, .bool ya, .bool yo, .bool yp, .int .i64 ys, .bool yr] 34))) _).drew.trans hb13)
              have HQ13 := Lib.hid (HS.out w13 HB13.out)
              have HD13 := Lib.hid (HD11.out.next HB13.out)
              clear hb13 CW HS HB13 HD11
              go_simp
              refine hK.out _ _ HQ13.out (fun hHeld => ?_)
              clear hK K
              (try simp only [Act.put, List.setIfInBounds_toArray, List.set_cons_zero, List.set_cons_succ])
              (repeat (first | (refine way_skip (by simp only [List.getElem?_toArray, List.getElem?_cons_succ, List.getElem?_cons_zero]; rfl) (by rfl) hHeld ?_; (try simp only [Act.put, List.setIfInBounds_toArray, List.set_cons_zero, List.set_cons_succ])) | (refine way_pass (by simp only [List.getElem?_toArray, List.getElem?_cons_succ, List.getElem?_cons_zero]; rfl) (by rfl) hHeld ?_; (try simp only [Act.put, List.setIfInBounds_toArray, List.set_cons_zero, List.set_cons_succ])) | (refine way_take (v := ?_) (by simp only [List.getElem?_toArray, List.getElem?_cons_succ, List.getElem?_cons_zero]; rfl) (by rfl) ?_ hHeld ?_; rotate_left; (focus (intro w hSw; (try dsimp only at hSw); go_simp; (try with_reducible rfl); done)); (try simp only [Act.put, List.setIfInBounds_toArray, List.set_cons_zero, List.set_cons_succ]))))
              refine way_done ?_
              clear hHeld HQ13
              have hwk := HWK.out
              go_wp2
              go_roundw
              case rel => exact ⟨k + 1, T1, T2, C, by go_num, by omega, HD13.out⟩
              case measure => simp [intOf]; omega
            | false => as_aux_lemma =>
              have hget := HGet.out
              rw [hth, if_neg (by decide)] at hget
              unfold Ls.agg Ls.zero at hget
              have HG := Lib.hid hget
              have CW0 : Hid (∀ W, Below wr.heap.size wr W → Calls Try.prog 19 #[.pointer (some ⟨b, 0, none⟩), .int .i64 ix] W fun e w' => e = .returned (.int .i64 0) ∧ Below W.heap.size W w') := Lib.hid fun W hW => by
                have := lsWhere ix (HD9.out.next hW).prog.rep
                rw [if_neg (by rw [hth]; decide)] at this
                exact this.mono fun e w' ⟨he, m, hm⟩ => ⟨he, by rw [hm]; exact below_drawn W m⟩
              have hC0 : wr.cell? ⟨x, 0, none⟩ = some (.slice AL NC cL) := by rw [HNC.out]; exact HRA.out.head.cell 0
              have HM0 : Hid (∀ W, Below wr.heap.size wr W → W.cell? ⟨wo.heap.size, 2, none⟩ = some (.int .i64 ix) ∧ W.cell? ⟨x, 0, none⟩ = some (.slice AL NC cL)) := Lib.hid fun W hW => ⟨(hW.cell (p := ⟨wo.heap.size, 2, none⟩) (cell_in (a := ⟨wo.heap.size, 2, none⟩) f2)).trans f2, (hW.cell (p := ⟨x, 0, none⟩) (cell_in (a := ⟨x, 0, none⟩) hC0)).trans hC0⟩
              have hor : decide (1 ≤ ix) = false ∨ decide (1 ≤ ix) = true ∧ decide (ix ≤ (NC : Int)) = false := by
                unfold lThere at hth
                rw [Bool.and_eq_false_iff, ← HNC.out] at hth
                cases hc : decide (1 ≤ ix) with
                | false => exact .inl rfl
                | true =>
                  rw [hc] at hth
                  exact .inr ⟨rfl, hth.resolve_left (by decide)⟩
              clear hget hC0 HRA HGet hth HX9 HNC
              go_wp2_with fail
              refine HG.out.mono ?_
              rintro e w10 ⟨rfl, hb10⟩
              have hb11 : Below w10.heap.size w10 (w10.alloc (.cells #[.int .i64 0, .string ⟨#[]⟩, .int .i64 0, .bool false, .bool false, .bool false, .int .i64 0, .bool false] 34)) := (Below.refl _ w10).alloc (Nat.le_refl _) _
              have hbw : Below wr.heap.size wr (w10.alloc (.cells #[.int .i64 0, .string ⟨#[]⟩, .int .i64 0, .bool false, .bool false, .bool false, .int .i64 0, .bool false] 34)) := hb10.trans (hb11.mono hb10.size)
              have hbx : Has (w10.alloc (.cells #[.int .i64 0, .string ⟨#[]⟩, .int .i64 0, .bool false, .bool false, .bool false, .int .i64 0, .bool false] 34)) w10.heap.size (.cells #[.int .i64 0, .string ⟨#[]⟩, .int .i64 0, .bool false, .bool false, .bool false, .int .i64 0, .bool false] 34 (0, 0)) := Has.fresh _ _
              have HS : Hid (∀ W, Below (w10.alloc (.cells #[.int .i64 0, .string ⟨#[]⟩, .int .i64 0, .bool false, .bool false, .bool false, .int .i64 0, .bool false] 34)).heap.size (w10.alloc (.cells #[.int .i64 0, .string ⟨#[]⟩, .int .i64 0, .bool false, .bool false, .bool false, .int .i64 0, .bool false] 34)) W → (W.cell? ⟨w10.heap.size, 0, none⟩ = some (.int .i64 0) ∧ W.cell? ⟨w10.heap.size, 1, none⟩ = some (.string ⟨#[]⟩) ∧ W.cell? ⟨w10.heap.size, 2, none⟩ = some (.int .i64 0) ∧ W.cell? ⟨w10.heap.size, 3, none⟩ = some (.bool false) ∧ W.cell? ⟨w10.heap.size, 4, none⟩ = some (.bool false) ∧ W.cell? ⟨w10.heap.size, 5, none⟩ = some (.bool false) ∧ W.cell? ⟨w10.heap.size, 6, none⟩ = some (.int .i64 0) ∧ W.cell? ⟨w10.heap.size, 7, none⟩ = some (.bool false)) ∧ W.cell? ⟨wo.heap.size, 2, none⟩ = some (.int .i64 ix)) := Lib.hid fun W hW => by
                have hq := hbx.below hW hbx.inside
                exact ⟨⟨hq.cell 0, hq.cell 1, hq.cell 2, hq.cell 3, hq.cell 4, hq.cell 5, hq.cell 6, hq.cell 7⟩, (HM0.out W (hbw.trans (hW.mono hbw.size))).1⟩
              have CW : Hid (∀ W, Below (w10.alloc (.cells #[.int .i64 0, .string ⟨#[]⟩, .int .i64 0, .bool false, .bool false, .bool false, .int .i64 0, .bool false] 34)).heap.size (w10.alloc (.cells #[.int .i64 0, .string ⟨#[]⟩, .int .i64 0, .bool false, .bool false, .bool false, .int .i64 0, .bool false] 34)) W → Calls Try.prog 19 #[.pointer (some ⟨b, 0, none⟩), .int .i64 ix] W fun e w' => e = .returned (.int .i64 0) ∧ Below W.heap.size W w') := Lib.hid fun W hW => CW0.out W (hbw.trans (hW.mono hbw.size))
              have HD11 := Lib.hid (HD9.out.next hbw)
              obtain ⟨e2, e0⟩ := HM0.out _ hbw
              clear hb10 hb11 hbw hbx HM0 CW0 HD9 HG f2
              rcases hor with d1 | ⟨d1, d2⟩
              · as_aux_lemma =>
                go_wp2_with fail
                go_quiet (fail)
                go_wp2_with fail
                refine wp_region_way (late := []) (S := fun W => (W.cell? ⟨w10.heap.size, 0, none⟩ = some (.int .i64 0) ∧ W.cell? ⟨w10.heap.size, 1, none⟩ = some (.string ⟨#[]⟩) ∧ W.cell? ⟨w10.heap.size, 2, none⟩ = some (.int .i64 0) ∧ W.cell? ⟨w10.heap.size, 3, none⟩ = some (.bool false) ∧ W.cell? ⟨w10.heap.size, 4, none⟩ = some (.bool false) ∧ W.cell? ⟨w10.heap.size, 5, none⟩ = some (.bool false) ∧ W.cell? ⟨w10.heap.size, 6, none⟩ = some (.int .i64 0) ∧ W.cell? ⟨w10.heap.size, 7, none⟩ = some (.bool false)) ∧ W.cell? ⟨wo.heap.size, 2, none⟩ = some (.int .i64 ix)) (y := Way.takes [0, 1, 2, 3, 4, 5, 6, 7, 8, 9, 10, 11, 12, 13, 14, 15, 16, 17, 18, 19, 20, 22, 23, 24, 25, 26, 27, 28, 29, 30] (.run 21 (Way.takes [31, 32, 33, 34, 35, 36, 37, 38, 39, 40, 41, 42, 43, 44, 45] (.run 46 (Way.takes [47, 48, 49, 50] .fin))))) (by kernel_rfl) (by kernel_rfl) rfl (by kernel_rfl) (HS.out _ (below_draws (Below.refl _ _) _).drew) (fun hHeld => ?_)
                simp only [Way.takes]
                (repeat (first | (refine way_skip (by simp only [List.getElem?_toArray, List.getElem?_cons_succ, List.getElem?_cons_zero]; rfl) (by rfl) hHeld ?_; (try simp only [Act.put, List.setIfInBounds_toArray, List.set_cons_zero, List.set_cons_succ])) | (refine way_pass (by simp only [List.getElem?_toArray, List.getElem?_cons_succ, List.getElem?_cons_zero]; rfl) (by rfl) hHeld ?_; (try simp only [Act.put, List.setIfInBounds_toArray, List.set_cons_zero, List.set_cons_succ])) | (refine way_take (v := ?_) (by simp only [List.getElem?_toArray, List.getElem?_cons_succ, List.getElem?_cons_zero]; rfl) (by rfl) ?_ hHeld ?_; rotate_left; (focus (intro w hSw; (try dsimp only at hSw); go_simp; (try with_reducible rfl); done)); (try simp only [Act.put, List.setIfInBounds_toArray, List.set_cons_zero, List.set_cons_succ]))))
                refine way_run (by simp only [List.getElem?_toArray, List.getElem?_cons_succ, List.getElem?_cons_zero]; rfl) (by rfl) (fun K hK => ?_)
                go_simp
                refine (CW.out _ (below_draws (Below.refl _ _) _).drew).mono ?_
                rintro e w13 ⟨rfl, hb13⟩
                have HB13 := Lib.hid ((below_draws (Below.refl _ (w10.alloc (.cells #[.int .i64 0, .string ⟨#[]⟩, .int .i64 0, .bool false, .bool false, .bool false, .int .i64 0, .bool false] 34))) _).drew.trans hb13)
                have HQ13 := Lib.hid (HS.out w13 HB13.out)
                have HD13 := Lib.hid (HD11.out.next HB13.out)
                clear hb13 CW HS HB13 HD11
                go_simp
                refine hK.out _ _ HQ13.out (fun hHeld => ?_)
                clear hK K
                (try simp only [Act.put, List.setIfInBounds_toArray, List.set_cons_zero, List.set_cons_succ])
                (repeat (first | (refine way_skip (by simp only [List.getElem?_toArray, List.getElem?_cons_succ, List.getElem?_cons_zero]; rfl) (by rfl) hHeld ?_; (try simp only [Act.put, List.setIfInBounds_toArray, List.set_cons_zero, List.set_cons_succ])) | (refine way_pass (by simp only [List.getElem?_toArray, List.getElem?_cons_succ, List.getElem?_cons_zero]; rfl) (by rfl) hHeld ?_; (try simp only [Act.put, List.setIfInBounds_toArray, List.set_cons_zero, List.set_cons_succ])) | (refine way_take (v := ?_) (by simp only [List.getElem?_toArray, List.getElem?_cons_succ, List.getElem?_cons_zero]; rfl) (by rfl) ?_ hHeld ?_; rotate_left; (focus (intro w hSw; (try dsimp only at hSw); go_simp; (try with_reducible rfl); done)); (try simp only [Act.put, List.setIfInBounds_toArray, List.set_cons_zero, List.set_cons_succ]))))
                refine way_done ?_
                clear hHeld HQ13
                have hwk := HWK.out
                go_wp2
                go_roundw
                case rel => exact ⟨k + 1, T1, T2, C, by go_num, by omega, HD13.out⟩
                case measure => simp [intOf]; omega
              · as_aux_lemma =>
                go_wp2_with fail
                go_quiet (fail)
                go_wp2_with fail
                refine wp_region_way (late := []) (S := fun W => (W.cell? ⟨w10.heap.size, 0, none⟩ = some (.int .i64 0) ∧ W.cell? ⟨w10.heap.size, 1, none⟩ = some (.string ⟨#[]⟩) ∧ W.cell? ⟨w10.heap.size, 2, none⟩ = some (.int .i64 0) ∧ W.cell? ⟨w10.heap.size, 3, none⟩ = some (.bool false) ∧ W.cell? ⟨w10.heap.size, 4, none⟩ = some (.bool false) ∧ W.cell? ⟨w10.heap.size, 5, none⟩ = some (.bool false) ∧ W.cell? ⟨w10.heap.size, 6, none⟩ = some (.int .i64 0) ∧ W.cell? ⟨w10.heap.size, 7, none⟩ = some (.bool false)) ∧ W.cell? ⟨wo.heap.size, 2, none⟩ = some (.int .i64 ix)) (y := Way.takes [0, 1, 2, 3, 4, 5, 6, 7, 8, 9, 10, 11, 12, 13, 14, 15, 16, 17, 18, 19, 20, 22, 23, 24, 25, 26, 27, 28, 29, 30] (.run 21 (Way.takes [31, 32, 33, 34, 35, 36, 37, 38, 39, 40, 41, 42, 43, 44, 45] (.run 46 (Way.takes [47, 48, 49, 50] .fin))))) (by kernel_rfl) (by kernel_rfl) rfl (by kernel_rfl) (HS.out _ (below_draws (Below.refl _ _) _).drew) (fun hHeld => ?_)
                simp only [Way.takes]
                (repeat (first | (refine way_skip (by simp only [List.getElem?_toArray, List.getElem?_cons_succ, List.getElem?_cons_zero]; rfl) (by rfl) hHeld ?_; (try simp only [Act.put, List.setIfInBounds_toArray, List.set_cons_zero, List.set_cons_succ])) | (refine way_pass (by simp only [List.getElem?_toArray, List.getElem?_cons_succ, List.getElem?_cons_zero]; rfl) (by rfl) hHeld ?_; (try simp only [Act.put, List.setIfInBounds_toArray, List.set_cons_zero, List.set_cons_succ])) | (refine way_take (v := ?_) (by simp only [List.getElem?_toArray, List.getElem?_cons_succ, List.getElem?_cons_zero]; rfl) (by rfl) ?_ hHeld ?_; rotate_left; (focus (intro w hSw; (try dsimp only at hSw); go_simp; (try with_reducible rfl); done)); (try simp only [Act.put, List.setIfInBounds_toArray, List.set_cons_zero, List.set_cons_succ]))))
                refine way_run (by simp only [List.getElem?_toArray, List.getElem?_cons_succ, List.getElem?_cons_zero]; rfl) (by rfl) (fun K hK => ?_)
                go_simp
                refine (CW.out _ (below_draws (Below.refl _ _) _).drew).mono ?_
                rintro e w13 ⟨rfl, hb13⟩
                have HB13 := Lib.hid ((below_draws (Below.refl _ (w10.alloc (.cells #[.int .i64 0, .string ⟨#[]⟩, .int .i64 0, .bool false, .bool false, .bool false, .int .i64 0, .bool false] 34))) _).drew.trans hb13)
                have HQ13 := Lib.hid (HS.out w13 HB13.out)
                have HD13 := Lib.hid (HD11.out.next HB13.out)
                clear hb13 CW HS HB13 HD11
                go_simp
                refine hK.out _ _ HQ13.out (fun hHeld => ?_)
                clear hK K
                (try simp only [Act.put, List.setIfInBounds_toArray, List.set_cons_zero, List.set_cons_succ])
                (repeat (first | (refine way_skip (by simp only [List.getElem?_toArray, List.getElem?_cons_succ, List.getElem?_cons_zero]; rfl) (by rfl) hHeld ?_; (try simp only [Act.put, List.setIfInBounds_toArray, List.set_cons_zero, List.set_cons_succ])) | (refine way_pass (by simp only [List.getElem?_toArray, List.getElem?_cons_succ, List.getElem?_cons_zero]; rfl) (by rfl) hHeld ?_; (try simp only [Act.put, List.setIfInBounds_toArray, List.set_cons_zero, List.set_cons_succ])) | (refine way_take (v := ?_) (by simp only [List.getElem?_toArray, List.getElem?_cons_succ, List.getElem?_cons_zero]; rfl) (by rfl) ?_ hHeld ?_; rotate_left; (focus (intro w hSw; (try dsimp only at hSw); go_simp; (try with_reducible rfl); done)); (try simp only [Act.put, List.setIfInBounds_toArray, List.set_cons_zero, List.set_cons_succ]))))
                refine way_done ?_
                clear hHeld HQ13
                have hwk := HWK.out
                go_wp2
                go_roundw
                case rel => exact ⟨k + 1, T1, T2, C, by go_num, by omega, HD13.out⟩
                case measure => simp [intOf]; omega
    · go_wp2
      go_ret
      exact ⟨rfl, HD.out.prog.below⟩
end
end Go.Proofs.Ytgdgmcehkhimpaa

namespace Go.Proofs.Ytgdgmcehkhimpaa
open Go.ChangeShapes Go.WideShapes Go.ChangeAt Go.RowKit
open Go.ChangeMaps (open_string shut_string)

set_option maxRecDepth 100000 in
theorem listenPlays_lifted (os : Os) (started : os.Started) (H : Type) (enc : TypeId × Value → H) :
    ReturnsInHanded {} Try.checked os 3 .any (Rows.listenPlaysSpec.pre6 enc Try.prog Try.f3 Rows.listenPlaysRow.domain false) (Rows.listenPlaysSpec.post enc Try.prog Try.f3 false true false false) := by
  refine returnsInHanded_of_change (C := Try.checked) own started (by kernel_rfl) Try.func3
    (ChangeSpec.witness6 (enc := enc) (C := Try.checked) false ⟨#[], #[.slice none 0 0], []⟩ 8 (by kernel_rfl) (by kernel_rfl) (by kernel_rfl) (by kernel_rfl)) ?_
  intro W base args ds gs before hval0 hW hcnd _
  have hval : ∀ (j : Nat) t v, Try.f3.params[j]? = some t → args[j]? = some v → Value.okWide Try.prog W .any base t v := hval0
  clear hval0 hcnd
  have hW' := hW
  obtain ⟨p, q, hA0, hV, rfl, hfz, hnd⟩ := hW
  have hA : DataW.TrodAll enc Try.prog W 0 (fun _ => true) true Try.f3.params.toList args.toList ds p := hA0
  rw [Try.params3] at hA hval
  obtain ⟨v0, vs0, d0, ds0, p0, q0, hargs, rfl, rfl, h0, r0⟩ := trodAll_cons hA
  obtain ⟨rfl, rfl, rfl⟩ := trodAll_nil r0
  obtain rfl : args = #[v0] := by cases args; simp_all
  obtain ⟨rfl, rfl⟩ := trodVars_none hV
  obtain ⟨A0, n0, c0, rfl⟩ := okWide_slice Try.underlying22 (hval 0 22 v0 rfl rfl)
  have k0 := h0
  have lt0 : ∀ x ∈ p0, x.block < W.heap.size := by obtain ⟨m, hm⟩ := k0; exact DataW.trod_lt m _ _ _ hm
  obtain ⟨x0, l0, y0, z0, q0x⟩ : ∃ xs : List Lcal, xs.length = n0 ∧ Lcals W A0 xs ∧ n0 ≤ c0 ∧ n0 ≤ maxLen := by
    obtain ⟨fuel, hf⟩ := h0
    exact lcals_in hf
  clear hA0
  refine (listenPlays_any A0 n0 c0 x0 W l0 y0).mono fun e W' ⟨he, bel⟩ => ?_
  subst he
  exact ⟨_, rfl, _, _, _, [], _, [], hW', trodAll_mk1 (shut_bool Try.underlying4 _), (trodAll_cons_mk (Below.trod laidOut (by kernel_rfl) (of_decide_eq_true (by kernel_rfl)) k0 bel lt0) trodAll_mk0), rfl, bel.frame _, fun h => by cases h⟩

theorem listenPlays_holds : Rows.ListenPlaysSaid :=
  OpenClaim.holds_of_wide 3 Try.f3 rfl rfl rfl rfl rfl rfl rfl ⟨rfl, rfl, rfl, rfl, rfl⟩ rfl rfl rfl rfl rfl (by kernel_rfl) Try.func3 (by kernel_rfl)
    (of_decide_eq_true (by kernel_rfl)) (by unfold Func.isWrapper; rw [if_neg (by decide +kernel)]; exact ⟨rfl, rfl⟩)
    (fun os started H enc _ => listenPlays_lifted os started H enc)
end Go.Proofs.Ytgdgmcehkhimpaa
