/-
  What Add of package listen does.
  Lists that a law makes and changes; towncrierlaw12.awake and ListenNone.
  Arguments that came in, opened: lists of texts and of numbers. Facts of the program that every row's proof wants.
  Proved: the law answers true for every input, and each argument reads afterwards as it read before. No condition.
-/
import Derived.Test.YtgdgmcehkhimpaaPartB
import Derived.Test.YtgdgmcehkhimpaaProg
import Derived.Test.YtgdgmcehkhimpaaChecked
import Derived.ProofKit
import Derived.OpenShut
import Derived.Test.YtgdgmcehkhimpaaRows
import Derived.ChangeOld

namespace Go.Proofs.Ytgdgmcehkhimpaa
open Go Go.RowKit

section
variable {S : Nat → Prop} {w : World} {b : Nat} {B : List Ls} {xi xc xs node : Int} {xt : ByteArray} {xa xo xp xr : Bool}
theorem lsErr_not (h : fitB node xt xc xs = false) : lsErr B node (⟨xi, xt, xc, xa, xo, xp, xs, xr, 0⟩ : Ls) = 1 := by
  unfold lsErr
  refine if_pos ?_
  unfold fitB at h
  rw [Bool.and_eq_false_iff, Bool.and_eq_false_iff, Bool.and_eq_false_iff, decide_eq_false_iff_not, decide_eq_false_iff_not, decide_eq_false_iff_not] at h
  rcases h with ((h | h) | h) | h
  · exact .inl (by omega)
  · exact .inr (.inl (by show xc < 1; omega))
  · exact .inr (.inr (.inl (by show xs < 0; omega)))
  · exact .inr (.inr (.inr h))
theorem lsErr_fit (h : fitB node xt xc xs = true) : lsErr B node (⟨xi, xt, xc, xa, xo, xp, xs, xr, 0⟩ : Ls) = if 512 ≤ B.length then 9 else 0 := by
  unfold lsErr
  refine if_neg ?_
  unfold fitB at h
  rw [Bool.and_eq_true, Bool.and_eq_true, Bool.and_eq_true, decide_eq_true_iff, decide_eq_true_iff, decide_eq_true_iff] at h
  obtain ⟨⟨⟨h1, h2⟩, h3⟩, h4⟩ := h
  rintro (h' | h' | h' | h')
  · omega
  · have : xc < 1 := h'
    omega
  · have : xs < 0 := h'
    omega
  · have : rightL xt.data.toList = false := h'
    rw [h4] at this
    cases this
theorem fit_node (h : fitB node xt xc xs = true) : 1 ≤ node := by
  unfold fitB at h
  rw [Bool.and_eq_true, Bool.and_eq_true, Bool.and_eq_true, decide_eq_true_iff] at h
  exact h.1.1.1
theorem not_goes {v : Int} {x : Ls} (h : lsGoes B v x = false) : lsNo B v x = 0 ∧ addLs B v x = B := by
  unfold lsNo addLs
  rw [h]
  exact ⟨if_neg (by decide), if_neg (by decide)⟩
theorem goes {v : Int} {x : Ls} (h : lsGoes B v x = true) : lsNo B v x = (B.length : Int) + 1 ∧ addLs B v x = B ++ [⟨(B.length : Int) + 1, x.typ, x.cb, x.cap, x.once, x.pas, x.sig, false, v⟩] := by
  unfold lsNo addLs
  rw [h]
  exact ⟨if_pos rfl, if_pos rfl⟩
theorem lsAdd_nil (w : World) : Calls Try.prog 8 #[.pointer none, .int .i64 node, .agg #[.int .i64 xi, .string xt, .int .i64 xc, .bool xa, .bool xo, .bool xp, .int .i64 xs, .bool xr]] w fun e w' => e = .returned (.tuple #[.int .i64 0, .int .i64 1]) ∧ Below w.heap.size w w' := by
  have hb : Below w.heap.size w (w.alloc (.cells #[.int .i64 xi, .string xt, .int .i64 xc, .bool xa, .bool xo, .bool xp, .int .i64 xs, .bool xr] 34)) := (Below.refl _ w).alloc (Nat.le_refl _) _
  have HB := Lib.hid hb
  clear hb
  go_enter Try.func8, Try.ntmps8
  go_wp2
  go_ret2
  exact ⟨rfl, HB.out⟩
/-- A number, an error's number, and the lists then. -/
def Added (S : Nat → Prop) (w : World) (b : Nat) (B : List Ls) (v : Int) (x : Ls) (e : Ending) (w' : World) : Prop := e = .returned (.tuple #[.int .i64 (lsNo B v x), .int .i64 (lsErr B v x)]) ∧ Lst S w' b (addLs B v x) ∧ Keeps S w w'
theorem Added.not {v : Int} {x : Ls} {w' : World} {z : Int} (he : lsErr B v x = z) (hg : lsGoes B v x = false) (h : Lst S w b B) (hb : Below w.heap.size w w') : Added S w b B v x (.returned (.tuple #[.int .i64 0, .int .i64 z])) w' := by
  obtain ⟨h1, h2⟩ := not_goes hg
  unfold Added
  rw [h1, h2, he]
  exact ⟨rfl, h.below hb, Keeps.of_below hb fun i hi hle => by omega⟩
set_option maxHeartbeats 4000000 in
theorem lsAdd (h : Lst S w b B) (hS : Fut S w.heap.size) (hn : -9223372036854775808 ≤ node ∧ node ≤ 9223372036854775807) (ht : xt.size ≤ 9223372036854775807) :
    Calls Try.prog 8 #[ptrL b, .int .i64 node, .agg #[.int .i64 xi, .string xt, .int .i64 xc, .bool xa, .bool xo, .bool xp, .int .i64 xs, .bool xr]] w (Added S w b B node (⟨xi, xt, xc, xa, xo, xp, xs, xr, 0⟩ : Ls)) := by
  have hnot : ∀ (x : Bool) (w : World), (Op.unary .not (.bool x)).run Try.prog w = .ok (.bool (!x)) w := fun _ _ => rfl
  have hb0 : Below w.heap.size w (w.alloc (.cells #[.int .i64 xi, .string xt, .int .i64 xc, .bool xa, .bool xo, .bool xp, .int .i64 xs, .bool xr] 34)) := (Below.refl _ w).alloc (Nat.le_refl _) _
  have hbox0 : Has (w.alloc (.cells #[.int .i64 xi, .string xt, .int .i64 xc, .bool xa, .bool xo, .bool xp, .int .i64 xs, .bool xr] 34)) w.heap.size (.cells #[.int .i64 xi, .string xt, .int .i64 xc, .bool xa, .bool xo, .bool xp, .int .i64 xs, .bool xr] 34 (0, 0)) := Has.fresh _ _
  have HF := Lib.hid (lsFits (node := node) (w := (w.alloc (.cells #[.int .i64 xi, .string xt, .int .i64 xc, .bool xa, .bool xo, .bool xp, .int .i64 xs, .bool xr] 34))) (xi := xi) (xc := xc) (xs := xs) (xa := xa) (xo := xo) (xp := xp) (xr := xr) ht)
  have H := Lib.hid h
  have HB0 := Lib.hid hb0
  have HX0 := Lib.hid hbox0
  have HS := Lib.hid hS
  clear h hS hb0 hbox0
  cases hf : fitB node xt xc xs with
  | false =>
    have he := lsErr_not (B := B) (xi := xi) (xa := xa) (xo := xo) (xp := xp) (xr := xr) hf
    have hg : lsGoes B node (⟨xi, xt, xc, xa, xo, xp, xs, xr, 0⟩ : Ls) = false := by unfold lsGoes; rw [he]; rfl
    rw [hf] at HF
    have HE := Lib.hid he
    have HG := Lib.hid hg
    clear he hg hf
    unfold ptrL
    go_enter Try.func8, Try.ntmps8
    go_wp2_with fail
    refine HF.out.mono ?_
    rintro e w1 ⟨rfl, hb1⟩
    have HB1 := Lib.hid (HB0.out.trans (hb1.mono HB0.out.size))
    clear hb1
    go_wp2
    go_ret2
    exact Added.not HE.out HG.out H.out HB1.out
  | true =>
    have hn1 := fit_node hf
    have he := lsErr_fit (B := B) (xi := xi) (xa := xa) (xo := xo) (xp := xp) (xr := xr) hf
    rw [hf] at HF
    clear hf
    have HL : Hid (∀ W, Below w.heap.size w W → Calls Try.prog 17 #[.pointer (some ⟨b, 0, none⟩)] W fun e w' => e = .returned (.int .i64 B.length) ∧ ∃ n, w' = W.drewN n) := Lib.hid fun W hW => lsLen (H.out.below hW)
    by_cases hfull : 512 ≤ B.length
    · rw [if_pos hfull] at he
      have hg : lsGoes B node (⟨xi, xt, xc, xa, xo, xp, xs, xr, 0⟩ : Ls) = false := by unfold lsGoes; rw [he]; rfl
      have hge : decide ((512 : Int) ≤ (B.length : Int)) = true := decide_eq_true (by omega)
      have HE := Lib.hid he
      have HG := Lib.hid hg
      clear he hg hfull
      unfold ptrL
      go_enter Try.func8, Try.ntmps8
      go_wp2_with fail
      refine HF.out.mono ?_
      rintro e w1 ⟨rfl, hb1⟩
      have HB1 := Lib.hid (HB0.out.trans (hb1.mono HB0.out.size))
      clear hb1
      go_wp2_with fail
      refine (HL.out w1 HB1.out).mono ?_
      rintro e w2 ⟨rfl, n2, rfl⟩
      have HB2 := Lib.hid (below_draws HB1.out n2)
      go_wp2
      go_ret2
      exact Added.not HE.out HG.out H.out HB2.out
    · rw [if_neg hfull] at he
      have hge : decide ((512 : Int) ≤ (B.length : Int)) = false := decide_eq_false (by omega)
      have HQ : Hid (∀ W, Below w.heap.size w W → Calls Try.prog 12 #[.pointer (some ⟨b, 0, none⟩), .int .i64 node, .string xt, .int .i64 xc, .bool xa] W fun e w' => e = .returned (.int .i64 (findLs B node xt xc xa)) ∧ Below W.heap.size W w') := Lib.hid fun W hW => lsFind_any node xc xt xa (H.out.below hW) hn.1 hn.2
      have HE := Lib.hid he
      clear he
      by_cases hz : findLs B node xt xc xa = 0
      · have hg : lsGoes B node (⟨xi, xt, xc, xa, xo, xp, xs, xr, 0⟩ : Ls) = true := by
          unfold lsGoes
          rw [HE.out]
          show (decide ((0 : Int) = 0) && decide (findLs B node xt xc xa = 0)) = true
          rw [hz]
          rfl
        rw [hz] at HQ
        have HK : Hid (∀ W, Below w.heap.size w W → Calls Try.prog 21 #[.pointer (some ⟨b, 0, none⟩), .int .i64 node, .agg #[.int .i64 xi, .string xt, .int .i64 xc, .bool xa, .bool xo, .bool xp, .int .i64 xs, .bool xr]] W fun e w' => e = .returned (.int .i64 ((B.length : Int) + 1)) ∧ Added S w b B node (⟨xi, xt, xc, xa, xo, xp, xs, xr, 0⟩ : Ls) (.returned (.tuple #[.int .i64 ((B.length : Int) + 1), .int .i64 0])) w') := Lib.hid fun W hW => by
          refine (lsKeep (node := node) (xi := xi) (xr := xr) B.length rfl (H.out.below hW) (HS.out.mono hW.size) (by omega) hn1 hn.2).mono ?_
          rintro e w' ⟨rfl, hL, hk⟩
          refine ⟨rfl, ?_⟩
          obtain ⟨h1, h2⟩ := goes hg
          unfold Added
          rw [h1, HE.out]
          refine ⟨rfl, ⟨lsOk_add H.out.ok hn.2, H.out.2.1, .inr ?_⟩, (Keeps.of_below hW fun i hi hle => by omega).also hk⟩
          rw [h2, idsL_add rfl, List.length_append]
          exact hL
        clear hg hz hfull
        unfold ptrL
        go_enter Try.func8, Try.ntmps8
        go_wp2_with fail
        refine HF.out.mono ?_
        rintro e w1 ⟨rfl, hb1⟩
        have HX1 := Lib.hid (HX0.out.below hb1 HX0.out.inside)
        have HB1 := Lib.hid (HB0.out.trans (hb1.mono HB0.out.size))
        clear hb1
        go_wp2_with fail
        refine (HL.out w1 HB1.out).mono ?_
        rintro e w2 ⟨rfl, n2, rfl⟩
        have HB2 := Lib.hid (below_draws HB1.out n2)
        have HX2 : Hid (Has (w1.drewN n2) w.heap.size (.cells #[.int .i64 xi, .string xt, .int .i64 xc, .bool xa, .bool xo, .bool xp, .int .i64 xs, .bool xr] 34 (0, 0))) := Lib.hid HX1.out
        obtain ⟨W2, hW2⟩ : ∃ W2, W2 = w1.drewN n2 := ⟨_, rfl⟩
        rw [← hW2] at HB2 HX2 ⊢
        clear hW2 HX1 HB1
        have x1 := HX2.out.cell 1
        have x2 := HX2.out.cell 2
        have x3 := HX2.out.cell 3
        go_wp2_with fail
        refine (HQ.out W2 HB2.out).mono ?_
        rintro e w3 ⟨rfl, hb3⟩
        have hx3 := HX2.out.below hb3 HX2.out.inside
        have HB3 := Lib.hid (HB2.out.trans (hb3.mono HB2.out.size))
        have y0 := hx3.cell 0
        have y1 := hx3.cell 1
        have y2 := hx3.cell 2
        have y3 := hx3.cell 3
        have y4 := hx3.cell 4
        have y5 := hx3.cell 5
        have y6 := hx3.cell 6
        have y7 := hx3.cell 7
        clear hx3 hb3 x1 x2 x3
        go_wp2_with fail
        refine (HK.out w3 HB3.out).mono ?_
        rintro e w4 ⟨rfl, hA⟩
        have HA := Lib.hid hA
        clear hA
        go_wp2
        go_ret2
        exact HA.out
      · have hg : lsGoes B node (⟨xi, xt, xc, xa, xo, xp, xs, xr, 0⟩ : Ls) = false := by
          unfold lsGoes
          rw [HE.out]
          show (decide ((0 : Int) = 0) && decide (findLs B node xt xc xa = 0)) = false
          rw [decide_eq_false hz]
          rfl
        obtain ⟨r, hr⟩ : ∃ r, r = findLs B node xt xc xa := ⟨_, rfl⟩
        rw [← hr] at hz HQ
        have hz1 : (r != 0) = true := by simpa using hz
        have hz2 : (r == 0) = false := by simpa using hz
        have HG := Lib.hid hg
        clear hg hr hfull hz
        unfold ptrL
        go_enter Try.func8, Try.ntmps8
        go_wp2_with fail
        refine HF.out.mono ?_
        rintro e w1 ⟨rfl, hb1⟩
        have HX1 := Lib.hid (HX0.out.below hb1 HX0.out.inside)
        have HB1 := Lib.hid (HB0.out.trans (hb1.mono HB0.out.size))
        clear hb1
        go_wp2_with fail
        refine (HL.out w1 HB1.out).mono ?_
        rintro e w2 ⟨rfl, n2, rfl⟩
        have HB2 := Lib.hid (below_draws HB1.out n2)
        have HX2 : Hid (Has (w1.drewN n2) w.heap.size (.cells #[.int .i64 xi, .string xt, .int .i64 xc, .bool xa, .bool xo, .bool xp, .int .i64 xs, .bool xr] 34 (0, 0))) := Lib.hid HX1.out
        obtain ⟨W2, hW2⟩ : ∃ W2, W2 = w1.drewN n2 := ⟨_, rfl⟩
        rw [← hW2] at HB2 HX2 ⊢
        clear hW2 HX1 HB1
        have x1 := HX2.out.cell 1
        have x2 := HX2.out.cell 2
        have x3 := HX2.out.cell 3
        go_wp2_with fail
        refine (HQ.out W2 HB2.out).mono ?_
        rintro e w3 ⟨rfl, hb3⟩
        have HB3 := Lib.hid (HB2.out.trans (hb3.mono HB2.out.size))
        clear hb3 x1 x2 x3
        go_wp2
        go_ret2
        exact Added.not HE.out HG.out H.out HB3.out
end
end Go.Proofs.Ytgdgmcehkhimpaa

namespace Go.Proofs.Ytgdgmcehkhimpaa
open Go Go.RowKit

/-- What stands in blocks that S names stays while others turn. -/
structure RepOk (Rep : (Nat → Prop) → World → Prop) : Prop where
  keep : ∀ {S F : Nat → Prop} {w w' : World}, Rep S w → Keeps F w w' → (∀ i, S i → i < w.heap.size → ¬ F i) → Rep S w'
  wide : ∀ {S S' : Nat → Prop} {w : World}, Rep S w → (∀ i, S i → i < w.heap.size → S' i) → Rep S' w
/-- .. in blocks that were made since w0. -/
structure Liv (Rep : (Nat → Prop) → World → Prop) (w0 : World) (S : Nat → Prop) (w : World) : Prop where
  rep : Rep S w
  low : ∀ i, S i → w0.heap.size ≤ i ∧ i < w.heap.size
  below : Below w0.heap.size w0 w
/-- The blocks of S, and all new ones. -/
abbrev more (S : Nat → Prop) (w : World) (i : Nat) : Prop := S i ∨ w.heap.size ≤ i
section
variable {Rep Rep' : (Nat → Prop) → World → Prop} {w0 w w' : World} {S F : Nat → Prop}
theorem Liv.next (O : RepOk Rep) (h : Liv Rep w0 S w) (hb : Below w.heap.size w w') : Liv Rep w0 S w' :=
  ⟨O.keep h.rep (Keeps.of_below (F := fun i => w.heap.size ≤ i) hb fun _ _ h => h) fun _ _ hi => Nat.not_le.2 hi, fun i hi => ⟨(h.low i hi).1, Nat.lt_of_lt_of_le (h.low i hi).2 hb.size⟩, h.below.trans (hb.mono h.below.size)⟩
theorem Liv.keep (O : RepOk Rep) (h : Liv Rep w0 S w) (k : Keeps F w w') (hF : ∀ i, S i → ¬ F i) (hw : ∀ i, i < w0.heap.size → ¬ F i) : Liv Rep w0 S w' :=
  ⟨O.keep h.rep k fun i hi _ => hF i hi, fun i hi => ⟨(h.low i hi).1, Nat.lt_of_lt_of_le (h.low i hi).2 k.grows⟩, below_then h.below k h.below.size hw⟩
theorem Liv.more (O : RepOk Rep) (h : Liv Rep w0 S w) : Rep (more S w) w := O.wide h.rep fun _ hi _ => .inl hi
theorem liv_new (O : RepOk Rep) {w1 : World} (h : Rep (fun i => w1.heap.size ≤ i) w) (hw : Below w0.heap.size w0 w1) (hb : Below w1.heap.size w1 w) : ∃ S, Liv Rep w0 S w ∧ ∀ i, i < w1.heap.size → ¬ S i :=
  ⟨fun i => w1.heap.size ≤ i ∧ i < w.heap.size, ⟨O.wide h fun _ hi hlt => ⟨hi, hlt⟩, fun _ hi => ⟨Nat.le_trans hw.size hi.1, hi.2⟩, hw.trans (hb.mono hw.size)⟩, fun i hi hS => by omega⟩
/-- A change. -/
theorem Liv.turned (O : RepOk Rep') (h : Liv Rep w0 S w) (hR : Rep' (Go.Proofs.Ytgdgmcehkhimpaa.more S w) w') (hk : Keeps (Go.Proofs.Ytgdgmcehkhimpaa.more S w) w w') :
    (∃ S', Liv Rep' w0 S' w' ∧ ∀ i, i < w.heap.size → ¬ S i → ¬ S' i) ∧ Keeps S w w' := by
  have hk' : Keeps S w w' := hk.wide fun i hi hh => hh.resolve_right (Nat.not_le.2 hi)
  refine ⟨⟨fun i => Go.Proofs.Ytgdgmcehkhimpaa.more S w i ∧ i < w'.heap.size, ⟨O.wide hR fun _ hi hlt => ⟨hi, hlt⟩, fun i hi => ⟨?_, hi.2⟩, below_then h.below hk' h.below.size fun i hi hS => ?_⟩, fun i hi hn hh => ?_⟩, hk'⟩
  · rcases hi.1 with h1 | h1
    · exact (h.low i h1).1
    · exact Nat.le_trans h.below.size h1
  · have := (h.low i hS).1
    omega
  · rcases hh.1 with h1 | h1
    · exact hn h1
    · omega
end
theorem lstOk (b : Nat) (B : List Ls) : RepOk fun S w => Lst S w b B := ⟨fun h k hF => h.kept k hF, fun h hS => h.wide hS⟩

section
variable {w0 w : World} {S : Nat → Prop} {b : Nat} {B : List Ls} {xi xc xs node : Int} {xt : ByteArray} {xa xo xp xr : Bool}
abbrev LivL (w0 : World) (S : Nat → Prop) (b : Nat) (B : List Ls) (w : World) : Prop := Liv (fun S w => Lst S w b B) w0 S w
theorem livAdd (h : LivL w0 S b B w) (hn : -9223372036854775808 ≤ node ∧ node ≤ 9223372036854775807) (ht : xt.size ≤ 9223372036854775807) :
    Calls Try.prog 8 #[ptrL b, .int .i64 node, .agg #[.int .i64 xi, .string xt, .int .i64 xc, .bool xa, .bool xo, .bool xp, .int .i64 xs, .bool xr]] w fun e w' => e = .returned (.tuple #[.int .i64 (lsNo B node ⟨xi, xt, xc, xa, xo, xp, xs, xr, 0⟩), .int .i64 (lsErr B node ⟨xi, xt, xc, xa, xo, xp, xs, xr, 0⟩)]) ∧
      (∃ S', LivL w0 S' b (addLs B node ⟨xi, xt, xc, xa, xo, xp, xs, xr, 0⟩) w' ∧ ∀ i, i < w.heap.size → ¬ S i → ¬ S' i) ∧ Keeps S w w' :=
  (lsAdd (h.more (lstOk b B)) (fun _ hi => .inr hi) hn ht).mono fun _ _ ⟨he, hR, hk⟩ => ⟨he, h.turned (lstOk b _) hR hk⟩
theorem livKill (i : Int) (h : LivL w0 S b B w) : Calls Try.prog 10 #[ptrL b, .int .i64 i] w fun e w' => e = .returned (.bool (lsAlive B i)) ∧ (∃ S', LivL w0 S' b (killLs B i) w' ∧ ∀ i, i < w.heap.size → ¬ S i → ¬ S' i) ∧ Keeps S w w' :=
  (lsKill i (h.more (lstOk b B))).mono fun _ _ ⟨he, hR, hk⟩ => ⟨he, h.turned (lstOk b _) hR hk⟩
end

theorem right_x : rightL (⟨#[120]⟩ : ByteArray).data.toList = true := by decide
theorem addX_err (B : List Ls) (o : Bool) (hB : B.length < 512) : lsErr B 1 ⟨0, ⟨#[120]⟩, 1, false, o, false, 0, false, 0⟩ = 0 := by
  unfold lsErr
  rw [if_neg, if_neg (by omega)]
  rintro (h | h | h | h)
  · omega
  · have h' : (1 : Int) < 1 := h
    omega
  · have h' : (0 : Int) < 0 := h
    omega
  · have := right_x
    rw [show rightL _ = false from h] at this
    cases this
theorem addX_none (o : Bool) : lsNo [] 1 ⟨0, ⟨#[120]⟩, 1, false, o, false, 0, false, 0⟩ = 1 ∧ addLs [] 1 ⟨0, ⟨#[120]⟩, 1, false, o, false, 0, false, 0⟩ = [⟨1, ⟨#[120]⟩, 1, false, o, false, 0, false, 1⟩] := by
  have hg : lsGoes [] 1 ⟨0, ⟨#[120]⟩, 1, false, o, false, 0, false, 0⟩ = true := by
    unfold lsGoes
    rw [addX_err [] o (by decide)]
    rfl
  exact goes hg
theorem addX_twice (o o' : Bool) : lsNo [⟨1, ⟨#[120]⟩, 1, false, o, false, 0, false, 1⟩] 1 ⟨0, ⟨#[120]⟩, 1, false, o', false, 0, false, 0⟩ = 0 ∧ addLs [⟨1, ⟨#[120]⟩, 1, false, o, false, 0, false, 1⟩] 1 ⟨0, ⟨#[120]⟩, 1, false, o', false, 0, false, 0⟩ = [⟨1, ⟨#[120]⟩, 1, false, o, false, 0, false, 1⟩] := by
  have hf : findLs [⟨1, ⟨#[120]⟩, 1, false, o, false, 0, false, 1⟩] 1 ⟨#[120]⟩ 1 false = 1 := by
    refine find_hit (i := 0) (x := ⟨1, ⟨#[120]⟩, 1, false, o, false, 0, false, 1⟩) rfl ?_ fun j y hj => by omega
    simp [lsIs]
  refine not_goes ?_
  unfold lsGoes
  show (_ && decide (findLs _ 1 ⟨#[120]⟩ 1 false = 0)) = false
  rw [hf, show decide ((1 : Int) = 0) = false from by decide, Bool.and_false]
section
set_option maxHeartbeats 1000000 in
theorem awake12 (w : World) : Calls Try.prog 6 #[] w fun e w' => e = .returned (.bool true) ∧ Below w.heap.size w w' := by
  go_enter Try.func6, Try.ntmps6
  go_wp2_with fail
  refine (lsNew (fun i => w.heap.size ≤ i) w (fun _ h => h)).mono ?_
  rintro e w1 ⟨rfl, hL1, hb1⟩
  obtain ⟨S1, h1, -⟩ := liv_new (w0 := w) (lstOk w.heap.size []) hL1 (Below.refl _ w) hb1
  have H1 := Lib.hid h1
  obtain ⟨b, hb⟩ : ∃ b, b = w.heap.size := ⟨_, rfl⟩
  rw [← hb] at H1
  rw [← hb]
  clear hL1 hb1 h1 hb
  go_wp2_with fail
  refine (livAdd (xi := 0) (xt := ⟨#[120]⟩) (xc := 1) (xa := false) (xo := false) (xp := false) (xs := 0) (xr := false) (node := 1) H1.out (by decide) (by decide)).mono ?_
  rintro e w2 ⟨rfl, ⟨S2, h2, -⟩, -⟩
  rw [(addX_none false).1, addX_err [] false (by decide)]
  rw [(addX_none false).2] at h2
  have H2 := Lib.hid h2
  clear h2 H1
  go_wp2_with fail
  refine (livAdd (xi := 0) (xt := ⟨#[120]⟩) (xc := 1) (xa := false) (xo := true) (xp := false) (xs := 0) (xr := false) (node := 1) H2.out (by decide) (by decide)).mono ?_
  rintro e w3 ⟨rfl, ⟨S3, h3, -⟩, -⟩
  rw [(addX_twice false true).1, addX_err _ true (by decide)]
  have H3 := Lib.hid h3.below
  clear h3 H2
  go_wp2
  go_ret
  exact ⟨rfl, H3.out⟩
--@if towncrierlaw12.ListenNone@
set_option maxHeartbeats 8000000 in
theorem listenNone_any (node id : Int) (s : ByteArray) (w : World) : Calls Try.prog 4 #[.int .i64 node, .int .i64 id, .string s] w fun e w' => e = .returned (.bool true) ∧ Below w.heap.size w w' := by
  have hnot : ∀ (x : Bool) (w : World), (Op.unary .not (.bool x)).run Try.prog w = .ok (.bool (!x)) w := fun _ _ => rfl
  have HA := Lib.hid (awake12 w)
  go_enter Try.func4, Try.ntmps4
  go_wp2_with fail
  refine HA.out.mono ?_
  rintro e w1 ⟨rfl, hb1⟩
  have HB1 := Lib.hid hb1
  clear hb1 HA
  go_wp2_with fail
  refine (lsAdd_nil (node := 1) (xi := 0) (xt := ⟨#[120]⟩) (xc := 1) (xa := false) (xo := false) (xp := false) (xs := 0) (xr := false) w1).mono ?_
  rintro e w2 ⟨rfl, hb2⟩
  have HB2 := Lib.hid (HB1.out.trans (hb2.mono HB1.out.size))
  clear hb2 HB1
  go_wp2_with fail
  refine (lsGet_nil id w2).mono ?_
  rintro e w3 ⟨rfl, hb3⟩
  have HB3 := Lib.hid (HB2.out.trans (hb3.mono HB2.out.size))
  clear hb3 HB2
  unfold Ls.agg Ls.zero
  go_wp2_with fail
  refine (lsFindNil node 1 s true _).mono ?_
  rintro e w4 ⟨rfl, rfl⟩
  go_wp2_with fail
  refine (lsKill_nil id _).mono ?_
  rintro e w4 ⟨rfl, rfl⟩
  go_wp2_with fail
  refine (lsAtNil node _).mono ?_
  rintro e w4 ⟨rfl, rfl⟩
  go_wp2_with fail
  refine (lsWhere_nil id _).mono ?_
  rintro e w4 ⟨rfl, rfl⟩
  go_wp2_with fail
  refine (lsLen_nil _).mono ?_
  rintro e w4 ⟨rfl, rfl⟩
  have hbz : Below w.heap.size w (w3.alloc (.cells #[.int .i64 0, .string ⟨#[]⟩, .int .i64 0, .bool false, .bool false, .bool false, .int .i64 0, .bool false] 34)) := HB3.out.alloc HB3.out.size _
  have hz : Lst (fun i => (w3.alloc (.cells #[.int .i64 0, .string ⟨#[]⟩, .int .i64 0, .bool false, .bool false, .bool false, .int .i64 0, .bool false] 34)).heap.size ≤ i) ((w3.alloc (.cells #[.int .i64 0, .string ⟨#[]⟩, .int .i64 0, .bool false, .bool false, .bool false, .int .i64 0, .bool false] 34)).alloc (.cells #[.pointer none, .slice none 0 0, .map none] 55)) (w3.alloc (.cells #[.int .i64 0, .string ⟨#[]⟩, .int .i64 0, .bool false, .bool false, .bool false, .int .i64 0, .bool false] 34)).heap.size [] := ⟨lsOk_nil, Nat.le_refl _, .inl ⟨rfl, Has.fresh _ _⟩⟩
  obtain ⟨S1, h1, -⟩ := liv_new (w0 := w) (lstOk (w3.alloc (.cells #[.int .i64 0, .string ⟨#[]⟩, .int .i64 0, .bool false, .bool false, .bool false, .int .i64 0, .bool false] 34)).heap.size []) hz hbz ((Below.refl _ (w3.alloc (.cells #[.int .i64 0, .string ⟨#[]⟩, .int .i64 0, .bool false, .bool false, .bool false, .int .i64 0, .bool false] 34))).alloc (Nat.le_refl _) _)
  rw [show (w3.alloc (.cells #[.int .i64 0, .string ⟨#[]⟩, .int .i64 0, .bool false, .bool false, .bool false, .int .i64 0, .bool false] 34)).heap.size = w3.heap.size + 1 by simp] at h1
  have H1 := Lib.hid h1
  clear hbz hz h1 HB3
  go_wp2_with fail
  refine (livAdd (xi := 0) (xt := ⟨#[120]⟩) (xc := 1) (xa := false) (xo := false) (xp := false) (xs := 0) (xr := false) (node := 1) H1.out (by decide) (by decide)).mono ?_
  rintro e w5 ⟨rfl, ⟨S2, h2, -⟩, -⟩
  rw [(addX_none false).1, addX_err [] false (by decide)]
  rw [(addX_none false).2] at h2
  have H2 := Lib.hid h2
  have HT := Lib.hid (lsAt_any 1 h2.rep (by omega) (by omega))
  unfold ptrL at HT
  clear h2 H1
  go_wp2_with fail
  refine HT.out.mono ?_
  rintro e w6 ⟨⟨v, rfl, hv⟩, hb6⟩
  obtain ⟨A, c, hA, -⟩ := hv.form
  rw [show (atLs [⟨1, ⟨#[120]⟩, 1, false, false, false, 0, false, 1⟩] 1).length = 1 from rfl] at hA
  have H6 := Lib.hid (H2.out.below.trans (hb6.mono H2.out.below.size))
  subst hA
  clear hv hb6 H2
  go_wp2
  go_ret
  exact ⟨rfl, H6.out⟩
--@end@
end
end Go.Proofs.Ytgdgmcehkhimpaa

namespace Go.Proofs.Ytgdgmcehkhimpaa
open Go.ChangeShapes Go.WideShapes Go.ChangeAt Go.RowKit

theorem own : ownKnob Try.prog.godebug = none := by kernel_rfl
theorem laidOut : laidOutB Try.prog = true := by kernel_rfl
theorem ib {a : Int} (h : (Lit.int .i64 a).wf = true) : -9223372036854775808 ≤ a ∧ a ≤ 9223372036854775807 := by
  have h1 : IntKind.i64.min = -9223372036854775808 := rfl
  have h2 : IntKind.i64.max = 9223372036854775807 := rfl
  simp only [Lit.wf, Bool.and_eq_true, decide_eq_true_eq, h1, h2] at h
  exact h
theorem ib8 {a : Int} (h : (Lit.int .u8 a).wf = true) : 0 ≤ a ∧ a ≤ 255 := by
  have h1 : IntKind.u8.min = 0 := rfl
  have h2 : IntKind.u8.max = 255 := rfl
  simp only [Lit.wf, Bool.and_eq_true, decide_eq_true_eq, h1, h2] at h
  exact h
theorem ib16 {a : Int} (h : (Lit.int .u16 a).wf = true) : 0 ≤ a ∧ a ≤ 65535 := by
  have h1 : IntKind.u16.min = 0 := rfl
  have h2 : IntKind.u16.max = 65535 := rfl
  simp only [Lit.wf, Bool.and_eq_true, decide_eq_true_eq, h1, h2] at h
  exact h
end Go.Proofs.Ytgdgmcehkhimpaa

namespace Go.Proofs.Ytgdgmcehkhimpaa
open Go.ChangeShapes Go.WideShapes Go.ChangeAt Go.RowKit
open Go.ChangeMaps (open_string shut_string)

set_option maxRecDepth 100000 in
theorem listenNone_lifted (os : Os) (started : os.Started) (H : Type) (enc : TypeId × Value → H) :
    ReturnsInHanded {} Try.checked os 4 .any (Rows.listenNoneSpec.pre6 enc Try.prog Try.f4 Rows.listenNoneRow.domain false) (Rows.listenNoneSpec.post enc Try.prog Try.f4 false true false false) := by
  refine returnsInHanded_of_change (C := Try.checked) own started (by kernel_rfl) Try.func4
    (ChangeSpec.witness6 (enc := enc) (C := Try.checked) false ⟨#[], #[.int .i64 0, .int .i64 0, .string ⟨#[]⟩], []⟩ 8 (by kernel_rfl) (by kernel_rfl) (by kernel_rfl) (by kernel_rfl)) ?_
  intro W base args ds gs before hval0 hW hcnd _
  have hval : ∀ (j : Nat) t v, Try.f4.params[j]? = some t → args[j]? = some v → Value.okWide Try.prog W .any base t v := hval0
  clear hval0 hcnd
  have hW' := hW
  obtain ⟨p, q, hA0, hV, rfl, hfz, hnd⟩ := hW
  have hA : DataW.TrodAll enc Try.prog W 0 (fun _ => true) true Try.f4.params.toList args.toList ds p := hA0
  rw [Try.params4] at hA hval
  obtain ⟨v0, vs0, d0, ds0, p0, q0, hargs, rfl, rfl, h0, r0⟩ := trodAll_cons hA
  obtain ⟨v1, vs1, d1, ds1, p1, q1, rfl, rfl, rfl, h1, r1⟩ := trodAll_cons r0
  obtain ⟨v2, vs2, d2, ds2, p2, q2, rfl, rfl, rfl, h2, r2⟩ := trodAll_cons r1
  obtain ⟨rfl, rfl, rfl⟩ := trodAll_nil r2
  obtain rfl : args = #[v0, v1, v2] := by cases args; simp_all
  obtain ⟨rfl, rfl⟩ := trodVars_none hV
  obtain ⟨a0, rfl, rfl, rfl, w0⟩ := open_int Try.underlying3 (hval 0 3 v0 rfl rfl) h0
  obtain ⟨a1, rfl, rfl, rfl, w1⟩ := open_int Try.underlying3 (hval 1 3 v1 rfl rfl) h1
  obtain ⟨s2, rfl, rfl, rfl, w2⟩ := open_string Try.underlying9 (hval 2 9 v2 rfl rfl) h2
  clear hA0
  refine (listenNone_any a0 a1 s2 W).mono fun e W' ⟨he, bel⟩ => ?_
  subst he
  exact ⟨_, rfl, _, _, _, [], _, [], hW', trodAll_mk1 (shut_bool Try.underlying4 _), (trodAll_cons_mk (shut_int Try.underlying3 w0) (trodAll_cons_mk (shut_int Try.underlying3 w1) (trodAll_cons_mk (shut_string Try.underlying9 w2) trodAll_mk0))), rfl, bel.frame _, fun h => by cases h⟩

theorem listenNone_holds : Rows.ListenNoneSaid :=
  OpenClaim.holds_of_wide 4 Try.f4 rfl rfl rfl rfl rfl rfl rfl ⟨rfl, rfl, rfl, rfl, rfl⟩ rfl rfl rfl rfl rfl (by kernel_rfl) Try.func4 (by kernel_rfl)
    (of_decide_eq_true (by kernel_rfl)) (by unfold Func.isWrapper; rw [if_neg (by decide +kernel)]; exact ⟨rfl, rfl⟩)
    (fun os started H enc _ => listenNone_lifted os started H enc)
end Go.Proofs.Ytgdgmcehkhimpaa
