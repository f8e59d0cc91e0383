/-
  What Add of package listen does.
  Lists that a law makes and changes; towncrierlaw12.awake and ListenNone.
  Arguments that came in, opened: lists of texts and of numbers. Facts of the program that every row's proof wants.
  Calls on lists of listeners that came in: a list of them, each with its three numbers and its listener, read cell by cell.
  What towncrierlaw12.ListenOrder does: it answers true.
  Proved: the law answers true for every input, and each argument reads afterwards as it read before. No condition.
-/
import Derived.Test.YtgdgmcehkhimpaaPartB
import Derived.Test.YtgdgmcehkhimpaaProg
import Derived.Test.YtgdgmcehkhimpaaChecked
import Derived.ProofKit
import Derived.OpenShut
import Derived.Test.YtgdgmcehkhimpaaRows
import Derived.ChangeOld

namespace Go.Proofs.Ytgdgmcehkhimpaa
open Go Go.RowKit

section
variable {S : Nat → Prop} {w : World} {b : Nat} {B : List Ls} {xi xc xs node : Int} {xt : ByteArray} {xa xo xp xr : Bool}
theorem lsErr_not (h : fitB node xt xc xs = false) : lsErr B node (⟨xi, xt, xc, xa, xo, xp, xs, xr, 0⟩ : Ls) = 1 := by
  unfold lsErr
  refine if_pos ?_
  unfold fitB at h
  rw [Bool.and_eq_false_iff, Bool.and_eq_false_iff, Bool.and_eq_false_iff, decide_eq_false_iff_not, decide_eq_false_iff_not, decide_eq_false_iff_not] at h
  rcases h with ((h | h) | h) | h
  · exact .inl (by omega)
  · exact .inr (.inl (by show xc < 1; omega))
  · exact .inr (.inr (.inl (by show xs < 0; omega)))
  · exact .inr (.inr (.inr h))
theorem lsErr_fit (h : fitB node xt xc xs = true) : lsErr B node (⟨xi, xt, xc, xa, xo, xp, xs, xr, 0⟩ : Ls) = if 512 ≤ B.length then 9 else 0 := by
  unfold lsErr
  refine if_neg ?_
  unfold fitB at h
  rw [Bool.and_eq_true, Bool.and_eq_true, Bool.and_eq_true, decide_eq_true_iff, decide_eq_true_iff, decide_eq_true_iff] at h
  obtain ⟨⟨⟨h1, h2⟩, h3⟩, h4⟩ := h
  rintro (h' | h' | h' | h')
  · omega
  · have : xc < 1 := h'
    omega
  · have : xs < 0 := h'
    omega
  · have : rightL xt.data.toList = false := h'
    rw [h4] at this
    cases this
theorem fit_node (h : fitB node xt xc xs = true) : 1 ≤ node := by
  unfold fitB at h
  rw [Bool.and_eq_true, Bool.and_eq_true, Bool.and_eq_true, decide_eq_true_iff] at h
  exact h.1.1.1
theorem not_goes {v : Int} {x : Ls} (h : lsGoes B v x = false) : lsNo B v x = 0 ∧ addLs B v x = B := by
  unfold lsNo addLs
  rw [h]
  exact ⟨if_neg (by decide), if_neg (by decide)⟩
theorem goes {v : Int} {x : Ls} (h : lsGoes B v x = true) : lsNo B v x = (B.length : Int) + 1 ∧ addLs B v x = B ++ [⟨(B.length : Int) + 1, x.typ, x.cb, x.cap, x.once, x.pas, x.sig, false, v⟩] := by
  unfold lsNo addLs
  rw [h]
  exact ⟨if_pos rfl, if_pos rfl⟩
theorem lsAdd_nil (w : World) : Calls Try.prog 8 #[.pointer none, .int .i64 node, .agg #[.int .i64 xi, .string xt, .int .i64 xc, .bool xa, .bool xo, .bool xp, .int .i64 xs, .bool xr]] w fun e w' => e = .returned (.tuple #[.int .i64 0, .int .i64 1]) ∧ Below w.heap.size w w' := by
  have hb : Below w.heap.size w (w.alloc (.cells #[.int .i64 xi, .string xt, .int .i64 xc, .bool xa, .bool xo, .bool xp, .int .i64 xs, .bool xr] 34)) := (Below.refl _ w).alloc (Nat.le_refl _) _
  have HB := Lib.hid hb
  clear hb
  go_enter Try.func8, Try.ntmps8
  go_wp2
  go_ret2
  exact ⟨rfl, HB.out⟩
/-- A number, an error's number, and the lists then. -/
def Added (S : Nat → Prop) (w : World) (b : Nat) (B : List Ls) (v : Int) (x : Ls) (e : Ending) (w' : World) : Prop := e = .returned (.tuple #[.int .i64 (lsNo B v x), .int .i64 (lsErr B v x)]) ∧ Lst S w' b (addLs B v x) ∧ Keeps S w w'
theorem Added.not {v : Int} {x : Ls} {w' : World} {z : Int} (he : lsErr B v x = z) (hg : lsGoes B v x = false) (h : Lst S w b B) (hb : Below w.heap.size w w') : Added S w b B v x (.returned (.tuple #[.int .i64 0, .int .i64 z])) w' := by
  obtain ⟨h1, h2⟩ := not_goes hg
  unfold Added
  rw [h1, h2, he]
  exact ⟨rfl, h.below hb, Keeps.of_below hb fun i hi hle => by omega⟩
set_option maxHeartbeats 4000000 in
theorem lsAdd (h : Lst S w b B) (hS : Fut S w.heap.size) (hn : -9223372036854775808 ≤ node ∧ node ≤ 9223372036854775807) (ht : xt.size ≤ 9223372036854775807) :
    Calls Try.prog 8 #[ptrL b, .int .i64 node, .agg #[.int .i64 xi, .string xt, .int .i64 xc, .bool xa, .bool xo, .bool xp, .int .i64 xs, .bool xr]] w (Added S w b B node (⟨xi, xt, xc, xa, xo, xp, xs, xr, 0⟩ : Ls)) := by
  have hnot : ∀ (x : Bool) (w : World), (Op.unary .not (.bool x)).run Try.prog w = .ok (.bool (!x)) w := fun _ _ => rfl
  have hb0 : Below w.heap.size w (w.alloc (.cells #[.int .i64 xi, .string xt, .int .i64 xc, .bool xa, .bool xo, .bool xp, .int .i64 xs, .bool xr] 34)) := (Below.refl _ w).alloc (Nat.le_refl _) _
  have hbox0 : Has (w.alloc (.cells #[.int .i64 xi, .string xt, .int .i64 xc, .bool xa, .bool xo, .bool xp, .int .i64 xs, .bool xr] 34)) w.heap.size (.cells #[.int .i64 xi, .string xt, .int .i64 xc, .bool xa, .bool xo, .bool xp, .int .i64 xs, .bool xr] 34 (0, 0)) := Has.fresh _ _
  have HF := Lib.hid (lsFits (node := node) (w := (w.alloc (.cells #[.int .i64 xi, .string xt, .int .i64 xc, .bool xa, .bool xo, .bool xp, .int .i64 xs, .bool xr] 34))) (xi := xi) (xc := xc) (xs := xs) (xa := xa) (xo := xo) (xp := xp) (xr := xr) ht)
  have H := Lib.hid h
  have HB0 := Lib.hid hb0
  have HX0 := Lib.hid hbox0
  have HS := Lib.hid hS
  clear h hS hb0 hbox0
  cases hf : fitB node xt xc xs with
  | false =>
    have he := lsErr_not (B := B) (xi := xi) (xa := xa) (xo := xo) (xp := xp) (xr := xr) hf
    have hg : lsGoes B node (⟨xi, xt, xc, xa, xo, xp, xs, xr, 0⟩ : Ls) = false := by unfold lsGoes; rw [he]; rfl
    rw [hf] at HF
    have HE := Lib.hid he
    have HG := Lib.hid hg
    clear he hg hf
    unfold ptrL
    go_enter Try.func8, Try.ntmps8
    go_wp2_with fail
    refine HF.out.mono ?_
    rintro e w1 ⟨rfl, hb1⟩
    have HB1 := Lib.hid (HB0.out.trans (hb1.mono HB0.out.size))
    clear hb1
    go_wp2
    go_ret2
    exact Added.not HE.out HG.out H.out HB1.out
  | true =>
    have hn1 := fit_node hf
    have he := lsErr_fit (B := B) (xi := xi) (xa := xa) (xo := xo) (xp := xp) (xr := xr) hf
    rw [hf] at HF
    clear hf
    have HL : Hid (∀ W, Below w.heap.size w W → Calls Try.prog 17 #[.pointer (some ⟨b, 0, none⟩)] W fun e w' => e = .returned (.int .i64 B.length) ∧ ∃ n, w' = W.drewN n) := Lib.hid fun W hW => lsLen (H.out.below hW)
    by_cases hfull : 512 ≤ B.length
    · rw [if_pos hfull] at he
      have hg : lsGoes B node (⟨xi, xt, xc, xa, xo, xp, xs, xr, 0⟩ : Ls) = false := by unfold lsGoes; rw [he]; rfl
      have hge : decide ((512 : Int) ≤ (B.length : Int)) = true := decide_eq_true (by omega)
      have HE := Lib.hid he
      have HG := Lib.hid hg
      clear he hg hfull
      unfold ptrL
      go_enter Try.func8, Try.ntmps8
      go_wp2_with fail
      refine HF.out.mono ?_
      rintro e w1 ⟨rfl, hb1⟩
      have HB1 := Lib.hid (HB0.out.trans (hb1.mono HB0.out.size))
      clear hb1
      go_wp2_with fail
      refine (HL.out w1 HB1.out).mono ?_
      rintro e w2 ⟨rfl, n2, rfl⟩
      have HB2 := Lib.hid (below_draws HB1.out n2)
      go_wp2
      go_ret2
      exact Added.not HE.out HG.out H.out HB2.out
    · rw [if_neg hfull] at he
      have hge : decide ((512 : Int) ≤ (B.length : Int)) = false := decide_eq_false (by omega)
      have HQ : Hid (∀ W, Below w.heap.size w W → Calls Try.prog 12 #[.pointer (some ⟨b, 0, none⟩), .int .i64 node, .string xt, .int .i64 xc, .bool xa] W fun e w' => e = .returned (.int .i64 (findLs B node xt xc xa)) ∧ Below W.heap.size W w') := Lib.hid fun W hW => lsFind_any node xc xt xa (H.out.below hW) hn.1 hn.2
      have HE := Lib.hid he
      clear he
      by_cases hz : findLs B node xt xc xa = 0
      · have hg : lsGoes B node (⟨xi, xt, xc, xa, xo, xp, xs, xr, 0⟩ : Ls) = true := by
          unfold lsGoes
          rw [HE.out]
          show (decide ((0 : Int) = 0) && decide (findLs B node xt xc xa = 0)) = true
          rw [hz]
          rfl
        rw [hz] at HQ
        have HK : Hid (∀ W, Below w.heap.size w W → Calls Try.prog 21 #[.pointer (some ⟨b, 0, none⟩), .int .i64 node, .agg #[.int .i64 xi, .string xt, .int .i64 xc, .bool xa, .bool xo, .bool xp, .int .i64 xs, .bool xr]] W fun e w' => e = .returned (.int .i64 ((B.length : Int) + 1)) ∧ Added S w b B node (⟨xi, xt, xc, xa, xo, xp, xs, xr, 0⟩ : Ls) (.returned (.tuple #[.int .i64 ((B.length : Int) + 1), .int .i64 0])) w') := Lib.hid fun W hW => by
          refine (lsKeep (node := node) (xi := xi) (xr := xr) B.length rfl (H.out.below hW) (HS.out.mono hW.size) (by omega) hn1 hn.2).mono ?_
          rintro e w' ⟨rfl, hL, hk⟩
          refine ⟨rfl, ?_⟩
          obtain ⟨h1, h2⟩ := goes hg
          unfold Added
          rw [h1, HE.out]
          refine ⟨rfl, ⟨lsOk_add H.out.ok hn.2, H.out.2.1, .inr ?_⟩, (Keeps.of_below hW fun i hi hle => by omega).also hk⟩
          rw [h2, idsL_add rfl, List.length_append]
          exact hL
        clear hg hz hfull
        unfold ptrL
        go_enter Try.func8, Try.ntmps8
        go_wp2_with fail
        refine HF.out.mono ?_
        rintro e w1 ⟨rfl, hb1⟩
        have HX1 := Lib.hid (HX0.out.below hb1 HX0.out.inside)
        have HB1 := Lib.hid (HB0.out.trans (hb1.mono HB0.out.size))
        clear hb1
        go_wp2_with fail
        refine (HL.out w1 HB1.out).mono ?_
        rintro e w2 ⟨rfl, n2, rfl⟩
        have HB2 := Lib.hid (below_draws HB1.out n2)
        have HX2 : Hid (Has (w1.drewN n2) w.heap.size (.cells #[.int .i64 xi, .string xt, .int .i64 xc, .bool xa, .bool xo, .bool xp, .int .i64 xs, .bool xr] 34 (0, 0))) := Lib.hid HX1.out
        obtain ⟨W2, hW2⟩ : ∃ W2, W2 = w1.drewN n2 := ⟨_, rfl⟩
        rw [← hW2] at HB2 HX2 ⊢
        clear hW2 HX1 HB1
        have x1 := HX2.out.cell 1
        have x2 := HX2.out.cell 2
        have x3 := HX2.out.cell 3
        go_wp2_with fail
        refine (HQ.out W2 HB2.out).mono ?_
        rintro e w3 ⟨rfl, hb3⟩
        have hx3 := HX2.out.below hb3 HX2.out.inside
        have HB3 := Lib.hid (HB2.out.trans (hb3.mono HB2.out.size))
        have y0 := hx3.cell 0
        have y1 := hx3.cell 1
        have y2 := hx3.cell 2
        have y3 := hx3.cell 3
        have y4 := hx3.cell 4
        have y5 := hx3.cell 5
        have y6 := hx3.cell 6
        have y7 := hx3.cell 7
        clear hx3 hb3 x1 x2 x3
        go_wp2_with fail
        refine (HK.out w3 HB3.out).mono ?_
        rintro e w4 ⟨rfl, hA⟩
        have HA := Lib.hid hA
        clear hA
        go_wp2
        go_ret2
        exact HA.out
      · have hg : lsGoes B node (⟨xi, xt, xc, xa, xo, xp, xs, xr, 0⟩ : Ls) = false := by
          unfold lsGoes
          rw [HE.out]
          show (decide ((0 : Int) = 0) && decide (findLs B node xt xc xa = 0)) = false
          rw [decide_eq_false hz]
          rfl
        obtain ⟨r, hr⟩ : ∃ r, r = findLs B node xt xc xa := ⟨_, rfl⟩
        rw [← hr] at hz HQ
        have hz1 : (r != 0) = true := by simpa using hz
        have hz2 : (r == 0) = false := by simpa using hz
        have HG := Lib.hid hg
        clear hg hr hfull hz
        unfold ptrL
        go_enter Try.func8, Try.ntmps8
        go_wp2_with fail
        refine HF.out.mono ?_
        rintro e w1 ⟨rfl, hb1⟩
        have HX1 := Lib.hid (HX0.out.below hb1 HX0.out.inside)
        have HB1 := Lib.hid (HB0.out.trans (hb1.mono HB0.out.size))
        clear hb1
        go_wp2_with fail
        refine (HL.out w1 HB1.out).mono ?_
        rintro e w2 ⟨rfl, n2, rfl⟩
        have HB2 := Lib.hid (below_draws HB1.out n2)
        have HX2 : Hid (Has (w1.drewN n2) w.heap.size (.cells #[.int .i64 xi, .string xt, .int .i64 xc, .bool xa, .bool xo, .bool xp, .int .i64 xs, .bool xr] 34 (0, 0))) := Lib.hid HX1.out
        obtain ⟨W2, hW2⟩ : ∃ W2, W2 = w1.drewN n2 := ⟨_, rfl⟩
        rw [← hW2] at HB2 HX2 ⊢
        clear hW2 HX1 HB1
        have x1 := HX2.out.cell 1
        have x2 := HX2.out.cell 2
        have x3 := HX2.out.cell 3
        go_wp2_with fail
        refine (HQ.out W2 HB2.out).mono ?_
        rintro e w3 ⟨rfl, hb3⟩
        have HB3 := Lib.hid (HB2.out.trans (hb3.mono HB2.out.size))
        clear hb3 x1 x2 x3
        go_wp2
        go_ret2
        exact Added.not HE.out HG.out H.out HB3.out
end
end Go.Proofs.Ytgdgmcehkhimpaa

namespace Go.Proofs.Ytgdgmcehkhimpaa
open Go Go.RowKit

/-- What stands in blocks that S names stays while others turn. -/
structure RepOk (Rep : (Nat → Prop) → World → Prop) : Prop where
  keep : ∀ {S F : Nat → Prop} {w w' : World}, Rep S w → Keeps F w w' → (∀ i, S i → i < w.heap.size → ¬ F i) → Rep S w'
  wide : ∀ {S S' : Nat → Prop} {w : World}, Rep S w → (∀ i, S i → i < w.heap.size → S' i) → Rep S' w
/-- .. in blocks that were made since w0. -/
structure Liv (Rep : (Nat → Prop) → World → Prop) (w0 : World) (S : Nat → Prop) (w : World) : Prop where
  rep : Rep S w
  low : ∀ i, S i → w0.heap.size ≤ i ∧ i < w.heap.size
  below : Below w0.heap.size w0 w
/-- The blocks of S, and all new ones. -/
abbrev more (S : Nat → Prop) (w : World) (i : Nat) : Prop := S i ∨ w.heap.size ≤ i
section
variable {Rep Rep' : (Nat → Prop) → World → Prop} {w0 w w' : World} {S F : Nat → Prop}
theorem Liv.next (O : RepOk Rep) (h : Liv Rep w0 S w) (hb : Below w.heap.size w w') : Liv Rep w0 S w' :=
  ⟨O.keep h.rep (Keeps.of_below (F := fun i => w.heap.size ≤ i) hb fun _ _ h => h) fun _ _ hi => Nat.not_le.2 hi, fun i hi => ⟨(h.low i hi).1, Nat.lt_of_lt_of_le (h.low i hi).2 hb.size⟩, h.below.trans (hb.mono h.below.size)⟩
theorem Liv.keep (O : RepOk Rep) (h : Liv Rep w0 S w) (k : Keeps F w w') (hF : ∀ i, S i → ¬ F i) (hw : ∀ i, i < w0.heap.size → ¬ F i) : Liv Rep w0 S w' :=
  ⟨O.keep h.rep k fun i hi _ => hF i hi, fun i hi => ⟨(h.low i hi).1, Nat.lt_of_lt_of_le (h.low i hi).2 k.grows⟩, below_then h.below k h.below.size hw⟩
theorem Liv.more (O : RepOk Rep) (h : Liv Rep w0 S w) : Rep (more S w) w := O.wide h.rep fun _ hi _ => .inl hi
theorem liv_new (O : RepOk Rep) {w1 : World} (h : Rep (fun i => w1.heap.size ≤ i) w) (hw : Below w0.heap.size w0 w1) (hb : Below w1.heap.size w1 w) : ∃ S, Liv Rep w0 S w ∧ ∀ i, i < w1.heap.size → ¬ S i :=
  ⟨fun i => w1.heap.size ≤ i ∧ i < w.heap.size, ⟨O.wide h fun _ hi hlt => ⟨hi, hlt⟩, fun _ hi => ⟨Nat.le_trans hw.size hi.1, hi.2⟩, hw.trans (hb.mono hw.size)⟩, fun i hi hS => by omega⟩
/-- A change. -/
theorem Liv.turned (O : RepOk Rep') (h : Liv Rep w0 S w) (hR : Rep' (Go.Proofs.Ytgdgmcehkhimpaa.more S w) w') (hk : Keeps (Go.Proofs.Ytgdgmcehkhimpaa.more S w) w w') :
    (∃ S', Liv Rep' w0 S' w' ∧ ∀ i, i < w.heap.size → ¬ S i → ¬ S' i) ∧ Keeps S w w' := by
  have hk' : Keeps S w w' := hk.wide fun i hi hh => hh.resolve_right (Nat.not_le.2 hi)
  refine ⟨⟨fun i => Go.Proofs.Ytgdgmcehkhimpaa.more S w i ∧ i < w'.heap.size, ⟨O.wide hR fun _ hi hlt => ⟨hi, hlt⟩, fun i hi => ⟨?_, hi.2⟩, below_then h.below hk' h.below.size fun i hi hS => ?_⟩, fun i hi hn hh => ?_⟩, hk'⟩
  · rcases hi.1 with h1 | h1
    · exact (h.low i h1).1
    · exact Nat.le_trans h.below.size h1
  · have := (h.low i hS).1
    omega
  · rcases hh.1 with h1 | h1
    · exact hn h1
    · omega
end
theorem lstOk (b : Nat) (B : List Ls) : RepOk fun S w => Lst S w b B := ⟨fun h k hF => h.kept k hF, fun h hS => h.wide hS⟩

section
variable {w0 w : World} {S : Nat → Prop} {b : Nat} {B : List Ls} {xi xc xs node : Int} {xt : ByteArray} {xa xo xp xr : Bool}
abbrev LivL (w0 : World) (S : Nat → Prop) (b : Nat) (B : List Ls) (w : World) : Prop := Liv (fun S w => Lst S w b B) w0 S w
theorem livAdd (h : LivL w0 S b B w) (hn : -9223372036854775808 ≤ node ∧ node ≤ 9223372036854775807) (ht : xt.size ≤ 9223372036854775807) :
    Calls Try.prog 8 #[ptrL b, .int .i64 node, .agg #[.int .i64 xi, .string xt, .int .i64 xc, .bool xa, .bool xo, .bool xp, .int .i64 xs, .bool xr]] w fun e w' => e = .returned (.tuple #[.int .i64 (lsNo B node ⟨xi, xt, xc, xa, xo, xp, xs, xr, 0⟩), .int .i64 (lsErr B node ⟨xi, xt, xc, xa, xo, xp, xs, xr, 0⟩)]) ∧
      (∃ S', LivL w0 S' b (addLs B node ⟨xi, xt, xc, xa, xo, xp, xs, xr, 0⟩) w' ∧ ∀ i, i < w.heap.size → ¬ S i → ¬ S' i) ∧ Keeps S w w' :=
  (lsAdd (h.more (lstOk b B)) (fun _ hi => .inr hi) hn ht).mono fun _ _ ⟨he, hR, hk⟩ => ⟨he, h.turned (lstOk b _) hR hk⟩
theorem livKill (i : Int) (h : LivL w0 S b B w) : Calls Try.prog 10 #[ptrL b, .int .i64 i] w fun e w' => e = .returned (.bool (lsAlive B i)) ∧ (∃ S', LivL w0 S' b (killLs B i) w' ∧ ∀ i, i < w.heap.size → ¬ S i → ¬ S' i) ∧ Keeps S w w' :=
  (lsKill i (h.more (lstOk b B))).mono fun _ _ ⟨he, hR, hk⟩ => ⟨he, h.turned (lstOk b _) hR hk⟩
end

theorem right_x : rightL (⟨#[120]⟩ : ByteArray).data.toList = true := by decide
theorem addX_err (B : List Ls) (o : Bool) (hB : B.length < 512) : lsErr B 1 ⟨0, ⟨#[120]⟩, 1, false, o, false, 0, false, 0⟩ = 0 := by
  unfold lsErr
  rw [if_neg, if_neg (by omega)]
  rintro (h | h | h | h)
  · omega
  · have h' : (1 : Int) < 1 := h
    omega
  · have h' : (0 : Int) < 0 := h
    omega
  · have := right_x
    rw [show rightL _ = false from h] at this
    cases this
theorem addX_none (o : Bool) : lsNo [] 1 ⟨0, ⟨#[120]⟩, 1, false, o, false, 0, false, 0⟩ = 1 ∧ addLs [] 1 ⟨0, ⟨#[120]⟩, 1, false, o, false, 0, false, 0⟩ = [⟨1, ⟨#[120]⟩, 1, false, o, false, 0, false, 1⟩] := by
  have hg : lsGoes [] 1 ⟨0, ⟨#[120]⟩, 1, false, o, false, 0, false, 0⟩ = true := by
    unfold lsGoes
    rw [addX_err [] o (by decide)]
    rfl
  exact goes hg
theorem addX_twice (o o' : Bool) : lsNo [⟨1, ⟨#[120]⟩, 1, false, o, false, 0, false, 1⟩] 1 ⟨0, ⟨#[120]⟩, 1, false, o', false, 0, false, 0⟩ = 0 ∧ addLs [⟨1, ⟨#[120]⟩, 1, false, o, false, 0, false, 1⟩] 1 ⟨0, ⟨#[120]⟩, 1, false, o', false, 0, false, 0⟩ = [⟨1, ⟨#[120]⟩, 1, false, o, false, 0, false, 1⟩] := by
  have hf : findLs [⟨1, ⟨#[120]⟩, 1, false, o, false, 0, false, 1⟩] 1 ⟨#[120]⟩ 1 false = 1 := by
    refine find_hit (i := 0) (x := ⟨1, ⟨#[120]⟩, 1, false, o, false, 0, false, 1⟩) rfl ?_ fun j y hj => by omega
    simp [lsIs]
  refine not_goes ?_
  unfold lsGoes
  show (_ && decide (findLs _ 1 ⟨#[120]⟩ 1 false = 0)) = false
  rw [hf, show decide ((1 : Int) = 0) = false from by decide, Bool.and_false]
section
set_option maxHeartbeats 1000000 in
theorem awake12 (w : World) : Calls Try.prog 6 #[] w fun e w' => e = .returned (.bool true) ∧ Below w.heap.size w w' := by
  go_enter Try.func6, Try.ntmps6
  go_wp2_with fail
  refine (lsNew (fun i => w.heap.size ≤ i) w (fun _ h => h)).mono ?_
  rintro e w1 ⟨rfl, hL1, hb1⟩
  obtain ⟨S1, h1, -⟩ := liv_new (w0 := w) (lstOk w.heap.size []) hL1 (Below.refl _ w) hb1
  have H1 := Lib.hid h1
  obtain ⟨b, hb⟩ : ∃ b, b = w.heap.size := ⟨_, rfl⟩
  rw [← hb] at H1
  rw [← hb]
  clear hL1 hb1 h1 hb
  go_wp2_with fail
  refine (livAdd (xi := 0) (xt := ⟨#[120]⟩) (xc := 1) (xa := false) (xo := false) (xp := false) (xs := 0) (xr := false) (node := 1) H1.out (by decide) (by decide)).mono ?_
  rintro e w2 ⟨rfl, ⟨S2, h2, -⟩, -⟩
  rw [(addX_none false).1, addX_err [] false (by decide)]
  rw [(addX_none false).2] at h2
  have H2 := Lib.hid h2
  clear h2 H1
  go_wp2_with fail
  refine (livAdd (xi := 0) (xt := ⟨#[120]⟩) (xc := 1) (xa := false) (xo := true) (xp := false) (xs := 0) (xr := false) (node := 1) H2.out (by decide) (by decide)).mono ?_
  rintro e w3 ⟨rfl, ⟨S3, h3, -⟩, -⟩
  rw [(addX_twice false true).1, addX_err _ true (by decide)]
  have H3 := Lib.hid h3.below
  clear h3 H2
  go_wp2
  go_ret
  exact ⟨rfl, H3.out⟩
--@if towncrierlaw12.ListenNone@
set_option maxHeartbeats 8000000 in
theorem listenNone_any (node id : Int) (s : ByteArray) (w : World) : Calls Try.prog 4 #[.int .i64 node, .int .i64 id, .string s] w fun e w' => e = .returned (.bool true) ∧ Below w.heap.size w w' := by
  have hnot : ∀ (x : Bool) (w : World), (Op.unary .not (.bool x)).run Try.prog w = .ok (.bool (!x)) w := fun _ _ => rfl
  have HA := Lib.hid (awake12 w)
  go_enter Try.func4, Try.ntmps4
  go_wp2_with fail
  refine HA.out.mono ?_
  rintro e w1 ⟨rfl, hb1⟩
  have HB1 := Lib.hid hb1
  clear hb1 HA
  go_wp2_with fail
  refine (lsAdd_nil (node := 1) (xi := 0) (xt := ⟨#[120]⟩) (xc := 1) (xa := false) (xo := false) (xp := false) (xs := 0) (xr := false) w1).mono ?_
  rintro e w2 ⟨rfl, hb2⟩
  have HB2 := Lib.hid (HB1.out.trans (hb2.mono HB1.out.size))
  clear hb2 HB1
  go_wp2_with fail
  refine (lsGet_nil id w2).mono ?_
  rintro e w3 ⟨rfl, hb3⟩
  have HB3 := Lib.hid (HB2.out.trans (hb3.mono HB2.out.size))
  clear hb3 HB2
  unfold Ls.agg Ls.zero
  go_wp2_with fail
  refine (lsFindNil node 1 s true _).mono ?_
  rintro e w4 ⟨rfl, rfl⟩
  go_wp2_with fail
  refine (lsKill_nil id _).mono ?_
  rintro e w4 ⟨rfl, rfl⟩
  go_wp2_with fail
  refine (lsAtNil node _).mono ?_
  rintro e w4 ⟨rfl, rfl⟩
  go_wp2_with fail
  refine (lsWhere_nil id _).mono ?_
  rintro e w4 ⟨rfl, rfl⟩
  go_wp2_with fail
  refine (lsLen_nil _).mono ?_
  rintro e w4 ⟨rfl, rfl⟩
  have hbz : Below w.heap.size w (w3.alloc (.cells #[.int .i64 0, .string ⟨#[]⟩, .int .i64 0, .bool false, .bool false, .bool false, .int .i64 0, .bool false] 34)) := HB3.out.alloc HB3.out.size _
  have hz : Lst (fun i => (w3.alloc (.cells #[.int .i64 0, .string ⟨#[]⟩, .int .i64 0, .bool false, .bool false, .bool false, .int .i64 0, .bool false] 34)).heap.size ≤ i) ((w3.alloc (.cells #[.int .i64 0, .string ⟨#[]⟩, .int .i64 0, .bool false, .bool false, .bool false, .int .i64 0, .bool false] 34)).alloc (.cells #[.pointer none, .slice none 0 0, .map none] 55)) (w3.alloc (.cells #[.int .i64 0, .string ⟨#[]⟩, .int .i64 0, .bool false, .bool false, .bool false, .int .i64 0, .bool false] 34)).heap.size [] := ⟨lsOk_nil, Nat.le_refl _, .inl ⟨rfl, Has.fresh _ _⟩⟩
  obtain ⟨S1, h1, -⟩ := liv_new (w0 := w) (lstOk (w3.alloc (.cells #[.int .i64 0, .string ⟨#[]⟩, .int .i64 0, .bool false, .bool false, .bool false, .int .i64 0, .bool false] 34)).heap.size []) hz hbz ((Below.refl _ (w3.alloc (.cells #[.int .i64 0, .string ⟨#[]⟩, .int .i64 0, .bool false, .bool false, .bool false, .int .i64 0, .bool false] 34))).alloc (Nat.le_refl _) _)
  rw [show (w3.alloc (.cells #[.int .i64 0, .string ⟨#[]⟩, .int .i64 0, .bool false, .bool false, .bool false, .int .i64 0, .bool false] 34)).heap.size = w3.heap.size + 1 by simp] at h1
  have H1 := Lib.hid h1
  clear hbz hz h1 HB3
  go_wp2_with fail
  refine (livAdd (xi := 0) (xt := ⟨#[120]⟩) (xc := 1) (xa := false) (xo := false) (xp := false) (xs := 0) (xr := false) (node := 1) H1.out (by decide) (by decide)).mono ?_
  rintro e w5 ⟨rfl, ⟨S2, h2, -⟩, -⟩
  rw [(addX_none false).1, addX_err [] false (by decide)]
  rw [(addX_none false).2] at h2
  have H2 := Lib.hid h2
  have HT := Lib.hid (lsAt_any 1 h2.rep (by omega) (by omega))
  unfold ptrL at HT
  clear h2 H1
  go_wp2_with fail
  refine HT.out.mono ?_
  rintro e w6 ⟨⟨v, rfl, hv⟩, hb6⟩
  obtain ⟨A, c, hA, -⟩ := hv.form
  rw [show (atLs [⟨1, ⟨#[120]⟩, 1, false, false, false, 0, false, 1⟩] 1).length = 1 from rfl] at hA
  have H6 := Lib.hid (H2.out.below.trans (hb6.mono H2.out.below.size))
  subst hA
  clear hv hb6 H2
  go_wp2
  go_ret
  exact ⟨rfl, H6.out⟩
--@end@
end
end Go.Proofs.Ytgdgmcehkhimpaa

namespace Go.Proofs.Ytgdgmcehkhimpaa
open Go.ChangeShapes Go.WideShapes Go.ChangeAt Go.RowKit

theorem own : ownKnob Try.prog.godebug = none := by kernel_rfl
theorem laidOut : laidOutB Try.prog = true := by kernel_rfl
theorem ib {a : Int} (h : (Lit.int .i64 a).wf = true) : -9223372036854775808 ≤ a ∧ a ≤ 9223372036854775807 := by
  have h1 : IntKind.i64.min = -9223372036854775808 := rfl
  have h2 : IntKind.i64.max = 9223372036854775807 := rfl
  simp only [Lit.wf, Bool.and_eq_true, decide_eq_true_eq, h1, h2] at h
  exact h
theorem ib8 {a : Int} (h : (Lit.int .u8 a).wf = true) : 0 ≤ a ∧ a ≤ 255 := by
  have h1 : IntKind.u8.min = 0 := rfl
  have h2 : IntKind.u8.max = 255 := rfl
  simp only [Lit.wf, Bool.and_eq_true, decide_eq_true_eq, h1, h2] at h
  exact h
theorem ib16 {a : Int} (h : (Lit.int .u16 a).wf = true) : 0 ≤ a ∧ a ≤ 65535 := by
  have h1 : IntKind.u16.min = 0 := rfl
  have h2 : IntKind.u16.max = 65535 := rfl
  simp only [Lit.wf, Bool.and_eq_true, decide_eq_true_eq, h1, h2] at h
  exact h
end Go.Proofs.Ytgdgmcehkhimpaa

namespace Go.Proofs.Ytgdgmcehkhimpaa
open Go Go.ChangeShapes Go.WideShapes Go.ChangeAt Go.RowKit

/-- A call on lists. -/
structure Lcal where
  kind : Int
  node : Int
  id : Int
  x : Ls
def Lcal.cells (c : Lcal) : List Value := .int .i64 c.kind :: .int .i64 c.node :: .int .i64 c.id :: c.x.cells
/-- A call that came in, at its place. -/
def LcalAt (w : World) (A : Option Addr) (i : Nat) (c : Lcal) : Prop := ∃ b off, A = some ⟨b, off, none⟩ ∧ b < w.heap.size ∧ (∀ f, f < 11 → w.cell? ⟨b, off + i * 11 + f, none⟩ = c.cells[f]?) ∧ c.x.typ.size ≤ 9223372036854775807 ∧ (-9223372036854775808 ≤ c.node ∧ c.node ≤ 9223372036854775807)
def Lcals (w : World) (A : Option Addr) (xs : List Lcal) : Prop := ∀ i (h : i < xs.length), LcalAt w A i xs[i]
theorem Lcals.below {w w' : World} {A : Option Addr} {xs : List Lcal} (h : Lcals w A xs) (hb : Below w.heap.size w w') : Lcals w' A xs := fun i hi => by
  obtain ⟨b, off, e, hB, hc, h1, h2⟩ := h i hi
  exact ⟨b, off, e, Nat.lt_of_lt_of_le hB hb.size, fun f hf => (hb.cell (p := ⟨b, _, none⟩) hB).trans (hc f hf), h1, h2⟩
/-- .. written out. -/
theorem eleven_of {w : World} {b o : Nat} {c : Lcal} (h : ∀ f, f < 11 → w.cell? ⟨b, o + f, none⟩ = c.cells[f]?) : (w.cell? ⟨b, o, none⟩ = some (.int .i64 c.kind) ∧ w.cell? ⟨b, o + 1, none⟩ = some (.int .i64 c.node) ∧ w.cell? ⟨b, o + 2, none⟩ = some (.int .i64 c.id)) ∧
    w.cell? ⟨b, o + 3, none⟩ = some (.int .i64 c.x.id) ∧ w.cell? ⟨b, o + 4, none⟩ = some (.string c.x.typ) ∧ w.cell? ⟨b, o + 5, none⟩ = some (.int .i64 c.x.cb) ∧ w.cell? ⟨b, o + 6, none⟩ = some (.bool c.x.cap) ∧ w.cell? ⟨b, o + 7, none⟩ = some (.bool c.x.once) ∧ w.cell? ⟨b, o + 8, none⟩ = some (.bool c.x.pas) ∧ w.cell? ⟨b, o + 9, none⟩ = some (.int .i64 c.x.sig) ∧ w.cell? ⟨b, o + 10, none⟩ = some (.bool c.x.rem) :=
  ⟨⟨h 0 (by decide), h 1 (by decide), h 2 (by decide)⟩, h 3 (by decide), h 4 (by decide), h 5 (by decide), h 6 (by decide), h 7 (by decide), h 8 (by decide), h 9 (by decide), h 10 (by decide)⟩
section
variable {H : Type} {enc : TypeId × Value → H} {W : World} {sp : Nat → Bool} {held : Bool} {fuel : Nat} {cs : List Value} {y : DataW H × List MemPlace}
theorem opts_in (h : DataW.trod enc Try.prog W 0 sp held fuel 32 cs = some y) : ∃ (a o p : Bool) (s : Int), cs = [.bool a, .bool o, .bool p, .int .i64 s] := by
  obtain ⟨xs, n, _, _, hlen, hxl, hf⟩ := DataW.trod_struct Try.underlying32 h
  have h4 : cs.length = 4 := hlen.trans (by kernel_rfl)
  have hxl' : xs.length = 4 := hxl
  have one : Try.prog.cellsOf 3 = 1 := by kernel_rfl
  have oneB : Try.prog.cellsOf 4 = 1 := by kernel_rfl
  have get : ∀ i, i < 4 → ∃ z, xs[i]? = some z := fun i hi => ⟨xs[i]'(by omega), List.getElem?_eq_getElem _⟩
  obtain ⟨z0, g0⟩ := get 0 (by omega)
  obtain ⟨z1, g1⟩ := get 1 (by omega)
  obtain ⟨z2, g2⟩ := get 2 (by omega)
  obtain ⟨z3, g3⟩ := get 3 (by omega)
  obtain ⟨a0, e0, _⟩ := DataW.trod_bool Try.underlying4 ((hf 0 _ rfl).trans g0)
  obtain ⟨a1, e1, _⟩ := DataW.trod_bool Try.underlying4 ((hf 1 _ rfl).trans g1)
  obtain ⟨a2, e2, _⟩ := DataW.trod_bool Try.underlying4 ((hf 2 _ rfl).trans g2)
  obtain ⟨a3, e3, _, _⟩ := DataW.trod_int Try.underlying3 ((hf 3 _ rfl).trans g3)
  refine ⟨a0, a1, a2, a3, ?_⟩
  refine List.ext_getElem? fun i => ?_
  match i with
  | 0 => exact part_one e0 oneB
  | 1 => exact part_one e1 oneB
  | 2 => exact part_one e2 oneB
  | 3 => exact part_one e3 one
  | i + 4 => rw [List.getElem?_eq_none (by omega), List.getElem?_eq_none (by show 4 ≤ i + 4; omega)]
theorem ls_in (h : DataW.trod enc Try.prog W 0 sp held fuel 34 cs = some y) : ∃ x : Ls, cs = x.cells ∧ x.node = 0 ∧ x.typ.size ≤ 9223372036854775807 := by
  obtain ⟨xs, n, _, _, hlen, hxl, hf⟩ := DataW.trod_struct Try.underlying34 h
  have h8 : cs.length = 8 := hlen.trans (by kernel_rfl)
  have hxl' : xs.length = 5 := hxl
  have one : Try.prog.cellsOf 3 = 1 := by kernel_rfl
  have oneB : Try.prog.cellsOf 4 = 1 := by kernel_rfl
  have oneS : Try.prog.cellsOf 9 = 1 := by kernel_rfl
  have four : Try.prog.cellsOf 32 = 4 := by kernel_rfl
  have get : ∀ i, i < 5 → ∃ z, xs[i]? = some z := fun i hi => ⟨xs[i]'(by omega), List.getElem?_eq_getElem _⟩
  obtain ⟨z0, g0⟩ := get 0 (by omega)
  obtain ⟨z1, g1⟩ := get 1 (by omega)
  obtain ⟨z2, g2⟩ := get 2 (by omega)
  obtain ⟨z3, g3⟩ := get 3 (by omega)
  obtain ⟨z4, g4⟩ := get 4 (by omega)
  obtain ⟨a0, e0, _, _⟩ := DataW.trod_int Try.underlying3 ((hf 0 _ rfl).trans g0)
  obtain ⟨a1, e1, _, s1⟩ := DataW.trod_string Try.underlying9 ((hf 1 _ rfl).trans g1)
  obtain ⟨a2, e2, _, _⟩ := DataW.trod_int Try.underlying3 ((hf 2 _ rfl).trans g2)
  obtain ⟨oa, oo, op, os, e3⟩ := opts_in ((hf 3 _ rfl).trans g3)
  obtain ⟨a4, e4, _⟩ := DataW.trod_bool Try.underlying4 ((hf 4 _ rfl).trans g4)
  refine ⟨⟨a0, a1, a2, oa, oo, op, os, a4, 0⟩, ?_, rfl, s1⟩
  have hd : ∀ f, f < 4 → cs[3 + f]? = ([.bool oa, .bool oo, .bool op, .int .i64 os] : List Value)[f]? := fun f hf => by
    have : ((cs.drop 3).take (Try.prog.cellsOf 32))[f]? = ([.bool oa, .bool oo, .bool op, .int .i64 os] : List Value)[f]? := congrArg (fun l : List Value => l[f]?) e3
    rw [four, List.getElem?_take, if_pos hf, List.getElem?_drop] at this
    exact this
  refine List.ext_getElem? fun i => ?_
  match i with
  | 0 => exact part_one e0 one
  | 1 => exact part_one e1 oneS
  | 2 => exact part_one e2 one
  | 3 => exact hd 0 (by omega)
  | 4 => exact hd 1 (by omega)
  | 5 => exact hd 2 (by omega)
  | 6 => exact hd 3 (by omega)
  | 7 => exact part_one e4 oneB
  | i + 8 => rw [List.getElem?_eq_none (by omega), List.getElem?_eq_none (by show 8 ≤ i + 8; omega)]
theorem lcal_in (h : DataW.trod enc Try.prog W 0 sp held fuel 36 cs = some y) : ∃ c : Lcal, cs = c.cells ∧ c.x.node = 0 ∧ c.x.typ.size ≤ 9223372036854775807 ∧ (-9223372036854775808 ≤ c.node ∧ c.node ≤ 9223372036854775807) := by
  obtain ⟨xs, n, _, _, hlen, hxl, hf⟩ := DataW.trod_struct Try.underlying36 h
  have h11 : cs.length = 11 := hlen.trans (by kernel_rfl)
  have hxl' : xs.length = 4 := hxl
  have one : Try.prog.cellsOf 3 = 1 := by kernel_rfl
  have eight : Try.prog.cellsOf 34 = 8 := by kernel_rfl
  have get : ∀ i, i < 4 → ∃ z, xs[i]? = some z := fun i hi => ⟨xs[i]'(by omega), List.getElem?_eq_getElem _⟩
  obtain ⟨z0, g0⟩ := get 0 (by omega)
  obtain ⟨z1, g1⟩ := get 1 (by omega)
  obtain ⟨z2, g2⟩ := get 2 (by omega)
  obtain ⟨z3, g3⟩ := get 3 (by omega)
  obtain ⟨a0, e0, _, _⟩ := DataW.trod_int Try.underlying3 ((hf 0 _ rfl).trans g0)
  obtain ⟨a1, e1, _, w1⟩ := DataW.trod_int Try.underlying3 ((hf 1 _ rfl).trans g1)
  obtain ⟨a2, e2, _, _⟩ := DataW.trod_int Try.underlying3 ((hf 2 _ rfl).trans g2)
  obtain ⟨x, e3, h0, hs⟩ := ls_in ((hf 3 _ rfl).trans g3)
  refine ⟨⟨a0, a1, a2, x⟩, ?_, h0, hs, ib w1⟩
  have hd : ∀ f, f < 8 → cs[3 + f]? = x.cells[f]? := fun f hf => by
    have : ((cs.drop 3).take (Try.prog.cellsOf 34))[f]? = x.cells[f]? := congrArg (fun l : List Value => l[f]?) e3
    rw [eight, List.getElem?_take, if_pos hf, List.getElem?_drop] at this
    exact this
  refine List.ext_getElem? fun i => ?_
  match i with
  | 0 => exact part_one e0 one
  | 1 => exact part_one e1 one
  | 2 => exact part_one e2 one
  | 3 => exact hd 0 (by omega)
  | 4 => exact hd 1 (by omega)
  | 5 => exact hd 2 (by omega)
  | 6 => exact hd 3 (by omega)
  | 7 => exact hd 4 (by omega)
  | 8 => exact hd 5 (by omega)
  | 9 => exact hd 6 (by omega)
  | 10 => exact hd 7 (by omega)
  | i + 11 => rw [List.getElem?_eq_none (by omega), List.getElem?_eq_none (by show 11 ≤ i + 11; omega)]
theorem lcals_in {A : Option Addr} {n cap : Nat} (h : DataW.trod enc Try.prog W 0 sp held fuel 22 [.slice A n cap] = some y) : ∃ xs : List Lcal, xs.length = n ∧ Lcals W A xs ∧ n ≤ cap ∧ n ≤ maxLen := by
  have c11 : Try.prog.cellsOf 36 = 11 := by kernel_rfl
  rcases DataW.trod_slice Try.underlying22 h with ⟨hv, _⟩ | ⟨a, n', cap', elems, rest, m, _, hv, _, _, hl, hm, hlen, hel, _, _⟩
  · obtain ⟨rfl, rfl, rfl⟩ : A = none ∧ n = 0 ∧ cap = 0 := by simpa using hv
    exact ⟨[], rfl, fun i hi => absurd hi (Nat.not_lt_zero i), Nat.le_refl 0, Nat.zero_le _⟩
  · obtain ⟨rfl, rfl, rfl⟩ : A = some a ∧ n = n' ∧ cap = cap' := by simpa using hv
    have each : ∀ i, i < n → ∃ x, LcalAt W (some a) i x := fun i hi => by
      have hb := hel i hi
      rw [List.getElem?_eq_getElem (by omega), c11, Option.bind_eq_some_iff] at hb
      obtain ⟨cs, hcs, ht⟩ := hb
      obtain ⟨x, rfl, _, hs, hn⟩ := lcal_in ht
      obtain ⟨_, _, hc⟩ := World.cells?_some hcs
      obtain ⟨b, off, spot⟩ := a
      have hsp : spot = none := by
        have hb0 := hel 0 (by omega)
        rw [List.getElem?_eq_getElem (by omega), c11, Option.bind_eq_some_iff] at hb0
        obtain ⟨cs0, hcs0, _⟩ := hb0
        obtain ⟨_, hl0, hc0⟩ := World.cells?_some hcs0
        have h1 := hc0 0 (by omega)
        rw [List.getElem?_eq_getElem (by omega)] at h1
        simpa [Addr.add] using World.cell?_spot h1
      subst hsp
      have hc' : ∀ f, f < 11 → W.cell? ⟨b, off + i * 11 + f, none⟩ = x.cells[f]? := fun f hf => by
        have := hc f hf
        rw [Addr.add_lit, Addr.add_lit] at this
        exact this
      exact ⟨x, b, off, rfl, cell_in (hc' 0 (by omega)), hc', hs, hn⟩
    refine ⟨(List.range n).attach.map fun i => (each i.1 (List.mem_range.1 i.2)).choose, by simp, fun i hi => ?_, hl, Nat.le_trans hl hm⟩
    have hi' : i < n := by simpa using hi
    have := (each i hi').choose_spec
    simpa using this
end
end Go.Proofs.Ytgdgmcehkhimpaa

namespace Go.Proofs.Ytgdgmcehkhimpaa
open Go Go.RowKit

theorem add_len (B : List Ls) (v : Int) (x : Ls) : (addLs B v x).length ≤ B.length + 1 := by
  unfold addLs
  split
  · rw [List.length_append]
    exact Nat.le_refl _
  · exact Nat.le_succ _
theorem right_a {t : ByteArray} (h : (t.toList == [97]) = true) : rightL t.data.toList = true := by
  have h1 : t.toList = [97] := by simpa using h
  rw [Lib.toList_data] at h1
  rw [h1]
  decide
/-- A listener of a node's list: where it stands, and that Find tells it. -/
theorem at_facts {B : List Ls} {v : Int} {y : Ls} (ok : LsOk B) (h : y ∈ atLs B v) : lThere B y.id = true ∧ (lsAt B y.id).node = v ∧ findLs B v y.typ y.cb y.cap = y.id ∧ y.rem = false := by
  obtain ⟨h0, h1, h2⟩ := atLs_mem.1 h
  obtain ⟨j, hj, hid⟩ := mem_place ok h0
  have hl := (List.getElem?_eq_some_iff.1 hj).1
  refine ⟨?_, ?_, find_there ok h (by simp [alB]), h2⟩
  · rw [hid]
    unfold lThere
    rw [decide_eq_true (by omega), decide_eq_true (by omega)]
    rfl
  · rw [hid, lsAt_at hl, (List.getElem?_eq_some_iff.1 hj).2]
    exact h1
section
set_option maxHeartbeats 32000000 in
set_option maxRecDepth 100000 in
theorem listenOrder_any (A : Option Addr) (n c : Nat) (cs : List Lcal) (w : World) (hn : cs.length = n) (h : Lcals w A cs) :
    Calls Try.prog 5 #[.slice A n c] w fun e w' => e = .returned (.bool true) ∧ Below w.heap.size w w' := by
  have hnot : ∀ (x : Bool) (w : World), (Op.unary .not (.bool x)).run Try.prog w = .ok (.bool (!x)) w := fun _ _ => rfl
  have HA := Lib.hid (awake12 w)
  have HN := Lib.hid hn
  have H := Lib.hid h
  clear hn h
  go_enter Try.func5, Try.ntmps5
  go_wp2_with fail
  refine HA.out.mono ?_
  rintro e w1 ⟨rfl, hb1⟩
  have HB1 := Lib.hid hb1
  clear hb1 HA
  by_cases hbig : 300 < n
  · have z0 : decide ((n : Int) > 300) = true := decide_eq_true (by omega)
    clear hbig
    go_wp2
    go_ret
    exact ⟨rfl, HB1.out⟩
  have z0 : decide ((n : Int) > 300) = false := decide_eq_false (by omega)
  have hn300 : n ≤ 300 := by omega
  clear hbig
  go_wp2_with fail
  refine (lsNew (fun i => w1.heap.size ≤ i) w1 (fun _ h => h)).mono ?_
  rintro e w2 ⟨rfl, hL2, hb2⟩
  obtain ⟨S2, h2, -⟩ := liv_new (w0 := w) (lstOk w1.heap.size []) hL2 HB1.out hb2
  have H2 := Lib.hid h2
  obtain ⟨b, hb⟩ : ∃ b, b = w1.heap.size := ⟨_, rfl⟩
  rw [← hb] at H2
  rw [← hb]
  clear hL2 hb2 h2 hb HB1
  unfold ptrL
  go_wp2_with fail
  go_loopw [4] (fun i wr => ∃ (k : Nat) (S : Nat → Prop) (B : List Ls), i = .int .i64 k ∧ k ≤ n ∧ B.length ≤ k ∧ LivL w S b B wr) (fun i _ => n - (intOf i).toNat)
  case atStart => exact ⟨0, S2, [], rfl, Nat.zero_le _, Nat.zero_le _, H2.out⟩
  case round =>
    obtain ⟨k, S, B, rfl, hk, hBk, hL⟩ := hrel
    have HL := Lib.hid hL
    clear hL H2
    by_cases hlt : (k : Int) < n
    · have hkn : k < cs.length := by rw [HN.out]; omega
      obtain ⟨ba, off, rfl, hba, hcell, hty, hnr⟩ := H.out k hkn
      obtain ⟨cx, hcx⟩ : ∃ cx, cx = cs[k] := ⟨_, rfl⟩
      rw [← hcx] at hcell hty hnr
      obtain ⟨kx, nx, ix, xi, xt, xc, xa, xo, xp, xs, xr, xn⟩ := cx
      simp only at hty hnr
      have hcr : ∀ f, f < 11 → wr.cell? ⟨ba, off + k * 11 + f, none⟩ = (Lcal.cells ⟨kx, nx, ix, xi, xt, xc, xa, xo, xp, xs, xr, xn⟩)[f]? := fun f hf => (HL.out.below.cell (p := ⟨ba, off + k * 11 + f, none⟩) hba).trans (hcell f hf)
      obtain ⟨⟨g0, g1, g2⟩, g3, g4, g5, g6, g7, g8, g9, g10⟩ := eleven_of hcr
      simp only at g0 g1 g2 g3 g4 g5 g6 g7 g8 g9 g10
      have hbox : Below wr.heap.size wr (wr.alloc (.cells #[.int .i64 kx, .int .i64 nx, .int .i64 ix, .int .i64 xi, .string xt, .int .i64 xc, .bool xa, .bool xo, .bool xp, .int .i64 xs, .bool xr] 36)) := (Below.refl _ wr).alloc (Nat.le_refl _) _
      have HBx : Hid (Has (wr.alloc (.cells #[.int .i64 kx, .int .i64 nx, .int .i64 ix, .int .i64 xi, .string xt, .int .i64 xc, .bool xa, .bool xo, .bool xp, .int .i64 xs, .bool xr] 36)) wr.heap.size (.cells #[.int .i64 kx, .int .i64 nx, .int .i64 ix, .int .i64 xi, .string xt, .int .i64 xc, .bool xa, .bool xo, .bool xp, .int .i64 xs, .bool xr] 36 (0, 0))) := Lib.hid (Has.fresh _ _)
      have HLx := Lib.hid (HL.out.next (lstOk b B) hbox)
      have hSx : ¬ S wr.heap.size := fun e => by have := (HL.out.low _ e).2; omega
      have HSx := Lib.hid hSx
      have HTy := Lib.hid hty
      have HNr := Lib.hid hnr
      have hwk : IntKind.i64.wrap ((k : Int) + 1) = (k : Int) + 1 := wrap_small (by omega) (by omega)
      have HWK := Lib.hid hwk
      clear hcx hcell hcr hbox hSx hkn hty hnr hwk hba
      go_upto_if 27 with (fail)
      go_cut [] (fun wc => ∃ S' B', LivL w S' b B' wc ∧ ¬ S' wr.heap.size ∧ B'.length ≤ k + 1 ∧ (kx = 0 → B' = addLs B nx (⟨xi, xt, xc, xa, xo, xp, xs, xr, 0⟩ : Ls)) ∧ Has wc wr.heap.size (.cells #[.int .i64 kx, .int .i64 nx, .int .i64 ix, .int .i64 xi, .string xt, .int .i64 xc, .bool xa, .bool xo, .bool xp, .int .i64 xs, .bool xr] 36 (0, 0)))
      case first =>
        by_cases hk0 : kx = 0
        · subst hk0
          have CA := Lib.hid (livAdd (node := nx) (xi := xi) (xt := xt) (xc := xc) (xa := xa) (xo := xo) (xp := xp) (xs := xs) (xr := xr) HLx.out HNr.out HTy.out)
          unfold ptrL at CA
          clear g0 g1 g2 g3 g4 g5 g6 g7 g8 g9 g10
          have f1 := HBx.out.cell 1
          go_wp2_with fail
          refine CA.out.mono ?_
          rintro e w5 ⟨rfl, ⟨S5, h5, hS5⟩, hk5⟩
          have HX5 := Lib.hid (HBx.out.kept hk5 HSx.out)
          have HS5 := Lib.hid (hS5 wr.heap.size HBx.out.inside HSx.out)
          have H5 := Lib.hid h5
          clear hS5 hk5 h5 CA
          go_wp2
          go_meet
          exact ⟨S5, _, H5.out, HS5.out, Nat.le_trans (add_len B nx _) (by omega), fun _ => rfl, HX5.out⟩
        · have zk : (kx == 0) = false := by simpa using hk0
          have HK0 := Lib.hid hk0
          clear hk0 g0 g1 g2 g3 g4 g5 g6 g7 g8 g9 g10
          go_wp2
          go_meet
          exact ⟨S, B, HLx.out, HSx.out, by omega, fun e => absurd e HK0.out, HBx.out⟩
      case rest =>
        obtain ⟨S1, B1, h1, hs1, hl1, ha1, hx1⟩ := hcut
        have H1 := Lib.hid h1
        have HS1 := Lib.hid hs1
        have HA1 := Lib.hid ha1
        have HX1 := Lib.hid hx1
        have f0 := hx1.cell 0
        clear h1 hs1 ha1 hx1 HBx HSx HLx HL g0 g1 g2 g3 g4 g5 g6 g7 g8 g9 g10
        go_upto_if 36 with (fail)
        go_cut [] (fun wx => ∃ S' B', LivL w S' b B' wx ∧ ¬ S' wr.heap.size ∧ B'.length ≤ k + 1 ∧ (kx = 0 → B' = addLs B nx (⟨xi, xt, xc, xa, xo, xp, xs, xr, 0⟩ : Ls)) ∧ Has wx wr.heap.size (.cells #[.int .i64 kx, .int .i64 nx, .int .i64 ix, .int .i64 xi, .string xt, .int .i64 xc, .bool xa, .bool xo, .bool xp, .int .i64 xs, .bool xr] 36 (0, 0)))
        case first =>
          by_cases hk1 : kx = 1
          · subst hk1
            have CK := Lib.hid (livKill ix H1.out)
            unfold ptrL at CK
            have f2 := HX1.out.cell 2
            go_wp2_with fail
            refine CK.out.mono ?_
            rintro e w5 ⟨rfl, ⟨S5, h5, hS5⟩, hk5⟩
            have HX5 := Lib.hid (HX1.out.kept hk5 HS1.out)
            have HS5 := Lib.hid (hS5 wr.heap.size HX1.out.inside HS1.out)
            have H5 := Lib.hid h5
            clear hS5 hk5 h5 CK
            go_wp2
            go_meet
            exact ⟨S5, _, H5.out, HS5.out, by rw [kill_length]; exact hl1, fun e => absurd e (by decide), HX5.out⟩
          · have zk : (kx == 1) = false := by simpa using hk1
            clear hk1
            go_wp2
            go_meet
            exact ⟨S1, B1, H1.out, HS1.out, hl1, HA1.out, HX1.out⟩
        case rest =>
          obtain ⟨S2, B2, h2, hs2, hl2, ha2, hx2⟩ := hcut
          have H2 := Lib.hid h2
          have HA2 := Lib.hid ha2
          have HX2 := Lib.hid hx2
          have f0 := hx2.cell 0
          have f1 := hx2.cell 1
          have CT := Lib.hid (lsAt_any nx h2.rep HNr.out.1 HNr.out.2)
          unfold ptrL at CT
          clear h2 hs2 ha2 hx2 H1 HS1 HA1 HX1 hl1
          go_wp2_with fail
          refine CT.out.mono ?_
          rintro e w5 ⟨⟨va, rfl, hR⟩, hb5⟩
          have hform := hR.form
          obtain ⟨Aa, ca, rfl, -⟩ := hform
          have h5 := H2.out.next (lstOk b B2) hb5
          have ok2 := h5.rep.ok
          have hrise := atLs_rise ok2 nx
          have hNl := Nat.le_trans (atLs_len B2 nx) hl2
          have hAT : ∀ y ∈ atLs B2 nx, lThere B2 y.id = true ∧ (lsAt B2 y.id).node = nx ∧ findLs B2 nx y.typ y.cb y.cap = y.id ∧ y.rem = false := fun y hy => at_facts ok2 hy
          obtain ⟨D, hD⟩ : ∃ D, D = atLs B2 nx := ⟨_, rfl⟩
          rw [← hD] at hR hrise hNl hAT ⊢
          have HR := Lib.hid hR
          have HX5 := Lib.hid (HX2.out.below hb5 HX2.out.inside)
          have H5 := Lib.hid h5
          have HRise := Lib.hid hrise
          have HAT := Lib.hid hAT
          obtain ⟨N, hN⟩ : ∃ N, N = D.length := ⟨_, rfl⟩
          rw [← hN] at hNl ⊢
          have HND := Lib.hid hN
          have zN : decide ((N : Int) > 300) = false := decide_eq_false (by omega)
          clear hR hb5 h5 ok2 hrise hAT hD hN CT H2 HX2 f0 f1
          obtain ⟨wo, hwo⟩ : ∃ wo : World, wo = wr := ⟨_, rfl⟩
          subst hwo
          go_wp2_with fail
          go_loopw [7] (fun i wi => ∃ j : Nat, i = .int .i64 j ∧ j ≤ N ∧ Below w5.heap.size w5 wi) (fun i _ => N - (intOf i).toNat)
          case atStart => exact ⟨0, rfl, Nat.zero_le _, Below.refl _ _⟩
          case round =>
            obtain ⟨j, rfl, hj, hbr⟩ := hrel
            by_cases hlj : (j : Int) < N
            · have hjD : j < D.length := by rw [← HND.out]; omega
              obtain ⟨q, qc, hq, -, hqs, -, hc⟩ := (HR.out.below hbr).rowAt hjD
              obtain ⟨rfl, rfl⟩ : Aa = some ⟨q, 0, none⟩ ∧ ca = qc := by injection hq with e1 _ e3; exact ⟨e1, e3⟩
              clear hq
              obtain ⟨k0, k1, k2, k3, k4, k5, k6, k7⟩ := eight_of hc
              obtain ⟨t1, t2, t3, t4⟩ := HAT.out D[j] (List.getElem_mem hjD)
              have hprev : ∀ j0, j = j0 + 1 → ∃ p : Int, wr.cell? ⟨q, j0 * 8, none⟩ = some (.int .i64 p) ∧ p < (D[j]).id := fun j0 e => by
                have hj0 : j0 < D.length := by omega
                obtain ⟨q', qc', hq', -, -, -, hc'⟩ := (HR.out.below hbr).rowAt hj0
                obtain ⟨rfl, -⟩ : q = q' ∧ ca = qc' := by
                  injection hq' with e1 _ e3
                  injection e1 with e1
                  injection e1 with e1
                  exact ⟨e1, e3⟩
                exact ⟨_, (eight_of hc').1, List.pairwise_iff_getElem.1 HRise.out j0 j hj0 hjD (by omega)⟩
              obtain ⟨y, hy⟩ : ∃ y, y = D[j] := ⟨_, rfl⟩
              rw [← hy] at k0 k1 k2 k3 k4 k5 k6 k7 t1 t2 t3 t4
              simp only [← hy] at hprev
              obtain ⟨yi, yt, yc, ya, yo, yp, ys, yr, yn⟩ := y
              simp only at k0 k1 k2 k3 k4 k5 k6 k7 t1 t2 t3 t4 hprev
              subst t4
              have CW : Hid (∀ W, Below w5.heap.size w5 W → Calls Try.prog 19 #[.pointer (some ⟨b, 0, none⟩), .int .i64 yi] W fun e w' => e = .returned (.int .i64 nx) ∧ Below W.heap.size W w') := Lib.hid fun W hW => by
                have := lsWhere yi (H5.out.next (lstOk b B2) hW).rep
                rw [if_pos t1, t2] at this
                exact this.mono fun e w' ⟨he, m, hm⟩ => ⟨he, by rw [hm]; exact below_drawn W m⟩
              have CF : Hid (∀ W, Below w5.heap.size w5 W → Calls Try.prog 12 #[.pointer (some ⟨b, 0, none⟩), .int .i64 nx, .string yt, .int .i64 yc, .bool ya] W fun e w' => e = .returned (.int .i64 yi) ∧ Below W.heap.size W w') := Lib.hid fun W hW => by
                have := lsFind_any nx yc yt ya (H5.out.next (lstOk b B2) hW).rep HNr.out.1 HNr.out.2
                rw [t3] at this
                exact this
              have hbo : Below wr.heap.size wr (wr.alloc (.cells #[.int .i64 yi, .string yt, .int .i64 yc, .bool ya, .bool yo, .bool yp, .int .i64 ys, .bool false] 34)) := (Below.refl _ wr).alloc (Nat.le_refl _) _
              have hxo : Has (wr.alloc (.cells #[.int .i64 yi, .string yt, .int .i64 yc, .bool ya, .bool yo, .bool yp, .int .i64 ys, .bool false] 34)) wr.heap.size (.cells #[.int .i64 yi, .string yt, .int .i64 yc, .bool ya, .bool yo, .bool yp, .int .i64 ys, .bool false] 34 (0, 0)) := Has.fresh _ _
              have HS : Hid (∀ W, Below (wr.alloc (.cells #[.int .i64 yi, .string yt, .int .i64 yc, .bool ya, .bool yo, .bool yp, .int .i64 ys, .bool false] 34)).heap.size (wr.alloc (.cells #[.int .i64 yi, .string yt, .int .i64 yc, .bool ya, .bool yo, .bool yp, .int .i64 ys, .bool false] 34)) W → (W.cell? ⟨wr.heap.size, 0, none⟩ = some (.int .i64 yi) ∧ W.cell? ⟨wr.heap.size, 1, none⟩ = some (.string yt) ∧ W.cell? ⟨wr.heap.size, 2, none⟩ = some (.int .i64 yc) ∧ W.cell? ⟨wr.heap.size, 3, none⟩ = some (.bool ya) ∧ W.cell? ⟨wr.heap.size, 7, none⟩ = some (.bool false) ∧ W.cell? ⟨wo.heap.size, 1, none⟩ = some (.int .i64 nx))) := Lib.hid fun W hW => by
                have h8 := hxo.below hW hxo.inside
                have hX := ((HX5.out.below hbr HX5.out.inside).below hbo (Nat.lt_of_lt_of_le HX5.out.inside hbr.size))
                have hX' := hX.below hW hX.inside
                exact ⟨h8.cell 0, h8.cell 1, h8.cell 2, h8.cell 3, h8.cell 7, hX'.cell 1⟩
              have HBo := Lib.hid (hbr.trans (hbo.mono hbr.size))
              have hwj : IntKind.i64.wrap ((j : Int) + 1) = (j : Int) + 1 := wrap_small (by omega) (by omega)
              have HP := Lib.hid hprev
              have HBO := Lib.hid hbo
              clear hy hc hjD t1 t2 t3 hprev hxo hbo
              cases j with
              | zero =>
                clear HP
                go_wp2_with fail
                refine wp_region_way (late := []) (S := fun W => (W.cell? ⟨wr.heap.size, 0, none⟩ = some (.int .i64 yi) ∧ W.cell? ⟨wr.heap.size, 1, none⟩ = some (.string yt) ∧ W.cell? ⟨wr.heap.size, 2, none⟩ = some (.int .i64 yc) ∧ W.cell? ⟨wr.heap.size, 3, none⟩ = some (.bool ya) ∧ W.cell? ⟨wr.heap.size, 7, none⟩ = some (.bool false) ∧ W.cell? ⟨wo.heap.size, 1, none⟩ = some (.int .i64 nx))) (y := Way.takes [0, 1, 2, 3, 4, 5, 6, 7, 8, 9, 10, 11, 12, 13, 14, 15, 16, 17, 18, 19, 20, 22, 23] (.run 21 (Way.takes [24, 25, 26, 27, 28, 29, 30, 31, 32, 33, 34, 35, 36, 38, 39] (.run 37 (Way.takes [40, 41] .fin))))) (by kernel_rfl) (by kernel_rfl) rfl (by kernel_rfl) (HS.out _ (Below.refl _ _).drew) (fun hHeld => ?_)
                simp only [Way.takes]
                (repeat (first | (refine way_skip (by simp only [List.getElem?_toArray, List.getElem?_cons_succ, List.getElem?_cons_zero]; rfl) (by rfl) hHeld ?_; (try simp only [Act.put, List.setIfInBounds_toArray, List.set_cons_zero, List.set_cons_succ])) | (refine way_pass (by simp only [List.getElem?_toArray, List.getElem?_cons_succ, List.getElem?_cons_zero]; rfl) (by rfl) hHeld ?_; (try simp only [Act.put, List.setIfInBounds_toArray, List.set_cons_zero, List.set_cons_succ])) | (refine way_take (v := ?_) (by simp only [List.getElem?_toArray, List.getElem?_cons_succ, List.getElem?_cons_zero]; rfl) (by rfl) ?_ hHeld ?_; rotate_left; (focus (intro w hSw; (try dsimp only at hSw); go_simp; (try with_reducible rfl); done)); (try simp only [Act.put, List.setIfInBounds_toArray, List.set_cons_zero, List.set_cons_succ]))))
                refine way_run (by simp only [List.getElem?_toArray, List.getElem?_cons_succ, List.getElem?_cons_zero]; rfl) (by rfl) (fun K hK => ?_)
                go_simp
                refine (CW.out _ HBo.out.drew).mono ?_
                rintro e w9 ⟨rfl, hb9⟩
                have hb9' : Below (wr.alloc (.cells #[.int .i64 yi, .string yt, .int .i64 yc, .bool ya, .bool yo, .bool yp, .int .i64 ys, .bool false] 34)).heap.size (wr.alloc (.cells #[.int .i64 yi, .string yt, .int .i64 yc, .bool ya, .bool yo, .bool yp, .int .i64 ys, .bool false] 34)) w9 := (Below.refl _ (wr.alloc (.cells #[.int .i64 yi, .string yt, .int .i64 yc, .bool ya, .bool yo, .bool yp, .int .i64 ys, .bool false] 34))).drew.trans hb9
                have HQ9 := Lib.hid (HS.out _ hb9')
                have HB9 := Lib.hid (HBo.out.trans (hb9'.mono HBo.out.size))
                have HY9 := Lib.hid hb9'
                go_simp
                refine hK.out _ _ HQ9.out (fun hHeld => ?_)
                clear hK K hb9 hb9' CW
                (try simp only [Act.put, List.setIfInBounds_toArray, List.set_cons_zero, List.set_cons_succ])
                (repeat (first | (refine way_skip (by simp only [List.getElem?_toArray, List.getElem?_cons_succ, List.getElem?_cons_zero]; rfl) (by rfl) hHeld ?_; (try simp only [Act.put, List.setIfInBounds_toArray, List.set_cons_zero, List.set_cons_succ])) | (refine way_pass (by simp only [List.getElem?_toArray, List.getElem?_cons_succ, List.getElem?_cons_zero]; rfl) (by rfl) hHeld ?_; (try simp only [Act.put, List.setIfInBounds_toArray, List.set_cons_zero, List.set_cons_succ])) | (refine way_take (v := ?_) (by simp only [List.getElem?_toArray, List.getElem?_cons_succ, List.getElem?_cons_zero]; rfl) (by rfl) ?_ hHeld ?_; rotate_left; (focus (intro w hSw; (try dsimp only at hSw); go_simp; (try with_reducible rfl); done)); (try simp only [Act.put, List.setIfInBounds_toArray, List.set_cons_zero, List.set_cons_succ]))))
                refine way_run (by simp only [List.getElem?_toArray, List.getElem?_cons_succ, List.getElem?_cons_zero]; rfl) (by rfl) (fun K hK => ?_)
                go_simp
                refine (CF.out _ HB9.out).mono ?_
                rintro e w10 ⟨rfl, hb10⟩
                have HB10 := Lib.hid (HB9.out.trans (hb10.mono HB9.out.size))
                have HQ10 := Lib.hid (HS.out w10 (HY9.out.trans (hb10.mono HY9.out.size)))
                go_simp
                refine hK.out _ _ HQ10.out (fun hHeld => ?_)
                clear hK K hb10 CF HQ9 HB9 HY9 HS HBo HBO
                (try simp only [Act.put, List.setIfInBounds_toArray, List.set_cons_zero, List.set_cons_succ])
                (repeat (first | (refine way_skip (by simp only [List.getElem?_toArray, List.getElem?_cons_succ, List.getElem?_cons_zero]; rfl) (by rfl) hHeld ?_; (try simp only [Act.put, List.setIfInBounds_toArray, List.set_cons_zero, List.set_cons_succ])) | (refine way_pass (by simp only [List.getElem?_toArray, List.getElem?_cons_succ, List.getElem?_cons_zero]; rfl) (by rfl) hHeld ?_; (try simp only [Act.put, List.setIfInBounds_toArray, List.set_cons_zero, List.set_cons_succ])) | (refine way_take (v := ?_) (by simp only [List.getElem?_toArray, List.getElem?_cons_succ, List.getElem?_cons_zero]; rfl) (by rfl) ?_ hHeld ?_; rotate_left; (focus (intro w hSw; (try dsimp only at hSw); go_simp; (try with_reducible rfl); done)); (try simp only [Act.put, List.setIfInBounds_toArray, List.set_cons_zero, List.set_cons_succ]))))
                refine way_done ?_
                clear hHeld HQ10
                go_wp2
                go_roundw
                case rel => exact ⟨0 + 1, by go_num, by omega, HB10.out⟩
                case measure => simp [intOf]; omega
              | succ j0 =>
                obtain ⟨pv, hpc, hpl⟩ := HP.out j0 rfl
                have HS1 : Hid (∀ W, Below (wr.alloc (.cells #[.int .i64 yi, .string yt, .int .i64 yc, .bool ya, .bool yo, .bool yp, .int .i64 ys, .bool false] 34)).heap.size (wr.alloc (.cells #[.int .i64 yi, .string yt, .int .i64 yc, .bool ya, .bool yo, .bool yp, .int .i64 ys, .bool false] 34)) W → (W.cell? ⟨wr.heap.size, 0, none⟩ = some (.int .i64 yi) ∧ W.cell? ⟨wr.heap.size, 1, none⟩ = some (.string yt) ∧ W.cell? ⟨wr.heap.size, 2, none⟩ = some (.int .i64 yc) ∧ W.cell? ⟨wr.heap.size, 3, none⟩ = some (.bool ya) ∧ W.cell? ⟨wr.heap.size, 7, none⟩ = some (.bool false) ∧ W.cell? ⟨wo.heap.size, 1, none⟩ = some (.int .i64 nx)) ∧ W.cell? ⟨q, j0 * 8, none⟩ = some (.int .i64 pv)) := Lib.hid fun W hW => ⟨HS.out W hW, (hW.cell (p := ⟨q, j0 * 8, none⟩) (Nat.lt_of_lt_of_le (cell_in hpc) HBO.out.size)).trans ((HBO.out.cell (p := ⟨q, j0 * 8, none⟩) (cell_in hpc)).trans hpc)⟩
                have z1 : ((j0 + 1 : Nat) : Int) = (j0 : Int) + 1 := by omega
                rw [z1] at hwj hlj
                rw [z1]
                have z4 : IntKind.i64.wrap ((j0 : Int) + 1 - 1) = (j0 : Int) := by rw [wrap_small] <;> omega
                have z5 : IntKind.i64.wrap (j0 : Int) = (j0 : Int) := by rw [wrap_small] <;> omega
                have z6 : ((j0 : Int)).toNat = j0 := by omega
                have z7 : ((j0 : Int) + 1).toNat = j0 + 1 := by omega
                have z8 : (0 : Int) < (j0 : Int) + 1 := by omega
                have z9 : (j0 : Int) < N := by omega
                have z10 : decide (yi ≤ pv) = false := decide_eq_false (by omega)
                have z11 : (0 : Int) ≤ (j0 : Int) + 1 := by omega
                have z12 : ¬ ((j0 : Int) + 1 < 0) := by omega
                have z13 : IntKind.i64.wrap ((j0 : Int) + 1) = (j0 : Int) + 1 := by rw [wrap_small] <;> omega
                have z14 : j0 + 1 < N := by omega
                clear HP HS z1 hpl hpc
                go_wp2_with fail
                refine wp_region_way (late := []) (S := fun W => (W.cell? ⟨wr.heap.size, 0, none⟩ = some (.int .i64 yi) ∧ W.cell? ⟨wr.heap.size, 1, none⟩ = some (.string yt) ∧ W.cell? ⟨wr.heap.size, 2, none⟩ = some (.int .i64 yc) ∧ W.cell? ⟨wr.heap.size, 3, none⟩ = some (.bool ya) ∧ W.cell? ⟨wr.heap.size, 7, none⟩ = some (.bool false) ∧ W.cell? ⟨wo.heap.size, 1, none⟩ = some (.int .i64 nx)) ∧ W.cell? ⟨q, j0 * 8, none⟩ = some (.int .i64 pv)) (y := Way.takes [0, 1, 2, 3, 4, 5, 6, 7, 8, 9, 10, 11, 12, 13, 14, 15, 16, 17, 18, 19, 20, 22, 23] (.run 21 (Way.takes [24, 25, 26, 27, 28, 29, 30, 31, 32, 33, 34, 35, 36, 38, 39] (.run 37 (Way.takes [40, 41] .fin))))) (by kernel_rfl) (by kernel_rfl) rfl (by kernel_rfl) (HS1.out _ (Below.refl _ _).drew) (fun hHeld => ?_)
                simp only [Way.takes]
                (repeat (first | (refine way_skip (by simp only [List.getElem?_toArray, List.getElem?_cons_succ, List.getElem?_cons_zero]; rfl) (by rfl) hHeld ?_; (try simp only [Act.put, List.setIfInBounds_toArray, List.set_cons_zero, List.set_cons_succ])) | (refine way_pass (by simp only [List.getElem?_toArray, List.getElem?_cons_succ, List.getElem?_cons_zero]; rfl) (by rfl) hHeld ?_; (try simp only [Act.put, List.setIfInBounds_toArray, List.set_cons_zero, List.set_cons_succ])) | (refine way_take (v := ?_) (by simp only [List.getElem?_toArray, List.getElem?_cons_succ, List.getElem?_cons_zero]; rfl) (by rfl) ?_ hHeld ?_; rotate_left; (focus (intro w hSw; (try dsimp only at hSw); go_simp; (try with_reducible rfl); done)); (try simp only [Act.put, List.setIfInBounds_toArray, List.set_cons_zero, List.set_cons_succ]))))
                refine way_run (by simp only [List.getElem?_toArray, List.getElem?_cons_succ, List.getElem?_cons_zero]; rfl) (by rfl) (fun K hK => ?_)
                go_simp
                refine (CW.out _ HBo.out.drew).mono ?_
                rintro e w9 ⟨rfl, hb9⟩
                have hb9' : Below (wr.alloc (.cells #[.int .i64 yi, .string yt, .int .i64 yc, .bool ya, .bool yo, .bool yp, .int .i64 ys, .bool false] 34)).heap.size (wr.alloc (.cells #[.int .i64 yi, .string yt, .int .i64 yc, .bool ya, .bool yo, .bool yp, .int .i64 ys, .bool false] 34)) w9 := (Below.refl _ (wr.alloc (.cells #[.int .i64 yi, .string yt, .int .i64 yc, .bool ya, .bool yo, .bool yp, .int .i64 ys, .bool false] 34))).drew.trans hb9
                have HQ9 := Lib.hid (HS1.out _ hb9')
                have HB9 := Lib.hid (HBo.out.trans (hb9'.mono HBo.out.size))
                have HY9 := Lib.hid hb9'
                go_simp
                refine hK.out _ _ HQ9.out (fun hHeld => ?_)
                clear hK K hb9 hb9' CW
                (try simp only [Act.put, List.setIfInBounds_toArray, List.set_cons_zero, List.set_cons_succ])
                (repeat (first | (refine way_skip (by simp only [List.getElem?_toArray, List.getElem?_cons_succ, List.getElem?_cons_zero]; rfl) (by rfl) hHeld ?_; (try simp only [Act.put, List.setIfInBounds_toArray, List.set_cons_zero, List.set_cons_succ])) | (refine way_pass (by simp only [List.getElem?_toArray, List.getElem?_cons_succ, List.getElem?_cons_zero]; rfl) (by rfl) hHeld ?_; (try simp only [Act.put, List.setIfInBounds_toArray, List.set_cons_zero, List.set_cons_succ])) | (refine way_take (v := ?_) (by simp only [List.getElem?_toArray, List.getElem?_cons_succ, List.getElem?_cons_zero]; rfl) (by rfl) ?_ hHeld ?_; rotate_left; (focus (intro w hSw; (try dsimp only at hSw); go_simp; (try with_reducible rfl); done)); (try simp only [Act.put, List.setIfInBounds_toArray, List.set_cons_zero, List.set_cons_succ]))))
                refine way_run (by simp only [List.getElem?_toArray, List.getElem?_cons_succ, List.getElem?_cons_zero]; rfl) (by rfl) (fun K hK => ?_)
                go_simp
                refine (CF.out _ HB9.out).mono ?_
                rintro e w10 ⟨rfl, hb10⟩
                have HB10 := Lib.hid (HB9.out.trans (hb10.mono HB9.out.size))
                have HQ10 := Lib.hid (HS1.out w10 (HY9.out.trans (hb10.mono HY9.out.size)))
                go_simp
                refine hK.out _ _ HQ10.out (fun hHeld => ?_)
                clear hK K hb10 CF HQ9 HB9 HY9 HS1 HBo HBO
                (try simp only [Act.put, List.setIfInBounds_toArray, List.set_cons_zero, List.set_cons_succ])
                (repeat (first | (refine way_skip (by simp only [List.getElem?_toArray, List.getElem?_cons_succ, List.getElem?_cons_zero]; rfl) (by rfl) hHeld ?_; (try simp only [Act.put, List.setIfInBounds_toArray, List.set_cons_zero, List.set_cons_succ])) | (refine way_pass (by simp only [List.getElem?_toArray, List.getElem?_cons_succ, List.getElem?_cons_zero]; rfl) (by rfl) hHeld ?_; (try simp only [Act.put, List.setIfInBounds_toArray, List.set_cons_zero, List.set_cons_succ])) | (refine way_take (v := ?_) (by simp only [List.getElem?_toArray, List.getElem?_cons_succ, List.getElem?_cons_zero]; rfl) (by rfl) ?_ hHeld ?_; rotate_left; (focus (intro w hSw; (try dsimp only at hSw); go_simp; (try with_reducible rfl); done)); (try simp only [Act.put, List.setIfInBounds_toArray, List.set_cons_zero, List.set_cons_succ]))))
                refine way_done ?_
                clear hHeld HQ10 z4 z5 z6 z7 z8 z9 z10 z11 z12 z14
                go_wp2
                go_roundw
                case rel => exact ⟨j0 + 1 + 1, by go_num, by omega, HB10.out⟩
                case measure => simp [intOf]; omega
            · have hX := HX5.out.below hbr HX5.out.inside
              have f0 := hX.cell 0
              have f1 := hX.cell 1
              have f4 := hX.cell 4
              have f5 := hX.cell 5
              have f6 := hX.cell 6
              have f9 := hX.cell 9
              have HLr := Lib.hid (H5.out.next (lstOk b B2) hbr)
              have HXr := Lib.hid hX
              have HRel : Hid (∀ W, Below wr.heap.size wr W → LivL w S2 b B2 W) := Lib.hid fun W hW => HLr.out.next (lstOk b B2) hW
              clear hX hbr HX5 H5 HR HRise HAT HND zN
              have hwk := HWK.out
              by_cases hk0 : kx = 0
              · subst hk0
                have hB2 := HA2.out rfl
                by_cases h1 : 1 ≤ nx
                · have d1 : decide (1 ≤ nx) = true := decide_eq_true h1
                  by_cases h2 : 1 ≤ xc
                  · have d2 : decide (1 ≤ xc) = true := decide_eq_true h2
                    by_cases h3 : 0 ≤ xs
                    · have d3 : decide (0 ≤ xs) = true := decide_eq_true h3
                      have CF := Lib.hid (lsFind_any nx xc xt xa HLr.out.rep HNr.out.1 HNr.out.2)
                      have hadd : (xt.toList == [97]) = true → findLs B2 nx xt xc xa ≠ 0 := fun ha => by
                        rw [hB2]
                        exact add_found (x := (⟨xi, xt, xc, xa, xo, xp, xs, xr, 0⟩ : Ls)) h1 h2 h3 (right_a ha) (by omega)
                      obtain ⟨r, hr⟩ : ∃ r, r = findLs B2 nx xt xc xa := ⟨_, rfl⟩
                      rw [← hr] at hadd CF
                      unfold ptrL at CF
                      by_cases hr0 : r = 0
                      · have ht : (xt.toList == [97]) = false := by
                          cases hc : (xt.toList == [97]) with
                          | false => rfl
                          | true => exact absurd hr0 (hadd hc)
                        subst hr0
                        clear hadd hr hB2 h1 h2 h3
                        go_wp2_with fail
                        refine CF.out.mono ?_
                        rintro e w10 ⟨rfl, hb10⟩
                        have HF := Lib.hid (HRel.out w10 hb10)
                        have hX := HXr.out.below hb10 HXr.out.inside
                        have e4 := hX.cell 4
                        clear hb10 hX CF
                        by_cases hsz : 0 < xt.size
                        · have d4 : decide ((0 : Int) < (xt.size : Int)) = true := decide_eq_true (by omega)
                          go_wp2
                          go_roundw
                          case rel => exact ⟨k + 1, S2, B2, by go_num, by omega, hl2, HF.out⟩
                          case measure => simp [intOf]; omega
                        · have d4 : decide ((0 : Int) < (xt.size : Int)) = false := decide_eq_false (by omega)
                          go_wp2
                          go_roundw
                          case rel => exact ⟨k + 1, S2, B2, by go_num, by omega, hl2, HF.out⟩
                          case measure => simp [intOf]; omega
                      · have d4 : (r == 0) = false := by simpa using hr0
                        clear hadd hr hB2 h1 h2 h3 hr0
                        go_wp2_with fail
                        refine CF.out.mono ?_
                        rintro e w10 ⟨rfl, hb10⟩
                        have HF := Lib.hid (HRel.out w10 hb10)
                        clear hb10 CF
                        go_wp2
                        go_roundw
                        case rel => exact ⟨k + 1, S2, B2, by go_num, by omega, hl2, HF.out⟩
                        case measure => simp [intOf]; omega
                    · have d3 : decide (0 ≤ xs) = false := decide_eq_false h3
                      clear hB2 h1 h2 h3
                      go_wp2
                      go_roundw
                      case rel => exact ⟨k + 1, S2, B2, by go_num, by omega, hl2, HLr.out⟩
                      case measure => simp [intOf]; omega
                  · have d2 : decide (1 ≤ xc) = false := decide_eq_false h2
                    clear hB2 h1 h2
                    go_wp2
                    go_roundw
                    case rel => exact ⟨k + 1, S2, B2, by go_num, by omega, hl2, HLr.out⟩
                    case measure => simp [intOf]; omega
                · have d1 : decide (1 ≤ nx) = false := decide_eq_false h1
                  clear hB2 h1
                  go_wp2
                  go_roundw
                  case rel => exact ⟨k + 1, S2, B2, by go_num, by omega, hl2, HLr.out⟩
                  case measure => simp [intOf]; omega
              · have zk : (kx == 0) = false := by simpa using hk0
                clear hk0
                go_wp2
                go_roundw
                case rel => exact ⟨k + 1, S2, B2, by go_num, by omega, hl2, HLr.out⟩
                case measure => simp [intOf]; omega
    · go_wp2
      go_ret
      exact ⟨rfl, HL.out.below⟩
end
end Go.Proofs.Ytgdgmcehkhimpaa

namespace Go.Proofs.Ytgdgmcehkhimpaa
open Go.ChangeShapes Go.WideShapes Go.ChangeAt Go.RowKit
open Go.ChangeMaps (open_string shut_string)

set_option maxRecDepth 100000 in
theorem listenOrder_lifted (os : Os) (started : os.Started) (H : Type) (enc : TypeId × Value → H) :
    ReturnsInHanded {} Try.checked os 5 .any (Rows.listenOrderSpec.pre6 enc Try.prog Try.f5 Rows.listenOrderRow.domain false) (Rows.listenOrderSpec.post enc Try.prog Try.f5 false true false false) := by
  refine returnsInHanded_of_change (C := Try.checked) own started (by kernel_rfl) Try.func5
    (ChangeSpec.witness6 (enc := enc) (C := Try.checked) false ⟨#[], #[.slice none 0 0], []⟩ 8 (by kernel_rfl) (by kernel_rfl) (by kernel_rfl) (by kernel_rfl)) ?_
  intro W base args ds gs before hval0 hW hcnd _
  have hval : ∀ (j : Nat) t v, Try.f5.params[j]? = some t → args[j]? = some v → Value.okWide Try.prog W .any base t v := hval0
  clear hval0 hcnd
  have hW' := hW
  obtain ⟨p, q, hA0, hV, rfl, hfz, hnd⟩ := hW
  have hA : DataW.TrodAll enc Try.prog W 0 (fun _ => true) true Try.f5.params.toList args.toList ds p := hA0
  rw [Try.params5] at hA hval
  obtain ⟨v0, vs0, d0, ds0, p0, q0, hargs, rfl, rfl, h0, r0⟩ := trodAll_cons hA
  obtain ⟨rfl, rfl, rfl⟩ := trodAll_nil r0
  obtain rfl : args = #[v0] := by cases args; simp_all
  obtain ⟨rfl, rfl⟩ := trodVars_none hV
  obtain ⟨A0, n0, c0, rfl⟩ := okWide_slice Try.underlying22 (hval 0 22 v0 rfl rfl)
  have k0 := h0
  have lt0 : ∀ x ∈ p0, x.block < W.heap.size := by obtain ⟨m, hm⟩ := k0; exact DataW.trod_lt m _ _ _ hm
  obtain ⟨x0, l0, y0, z0, q0x⟩ : ∃ xs : List Lcal, xs.length = n0 ∧ Lcals W A0 xs ∧ n0 ≤ c0 ∧ n0 ≤ maxLen := by
    obtain ⟨fuel, hf⟩ := h0
    exact lcals_in hf
  clear hA0
  refine (listenOrder_any A0 n0 c0 x0 W l0 y0).mono fun e W' ⟨he, bel⟩ => ?_
  subst he
  exact ⟨_, rfl, _, _, _, [], _, [], hW', trodAll_mk1 (shut_bool Try.underlying4 _), (trodAll_cons_mk (Below.trod laidOut (by kernel_rfl) (of_decide_eq_true (by kernel_rfl)) k0 bel lt0) trodAll_mk0), rfl, bel.frame _, fun h => by cases h⟩

theorem listenOrder_holds : Rows.ListenOrderSaid :=
  OpenClaim.holds_of_wide 5 Try.f5 rfl rfl rfl rfl rfl rfl rfl ⟨rfl, rfl, rfl, rfl, rfl⟩ rfl rfl rfl rfl rfl (by kernel_rfl) Try.func5 (by kernel_rfl)
    (of_decide_eq_true (by kernel_rfl)) (by unfold Func.isWrapper; rw [if_neg (by decide +kernel)]; exact ⟨rfl, rfl⟩)
    (fun os started H enc _ => listenOrder_lifted os started H enc)
end Go.Proofs.Ytgdgmcehkhimpaa
