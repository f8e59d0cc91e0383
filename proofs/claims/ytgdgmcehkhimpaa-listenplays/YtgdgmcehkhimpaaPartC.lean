/-
  What Add of package listen does.
  Lists that a law makes and changes; towncrierlaw12.awake and ListenNone.
  The document's lists in memory; what towncrierref12's Find, Kill, At and Same do.
  What towncrierref12's Kill and Add do.
  The two lists side by side: the program's and the document's.
  Arguments that came in, opened: lists of texts and of numbers. Facts of the program that every row's proof wants.
  Calls on lists of listeners that came in: a list of them, each with its three numbers and its listener, read cell by cell.
-/
import Derived.Test.YtgdgmcehkhimpaaPartB
import Derived.Test.YtgdgmcehkhimpaaProg
import Derived.Test.YtgdgmcehkhimpaaChecked
import Derived.ProofKit
import Derived.OpenShut

namespace Go.Proofs.Ytgdgmcehkhimpaa
open Go Go.RowKit

section
variable {S : Nat → Prop} {w : World} {b : Nat} {B : List Ls} {xi xc xs node : Int} {xt : ByteArray} {xa xo xp xr : Bool}
theorem lsErr_not (h : fitB node xt xc xs = false) : lsErr B node (⟨xi, xt, xc, xa, xo, xp, xs, xr, 0⟩ : Ls) = 1 := by
  unfold lsErr
  refine if_pos ?_
  unfold fitB at h
  rw [Bool.and_eq_false_iff, Bool.and_eq_false_iff, Bool.and_eq_false_iff, decide_eq_false_iff_not, decide_eq_false_iff_not, decide_eq_false_iff_not] at h
  rcases h with ((h | h) | h) | h
  · exact .inl (by omega)
  · exact .inr (.inl (by show xc < 1; omega))
  · exact .inr (.inr (.inl (by show xs < 0; omega)))
  · exact .inr (.inr (.inr h))
theorem lsErr_fit (h : fitB node xt xc xs = true) : lsErr B node (⟨xi, xt, xc, xa, xo, xp, xs, xr, 0⟩ : Ls) = if 512 ≤ B.length then 9 else 0 := by
  unfold lsErr
  refine if_neg ?_
  unfold fitB at h
  rw [Bool.and_eq_true, Bool.and_eq_true, Bool.and_eq_true, decide_eq_true_iff, decide_eq_true_iff, decide_eq_true_iff] at h
  obtain ⟨⟨⟨h1, h2⟩, h3⟩, h4⟩ := h
  rintro (h' | h' | h' | h')
  · omega
  · have : xc < 1 := h'
    omega
  · have : xs < 0 := h'
    omega
  · have : rightL xt.data.toList = false := h'
    rw [h4] at this
    cases this
theorem fit_node (h : fitB node xt xc xs = true) : 1 ≤ node := by
  unfold fitB at h
  rw [Bool.and_eq_true, Bool.and_eq_true, Bool.and_eq_true, decide_eq_true_iff] at h
  exact h.1.1.1
theorem not_goes {v : Int} {x : Ls} (h : lsGoes B v x = false) : lsNo B v x = 0 ∧ addLs B v x = B := by
  unfold lsNo addLs
  rw [h]
  exact ⟨if_neg (by decide), if_neg (by decide)⟩
theorem goes {v : Int} {x : Ls} (h : lsGoes B v x = true) : lsNo B v x = (B.length : Int) + 1 ∧ addLs B v x = B ++ [⟨(B.length : Int) + 1, x.typ, x.cb, x.cap, x.once, x.pas, x.sig, false, v⟩] := by
  unfold lsNo addLs
  rw [h]
  exact ⟨if_pos rfl, if_pos rfl⟩
theorem lsAdd_nil (w : World) : Calls Try.prog 8 #[.pointer none, .int .i64 node, .agg #[.int .i64 xi, .string xt, .int .i64 xc, .bool xa, .bool xo, .bool xp, .int .i64 xs, .bool xr]] w fun e w' => e = .returned (.tuple #[.int .i64 0, .int .i64 1]) ∧ Below w.heap.size w w' := by
  have hb : Below w.heap.size w (w.alloc (.cells #[.int .i64 xi, .string xt, .int .i64 xc, .bool xa, .bool xo, .bool xp, .int .i64 xs, .bool xr] 34)) := (Below.refl _ w).alloc (Nat.le_refl _) _
  have HB := Lib.hid hb
  clear hb
  go_enter Try.func8, Try.ntmps8
  go_wp2
  go_ret2
  exact ⟨rfl, HB.out⟩
/-- A number, an error's number, and the lists then. -/
def Added (S : Nat → Prop) (w : World) (b : Nat) (B : List Ls) (v : Int) (x : Ls) (e : Ending) (w' : World) : Prop := e = .returned (.tuple #[.int .i64 (lsNo B v x), .int .i64 (lsErr B v x)]) ∧ Lst S w' b (addLs B v x) ∧ Keeps S w w'
theorem Added.not {v : Int} {x : Ls} {w' : World} {z : Int} (he : lsErr B v x = z) (hg : lsGoes B v x = false) (h : Lst S w b B) (hb : Below w.heap.size w w') : Added S w b B v x (.returned (.tuple #[.int .i64 0, .int .i64 z])) w' := by
  obtain ⟨h1, h2⟩ := not_goes hg
  unfold Added
  rw [h1, h2, he]
  exact ⟨rfl, h.below hb, Keeps.of_below hb fun i hi hle => by omega⟩
set_option maxHeartbeats 4000000 in
theorem lsAdd (h : Lst S w b B) (hS : Fut S w.heap.size) (hn : -9223372036854775808 ≤ node ∧ node ≤ 9223372036854775807) (ht : xt.size ≤ 9223372036854775807) :
    Calls Try.prog 8 #[ptrL b, .int .i64 node, .agg #[.int .i64 xi, .string xt, .int .i64 xc, .bool xa, .bool xo, .bool xp, .int .i64 xs, .bool xr]] w (Added S w b B node (⟨xi, xt, xc, xa, xo, xp, xs, xr, 0⟩ : Ls)) := by
  have hnot : ∀ (x : Bool) (w : World), (Op.unary .not (.bool x)).run Try.prog w = .ok (.bool (!x)) w := fun _ _ => rfl
  have hb0 : Below w.heap.size w (w.alloc (.cells #[.int .i64 xi, .string xt, .int .i64 xc, .bool xa, .bool xo, .bool xp, .int .i64 xs, .bool xr] 34)) := (Below.refl _ w).alloc (Nat.le_refl _) _
  have hbox0 : Has (w.alloc (.cells #[.int .i64 xi, .string xt, .int .i64 xc, .bool xa, .bool xo, .bool xp, .int .i64 xs, .bool xr] 34)) w.heap.size (.cells #[.int .i64 xi, .string xt, .int .i64 xc, .bool xa, .bool xo, .bool xp, .int .i64 xs, .bool xr] 34 (0, 0)) := Has.fresh _ _
  have HF := Lib.hid (lsFits (node := node) (w := (w.alloc (.cells #[.int .i64 xi, .string xt, .int .i64 xc, .bool xa, .bool xo, .bool xp, .int .i64 xs, .bool xr] 34))) (xi := xi) (xc := xc) (xs := xs) (xa := xa) (xo := xo) (xp := xp) (xr := xr) ht)
  have H := Lib.hid h
  have HB0 := Lib.hid hb0
  have HX0 := Lib.hid hbox0
  have HS := Lib.hid hS
  clear h hS hb0 hbox0
  cases hf : fitB node xt xc xs with
  | false =>
    have he := lsErr_not (B := B) (xi := xi) (xa := xa) (xo := xo) (xp := xp) (xr := xr) hf
    have hg : lsGoes B node (⟨xi, xt, xc, xa, xo, xp, xs, xr, 0⟩ : Ls) = false := by unfold lsGoes; rw [he]; rfl
    rw [hf] at HF
    have HE := Lib.hid he
    have HG := Lib.hid hg
    clear he hg hf
    unfold ptrL
    go_enter Try.func8, Try.ntmps8
    go_wp2_with fail
    refine HF.out.mono ?_
    rintro e w1 ⟨rfl, hb1⟩
    have HB1 := Lib.hid (HB0.out.trans (hb1.mono HB0.out.size))
    clear hb1
    go_wp2
    go_ret2
    exact Added.not HE.out HG.out H.out HB1.out
  | true =>
    have hn1 := fit_node hf
    have he := lsErr_fit (B := B) (xi := xi) (xa := xa) (xo := xo) (xp := xp) (xr := xr) hf
    rw [hf] at HF
    clear hf
    have HL : Hid (∀ W, Below w.heap.size w W → Calls Try.prog 17 #[.pointer (some ⟨b, 0, none⟩)] W fun e w' => e = .returned (.int .i64 B.length) ∧ ∃ n, w' = W.drewN n) := Lib.hid fun W hW => lsLen (H.out.below hW)
    by_cases hfull : 512 ≤ B.length
    · rw [if_pos hfull] at he
      have hg : lsGoes B node (⟨xi, xt, xc, xa, xo, xp, xs, xr, 0⟩ : Ls) = false := by unfold lsGoes; rw [he]; rfl
      have hge : decide ((512 : Int) ≤ (B.length : Int)) = true := decide_eq_true (by omega)
      have HE := Lib.hid he
      have HG := Lib.hid hg
      clear he hg hfull
      unfold ptrL
      go_enter Try.func8, Try.ntmps8
      go_wp2_with fail
      refine HF.out.mono ?_
      rintro e w1 ⟨rfl, hb1⟩
      have HB1 := Lib.hid (HB0.out.trans (hb1.mono HB0.out.size))
      clear hb1
      go_wp2_with fail
      refine (HL.out w1 HB1.out).mono ?_
      rintro e w2 ⟨rfl, n2, rfl⟩
      have HB2 := Lib.hid (below_draws HB1.out n2)
      go_wp2
      go_ret2
      exact Added.not HE.out HG.out H.out HB2.out
    · rw [if_neg hfull] at he
      have hge : decide ((512 : Int) ≤ (B.length : Int)) = false := decide_eq_false (by omega)
      have HQ : Hid (∀ W, Below w.heap.size w W → Calls Try.prog 12 #[.pointer (some ⟨b, 0, none⟩), .int .i64 node, .string xt, .int .i64 xc, .bool xa] W fun e w' => e = .returned (.int .i64 (findLs B node xt xc xa)) ∧ Below W.heap.size W w') := Lib.hid fun W hW => lsFind_any node xc xt xa (H.out.below hW) hn.1 hn.2
      have HE := Lib.hid he
      clear he
      by_cases hz : findLs B node xt xc xa = 0
      · have hg : lsGoes B node (⟨xi, xt, xc, xa, xo, xp, xs, xr, 0⟩ : Ls) = true := by
          unfold lsGoes
          rw [HE.out]
          show (decide ((0 : Int) = 0) && decide (findLs B node xt xc xa = 0)) = true
          rw [hz]
          rfl
        rw [hz] at HQ
        have HK : Hid (∀ W, Below w.heap.size w W → Calls Try.prog 21 #[.pointer (some ⟨b, 0, none⟩), .int .i64 node, .agg #[.int .i64 xi, .string xt, .int .i64 xc, .bool xa, .bool xo, .bool xp, .int .i64 xs, .bool xr]] W fun e w' => e = .returned (.int .i64 ((B.length : Int) + 1)) ∧ Added S w b B node (⟨xi, xt, xc, xa, xo, xp, xs, xr, 0⟩ : Ls) (.returned (.tuple #[.int .i64 ((B.length : Int) + 1), .int .i64 0])) w') := Lib.hid fun W hW => by
          refine (lsKeep (node := node) (xi := xi) (xr := xr) B.length rfl (H.out.below hW) (HS.out.mono hW.size) (by omega) hn1 hn.2).mono ?_
          rintro e w' ⟨rfl, hL, hk⟩
          refine ⟨rfl, ?_⟩
          obtain ⟨h1, h2⟩ := goes hg
          unfold Added
          rw [h1, HE.out]
          refine ⟨rfl, ⟨lsOk_add H.out.ok hn.2, H.out.2.1, .inr ?_⟩, (Keeps.of_below hW fun i hi hle => by omega).also hk⟩
          rw [h2, idsL_add rfl, List.length_append]
          exact hL
        clear hg hz hfull
        unfold ptrL
        go_enter Try.func8, Try.ntmps8
        go_wp2_with fail
        refine HF.out.mono ?_
        rintro e w1 ⟨rfl, hb1⟩
        have HX1 := Lib.hid (HX0.out.below hb1 HX0.out.inside)
        have HB1 := Lib.hid (HB0.out.trans (hb1.mono HB0.out.size))
        clear hb1
        go_wp2_with fail
        refine (HL.out w1 HB1.out).mono ?_
        rintro e w2 ⟨rfl, n2, rfl⟩
        have HB2 := Lib.hid (below_draws HB1.out n2)
        have HX2 : Hid (Has (w1.drewN n2) w.heap.size (.cells #[.int .i64 xi, .string xt, .int .i64 xc, .bool xa, .bool xo, .bool xp, .int .i64 xs, .bool xr] 34 (0, 0))) := Lib.hid HX1.out
        obtain ⟨W2, hW2⟩ : ∃ W2, W2 = w1.drewN n2 := ⟨_, rfl⟩
        rw [← hW2] at HB2 HX2 ⊢
        clear hW2 HX1 HB1
        have x1 := HX2.out.cell 1
        have x2 := HX2.out.cell 2
        have x3 := HX2.out.cell 3
        go_wp2_with fail
        refine (HQ.out W2 HB2.out).mono ?_
        rintro e w3 ⟨rfl, hb3⟩
        have hx3 := HX2.out.below hb3 HX2.out.inside
        have HB3 := Lib.hid (HB2.out.trans (hb3.mono HB2.out.size))
        have y0 := hx3.cell 0
        have y1 := hx3.cell 1
        have y2 := hx3.cell 2
        have y3 := hx3.cell 3
        have y4 := hx3.cell 4
        have y5 := hx3.cell 5
        have y6 := hx3.cell 6
        have y7 := hx3.cell 7
        clear hx3 hb3 x1 x2 x3
        go_wp2_with fail
        refine (HK.out w3 HB3.out).mono ?_
        rintro e w4 ⟨rfl, hA⟩
        have HA := Lib.hid hA
        clear hA
        go_wp2
        go_ret2
        exact HA.out
      · have hg : lsGoes B node (⟨xi, xt, xc, xa, xo, xp, xs, xr, 0⟩ : Ls) = false := by
          unfold lsGoes
          rw [HE.out]
          show (decide ((0 : Int) = 0) && decide (findLs B node xt xc xa = 0)) = false
          rw [decide_eq_false hz]
          rfl
        obtain ⟨r, hr⟩ : ∃ r, r = findLs B node xt xc xa := ⟨_, rfl⟩
        rw [← hr] at hz HQ
        have hz1 : (r != 0) = true := by simpa using hz
        have hz2 : (r == 0) = false := by simpa using hz
        have HG := Lib.hid hg
        clear hg hr hfull hz
        unfold ptrL
        go_enter Try.func8, Try.ntmps8
        go_wp2_with fail
        refine HF.out.mono ?_
        rintro e w1 ⟨rfl, hb1⟩
        have HX1 := Lib.hid (HX0.out.below hb1 HX0.out.inside)
        have HB1 := Lib.hid (HB0.out.trans (hb1.mono HB0.out.size))
        clear hb1
        go_wp2_with fail
        refine (HL.out w1 HB1.out).mono ?_
        rintro e w2 ⟨rfl, n2, rfl⟩
        have HB2 := Lib.hid (below_draws HB1.out n2)
        have HX2 : Hid (Has (w1.drewN n2) w.heap.size (.cells #[.int .i64 xi, .string xt, .int .i64 xc, .bool xa, .bool xo, .bool xp, .int .i64 xs, .bool xr] 34 (0, 0))) := Lib.hid HX1.out
        obtain ⟨W2, hW2⟩ : ∃ W2, W2 = w1.drewN n2 := ⟨_, rfl⟩
        rw [← hW2] at HB2 HX2 ⊢
        clear hW2 HX1 HB1
        have x1 := HX2.out.cell 1
        have x2 := HX2.out.cell 2
        have x3 := HX2.out.cell 3
        go_wp2_with fail
        refine (HQ.out W2 HB2.out).mono ?_
        rintro e w3 ⟨rfl, hb3⟩
        have HB3 := Lib.hid (HB2.out.trans (hb3.mono HB2.out.size))
        clear hb3 x1 x2 x3
        go_wp2
        go_ret2
        exact Added.not HE.out HG.out H.out HB3.out
end
end Go.Proofs.Ytgdgmcehkhimpaa

namespace Go.Proofs.Ytgdgmcehkhimpaa
open Go Go.RowKit

/-- What stands in blocks that S names stays while others turn. -/
structure RepOk (Rep : (Nat → Prop) → World → Prop) : Prop where
  keep : ∀ {S F : Nat → Prop} {w w' : World}, Rep S w → Keeps F w w' → (∀ i, S i → i < w.heap.size → ¬ F i) → Rep S w'
  wide : ∀ {S S' : Nat → Prop} {w : World}, Rep S w → (∀ i, S i → i < w.heap.size → S' i) → Rep S' w
/-- .. in blocks that were made since w0. -/
structure Liv (Rep : (Nat → Prop) → World → Prop) (w0 : World) (S : Nat → Prop) (w : World) : Prop where
  rep : Rep S w
  low : ∀ i, S i → w0.heap.size ≤ i ∧ i < w.heap.size
  below : Below w0.heap.size w0 w
/-- The blocks of S, and all new ones. -/
abbrev more (S : Nat → Prop) (w : World) (i : Nat) : Prop := S i ∨ w.heap.size ≤ i
section
variable {Rep Rep' : (Nat → Prop) → World → Prop} {w0 w w' : World} {S F : Nat → Prop}
theorem Liv.next (O : RepOk Rep) (h : Liv Rep w0 S w) (hb : Below w.heap.size w w') : Liv Rep w0 S w' :=
  ⟨O.keep h.rep (Keeps.of_below (F := fun i => w.heap.size ≤ i) hb fun _ _ h => h) fun _ _ hi => Nat.not_le.2 hi, fun i hi => ⟨(h.low i hi).1, Nat.lt_of_lt_of_le (h.low i hi).2 hb.size⟩, h.below.trans (hb.mono h.below.size)⟩
theorem Liv.keep (O : RepOk Rep) (h : Liv Rep w0 S w) (k : Keeps F w w') (hF : ∀ i, S i → ¬ F i) (hw : ∀ i, i < w0.heap.size → ¬ F i) : Liv Rep w0 S w' :=
  ⟨O.keep h.rep k fun i hi _ => hF i hi, fun i hi => ⟨(h.low i hi).1, Nat.lt_of_lt_of_le (h.low i hi).2 k.grows⟩, below_then h.below k h.below.size hw⟩
theorem Liv.more (O : RepOk Rep) (h : Liv Rep w0 S w) : Rep (more S w) w := O.wide h.rep fun _ hi _ => .inl hi
theorem liv_new (O : RepOk Rep) {w1 : World} (h : Rep (fun i => w1.heap.size ≤ i) w) (hw : Below w0.heap.size w0 w1) (hb : Below w1.heap.size w1 w) : ∃ S, Liv Rep w0 S w ∧ ∀ i, i < w1.heap.size → ¬ S i :=
  ⟨fun i => w1.heap.size ≤ i ∧ i < w.heap.size, ⟨O.wide h fun _ hi hlt => ⟨hi, hlt⟩, fun _ hi => ⟨Nat.le_trans hw.size hi.1, hi.2⟩, hw.trans (hb.mono hw.size)⟩, fun i hi hS => by omega⟩
/-- A change. -/
theorem Liv.turned (O : RepOk Rep') (h : Liv Rep w0 S w) (hR : Rep' (Go.Proofs.Ytgdgmcehkhimpaa.more S w) w') (hk : Keeps (Go.Proofs.Ytgdgmcehkhimpaa.more S w) w w') :
    (∃ S', Liv Rep' w0 S' w' ∧ ∀ i, i < w.heap.size → ¬ S i → ¬ S' i) ∧ Keeps S w w' := by
  have hk' : Keeps S w w' := hk.wide fun i hi hh => hh.resolve_right (Nat.not_le.2 hi)
  refine ⟨⟨fun i => Go.Proofs.Ytgdgmcehkhimpaa.more S w i ∧ i < w'.heap.size, ⟨O.wide hR fun _ hi hlt => ⟨hi, hlt⟩, fun i hi => ⟨?_, hi.2⟩, below_then h.below hk' h.below.size fun i hi hS => ?_⟩, fun i hi hn hh => ?_⟩, hk'⟩
  · rcases hi.1 with h1 | h1
    · exact (h.low i h1).1
    · exact Nat.le_trans h.below.size h1
  · have := (h.low i hS).1
    omega
  · rcases hh.1 with h1 | h1
    · exact hn h1
    · omega
end
theorem lstOk (b : Nat) (B : List Ls) : RepOk fun S w => Lst S w b B := ⟨fun h k hF => h.kept k hF, fun h hS => h.wide hS⟩

section
variable {w0 w : World} {S : Nat → Prop} {b : Nat} {B : List Ls} {xi xc xs node : Int} {xt : ByteArray} {xa xo xp xr : Bool}
abbrev LivL (w0 : World) (S : Nat → Prop) (b : Nat) (B : List Ls) (w : World) : Prop := Liv (fun S w => Lst S w b B) w0 S w
theorem livAdd (h : LivL w0 S b B w) (hn : -9223372036854775808 ≤ node ∧ node ≤ 9223372036854775807) (ht : xt.size ≤ 9223372036854775807) :
    Calls Try.prog 8 #[ptrL b, .int .i64 node, .agg #[.int .i64 xi, .string xt, .int .i64 xc, .bool xa, .bool xo, .bool xp, .int .i64 xs, .bool xr]] w fun e w' => e = .returned (.tuple #[.int .i64 (lsNo B node ⟨xi, xt, xc, xa, xo, xp, xs, xr, 0⟩), .int .i64 (lsErr B node ⟨xi, xt, xc, xa, xo, xp, xs, xr, 0⟩)]) ∧
      (∃ S', LivL w0 S' b (addLs B node ⟨xi, xt, xc, xa, xo, xp, xs, xr, 0⟩) w' ∧ ∀ i, i < w.heap.size → ¬ S i → ¬ S' i) ∧ Keeps S w w' :=
  (lsAdd (h.more (lstOk b B)) (fun _ hi => .inr hi) hn ht).mono fun _ _ ⟨he, hR, hk⟩ => ⟨he, h.turned (lstOk b _) hR hk⟩
theorem livKill (i : Int) (h : LivL w0 S b B w) : Calls Try.prog 10 #[ptrL b, .int .i64 i] w fun e w' => e = .returned (.bool (lsAlive B i)) ∧ (∃ S', LivL w0 S' b (killLs B i) w' ∧ ∀ i, i < w.heap.size → ¬ S i → ¬ S' i) ∧ Keeps S w w' :=
  (lsKill i (h.more (lstOk b B))).mono fun _ _ ⟨he, hR, hk⟩ => ⟨he, h.turned (lstOk b _) hR hk⟩
end

theorem right_x : rightL (⟨#[120]⟩ : ByteArray).data.toList = true := by decide
theorem addX_err (B : List Ls) (o : Bool) (hB : B.length < 512) : lsErr B 1 ⟨0, ⟨#[120]⟩, 1, false, o, false, 0, false, 0⟩ = 0 := by
  unfold lsErr
  rw [if_neg, if_neg (by omega)]
  rintro (h | h | h | h)
  · omega
  · have h' : (1 : Int) < 1 := h
    omega
  · have h' : (0 : Int) < 0 := h
    omega
  · have := right_x
    rw [show rightL _ = false from h] at this
    cases this
theorem addX_none (o : Bool) : lsNo [] 1 ⟨0, ⟨#[120]⟩, 1, false, o, false, 0, false, 0⟩ = 1 ∧ addLs [] 1 ⟨0, ⟨#[120]⟩, 1, false, o, false, 0, false, 0⟩ = [⟨1, ⟨#[120]⟩, 1, false, o, false, 0, false, 1⟩] := by
  have hg : lsGoes [] 1 ⟨0, ⟨#[120]⟩, 1, false, o, false, 0, false, 0⟩ = true := by
    unfold lsGoes
    rw [addX_err [] o (by decide)]
    rfl
  exact goes hg
theorem addX_twice (o o' : Bool) : lsNo [⟨1, ⟨#[120]⟩, 1, false, o, false, 0, false, 1⟩] 1 ⟨0, ⟨#[120]⟩, 1, false, o', false, 0, false, 0⟩ = 0 ∧ addLs [⟨1, ⟨#[120]⟩, 1, false, o, false, 0, false, 1⟩] 1 ⟨0, ⟨#[120]⟩, 1, false, o', false, 0, false, 0⟩ = [⟨1, ⟨#[120]⟩, 1, false, o, false, 0, false, 1⟩] := by
  have hf : findLs [⟨1, ⟨#[120]⟩, 1, false, o, false, 0, false, 1⟩] 1 ⟨#[120]⟩ 1 false = 1 := by
    refine find_hit (i := 0) (x := ⟨1, ⟨#[120]⟩, 1, false, o, false, 0, false, 1⟩) rfl ?_ fun j y hj => by omega
    simp [lsIs]
  refine not_goes ?_
  unfold lsGoes
  show (_ && decide (findLs _ 1 ⟨#[120]⟩ 1 false = 0)) = false
  rw [hf, show decide ((1 : Int) = 0) = false from by decide, Bool.and_false]
section
set_option maxHeartbeats 1000000 in
theorem awake12 (w : World) : Calls Try.prog 6 #[] w fun e w' => e = .returned (.bool true) ∧ Below w.heap.size w w' := by
  go_enter Try.func6, Try.ntmps6
  go_wp2_with fail
  refine (lsNew (fun i => w.heap.size ≤ i) w (fun _ h => h)).mono ?_
  rintro e w1 ⟨rfl, hL1, hb1⟩
  obtain ⟨S1, h1, -⟩ := liv_new (w0 := w) (lstOk w.heap.size []) hL1 (Below.refl _ w) hb1
  have H1 := Lib.hid h1
  obtain ⟨b, hb⟩ : ∃ b, b = w.heap.size := ⟨_, rfl⟩
  rw [← hb] at H1
  rw [← hb]
  clear hL1 hb1 h1 hb
  go_wp2_with fail
  refine (livAdd (xi := 0) (xt := ⟨#[120]⟩) (xc := 1) (xa := false) (xo := false) (xp := false) (xs := 0) (xr := false) (node := 1) H1.out (by decide) (by decide)).mono ?_
  rintro e w2 ⟨rfl, ⟨S2, h2, -⟩, -⟩
  rw [(addX_none false).1, addX_err [] false (by decide)]
  rw [(addX_none false).2] at h2
  have H2 := Lib.hid h2
  clear h2 H1
  go_wp2_with fail
  refine (livAdd (xi := 0) (xt := ⟨#[120]⟩) (xc := 1) (xa := false) (xo := true) (xp := false) (xs := 0) (xr := false) (node := 1) H2.out (by decide) (by decide)).mono ?_
  rintro e w3 ⟨rfl, ⟨S3, h3, -⟩, -⟩
  rw [(addX_twice false true).1, addX_err _ true (by decide)]
  have H3 := Lib.hid h3.below
  clear h3 H2
  go_wp2
  go_ret
  exact ⟨rfl, H3.out⟩
--@if towncrierlaw12.ListenNone@
set_option maxHeartbeats 8000000 in
theorem listenNone_any (node id : Int) (s : ByteArray) (w : World) : Calls Try.prog 4 #[.int .i64 node, .int .i64 id, .string s] w fun e w' => e = .returned (.bool true) ∧ Below w.heap.size w w' := by
  have hnot : ∀ (x : Bool) (w : World), (Op.unary .not (.bool x)).run Try.prog w = .ok (.bool (!x)) w := fun _ _ => rfl
  have HA := Lib.hid (awake12 w)
  go_enter Try.func4, Try.ntmps4
  go_wp2_with fail
  refine HA.out.mono ?_
  rintro e w1 ⟨rfl, hb1⟩
  have HB1 := Lib.hid hb1
  clear hb1 HA
  go_wp2_with fail
  refine (lsAdd_nil (node := 1) (xi := 0) (xt := ⟨#[120]⟩) (xc := 1) (xa := false) (xo := false) (xp := false) (xs := 0) (xr := false) w1).mono ?_
  rintro e w2 ⟨rfl, hb2⟩
  have HB2 := Lib.hid (HB1.out.trans (hb2.mono HB1.out.size))
  clear hb2 HB1
  go_wp2_with fail
  refine (lsGet_nil id w2).mono ?_
  rintro e w3 ⟨rfl, hb3⟩
  have HB3 := Lib.hid (HB2.out.trans (hb3.mono HB2.out.size))
  clear hb3 HB2
  unfold Ls.agg Ls.zero
  go_wp2_with fail
  refine (lsFindNil node 1 s true _).mono ?_
  rintro e w4 ⟨rfl, rfl⟩
  go_wp2_with fail
  refine (lsKill_nil id _).mono ?_
  rintro e w4 ⟨rfl, rfl⟩
  go_wp2_with fail
  refine (lsAtNil node _).mono ?_
  rintro e w4 ⟨rfl, rfl⟩
  go_wp2_with fail
  refine (lsWhere_nil id _).mono ?_
  rintro e w4 ⟨rfl, rfl⟩
  go_wp2_with fail
  refine (lsLen_nil _).mono ?_
  rintro e w4 ⟨rfl, rfl⟩
  have hbz : Below w.heap.size w (w3.alloc (.cells #[.int .i64 0, .string ⟨#[]⟩, .int .i64 0, .bool false, .bool false, .bool false, .int .i64 0, .bool false] 34)) := HB3.out.alloc HB3.out.size _
  have hz : Lst (fun i => (w3.alloc (.cells #[.int .i64 0, .string ⟨#[]⟩, .int .i64 0, .bool false, .bool false, .bool false, .int .i64 0, .bool false] 34)).heap.size ≤ i) ((w3.alloc (.cells #[.int .i64 0, .string ⟨#[]⟩, .int .i64 0, .bool false, .bool false, .bool false, .int .i64 0, .bool false] 34)).alloc (.cells #[.pointer none, .slice none 0 0, .map none] 55)) (w3.alloc (.cells #[.int .i64 0, .string ⟨#[]⟩, .int .i64 0, .bool false, .bool false, .bool false, .int .i64 0, .bool false] 34)).heap.size [] := ⟨lsOk_nil, Nat.le_refl _, .inl ⟨rfl, Has.fresh _ _⟩⟩
  obtain ⟨S1, h1, -⟩ := liv_new (w0 := w) (lstOk (w3.alloc (.cells #[.int .i64 0, .string ⟨#[]⟩, .int .i64 0, .bool false, .bool false, .bool false, .int .i64 0, .bool false] 34)).heap.size []) hz hbz ((Below.refl _ (w3.alloc (.cells #[.int .i64 0, .string ⟨#[]⟩, .int .i64 0, .bool false, .bool false, .bool false, .int .i64 0, .bool false] 34))).alloc (Nat.le_refl _) _)
  rw [show (w3.alloc (.cells #[.int .i64 0, .string ⟨#[]⟩, .int .i64 0, .bool false, .bool false, .bool false, .int .i64 0, .bool false] 34)).heap.size = w3.heap.size + 1 by simp] at h1
  have H1 := Lib.hid h1
  clear hbz hz h1 HB3
  go_wp2_with fail
  refine (livAdd (xi := 0) (xt := ⟨#[120]⟩) (xc := 1) (xa := false) (xo := false) (xp := false) (xs := 0) (xr := false) (node := 1) H1.out (by decide) (by decide)).mono ?_
  rintro e w5 ⟨rfl, ⟨S2, h2, -⟩, -⟩
  rw [(addX_none false).1, addX_err [] false (by decide)]
  rw [(addX_none false).2] at h2
  have H2 := Lib.hid h2
  have HT := Lib.hid (lsAt_any 1 h2.rep (by omega) (by omega))
  unfold ptrL at HT
  clear h2 H1
  go_wp2_with fail
  refine HT.out.mono ?_
  rintro e w6 ⟨⟨v, rfl, hv⟩, hb6⟩
  obtain ⟨A, c, hA, -⟩ := hv.form
  rw [show (atLs [⟨1, ⟨#[120]⟩, 1, false, false, false, 0, false, 1⟩] 1).length = 1 from rfl] at hA
  have H6 := Lib.hid (H2.out.below.trans (hb6.mono H2.out.below.size))
  subst hA
  clear hv hb6 H2
  go_wp2
  go_ret
  exact ⟨rfl, H6.out⟩
--@end@
end
end Go.Proofs.Ytgdgmcehkhimpaa

namespace Go.Proofs.Ytgdgmcehkhimpaa
open Go Go.RowKit

/-- The document's lists at block x: all listeners, and their nodes beside them. -/
structure RlsAt (S : Nat → Prop) (w : World) (x : Nat) (v u : Value) (B : List Ls) : Prop where
  head : Has w x (.cells #[v, u] 30 (0, 0))
  rows : Recs RL 34 0 w v B
  nodes : Recs RI 3 0 w u (B.map (·.node))
  hx : S x
  hv : ∀ i, v.ownBlock = some i → S i
  hu : ∀ i, u.ownBlock = some i → S i
def Rls (S : Nat → Prop) (w : World) (x : Nat) (B : List Ls) : Prop := ∃ v u, RlsAt S w x v u B
section
variable {S S' F : Nat → Prop} {w w' : World} {x : Nat} {v u : Value} {B : List Ls}
theorem RlsAt.kept (h : RlsAt S w x v u B) (K : Keeps F w w') (hF : ∀ i, S i → i < w.heap.size → ¬ F i) : RlsAt S w' x v u B :=
  ⟨h.head.kept K (hF _ h.hx h.head.inside), h.rows.kept K fun i hi => hF i (h.hv i hi) (h.rows.in_ i hi).2, h.nodes.kept K fun i hi => hF i (h.hu i hi) (h.nodes.in_ i hi).2, h.hx, h.hv, h.hu⟩
theorem RlsAt.below (h : RlsAt S w x v u B) (K : Below w.heap.size w w') : RlsAt S w' x v u B :=
  h.kept (Keeps.of_below (F := fun i => w.heap.size ≤ i) K fun _ _ h => h) fun _ _ hi => Nat.not_le.2 hi
theorem Rls.kept (h : Rls S w x B) (K : Keeps F w w') (hF : ∀ i, S i → i < w.heap.size → ¬ F i) : Rls S w' x B := by
  obtain ⟨v, u, h⟩ := h
  exact ⟨v, u, h.kept K hF⟩
theorem Rls.wide (h : Rls S w x B) (hS : ∀ i, S i → i < w.heap.size → S' i) : Rls S' w x B := by
  obtain ⟨v, u, h⟩ := h
  exact ⟨v, u, h.head, h.rows, h.nodes, hS _ h.hx h.head.inside, fun i hi => hS i (h.hv i hi) (h.rows.in_ i hi).2, fun i hi => hS i (h.hu i hi) (h.nodes.in_ i hi).2⟩
theorem Rls.below (h : Rls S w x B) (K : Below w.heap.size w w') : Rls S w' x B :=
  h.kept (Keeps.of_below (F := fun i => w.heap.size ≤ i) K fun _ _ h => h) fun _ _ hi => Nat.not_le.2 hi
/-- One listener's eight cells and its node. -/
theorem RlsAt.at_ (h : RlsAt S w x v u B) {j : Nat} (hj : j < B.length) : ∃ q c r d, v = .slice (some ⟨q, 0, none⟩) B.length c ∧ u = .slice (some ⟨r, 0, none⟩) B.length d ∧ (∀ t, w.frozen? ⟨q, t, none⟩ = false) ∧ w.cell? ⟨r, j, none⟩ = some (.int .i64 B[j].node) ∧ ∀ f, f < RL.n → w.cell? ⟨q, j * RL.n + f, none⟩ = (RL.cells B[j])[f]? := by
  obtain ⟨q, c, e1, -, -, h1, h2⟩ := h.rows.rowAt hj
  have hj' : j < (B.map (·.node)).length := by rw [List.length_map]; exact hj
  obtain ⟨r, d, e2, -, -, -, h4⟩ := h.nodes.rowAt hj'
  rw [List.length_map] at e2
  refine ⟨q, c, r, d, e1, e2, h1, ?_, h2⟩
  have := h4 0 (by decide)
  rw [List.getElem_map] at this
  rw [show j * RI.n + 0 = j from by show j * 1 + 0 = j; omega] at this
  exact this
theorem RlsAt.forms (h : RlsAt S w x v u B) : (∃ A c, v = .slice A B.length c) ∧ ∃ A c, u = .slice A B.length c := by
  obtain ⟨A, c, e1, -⟩ := h.rows.form
  obtain ⟨A2, c2, e2, -⟩ := h.nodes.form
  rw [List.length_map] at e2
  exact ⟨⟨A, c, e1⟩, A2, c2, e2⟩
end
theorem atLs_take {B : List Ls} {v : Int} {k : Nat} {y : Ls} (hk : k < B.length) (hy : y = B[k]) : atLs (B.take (k + 1)) v = atLs (B.take k) v ++ (if y.node = v ∧ y.rem = false then [y] else []) := by
  rw [List.take_add_one, List.getElem?_eq_getElem hk, ← hy]
  show atLs (B.take k ++ [y]) v = _
  rw [atLs_append, atLs_cons]
  show _ ++ ((if y.node = v ∧ y.rem = false then [y] else []) ++ []) = _
  rw [List.append_nil]

section
variable {S : Nat → Prop} {w : World} {x : Nat} {B : List Ls}
set_option maxHeartbeats 4000000 in
theorem rlFind (v cb : Int) (t : ByteArray) (cap : Bool) (h : Rls S w x B) (hl : B.length ≤ 1000) :
    Calls Try.prog 13 #[ptrL x, .int .i64 v, .string t, .int .i64 cb, .bool cap] w fun e w' => e = .returned (.int .i64 (findLs B v t cb cap)) ∧ Below w.heap.size w w' := by
  unfold ptrL
  obtain ⟨vL, vN, h⟩ := h
  have hhit := fun (k : Nat) (y : Ls) (h1 : B[k]? = some y) (h2 : lsIs v t cb cap y = true) (h3 : ∀ j z, j < k → B[j]? = some z → lsIs v t cb cap z = false) => find_hit h1 h2 h3
  have hnone := find_none (B := B) (v := v) (t := t) (cb := cb) (cap := cap)
  obtain ⟨r, hr⟩ : ∃ r, r = findLs B v t cb cap := ⟨_, rfl⟩
  rw [← hr] at hhit hnone ⊢
  obtain ⟨⟨A, c, rfl⟩, A2, c2, rfl⟩ := h.forms
  have HH := Lib.hid hhit
  have HNo := Lib.hid hnone
  have H := Lib.hid h
  obtain ⟨N, hN⟩ : ∃ N, N = B.length := ⟨_, rfl⟩
  have HN := Lib.hid hN
  rw [← hN] at hl
  clear hhit hnone h hr hN
  go_enter Try.func13, Try.ntmps13
  go_wp2_with fail
  go_loopw [11] (fun i wr => ∃ k : Nat, i = .int .i64 k ∧ k ≤ N ∧ Hid (∀ j z, j < k → B[j]? = some z → lsIs v t cb cap z = false) ∧ Below w.heap.size w wr) (fun i _ => N - (intOf i).toNat)
  case atStart => exact ⟨0, rfl, Nat.zero_le _, Lib.hid (fun j z hj => by omega), Below.refl _ _⟩
  case round =>
    obtain ⟨k, rfl, hk, HK, hb⟩ := hrel
    have hR := H.out.below hb
    rw [← HN.out] at hR
    have c0 : wr.cell? ⟨x, 0, none⟩ = some (.slice A N c) := hR.head.cell 0
    have c1 : wr.cell? ⟨x, 1, none⟩ = some (.slice A2 N c2) := hR.head.cell 1
    by_cases hlt : (k : Int) < N
    · have hkB : k < B.length := by rw [← HN.out]; omega
      obtain ⟨q, qc, rr, rd, e1, e2, -, hnd, hc⟩ := (H.out.below hb).at_ hkB
      obtain ⟨rfl, rfl⟩ : A = some ⟨q, 0, none⟩ ∧ c = qc := by injection e1 with e1 _ e3; exact ⟨e1, e3⟩
      obtain ⟨rfl, rfl⟩ : A2 = some ⟨rr, 0, none⟩ ∧ c2 = rd := by injection e2 with e1 _ e3; exact ⟨e1, e3⟩
      obtain ⟨k0, k1, k2, k3, k4, k5, k6, k7⟩ := eight_of hc
      have hst : ∀ y, B[k]? = some y → lsIs v t cb cap y = false → ∀ j z, j < k + 1 → B[j]? = some z → lsIs v t cb cap z = false := fun y hy hf j z hj hz => by
        by_cases e : j = k
        · subst e
          rw [hy] at hz
          cases hz
          exact hf
        · exact HK.out j z (by omega) hz
      have hhi : ∀ y, B[k]? = some y → lsIs v t cb cap y = true → r = (k : Int) + 1 := fun y hy hf => HH.out k y hy hf HK.out
      have hBk : B[k]? = some B[k] := List.getElem?_eq_getElem hkB
      obtain ⟨y, hy⟩ : ∃ y, y = B[k] := ⟨_, rfl⟩
      rw [← hy] at k0 k1 k2 k3 k4 k5 k6 k7 hnd hBk
      obtain ⟨xi, xt, xc, xa, xo, xp, xs, xr, xn⟩ := y
      simp only at k0 k1 k2 k3 k4 k5 k6 k7 hnd
      have HST := Lib.hid (hst _ hBk)
      have HHI := Lib.hid (hhi _ hBk)
      have hw2 : IntKind.i64.wrap ((k : Int) + 1) = (k : Int) + 1 := wrap_small (by omega) (by omega)
      have hbx : Below wr.heap.size wr (wr.alloc (.cells #[.int .i64 xi, .string xt, .int .i64 xc, .bool xa, .bool xo, .bool xp, .int .i64 xs, .bool xr] 34)) := (Below.refl _ wr).alloc (Nat.le_refl _) _
      have HB := Lib.hid (hb.trans (hbx.mono hb.size))
      have hrin := cell_in hnd
      have hxin := cell_in c1
      have d1 : (wr.alloc (.cells #[.int .i64 xi, .string xt, .int .i64 xc, .bool xa, .bool xo, .bool xp, .int .i64 xs, .bool xr] 34)).cell? ⟨x, 1, none⟩ = some (.slice (some ⟨rr, 0, none⟩) N c2) := (hbx.cell (p := ⟨x, 1, none⟩) hxin).trans c1
      have dn : (wr.alloc (.cells #[.int .i64 xi, .string xt, .int .i64 xc, .bool xa, .bool xo, .bool xp, .int .i64 xs, .bool xr] 34)).cell? ⟨rr, k, none⟩ = some (.int .i64 xn) := (hbx.cell (p := ⟨rr, k, none⟩) hrin).trans hnd
      clear hy hc hR hkB hst hhi hBk HK hb hbx e1 e2 hrin hxin
      cases t0 : (xn == v) with
      | false =>
        have HX := Lib.hid (HST.out (by unfold lsIs; rw [t0]; rfl))
        go_wp2
        go_roundw
        case rel => exact ⟨k + 1, by go_num, by omega, HX, HB.out⟩
        case measure => simp [intOf]; omega
      | true =>
        cases xr with
        | true =>
          have HX := Lib.hid (HST.out (by unfold lsIs; rw [t0]; rfl))
          go_wp2
          go_roundw
          case rel => exact ⟨k + 1, by go_num, by omega, HX, HB.out⟩
          case measure => simp [intOf]; omega
        | false =>
          cases t1 : (xt.toList == t.toList) with
          | false =>
            have HX := Lib.hid (HST.out (by unfold lsIs; rw [t0, t1]; rfl))
            go_wp2
            go_roundw
            case rel => exact ⟨k + 1, by go_num, by omega, HX, HB.out⟩
            case measure => simp [intOf]; omega
          | true =>
            cases t2 : (xc == cb) with
            | false =>
              have HX := Lib.hid (HST.out (by unfold lsIs; rw [t0, t1, t2]; rfl))
              go_wp2
              go_roundw
              case rel => exact ⟨k + 1, by go_num, by omega, HX, HB.out⟩
              case measure => simp [intOf]; omega
            | true =>
              cases t3 : (xa == cap) with
              | false =>
                have HX := Lib.hid (HST.out (by unfold lsIs; rw [t0, t1, t2, t3]; rfl))
                go_wp2
                go_roundw
                case rel => exact ⟨k + 1, by go_num, by omega, HX, HB.out⟩
                case measure => simp [intOf]; omega
              | true =>
                have HX := Lib.hid (HHI.out (by unfold lsIs; rw [t0, t1, t2, t3]; rfl))
                go_wp2
                go_ret
                rw [HX.out]
                exact ⟨rfl, HB.out⟩
    · have hkN : k = N := by omega
      have hall := HNo.out (fun y hy => by
        obtain ⟨j, hj⟩ := List.getElem?_of_mem hy
        have := (List.getElem?_eq_some_iff.1 hj).1
        exact HK.out j y (by rw [hkN, HN.out]; exact this) hj)
      have HX := Lib.hid hall
      have HB := Lib.hid hb
      clear hall HK hkN hb hR
      go_wp2
      go_ret
      rw [HX.out]
      exact ⟨rfl, HB.out⟩
set_option maxHeartbeats 4000000 in
theorem rlAt (v : Int) (h : Rls S w x B) (hl : B.length ≤ 1000) :
    Calls Try.prog 16 #[ptrL x, .int .i64 v] w fun e w' => (∃ va, e = .returned va ∧ Recs RL 34 w.heap.size w' va (atLs B v)) ∧ Below w.heap.size w w' := by
  unfold ptrL
  obtain ⟨vL, vN, h⟩ := h
  obtain ⟨⟨A, c, rfl⟩, A2, c2, rfl⟩ := h.forms
  have H := Lib.hid h
  obtain ⟨N, hN⟩ : ∃ N, N = B.length := ⟨_, rfl⟩
  have HN := Lib.hid hN
  rw [← hN] at hl
  obtain ⟨i0, hi, hz0, hz1, hz2⟩ := info_parts Try.infoL
  have HI := Lib.hid hi
  have HZ0 := Lib.hid hz0
  have HZ1 := Lib.hid hz1
  have HZ2 := Lib.hid hz2
  clear hi hz0 hz1 hz2 h hN
  go_enter Try.func16, Try.ntmps16
  go_wp2_with fail
  go_loopw [5, 6] (fun a i wr => ∃ (k : Nat) (va : Value), a = va ∧ i = .int .i64 k ∧ k ≤ N ∧ Hid (Recs RL 34 w.heap.size wr va (atLs (B.take k) v)) ∧ Below w.heap.size w wr) (fun _ i _ => N - (intOf i).toNat)
  case atStart => exact ⟨0, _, rfl, rfl, Nat.zero_le _, Lib.hid (by rw [List.take_zero]; exact Recs.nil _ _ _ _), Below.refl _ _⟩
  case round =>
    obtain ⟨k, va, rfl, rfl, hk, HR, hb⟩ := hrel
    have hR := H.out.below hb
    rw [← HN.out] at hR
    have c0 : wr.cell? ⟨x, 0, none⟩ = some (.slice A N c) := hR.head.cell 0
    have c1 : wr.cell? ⟨x, 1, none⟩ = some (.slice A2 N c2) := hR.head.cell 1
    by_cases hlt : (k : Int) < N
    · have hkB : k < B.length := by rw [← HN.out]; omega
      obtain ⟨q, qc, rr, rd, e1, e2, -, hnd, hc⟩ := (H.out.below hb).at_ hkB
      obtain ⟨rfl, rfl⟩ : A = some ⟨q, 0, none⟩ ∧ c = qc := by injection e1 with e1 _ e3; exact ⟨e1, e3⟩
      obtain ⟨rfl, rfl⟩ : A2 = some ⟨rr, 0, none⟩ ∧ c2 = rd := by injection e2 with e1 _ e3; exact ⟨e1, e3⟩
      obtain ⟨k0, k1, k2, k3, k4, k5, k6, k7⟩ := eight_of hc
      obtain ⟨y, hy⟩ : ∃ y, y = B[k] := ⟨_, rfl⟩
      have hstep := atLs_take (v := v) hkB hy
      rw [← hy] at k0 k1 k2 k3 k4 k5 k6 k7 hnd
      obtain ⟨xi, xt, xc, xa, xo, xp, xs, xr, xn⟩ := y
      simp only at k0 k1 k2 k3 k4 k5 k6 k7 hnd
      have hTl : (atLs (B.take k) v).length ≤ 1000 := by
        refine Nat.le_trans (atLs_len _ _) ?_
        rw [List.length_take]
        omega
      obtain ⟨T, hT⟩ : ∃ T, T = atLs (B.take k) v := ⟨_, rfl⟩
      rw [← hT] at hstep hTl HR
      have HST := Lib.hid hstep
      have hw2 : IntKind.i64.wrap ((k : Int) + 1) = (k : Int) + 1 := wrap_small (by omega) (by omega)
      have HB := Lib.hid hb
      clear hy hc hR hkB hstep hb e1 e2 hT
      cases t0 : (xn == v) with
      | false =>
        have hne : xn ≠ v := by simpa using t0
        have h2 := HST.out
        rw [if_neg (fun h => hne h.1), List.append_nil] at h2
        have HX : Hid (Recs RL 34 w.heap.size wr u5 (atLs (B.take (k + 1)) v)) := Lib.hid (by rw [h2]; exact HR.out)
        clear h2 hne
        go_wp2
        go_roundw
        case rel => exact ⟨k + 1, _, rfl, by go_num, by omega, HX, HB.out⟩
        case measure => simp [intOf]; omega
      | true =>
        have heq : xn = v := by simpa using t0
        cases xr with
        | true =>
          have h2 := HST.out
          rw [if_neg (fun h => by cases h.2), List.append_nil] at h2
          have HX : Hid (Recs RL 34 w.heap.size wr u5 (atLs (B.take (k + 1)) v)) := Lib.hid (by rw [h2]; exact HR.out)
          clear h2 heq
          go_wp2
          go_roundw
          case rel => exact ⟨k + 1, _, rfl, by go_num, by omega, HX, HB.out⟩
          case measure => simp [intOf]; omega
        | false =>
          have h2 := HST.out
          rw [if_pos ⟨heq, rfl⟩] at h2
          have HS := Lib.hid h2
          have HRw := Lib.hid (HR.out.below ((Below.refl _ wr).alloc (Nat.le_refl _) (.cells #[.int .i64 xi, .string xt, .int .i64 xc, .bool xa, .bool xo, .bool xp, .int .i64 xs, .bool false] 34)))
          have Hnew : Hid (Has (wr.alloc (.cells #[.int .i64 xi, .string xt, .int .i64 xc, .bool xa, .bool xo, .bool xp, .int .i64 xs, .bool false] 34)) wr.heap.size (.cells #[.int .i64 xi, .string xt, .int .i64 xc, .bool xa, .bool xo, .bool xp, .int .i64 xs, .bool false] 34 (0, 0))) := Lib.hid (Has.fresh _ _)
          have HB1 := Lib.hid (HB.out.alloc HB.out.size (.cells #[.int .i64 xi, .string xt, .int .i64 xc, .bool xa, .bool xo, .bool xp, .int .i64 xs, .bool false] 34))
          clear h2 heq HST
          have Hx : Hid (T.length ≤ 1000000 ∧ w.heap.size ≤ (wr.alloc (.cells #[.int .i64 xi, .string xt, .int .i64 xc, .bool xa, .bool xo, .bool xp, .int .i64 xs, .bool false] 34)).heap.size) := Lib.hid ⟨by omega, HB1.out.size⟩
          clear hTl
          go_wp2_with (at_builtin; go_loud (refine wpList_pushR (R := RL) (x := (⟨xi, xt, xc, xa, xo, xp, xs, false, xn⟩ : Ls)) rfl (.tmp 36) (.tmp 44) 27 rfl i0 _ 56 Try.underlying27 HI.out HZ0.out HZ1.out HZ2.out rfl rfl HRw.out rfl Hnew.out Hx.out.1 (by omega) Hx.out.2 ?_; intro g3 cap3 w3 hr3 hk3 hat3 hlt3))
          rw [← HS.out] at hr3
          have hb3 : Below w.heap.size w w3 := below_then HB1.out hk3 HB1.out.size fun i hi hF => Nat.not_le.2 hi (HRw.out.in_ i hF).1
          go_roundw
          case rel => exact ⟨k + 1, _, rfl, by go_num, by omega, Lib.hid hr3, hb3⟩
          case measure => simp [intOf]; omega
    · have hkN : k = N := by omega
      have hR2 := HR.out
      rw [List.take_of_length_le (by rw [← HN.out, hkN]; exact Nat.le_refl _)] at hR2
      have HR2 := Lib.hid hR2
      have HB := Lib.hid hb
      clear hR2 HR hkN hb hR
      go_wp2
      go_ret
      exact ⟨⟨_, rfl, HR2.out⟩, HB.out⟩
set_option maxHeartbeats 4000000 in
theorem same_of {b1 b2 : Nat} {v u : Value} {xs : List Ls} (hl : xs.length ≤ 1000) (h1 : Recs RL 34 b1 w v xs) (h2 : Recs RL 34 b2 w u xs) :
    Calls Try.prog 15 #[v, u] w fun e w' => e = .returned (.bool true) ∧ ∃ n, w' = w.drewN n := by
  obtain ⟨A, c, rfl, -⟩ := h1.form
  obtain ⟨A2, c2, rfl, -⟩ := h2.form
  have H1 := Lib.hid h1
  have H2 := Lib.hid h2
  obtain ⟨N, hN⟩ : ∃ N, N = xs.length := ⟨_, rfl⟩
  have HN := Lib.hid hN
  rw [← hN] at hl ⊢
  clear h1 h2 hN
  have hz : ((N : Int) != (N : Int)) = false := by simp
  go_enter Try.func15, Try.ntmps15
  go_wp2_with fail
  go_loopw [5] (fun i wr => ∃ k n : Nat, i = .int .i64 k ∧ k ≤ N ∧ wr = w.drewN n) (fun i _ => N - (intOf i).toNat)
  case atStart => exact ⟨0, 0, rfl, Nat.zero_le _, rfl⟩
  case round =>
    obtain ⟨k, n, rfl, hk, rfl⟩ := hrel
    by_cases hlt : (k : Int) < N
    · have hkB : k < xs.length := by rw [← HN.out]; omega
      have h1 := H1.out
      have h2 := H2.out
      obtain ⟨q, qc, e1, -, -, -, hc⟩ := h1.rowAt hkB
      obtain ⟨rr, rd, e2, -, -, -, hd⟩ := h2.rowAt hkB
      obtain ⟨rfl, rfl⟩ : A = some ⟨q, 0, none⟩ ∧ c = qc := by injection e1 with e1 _ e3; exact ⟨e1, e3⟩
      obtain ⟨rfl, rfl⟩ : A2 = some ⟨rr, 0, none⟩ ∧ c2 = rd := by injection e2 with e1 _ e3; exact ⟨e1, e3⟩
      obtain ⟨k0, k1, k2, k3, k4, k5, k6, k7⟩ := eight_of (w := w) hc
      obtain ⟨m0, m1, m2, m3, m4, m5, m6, m7⟩ := eight_of hd
      obtain ⟨y, hy⟩ : ∃ y, y = xs[k] := ⟨_, rfl⟩
      rw [← hy] at k0 k1 k2 k3 k4 k5 k6 k7 m0 m1 m2 m3 m4 m5 m6 m7
      obtain ⟨xi, xt, xc, xa, xo, xp, xsg, xr, xn⟩ := y
      simp only at k0 k1 k2 k3 k4 k5 k6 k7 m0 m1 m2 m3 m4 m5 m6 m7
      have hw2 : IntKind.i64.wrap ((k : Int) + 1) = (k : Int) + 1 := wrap_small (by omega) (by omega)
      clear hy hc hd hkB e1 e2 h1 h2
      go_wp2_with fail
      go_quiet (fail)
      go_wp2
      go_roundw
      case rel => exact ⟨k + 1, _, by go_num, by omega, rfl⟩
      case measure => simp [intOf]; omega
    · go_wp2
      go_ret
      exact ⟨rfl, _, rfl⟩
end
end Go.Proofs.Ytgdgmcehkhimpaa

namespace Go.Proofs.Ytgdgmcehkhimpaa
open Go Go.RowKit

section
variable {S F : Nat → Prop} {w w' : World} {x : Nat} {v v' u u' : Value} {B B' : List Ls} {xi xc xs node : Int} {xt : ByteArray} {xa xo xp xr : Bool}
theorem map_killed {j : Nat} (hj : j < B.length) : (B.set j { B[j] with rem := true }).map (·.node) = B.map (·.node) := by
  apply List.ext_getElem?
  intro t
  rw [List.getElem?_map, List.getElem?_map, List.getElem?_set]
  by_cases e : j = t
  · subst e
    rw [if_pos rfl, if_pos hj, List.getElem?_eq_getElem hj]
    rfl
  · rw [if_neg e]
set_option maxHeartbeats 4000000 in
theorem rlKill (i : Int) (h : Rls S w x B) (hl : B.length ≤ 1000) : Calls Try.prog 11 #[ptrL x, .int .i64 i] w fun e w' => e = .returned (.bool (lsAlive B i)) ∧ Rls S w' x (killLs B i) ∧ Keeps S w w' := by
  unfold ptrL
  have H := Lib.hid h
  obtain ⟨vL, vN, h⟩ := h
  obtain ⟨⟨A, c, rfl⟩, A2, c2, rfl⟩ := h.forms
  have c0 : w.cell? ⟨x, 0, none⟩ = some (.slice A B.length c) := h.head.cell 0
  cases ht : lThere B i with
  | false =>
    have e1 : lsAlive B i = false := by unfold lsAlive; rw [ht]; rfl
    have e2 : killLs B i = B := by unfold killLs; rw [e1]; exact if_neg (by decide)
    rw [e1, e2]
    unfold lThere at ht
    obtain ⟨N, hN⟩ : ∃ N, N = B.length := ⟨_, rfl⟩
    rw [← hN] at ht c0
    clear h e1 e2 hl hN
    by_cases hlt : i < 1
    · have d1 : decide (i < 1) = true := decide_eq_true hlt
      clear ht
      go_enter Try.func11, Try.ntmps11
      go_wp2
      go_ret
      exact ⟨rfl, H.out, Keeps.refl _ _⟩
    · have d1 : decide (i < 1) = false := decide_eq_false hlt
      have d2 : decide ((N : Int) < i) = true := by
        rw [decide_eq_true (show 1 ≤ i by omega), Bool.true_and, decide_eq_false_iff_not] at ht
        exact decide_eq_true (by omega)
      have hlt2 : (N : Int) < i := of_decide_eq_true d2
      clear ht
      go_enter Try.func11, Try.ntmps11
      go_wp2
      go_ret
      exact ⟨rfl, H.out, Keeps.refl _ _⟩
  | true =>
    obtain ⟨j, rfl, hj⟩ := lThere_at ht
    obtain ⟨q, qc, rr, rd, e1, e2, hfz, -, hc⟩ := h.at_ hj
    obtain ⟨rfl, rfl⟩ : A = some ⟨q, 0, none⟩ ∧ c = qc := by injection e1 with e1 _ e3; exact ⟨e1, e3⟩
    clear e1 e2
    obtain ⟨-, -, -, -, -, -, -, c7⟩ := eight_of hc
    have hal : lsAlive B ((j : Int) + 1) = !B[j].rem := by unfold lsAlive; rw [ht, lsAt_at hj]; rfl
    have hw : IntKind.i64.wrap ((j : Int) + 1 - 1) = (j : Int) := by rw [wrap_small (by omega) (by omega)]; omega
    cases hr : B[j].rem with
    | true =>
      rw [hr] at hal c7
      have hk : killLs B ((j : Int) + 1) = B := by unfold killLs; rw [hal]; exact if_neg (by decide)
      rw [hk, hal]
      obtain ⟨N, hN⟩ : ∃ N, N = B.length := ⟨_, rfl⟩
      rw [← hN] at c0 hj hl
      clear h hc hfz ht hr hk hal hN
      have d1 : ¬ (j : Int) + 1 < 1 := by omega
      have d2 : ¬ (N : Int) < (j : Int) + 1 := by omega
      go_enter Try.func11, Try.ntmps11
      go_wp2
      go_ret
      exact ⟨rfl, H.out, Keeps.refl _ _⟩
    | false =>
      rw [hr] at hal c7
      have hf7 := hfz (j * 8 + 7)
      have hFIN : Hid (Rls S (w.setCell ⟨q, j * 8 + 7, none⟩ (.bool true)) x (killLs B ((j : Int) + 1)) ∧ Keeps S w (w.setCell ⟨q, j * 8 + 7, none⟩ (.bool true))) := Lib.hid (by
        have hk : Keeps (fun i => i = q) w (w.setCell ⟨q, j * 8 + 7, none⟩ (.bool true)) := Keeps.store (F := fun i => i = q) (p := ⟨q, j * 8 + 7, none⟩) (Keeps.refl _ _) (.inl rfl) _
        have hst : Recs RL 34 0 (w.setCell ⟨q, j * 8 + 7, none⟩ (.bool true)) (.slice (some ⟨q, 0, none⟩) B.length c) (B.set j { B[j] with rem := true }) := Recs.store (R := RL) (f := 7) h.rows (List.getElem?_eq_getElem hj) (by decide) rfl
        obtain ⟨cur, hcur⟩ : ∃ cur, Has w q (.cells cur 34 (0, 0)) := by
          rcases h.rows.2 with ⟨hv, _⟩ | ⟨g', cap, cur, hv, _, hh', _⟩
          · cases hv
          · obtain rfl : q = g' := by injection hv with e1 _ _; simpa using e1
            exact ⟨cur, hh'⟩
        refine ⟨⟨_, _, h.head.kept hk fun e => Has.apart hcur h.head (by simp) e.symm, ?_, ?_, h.hx, h.hv, h.hu⟩, hk.wide fun i _ hi => by rw [hi]; exact h.hv q rfl⟩
        · rw [killLs_set hj hr]
          exact hst
        · rw [killLs_set hj hr, map_killed hj]
          exact h.nodes.kept hk fun i hi e => own_apart h.nodes hcur (by decide) (e ▸ hi))
      rw [hal]
      obtain ⟨N, hN⟩ : ∃ N, N = B.length := ⟨_, rfl⟩
      rw [← hN] at c0 hj hl
      clear h hc hfz ht hr hal hN H
      have d1 : ¬ (j : Int) + 1 < 1 := by omega
      have d2 : ¬ (N : Int) < (j : Int) + 1 := by omega
      go_enter Try.func11, Try.ntmps11
      go_wp2
      go_ret
      exact ⟨rfl, hFIN.out⟩
/-- A number, an error's number, and the document's lists then. -/
def RAdded (S : Nat → Prop) (w : World) (x : Nat) (B : List Ls) (v : Int) (y : Ls) (e : Ending) (w' : World) : Prop := e = .returned (.tuple #[.int .i64 (lsNo B v y), .int .i64 (lsErr B v y)]) ∧ Rls S w' x (addLs B v y) ∧ Keeps S w w'
theorem RAdded.not {v : Int} {y : Ls} {w' : World} {z : Int} (he : lsErr B v y = z) (hg : lsGoes B v y = false) (h : Rls S w x B) (hb : Below w.heap.size w w') : RAdded S w x B v y (.returned (.tuple #[.int .i64 0, .int .i64 z])) w' := by
  obtain ⟨h1, h2⟩ := not_goes hg
  unfold RAdded
  rw [h1, h2, he]
  exact ⟨rfl, h.below hb, Keeps.of_below hb fun i hi hle => by omega⟩
/-- What isn't fit. -/
theorem rlAdd_not (h : Rls S w x B) (hf : fitB node xt xc xs = false) (ht : xt.size ≤ 9223372036854775807) :
    Calls Try.prog 9 #[ptrL x, .int .i64 node, .agg #[.int .i64 xi, .string xt, .int .i64 xc, .bool xa, .bool xo, .bool xp, .int .i64 xs, .bool xr]] w (RAdded S w x B node (⟨xi, xt, xc, xa, xo, xp, xs, xr, 0⟩ : Ls)) := by
  unfold ptrL
  have hnot : ∀ (x : Bool) (w : World), (Op.unary .not (.bool x)).run Try.prog w = .ok (.bool (!x)) w := fun _ _ => rfl
  have hb0 : Below w.heap.size w (w.alloc (.cells #[.int .i64 xi, .string xt, .int .i64 xc, .bool xa, .bool xo, .bool xp, .int .i64 xs, .bool xr] 34)) := (Below.refl _ w).alloc (Nat.le_refl _) _
  have he := lsErr_not (B := B) (xi := xi) (xa := xa) (xo := xo) (xp := xp) (xr := xr) hf
  have hg : lsGoes B node (⟨xi, xt, xc, xa, xo, xp, xs, xr, 0⟩ : Ls) = false := by unfold lsGoes; rw [he]; rfl
  have HD := Lib.hid (RAdded.not he hg h hb0)
  have HR := Lib.hid (refRight_any xt (w.alloc (.cells #[.int .i64 xi, .string xt, .int .i64 xc, .bool xa, .bool xo, .bool xp, .int .i64 xs, .bool xr] 34)) ht)
  unfold fitB at hf
  clear he hg hb0 h
  by_cases h1 : 1 ≤ node
  · have d1 : decide (node < 1) = false := decide_eq_false (by omega)
    by_cases h2 : 1 ≤ xc
    · have d2 : decide (xc < 1) = false := decide_eq_false (by omega)
      by_cases h3 : 0 ≤ xs
      · have d3 : decide (xs < 0) = false := decide_eq_false (by omega)
        rw [decide_eq_true h1, decide_eq_true h2, decide_eq_true h3] at hf
        have hr : rightL xt.data.toList = false := hf
        rw [hr] at HR
        clear hf hr h1 h2 h3
        go_enter Try.func9, Try.ntmps9
        go_wp2_with fail
        refine HR.out.mono ?_
        rintro e w1 ⟨rfl, rfl⟩
        go_wp2
        go_ret2
        exact HD.out
      · have d3 : decide (xs < 0) = true := decide_eq_true (by omega)
        clear hf h1 h2 h3
        go_enter Try.func9, Try.ntmps9
        go_wp2
        go_ret2
        exact HD.out
    · have d2 : decide (xc < 1) = true := decide_eq_true (by omega)
      clear hf h1 h2
      go_enter Try.func9, Try.ntmps9
      go_wp2
      go_ret2
      exact HD.out
  · have d1 : decide (node < 1) = true := decide_eq_true (by omega)
    clear hf h1
    go_enter Try.func9, Try.ntmps9
    go_wp2
    go_ret2
    exact HD.out
set_option maxHeartbeats 8000000 in
set_option maxRecDepth 100000 in
theorem rlAdd (h : Rls S w x B) (hS : Fut S w.heap.size) (hl : B.length ≤ 1000) (ht : xt.size ≤ 9223372036854775807) :
    Calls Try.prog 9 #[ptrL x, .int .i64 node, .agg #[.int .i64 xi, .string xt, .int .i64 xc, .bool xa, .bool xo, .bool xp, .int .i64 xs, .bool xr]] w (RAdded S w x B node (⟨xi, xt, xc, xa, xo, xp, xs, xr, 0⟩ : Ls)) := by
  cases hf : fitB node xt xc xs with
  | false => exact rlAdd_not h hf ht
  | true =>
    unfold ptrL
    have hnot : ∀ (x : Bool) (w : World), (Op.unary .not (.bool x)).run Try.prog w = .ok (.bool (!x)) w := fun _ _ => rfl
    have hb0 : Below w.heap.size w (w.alloc (.cells #[.int .i64 xi, .string xt, .int .i64 xc, .bool xa, .bool xo, .bool xp, .int .i64 xs, .bool xr] 34)) := (Below.refl _ w).alloc (Nat.le_refl _) _
    have he := lsErr_fit (B := B) (xi := xi) (xa := xa) (xo := xo) (xp := xp) (xr := xr) hf
    have HR := Lib.hid (refRight_any xt (w.alloc (.cells #[.int .i64 xi, .string xt, .int .i64 xc, .bool xa, .bool xo, .bool xp, .int .i64 xs, .bool xr] 34)) ht)
    have hbox0 : Has (w.alloc (.cells #[.int .i64 xi, .string xt, .int .i64 xc, .bool xa, .bool xo, .bool xp, .int .i64 xs, .bool xr] 34)) w.heap.size (.cells #[.int .i64 xi, .string xt, .int .i64 xc, .bool xa, .bool xo, .bool xp, .int .i64 xs, .bool xr] 34 (0, 0)) := Has.fresh _ _
    have HX0 := Lib.hid hbox0
    unfold fitB at hf
    rw [Bool.and_eq_true, Bool.and_eq_true, Bool.and_eq_true, decide_eq_true_iff, decide_eq_true_iff, decide_eq_true_iff] at hf
    obtain ⟨⟨⟨h1, h2⟩, h3⟩, h4⟩ := hf
    rw [h4] at HR
    have d1 : decide (node < 1) = false := decide_eq_false (by omega)
    have d2 : decide (xc < 1) = false := decide_eq_false (by omega)
    have d3 : decide (xs < 0) = false := decide_eq_false (by omega)
    have HQ := Lib.hid (rlFind node xc xt xa (h.below hb0) hl)
    unfold ptrL at HQ
    have H := Lib.hid h
    obtain ⟨vL, vN, h⟩ := h
    obtain ⟨⟨A, c, rfl⟩, A2, c2, rfl⟩ := h.forms
    have HA := Lib.hid h
    have c0 : (w.alloc (.cells #[.int .i64 xi, .string xt, .int .i64 xc, .bool xa, .bool xo, .bool xp, .int .i64 xs, .bool xr] 34)).cell? ⟨x, 0, none⟩ = some (.slice A B.length c) := (h.below hb0).head.cell 0
    have HB0 := Lib.hid hb0
    have HS := Lib.hid hS
    clear h hb0 h1 h2 h3 h4 hbox0 hS
    obtain ⟨n, hn⟩ : ∃ n, n = B.length := ⟨_, rfl⟩
    have HN := Lib.hid hn
    rw [← hn] at c0 he hl
    by_cases hfull : 512 ≤ n
    · rw [if_pos hfull] at he
      have hg : lsGoes B node (⟨xi, xt, xc, xa, xo, xp, xs, xr, 0⟩ : Ls) = false := by unfold lsGoes; rw [he]; rfl
      have HD := Lib.hid (RAdded.not he hg H.out HB0.out)
      have hge : (512 : Int) ≤ (n : Int) := by omega
      clear he hg hfull hn
      go_enter Try.func9, Try.ntmps9
      go_wp2_with fail
      refine HR.out.mono ?_
      rintro e w1 ⟨rfl, rfl⟩
      go_wp2
      go_ret2
      exact HD.out
    · rw [if_neg hfull] at he
      have hge : ¬ (512 : Int) ≤ (n : Int) := by omega
      by_cases hz : findLs B node xt xc xa = 0
      · have hg : lsGoes B node (⟨xi, xt, xc, xa, xo, xp, xs, xr, 0⟩ : Ls) = true := by
          unfold lsGoes
          rw [he]
          show (decide ((0 : Int) = 0) && decide (findLs B node xt xc xa = 0)) = true
          rw [hz]
          rfl
        rw [hz] at HQ
        obtain ⟨g1, g2⟩ := goes hg
        rw [← hn] at g1 g2
        have HG1 := Lib.hid g1
        have HG2 := Lib.hid g2
        have HE := Lib.hid he
        have hw : IntKind.i64.wrap ((n : Int) + 1) = (n : Int) + 1 := wrap_small (by omega) (by omega)
        clear he hg hfull hn g1 g2 hz
        go_enter Try.func9, Try.ntmps9
        go_wp2_with fail
        refine HR.out.mono ?_
        rintro e w1 ⟨rfl, rfl⟩
        go_wp2_with fail
        refine HQ.out.mono ?_
        rintro e w2 ⟨rfl, hb2⟩
        have hX2 := HX0.out.below hb2 HX0.out.inside
        have hb2' := HB0.out.trans (hb2.mono HB0.out.size)
        have h2 := HA.out.below hb2'
        have hxw : x ≠ w.heap.size := by have := HA.out.head.inside; omega
        have q0 : w2.cell? ⟨x, 0, none⟩ = some (.slice A n c) := by rw [HN.out]; exact h2.head.cell 0
        have y0 := hX2.cell 0
        have y1 := hX2.cell 1
        have y2 := hX2.cell 2
        have y3 := hX2.cell 3
        have y4 := hX2.cell 4
        have y5 := hX2.cell 5
        have y6 := hX2.cell 6
        have y7 := hX2.cell 7
        have f0 := hX2.free 0
        have f7 := hX2.free 7
        have HX2 := Lib.hid hX2
        have HB2 := Lib.hid hb2'
        have H2 := Lib.hid h2
        clear hX2 hb2' h2 hb2 c0 HB0
        obtain ⟨j0, qi, qz0, qz1, qz2⟩ := info_parts Try.infoL
        obtain ⟨j1, ri, rz0, rz1, rz2⟩ := info_parts Try.infoI
        have Qi := Lib.hid qi
        have Qz0 := Lib.hid qz0
        have Qz1 := Lib.hid qz1
        have Qz2 := Lib.hid qz2
        have Ri := Lib.hid ri
        have Rz0 := Lib.hid rz0
        have Rz1 := Lib.hid rz1
        have Rz2 := Lib.hid rz2
        clear qi qz0 qz1 qz2 ri rz0 rz1 rz2
        have hX9 : Has ((w2.setCell ⟨w.heap.size, 0, none⟩ (.int .i64 ((n : Int) + 1))).setCell ⟨w.heap.size, 7, none⟩ (.bool false)) w.heap.size (.cells #[.int .i64 ((n : Int) + 1), .string xt, .int .i64 xc, .bool xa, .bool xo, .bool xp, .int .i64 xs, .bool false] 34 (0, 0)) := by
          have := (HX2.out.stored 0 (.int .i64 ((n : Int) + 1))).stored 7 (.bool false)
          simpa using this
        have hb9 : Below w.heap.size w ((w2.setCell ⟨w.heap.size, 0, none⟩ (.int .i64 ((n : Int) + 1))).setCell ⟨w.heap.size, 7, none⟩ (.bool false)) := (HB2.out.setCell (p := ⟨w.heap.size, 0, none⟩) (Nat.le_refl _) _).setCell (p := ⟨w.heap.size, 7, none⟩) (Nat.le_refl _) _
        obtain ⟨W9, hW9⟩ : ∃ W9, W9 = ((w2.setCell ⟨w.heap.size, 0, none⟩ (.int .i64 ((n : Int) + 1))).setCell ⟨w.heap.size, 7, none⟩ (.bool false)) := ⟨_, rfl⟩
        rw [← hW9] at hX9 hb9
        have h9 := HA.out.below hb9
        have hS0 : ∀ W, Has W w.heap.size (.cells #[.int .i64 ((n : Int) + 1), .string xt, .int .i64 xc, .bool xa, .bool xo, .bool xp, .int .i64 xs, .bool false] 34 (0, 0)) → Has W x (.cells #[.slice A B.length c, .slice A2 B.length c2] 30 (0, 0)) → ((W.cell? ⟨w.heap.size, 0, none⟩ = some (.int .i64 ((n : Int) + 1)) ∧ W.cell? ⟨w.heap.size, 1, none⟩ = some (.string xt) ∧ W.cell? ⟨w.heap.size, 2, none⟩ = some (.int .i64 xc) ∧ W.cell? ⟨w.heap.size, 3, none⟩ = some (.bool xa) ∧ W.cell? ⟨w.heap.size, 4, none⟩ = some (.bool xo) ∧ W.cell? ⟨w.heap.size, 5, none⟩ = some (.bool xp) ∧ W.cell? ⟨w.heap.size, 6, none⟩ = some (.int .i64 xs) ∧ W.cell? ⟨w.heap.size, 7, none⟩ = some (.bool false)) ∧ W.cell? ⟨x, 0, none⟩ = some (.slice A n c)) := fun W hq hx => ⟨⟨hq.cell 0, hq.cell 1, hq.cell 2, hq.cell 3, hq.cell 4, hq.cell 5, hq.cell 6, hq.cell 7⟩, by rw [HN.out]; exact hx.cell 0⟩
        have HX9 := Lib.hid hX9
        have HB9 := Lib.hid hb9
        have H9 := Lib.hid h9
        have HS0 := Lib.hid hS0
        have HW9 := Lib.hid hW9
        clear hX9 hb9 h9 hS0 hW9
        go_wp2_with fail
        rw [← HW9.out]
        clear HW9 y0 y1 y2 y3 y4 y5 y6 y7 f0 f7 q0 HX2 HB2 H2
        refine wp_region_way (late := [10]) (S := fun W => ((W.cell? ⟨w.heap.size, 0, none⟩ = some (.int .i64 ((n : Int) + 1)) ∧ W.cell? ⟨w.heap.size, 1, none⟩ = some (.string xt) ∧ W.cell? ⟨w.heap.size, 2, none⟩ = some (.int .i64 xc) ∧ W.cell? ⟨w.heap.size, 3, none⟩ = some (.bool xa) ∧ W.cell? ⟨w.heap.size, 4, none⟩ = some (.bool xo) ∧ W.cell? ⟨w.heap.size, 5, none⟩ = some (.bool xp) ∧ W.cell? ⟨w.heap.size, 6, none⟩ = some (.int .i64 xs) ∧ W.cell? ⟨w.heap.size, 7, none⟩ = some (.bool false)) ∧ W.cell? ⟨x, 0, none⟩ = some (.slice A n c))) (y := Way.takes [0, 1, 2, 3, 4, 5] (.run 6 (.run 7 (.run 8 (.run 9 (.run 10 .fin)))))) (by kernel_rfl) (by kernel_rfl) rfl (by kernel_rfl) (HS0.out _ HX9.out H9.out.head) (fun hHeld => ?_)
        simp only [Way.takes]
        (repeat (first | (refine way_skip (by simp only [List.getElem?_toArray, List.getElem?_cons_succ, List.getElem?_cons_zero]; rfl) (by rfl) hHeld ?_; (try simp only [Act.put, List.setIfInBounds_toArray, List.set_cons_zero, List.set_cons_succ])) | (refine way_pass (by simp only [List.getElem?_toArray, List.getElem?_cons_succ, List.getElem?_cons_zero]; rfl) (by rfl) hHeld ?_; (try simp only [Act.put, List.setIfInBounds_toArray, List.set_cons_zero, List.set_cons_succ])) | (refine way_take (v := ?_) (by simp only [List.getElem?_toArray, List.getElem?_cons_succ, List.getElem?_cons_zero]; rfl) (by rfl) ?_ hHeld ?_; rotate_left; (focus (intro w hSw; (try dsimp only at hSw); go_simp; (try with_reducible rfl); done)); (try simp only [Act.put, List.setIfInBounds_toArray, List.set_cons_zero, List.set_cons_succ]))))
        refine way_run (by simp only [List.getElem?_toArray, List.getElem?_cons_succ, List.getElem?_cons_zero]; rfl) (by rfl) (fun K hK => ?_)
        go_simp
        have hb10 : Below W9.heap.size W9 (W9.alloc (.cells #[.int .i64 ((n : Int) + 1), .string xt, .int .i64 xc, .bool xa, .bool xo, .bool xp, .int .i64 xs, .bool false] 34)).drew := ((Below.refl _ W9).alloc (Nat.le_refl _) _).drew
        have hnew10 : Has (W9.alloc (.cells #[.int .i64 ((n : Int) + 1), .string xt, .int .i64 xc, .bool xa, .bool xo, .bool xp, .int .i64 xs, .bool false] 34)).drew W9.heap.size (.cells #[.int .i64 ((n : Int) + 1), .string xt, .int .i64 xc, .bool xa, .bool xo, .bool xp, .int .i64 xs, .bool false] 34 (0, 0)) := Has.fresh W9 _
        have H10 := Lib.hid (H9.out.below hb10)
        have HX10 := Lib.hid (HX9.out.below hb10 HX9.out.inside)
        have HB10 := Lib.hid (HB9.out.trans (hb10.mono HB9.out.size))
        have HN10 := Lib.hid hnew10
        have HR10 : Hid (Recs RL 34 0 (W9.alloc (.cells #[.int .i64 ((n : Int) + 1), .string xt, .int .i64 xc, .bool xa, .bool xo, .bool xp, .int .i64 xs, .bool false] 34)).drew (.slice A n c) B) := Lib.hid (by
          have := H10.out.rows
          rw [← HN.out] at this
          exact this)
        clear hb10 hnew10
        refine hK.out _ _ (HS0.out _ HX10.out H10.out.head) (fun hHeld => ?_)
        clear hK K
        (try simp only [Act.put, List.setIfInBounds_toArray, List.set_cons_zero, List.set_cons_succ])
        refine way_run (by simp only [List.getElem?_toArray, List.getElem?_cons_succ, List.getElem?_cons_zero]; rfl) (by rfl) (fun K hK => ?_)
        refine wp_pushR (R := RL) (x := (⟨(n : Int) + 1, xt, xc, xa, xo, xp, xs, false, node⟩ : Ls)) (v := .slice A n c) (xs := B) (base := 0) (.tmp 56) (.tmp 58) 27 rfl j0 _ 56 Try.underlying27 Qi.out Qz0.out Qz1.out Qz2.out rfl rfl HR10.out rfl HN10.out (by have := HN.out; omega) (by omega) (Nat.zero_le _) (fun g11 c11 w11 hR11 hk11 hat11 hlt11 => ?_)
        have hob : (Value.slice A n c).ownBlock = (Value.slice A B.length c).ownBlock := by cases A <;> rfl
        rw [hob] at hat11
        simp only [hob] at hk11
        -- behind the append
        have hvx : ¬ (Value.slice A B.length c).ownBlock = some x := fun e => own_apart H10.out.rows H10.out.head (by decide) e
        have hvw : ¬ (Value.slice A B.length c).ownBlock = some w.heap.size := fun e => by
          have := (HA.out.rows.in_ _ e).2
          omega
        have hh11 := H10.out.head.kept hk11 hvx
        have hX11 := HX10.out.kept hk11 hvw
        have hu11 := H10.out.nodes.kept hk11 fun i hi e => own_apart2 H10.out.nodes H10.out.rows (by decide) i e hi
        have hgx : g11 ≠ x := fun e => own_apart hR11 hh11 (by decide) (by rw [← e]; rfl)
        have hk12 : Keeps (fun i => i = x) w11 (w11.setCell ⟨x, 0, none⟩ (.slice (some ⟨g11, 0, none⟩) (B.length + 1) c11)) := Keeps.store (F := fun i => i = x) (p := ⟨x, 0, none⟩) (Keeps.refl _ _) (.inl rfl) _
        have hh12 : Has (w11.setCell ⟨x, 0, none⟩ (.slice (some ⟨g11, 0, none⟩) (B.length + 1) c11)) x (.cells #[(.slice (some ⟨g11, 0, none⟩) (B.length + 1) c11), .slice A2 B.length c2] 30 (0, 0)) := by
          have := hh11.stored 0 (.slice (some ⟨g11, 0, none⟩) (B.length + 1) c11)
          simpa using this
        have hX12 := hX11.kept hk12 (fun e => hxw e.symm)
        have hR12 : Recs RL 34 0 (w11.setCell ⟨x, 0, none⟩ (.slice (some ⟨g11, 0, none⟩) (B.length + 1) c11)) (.slice (some ⟨g11, 0, none⟩) (B.length + 1) c11) (B ++ [(⟨(n : Int) + 1, xt, xc, xa, xo, xp, xs, false, node⟩ : Ls)]) := hR11.kept hk12 fun i hi e => hgx (by
          have : g11 = i := by simpa [Value.ownBlock] using hi
          rw [this]
          exact e)
        have hu12 := hu11.kept hk12 fun i hi e => own_apart hu11 hh11 (by decide) (e ▸ hi)
        have hS11 : S g11 := by
          rcases hat11 with e | e
          · exact HA.out.hv _ e
          · exact HS.out _ (Nat.le_trans HB10.out.size e)
        have hK12 : Keeps S w (w11.setCell ⟨x, 0, none⟩ (.slice (some ⟨g11, 0, none⟩) (B.length + 1) c11)) := ((Keeps.of_below (F := S) HB10.out fun i hi hle => by omega).trans hk11 fun i _ hi => HA.out.hv i hi).trans hk12 fun i _ hi => by rw [hi]; exact HA.out.hx
        have q44 := hh11.cell 0
        have hz4 := hh11.free 0
        have Q11 := Lib.hid (HS0.out _ hX11 hh11)
        have HH12 := Lib.hid hh12
        have HX12 := Lib.hid hX12
        have HR12 := Lib.hid hR12
        have HU12 := Lib.hid hu12
        have HK12 := Lib.hid hK12
        clear hvx hvw hh11 hX11 hu11 hgx hk12 hh12 hX12 hR12 hu12 hK12 hR11 hk11 hat11 hlt11
        refine hK.out _ _ Q11.out (fun hHeld => ?_)
        clear hK K
        (try simp only [Act.put, List.setIfInBounds_toArray, List.set_cons_zero, List.set_cons_succ])
        refine way_run (by simp only [List.getElem?_toArray, List.getElem?_cons_succ, List.getElem?_cons_zero]; rfl) (by rfl) (fun K hK => ?_)
        go_simp
        refine hK.out _ _ Q11.out (fun hHeld => ?_)
        clear hK K
        (try simp only [Act.put, List.setIfInBounds_toArray, List.set_cons_zero, List.set_cons_succ])
        refine way_run (by simp only [List.getElem?_toArray, List.getElem?_cons_succ, List.getElem?_cons_zero]; rfl) (by rfl) (fun K hK => ?_)
        go_simp
        refine hK.out _ _ Q11.out (fun hHeld => ?_)
        clear hK K
        (try simp only [Act.put, List.setIfInBounds_toArray, List.set_cons_zero, List.set_cons_succ])
        refine way_last (by rfl) (by simp only [List.getElem?_toArray, List.getElem?_cons_succ, List.getElem?_cons_zero]; rfl) (by rfl) (fun K hK => ?_)
        go_simp
        refine hK.out _ _ ?_
        clear hK K
        refine way_done ?_
        clear hHeld q44 hz4 Q11 HS0
        obtain ⟨w12, hw12⟩ : ∃ w12, w12 = w11.setCell ⟨x, 0, none⟩ (.slice (some ⟨g11, 0, none⟩) (B.length + 1) c11) := ⟨_, rfl⟩
        rw [← hw12] at HH12 HX12 HR12 HU12 HK12 ⊢
        clear hw12 H10 HX10 HB10 HN10 H9 HX9 HB9
        have z1 : w12.cell? ⟨x, 1, none⟩ = some (.slice A2 B.length c2) := HH12.out.cell 1
        have hb13 : Below w12.heap.size w12 (w12.alloc (.cells #[.int .i64 node] 3)) := (Below.refl _ w12).alloc (Nat.le_refl _) _
        have HN13 : Hid (Has (w12.alloc (.cells #[.int .i64 node] 3)) w12.heap.size (.cells #[.int .i64 node] 3 (0, 0))) := Lib.hid (Has.fresh w12 _)
        have hu13 := HU12.out.below hb13
        have hL13 : (B.map (·.node)).length ≤ 1000000 := by rw [List.length_map, ← HN.out]; omega
        obtain ⟨M, hM⟩ : ∃ M, M = B.map (·.node) := ⟨_, rfl⟩
        rw [← hM] at hu13 hL13
        have HU13 := Lib.hid hu13
        have HL13 := Lib.hid hL13
        have HM := Lib.hid hM
        clear hu13 hL13 hM
        have HFIN : Hid (∀ g14 c14 w14, Recs RI 3 0 w14 (.slice (some ⟨g14, 0, none⟩) (M.length + 1) c14) (M ++ [node]) → Keeps (fun i => (Value.slice A2 B.length c2).ownBlock = some i) (w12.alloc (.cells #[.int .i64 node] 3)) w14 → ((Value.slice A2 B.length c2).ownBlock = some g14 ∨ (w12.alloc (.cells #[.int .i64 node] 3)).heap.size ≤ g14) → 
            w14.cell? ⟨x, 1, none⟩ = some (.slice A2 B.length c2) ∧ w14.frozen? ⟨x, 1, none⟩ = false ∧ (w14.setCell ⟨x, 1, none⟩ (.slice (some ⟨g14, 0, none⟩) (M.length + 1) c14)).cell? ⟨w.heap.size, 0, none⟩ = some (.int .i64 ((n : Int) + 1)) ∧ RAdded S w x B node (⟨xi, xt, xc, xa, xo, xp, xs, xr, 0⟩ : Ls) (.returned (.tuple #[.int .i64 ((n : Int) + 1), .int .i64 0])) (w14.setCell ⟨x, 1, none⟩ (.slice (some ⟨g14, 0, none⟩) (M.length + 1) c14))) := Lib.hid fun g14 c14 w14 hR14 hk14 hat14 => by
          have hux : ¬ (Value.slice A2 B.length c2).ownBlock = some x := fun e => own_apart HU12.out HH12.out (by decide) e
          have huw : ¬ (Value.slice A2 B.length c2).ownBlock = some w.heap.size := fun e => own_apart HU12.out HX12.out (by decide) e
          have hh14 := (HH12.out.below hb13 HH12.out.inside).kept hk14 hux
          have hX14 := (HX12.out.below hb13 HX12.out.inside).kept hk14 huw
          have hr13 := HR12.out.below hb13
          have hr14 := hr13.kept hk14 fun i hi e => own_apart2 hr13 HU13.out (by decide) i e hi
          have hgx : g14 ≠ x := fun e => own_apart hR14 hh14 (by decide) (by rw [← e]; rfl)
          have hk15 : Keeps (fun i => i = x) w14 (w14.setCell ⟨x, 1, none⟩ (.slice (some ⟨g14, 0, none⟩) (M.length + 1) c14)) := Keeps.store (F := fun i => i = x) (p := ⟨x, 1, none⟩) (Keeps.refl _ _) (.inl rfl) _
          have hX15 := hX14.kept hk15 (fun e => hxw e.symm)
          have hh15 : Has (w14.setCell ⟨x, 1, none⟩ (.slice (some ⟨g14, 0, none⟩) (M.length + 1) c14)) x (.cells #[(.slice (some ⟨g11, 0, none⟩) (B.length + 1) c11), (.slice (some ⟨g14, 0, none⟩) (M.length + 1) c14)] 30 (0, 0)) := by
            have := hh14.stored 1 (.slice (some ⟨g14, 0, none⟩) (M.length + 1) c14)
            simpa using this
          refine ⟨hh14.cell 1, hh14.free 1, hX15.cell 0, ?_, ⟨(.slice (some ⟨g11, 0, none⟩) (B.length + 1) c11), (.slice (some ⟨g14, 0, none⟩) (M.length + 1) c14), hh15, ?_, ?_, HA.out.hx, fun i hi => ?_, fun i hi => ?_⟩, ?_⟩
          · rw [HG1.out, HE.out]
          · rw [HG2.out]
            exact hr14.kept hk15 fun i hi e => own_apart hr14 hh14 (by decide) (e ▸ hi)
          · rw [HG2.out, List.map_append, ← HM.out]
            exact hR14.kept hk15 fun i hi e => hgx (by
              have : g14 = i := by simpa [Value.ownBlock] using hi
              rw [this]
              exact e)
          · obtain rfl : g11 = i := by simpa [Value.ownBlock] using hi
            exact hS11
          · obtain rfl : g14 = i := by simpa [Value.ownBlock] using hi
            rcases hat14 with e | e
            · exact HA.out.hu _ e
            · exact HS.out _ (Nat.le_trans (Nat.le_trans HK12.out.grows hb13.size) e)
          · exact ((HK12.out.also (Keeps.of_below hb13 fun i hi hle => by omega)).trans hk14 fun i _ hi => HA.out.hu i hi).trans hk15 fun i _ hi => by rw [hi]; exact HA.out.hx
        clear hb13 HH12 HX12 HR12 HU12 HK12 hS11
        go_wp2_with (at_builtin; go_loud (refine wpList_pushR (R := RI) (x := node) (v := .slice A2 B.length c2) (xs := M) (base := 0) rfl (.tmp 66) (.tmp 68) 28 rfl j1 _ 8 Try.underlying28 Ri.out Rz0.out Rz1.out Rz2.out rfl rfl HU13.out rfl HN13.out HL13.out (by omega) (Nat.zero_le _) ?_; intro g14 c14 w14 hR14 hk14 hat14 hlt14; obtain ⟨t1, t2, t3, hFN⟩ := HFIN.out g14 c14 w14 hR14 hk14 hat14; have HFN := Lib.hid hFN; clear hFN hR14 hk14 hat14 hlt14 HFIN))
        go_ret2
        exact HFN.out
      · have hg : lsGoes B node (⟨xi, xt, xc, xa, xo, xp, xs, xr, 0⟩ : Ls) = false := by
          unfold lsGoes
          rw [he]
          show (decide ((0 : Int) = 0) && decide (findLs B node xt xc xa = 0)) = false
          rw [decide_eq_false hz]
          rfl
        have HE := Lib.hid he
        have HG := Lib.hid hg
        obtain ⟨r, hr⟩ : ∃ r, r = findLs B node xt xc xa := ⟨_, rfl⟩
        rw [← hr] at hz HQ
        have hz1 : (r != 0) = true := by simpa using hz
        have hz2 : (r == 0) = false := by simpa using hz
        clear he hg hfull hn hr hz
        go_enter Try.func9, Try.ntmps9
        go_wp2_with fail
        refine HR.out.mono ?_
        rintro e w1 ⟨rfl, rfl⟩
        have x1 := HX0.out.cell 1
        go_wp2_with fail
        refine HQ.out.mono ?_
        rintro e w2 ⟨rfl, hb2⟩
        have HB2 := Lib.hid (HB0.out.trans (hb2.mono HB0.out.size))
        clear hb2
        go_wp2
        go_ret2
        exact RAdded.not HE.out HG.out H.out HB2.out
end
end Go.Proofs.Ytgdgmcehkhimpaa

namespace Go.Proofs.Ytgdgmcehkhimpaa
open Go Go.RowKit

theorem rlsOk (x : Nat) (B : List Ls) : RepOk fun S w => Rls S w x B := ⟨fun h k hF => h.kept k hF, fun h hS => h.wide hS⟩
abbrev LivR (w0 : World) (S : Nat → Prop) (x : Nat) (B : List Ls) (w : World) : Prop := Liv (fun S w => Rls S w x B) w0 S w
/-- .. of the same listeners, in blocks apart. -/
structure Duo (w0 : World) (S1 S2 : Nat → Prop) (b x : Nat) (B : List Ls) (w : World) : Prop where
  prog : LivL w0 S1 b B w
  doc : LivR w0 S2 x B w
  apart : ∀ i, S1 i → ¬ S2 i
section
variable {w0 w w' : World} {S1 S2 F : Nat → Prop} {b x : Nat} {B : List Ls} {xi xc xs node : Int} {xt : ByteArray} {xa xo xp xr : Bool}
theorem Duo.next (h : Duo w0 S1 S2 b x B w) (hb : Below w.heap.size w w') : Duo w0 S1 S2 b x B w' := ⟨h.prog.next (lstOk b B) hb, h.doc.next (rlsOk x B) hb, h.apart⟩
theorem Duo.keep (h : Duo w0 S1 S2 b x B w) (k : Keeps F w w') (h1 : ∀ i, S1 i → ¬ F i) (h2 : ∀ i, S2 i → ¬ F i) (hw : ∀ i, i < w0.heap.size → ¬ F i) : Duo w0 S1 S2 b x B w' := ⟨h.prog.keep (lstOk b B) k h1 hw, h.doc.keep (rlsOk x B) k h2 hw, h.apart⟩
theorem Duo.len (h : Duo w0 S1 S2 b x B w) : B.length ≤ 512 := h.prog.rep.ok.few
/-- The program's lists are in turn: the document's are as they were, and then both are the same again. -/
structure Half (w0 : World) (S1 S2 : Nat → Prop) (b x : Nat) (B1 B2 : List Ls) (w : World) : Prop where
  prog : LivL w0 S1 b B1 w
  doc : LivR w0 S2 x B2 w
  apart : ∀ i, S1 i → ¬ S2 i
theorem Half.next {B1 B2 : List Ls} (h : Half w0 S1 S2 b x B1 B2 w) (hb : Below w.heap.size w w') : Half w0 S1 S2 b x B1 B2 w' := ⟨h.prog.next (lstOk b B1) hb, h.doc.next (rlsOk x B2) hb, h.apart⟩
/-- A thing that is nobody's. -/
def Free (S1 S2 : Nat → Prop) (i : Nat) : Prop := ¬ S1 i ∧ ¬ S2 i
theorem duoAdd (h : Duo w0 S1 S2 b x B w) (hn : -9223372036854775808 ≤ node ∧ node ≤ 9223372036854775807) (ht : xt.size ≤ 9223372036854775807) :
    Calls Try.prog 8 #[ptrL b, .int .i64 node, .agg #[.int .i64 xi, .string xt, .int .i64 xc, .bool xa, .bool xo, .bool xp, .int .i64 xs, .bool xr]] w fun e w' => e = .returned (.tuple #[.int .i64 (lsNo B node ⟨xi, xt, xc, xa, xo, xp, xs, xr, 0⟩), .int .i64 (lsErr B node ⟨xi, xt, xc, xa, xo, xp, xs, xr, 0⟩)]) ∧
      (∃ S1', Half w0 S1' S2 b x (addLs B node ⟨xi, xt, xc, xa, xo, xp, xs, xr, 0⟩) B w' ∧ ∀ i, i < w.heap.size → Free S1 S2 i → Free S1' S2 i) ∧ Keeps S1 w w' :=
  (livAdd h.prog hn ht).mono fun _ _ ⟨he, ⟨S', hL, hS⟩, hk⟩ => ⟨he, ⟨S', ⟨hL, h.doc.keep (rlsOk x B) hk (fun i hi h1 => h.apart i h1 hi) fun i hi h1 => by have := (h.prog.low i h1).1; omega, fun i h1 h2 => (Nat.lt_or_ge i w.heap.size).elim (fun hlt => hS i hlt (fun h1' => h.apart i h1' h2) h1) fun hge => by have := (h.doc.low i h2).2; omega⟩, fun i hi hf => ⟨hS i hi hf.1, hf.2⟩⟩, hk⟩
theorem duoKill (i : Int) (h : Duo w0 S1 S2 b x B w) : Calls Try.prog 10 #[ptrL b, .int .i64 i] w fun e w' => e = .returned (.bool (lsAlive B i)) ∧ (∃ S1', Half w0 S1' S2 b x (killLs B i) B w' ∧ ∀ i, i < w.heap.size → Free S1 S2 i → Free S1' S2 i) ∧ Keeps S1 w w' :=
  (livKill i h.prog).mono fun _ _ ⟨he, ⟨S', hL, hS⟩, hk⟩ => ⟨he, ⟨S', ⟨hL, h.doc.keep (rlsOk x B) hk (fun i hi h1 => h.apart i h1 hi) fun i hi h1 => by have := (h.prog.low i h1).1; omega, fun i h1 h2 => (Nat.lt_or_ge i w.heap.size).elim (fun hlt => hS i hlt (fun h1' => h.apart i h1' h2) h1) fun hge => by have := (h.doc.low i h2).2; omega⟩, fun i hi hf => ⟨hS i hi hf.1, hf.2⟩⟩, hk⟩
theorem halfAdd {B1 : List Ls} (h : Half w0 S1 S2 b x B1 B w) (hl : B.length ≤ 1000) (ht : xt.size ≤ 9223372036854775807) (h1 : B1 = addLs B node ⟨xi, xt, xc, xa, xo, xp, xs, xr, 0⟩) :
    Calls Try.prog 9 #[ptrL x, .int .i64 node, .agg #[.int .i64 xi, .string xt, .int .i64 xc, .bool xa, .bool xo, .bool xp, .int .i64 xs, .bool xr]] w fun e w' => e = .returned (.tuple #[.int .i64 (lsNo B node ⟨xi, xt, xc, xa, xo, xp, xs, xr, 0⟩), .int .i64 (lsErr B node ⟨xi, xt, xc, xa, xo, xp, xs, xr, 0⟩)]) ∧
      (∃ S2', Duo w0 S1 S2' b x B1 w' ∧ ∀ i, i < w.heap.size → Free S1 S2 i → Free S1 S2' i) ∧ Keeps S2 w w' := by
  subst h1
  refine (rlAdd (h.doc.more (rlsOk x B)) (fun _ hi => .inr hi) hl ht).mono fun _ _ ⟨he, hR, hk⟩ => ?_
  obtain ⟨⟨S', hL, hS⟩, hk⟩ := h.doc.turned (rlsOk x _) hR hk
  exact ⟨he, ⟨S', ⟨h.prog.keep (lstOk b _) hk (fun i hi h1 => h.apart i hi h1) (fun i hi h1 => by have := (h.doc.low i h1).1; omega), hL, fun i h1 h2 => (Nat.lt_or_ge i w.heap.size).elim (fun hlt => hS i hlt (fun h2' => h.apart i h1 h2') h2) fun hge => by have := (h.prog.low i h1).2; omega⟩, fun i hi hf => ⟨hf.1, hS i hi hf.2⟩⟩, hk⟩
theorem halfKill {B1 : List Ls} (i : Int) (h : Half w0 S1 S2 b x B1 B w) (hl : B.length ≤ 1000) (h1 : B1 = killLs B i) :
    Calls Try.prog 11 #[ptrL x, .int .i64 i] w fun e w' => e = .returned (.bool (lsAlive B i)) ∧ (∃ S2', Duo w0 S1 S2' b x B1 w' ∧ ∀ i, i < w.heap.size → Free S1 S2 i → Free S1 S2' i) ∧ Keeps S2 w w' := by
  subst h1
  refine (rlKill i (h.doc.more (rlsOk x B)) hl).mono fun _ _ ⟨he, hR, hk⟩ => ?_
  obtain ⟨⟨S', hL, hS⟩, hk⟩ := h.doc.turned (rlsOk x _) hR hk
  exact ⟨he, ⟨S', ⟨h.prog.keep (lstOk b _) hk (fun i hi h1 => h.apart i hi h1) (fun i hi h1 => by have := (h.doc.low i h1).1; omega), hL, fun i h1 h2 => (Nat.lt_or_ge i w.heap.size).elim (fun hlt => hS i hlt (fun h2' => h.apart i h1 h2') h2) fun hge => by have := (h.prog.low i h1).2; omega⟩, fun i hi hf => ⟨hf.1, hS i hi hf.2⟩⟩, hk⟩
end
end Go.Proofs.Ytgdgmcehkhimpaa

namespace Go.Proofs.Ytgdgmcehkhimpaa
open Go.ChangeShapes Go.WideShapes Go.ChangeAt Go.RowKit

theorem own : ownKnob Try.prog.godebug = none := by kernel_rfl
theorem laidOut : laidOutB Try.prog = true := by kernel_rfl
theorem ib {a : Int} (h : (Lit.int .i64 a).wf = true) : -9223372036854775808 ≤ a ∧ a ≤ 9223372036854775807 := by
  have h1 : IntKind.i64.min = -9223372036854775808 := rfl
  have h2 : IntKind.i64.max = 9223372036854775807 := rfl
  simp only [Lit.wf, Bool.and_eq_true, decide_eq_true_eq, h1, h2] at h
  exact h
theorem ib8 {a : Int} (h : (Lit.int .u8 a).wf = true) : 0 ≤ a ∧ a ≤ 255 := by
  have h1 : IntKind.u8.min = 0 := rfl
  have h2 : IntKind.u8.max = 255 := rfl
  simp only [Lit.wf, Bool.and_eq_true, decide_eq_true_eq, h1, h2] at h
  exact h
theorem ib16 {a : Int} (h : (Lit.int .u16 a).wf = true) : 0 ≤ a ∧ a ≤ 65535 := by
  have h1 : IntKind.u16.min = 0 := rfl
  have h2 : IntKind.u16.max = 65535 := rfl
  simp only [Lit.wf, Bool.and_eq_true, decide_eq_true_eq, h1, h2] at h
  exact h
end Go.Proofs.Ytgdgmcehkhimpaa

namespace Go.Proofs.Ytgdgmcehkhimpaa
open Go Go.ChangeShapes Go.WideShapes Go.ChangeAt Go.RowKit

/-- A call on lists. -/
structure Lcal where
  kind : Int
  node : Int
  id : Int
  x : Ls
def Lcal.cells (c : Lcal) : List Value := .int .i64 c.kind :: .int .i64 c.node :: .int .i64 c.id :: c.x.cells
/-- A call that came in, at its place. -/
def LcalAt (w : World) (A : Option Addr) (i : Nat) (c : Lcal) : Prop := ∃ b off, A = some ⟨b, off, none⟩ ∧ b < w.heap.size ∧ (∀ f, f < 11 → w.cell? ⟨b, off + i * 11 + f, none⟩ = c.cells[f]?) ∧ c.x.typ.size ≤ 9223372036854775807 ∧ (-9223372036854775808 ≤ c.node ∧ c.node ≤ 9223372036854775807)
def Lcals (w : World) (A : Option Addr) (xs : List Lcal) : Prop := ∀ i (h : i < xs.length), LcalAt w A i xs[i]
theorem Lcals.below {w w' : World} {A : Option Addr} {xs : List Lcal} (h : Lcals w A xs) (hb : Below w.heap.size w w') : Lcals w' A xs := fun i hi => by
  obtain ⟨b, off, e, hB, hc, h1, h2⟩ := h i hi
  exact ⟨b, off, e, Nat.lt_of_lt_of_le hB hb.size, fun f hf => (hb.cell (p := ⟨b, _, none⟩) hB).trans (hc f hf), h1, h2⟩
/-- .. written out. -/
theorem eleven_of {w : World} {b o : Nat} {c : Lcal} (h : ∀ f, f < 11 → w.cell? ⟨b, o + f, none⟩ = c.cells[f]?) : (w.cell? ⟨b, o, none⟩ = some (.int .i64 c.kind) ∧ w.cell? ⟨b, o + 1, none⟩ = some (.int .i64 c.node) ∧ w.cell? ⟨b, o + 2, none⟩ = some (.int .i64 c.id)) ∧
    w.cell? ⟨b, o + 3, none⟩ = some (.int .i64 c.x.id) ∧ w.cell? ⟨b, o + 4, none⟩ = some (.string c.x.typ) ∧ w.cell? ⟨b, o + 5, none⟩ = some (.int .i64 c.x.cb) ∧ w.cell? ⟨b, o + 6, none⟩ = some (.bool c.x.cap) ∧ w.cell? ⟨b, o + 7, none⟩ = some (.bool c.x.once) ∧ w.cell? ⟨b, o + 8, none⟩ = some (.bool c.x.pas) ∧ w.cell? ⟨b, o + 9, none⟩ = some (.int .i64 c.x.sig) ∧ w.cell? ⟨b, o + 10, none⟩ = some (.bool c.x.rem) :=
  ⟨⟨h 0 (by decide), h 1 (by decide), h 2 (by decide)⟩, h 3 (by decide), h 4 (by decide), h 5 (by decide), h 6 (by decide), h 7 (by decide), h 8 (by decide), h 9 (by decide), h 10 (by decide)⟩
section
variable {H : Type} {enc : TypeId × Value → H} {W : World} {sp : Nat → Bool} {held : Bool} {fuel : Nat} {cs : List Value} {y : DataW H × List MemPlace}
theorem opts_in (h : DataW.trod enc Try.prog W 0 sp held fuel 32 cs = some y) : ∃ (a o p : Bool) (s : Int), cs = [.bool a, .bool o, .bool p, .int .i64 s] := by
  obtain ⟨xs, n, _, _, hlen, hxl, hf⟩ := DataW.trod_struct Try.underlying32 h
  have h4 : cs.length = 4 := hlen.trans (by kernel_rfl)
  have hxl' : xs.length = 4 := hxl
  have one : Try.prog.cellsOf 3 = 1 := by kernel_rfl
  have oneB : Try.prog.cellsOf 4 = 1 := by kernel_rfl
  have get : ∀ i, i < 4 → ∃ z, xs[i]? = some z := fun i hi => ⟨xs[i]'(by omega), List.getElem?_eq_getElem _⟩
  obtain ⟨z0, g0⟩ := get 0 (by omega)
  obtain ⟨z1, g1⟩ := get 1 (by omega)
  obtain ⟨z2, g2⟩ := get 2 (by omega)
  obtain ⟨z3, g3⟩ := get 3 (by omega)
  obtain ⟨a0, e0, _⟩ := DataW.trod_bool Try.underlying4 ((hf 0 _ rfl).trans g0)
  obtain ⟨a1, e1, _⟩ := DataW.trod_bool Try.underlying4 ((hf 1 _ rfl).trans g1)
  obtain ⟨a2, e2, _⟩ := DataW.trod_bool Try.underlying4 ((hf 2 _ rfl).trans g2)
  obtain ⟨a3, e3, _, _⟩ := DataW.trod_int Try.underlying3 ((hf 3 _ rfl).trans g3)
  refine ⟨a0, a1, a2, a3, ?_⟩
  refine List.ext_getElem? fun i => ?_
  match i with
  | 0 => exact part_one e0 oneB
  | 1 => exact part_one e1 oneB
  | 2 => exact part_one e2 oneB
  | 3 => exact part_one e3 one
  | i + 4 => rw [List.getElem?_eq_none (by omega), List.getElem?_eq_none (by show 4 ≤ i + 4; omega)]
theorem ls_in (h : DataW.trod enc Try.prog W 0 sp held fuel 34 cs = some y) : ∃ x : Ls, cs = x.cells ∧ x.node = 0 ∧ x.typ.size ≤ 9223372036854775807 := by
  obtain ⟨xs, n, _, _, hlen, hxl, hf⟩ := DataW.trod_struct Try.underlying34 h
  have h8 : cs.length = 8 := hlen.trans (by kernel_rfl)
  have hxl' : xs.length = 5 := hxl
  have one : Try.prog.cellsOf 3 = 1 := by kernel_rfl
  have oneB : Try.prog.cellsOf 4 = 1 := by kernel_rfl
  have oneS : Try.prog.cellsOf 9 = 1 := by kernel_rfl
  have four : Try.prog.cellsOf 32 = 4 := by kernel_rfl
  have get : ∀ i, i < 5 → ∃ z, xs[i]? = some z := fun i hi => ⟨xs[i]'(by omega), List.getElem?_eq_getElem _⟩
  obtain ⟨z0, g0⟩ := get 0 (by omega)
  obtain ⟨z1, g1⟩ := get 1 (by omega)
  obtain ⟨z2, g2⟩ := get 2 (by omega)
  obtain ⟨z3, g3⟩ := get 3 (by omega)
  obtain ⟨z4, g4⟩ := get 4 (by omega)
  obtain ⟨a0, e0, _, _⟩ := DataW.trod_int Try.underlying3 ((hf 0 _ rfl).trans g0)
  obtain ⟨a1, e1, _, s1⟩ := DataW.trod_string Try.underlying9 ((hf 1 _ rfl).trans g1)
  obtain ⟨a2, e2, _, _⟩ := DataW.trod_int Try.underlying3 ((hf 2 _ rfl).trans g2)
  obtain ⟨oa, oo, op, os, e3⟩ := opts_in ((hf 3 _ rfl).trans g3)
  obtain ⟨a4, e4, _⟩ := DataW.trod_bool Try.underlying4 ((hf 4 _ rfl).trans g4)
  refine ⟨⟨a0, a1, a2, oa, oo, op, os, a4, 0⟩, ?_, rfl, s1⟩
  have hd : ∀ f, f < 4 → cs[3 + f]? = ([.bool oa, .bool oo, .bool op, .int .i64 os] : List Value)[f]? := fun f hf => by
    have : ((cs.drop 3).take (Try.prog.cellsOf 32))[f]? = ([.bool oa, .bool oo, .bool op, .int .i64 os] : List Value)[f]? := congrArg (fun l : List Value => l[f]?) e3
    rw [four, List.getElem?_take, if_pos hf, List.getElem?_drop] at this
    exact this
  refine List.ext_getElem? fun i => ?_
  match i with
  | 0 => exact part_one e0 one
  | 1 => exact part_one e1 oneS
  | 2 => exact part_one e2 one
  | 3 => exact hd 0 (by omega)
  | 4 => exact hd 1 (by omega)
  | 5 => exact hd 2 (by omega)
  | 6 => exact hd 3 (by omega)
  | 7 => exact part_one e4 oneB
  | i + 8 => rw [List.getElem?_eq_none (by omega), List.getElem?_eq_none (by show 8 ≤ i + 8; omega)]
theorem lcal_in (h : DataW.trod enc Try.prog W 0 sp held fuel 36 cs = some y) : ∃ c : Lcal, cs = c.cells ∧ c.x.node = 0 ∧ c.x.typ.size ≤ 9223372036854775807 ∧ (-9223372036854775808 ≤ c.node ∧ c.node ≤ 9223372036854775807) := by
  obtain ⟨xs, n, _, _, hlen, hxl, hf⟩ := DataW.trod_struct Try.underlying36 h
  have h11 : cs.length = 11 := hlen.trans (by kernel_rfl)
  have hxl' : xs.length = 4 := hxl
  have one : Try.prog.cellsOf 3 = 1 := by kernel_rfl
  have eight : Try.prog.cellsOf 34 = 8 := by kernel_rfl
  have get : ∀ i, i < 4 → ∃ z, xs[i]? = some z := fun i hi => ⟨xs[i]'(by omega), List.getElem?_eq_getElem _⟩
  obtain ⟨z0, g0⟩ := get 0 (by omega)
  obtain ⟨z1, g1⟩ := get 1 (by omega)
  obtain ⟨z2, g2⟩ := get 2 (by omega)
  obtain ⟨z3, g3⟩ := get 3 (by omega)
  obtain ⟨a0, e0, _, _⟩ := DataW.trod_int Try.underlying3 ((hf 0 _ rfl).trans g0)
  obtain ⟨a1, e1, _, w1⟩ := DataW.trod_int Try.underlying3 ((hf 1 _ rfl).trans g1)
  obtain ⟨a2, e2, _, _⟩ := DataW.trod_int Try.underlying3 ((hf 2 _ rfl).trans g2)
  obtain ⟨x, e3, h0, hs⟩ := ls_in ((hf 3 _ rfl).trans g3)
  refine ⟨⟨a0, a1, a2, x⟩, ?_, h0, hs, ib w1⟩
  have hd : ∀ f, f < 8 → cs[3 + f]? = x.cells[f]? := fun f hf => by
    have : ((cs.drop 3).take (Try.prog.cellsOf 34))[f]? = x.cells[f]? := congrArg (fun l : List Value => l[f]?) e3
    rw [eight, List.getElem?_take, if_pos hf, List.getElem?_drop] at this
    exact this
  refine List.ext_getElem? fun i => ?_
  match i with
  | 0 => exact part_one e0 one
  | 1 => exact part_one e1 one
  | 2 => exact part_one e2 one
  | 3 => exact hd 0 (by omega)
  | 4 => exact hd 1 (by omega)
  | 5 => exact hd 2 (by omega)
  | 6 => exact hd 3 (by omega)
  | 7 => exact hd 4 (by omega)
  | 8 => exact hd 5 (by omega)
  | 9 => exact hd 6 (by omega)
  | 10 => exact hd 7 (by omega)
  | i + 11 => rw [List.getElem?_eq_none (by omega), List.getElem?_eq_none (by show 11 ≤ i + 11; omega)]
theorem lcals_in {A : Option Addr} {n cap : Nat} (h : DataW.trod enc Try.prog W 0 sp held fuel 22 [.slice A n cap] = some y) : ∃ xs : List Lcal, xs.length = n ∧ Lcals W A xs ∧ n ≤ cap ∧ n ≤ maxLen := by
  have c11 : Try.prog.cellsOf 36 = 11 := by kernel_rfl
  rcases DataW.trod_slice Try.underlying22 h with ⟨hv, _⟩ | ⟨a, n', cap', elems, rest, m, _, hv, _, _, hl, hm, hlen, hel, _, _⟩
  · obtain ⟨rfl, rfl, rfl⟩ : A = none ∧ n = 0 ∧ cap = 0 := by simpa using hv
    exact ⟨[], rfl, fun i hi => absurd hi (Nat.not_lt_zero i), Nat.le_refl 0, Nat.zero_le _⟩
  · obtain ⟨rfl, rfl, rfl⟩ : A = some a ∧ n = n' ∧ cap = cap' := by simpa using hv
    have each : ∀ i, i < n → ∃ x, LcalAt W (some a) i x := fun i hi => by
      have hb := hel i hi
      rw [List.getElem?_eq_getElem (by omega), c11, Option.bind_eq_some_iff] at hb
      obtain ⟨cs, hcs, ht⟩ := hb
      obtain ⟨x, rfl, _, hs, hn⟩ := lcal_in ht
      obtain ⟨_, _, hc⟩ := World.cells?_some hcs
      obtain ⟨b, off, spot⟩ := a
      have hsp : spot = none := by
        have hb0 := hel 0 (by omega)
        rw [List.getElem?_eq_getElem (by omega), c11, Option.bind_eq_some_iff] at hb0
        obtain ⟨cs0, hcs0, _⟩ := hb0
        obtain ⟨_, hl0, hc0⟩ := World.cells?_some hcs0
        have h1 := hc0 0 (by omega)
        rw [List.getElem?_eq_getElem (by omega)] at h1
        simpa [Addr.add] using World.cell?_spot h1
      subst hsp
      have hc' : ∀ f, f < 11 → W.cell? ⟨b, off + i * 11 + f, none⟩ = x.cells[f]? := fun f hf => by
        have := hc f hf
        rw [Addr.add_lit, Addr.add_lit] at this
        exact this
      exact ⟨x, b, off, rfl, cell_in (hc' 0 (by omega)), hc', hs, hn⟩
    refine ⟨(List.range n).attach.map fun i => (each i.1 (List.mem_range.1 i.2)).choose, by simp, fun i hi => ?_, hl, Nat.le_trans hl hm⟩
    have hi' : i < n := by simpa using hi
    have := (each i hi').choose_spec
    simpa using this
end
end Go.Proofs.Ytgdgmcehkhimpaa
