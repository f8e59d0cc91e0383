/-
  slices.Backward over a list of entries, whatever its rounds keep, if they keep that list and the iterator's box.
  The turns of a path, plain; the target that is told at a place. No program is named here.
  What hasTarget and phase of package walk do; a clone of a list of entries.
  What the function that walk.Each hands back does, as an iterator: it hands over the turns, one by one, over whatever loop.
  A list of numbers, cut: s[:k], s[k:].
  What the document's Turns, Target and Same do (towncrierref16).
  What walk.Each hands back, and the list of turns that walk.Turns makes of it.
  What towncrierlaw16.awake does: it answers true.
  What lastTarget and Target of package walk do.
  A region that draws its order, walked within a round as it is walked elsewhere. No program is named here.
  Arguments that came in, opened: lists of texts and of numbers. Facts of the program that every row's proof wants.
  Paths that came in: a list of entries, read cell by cell.
-/
import Derived.Test.YtekmgaigppenlaaPartE
import Derived.Lib.SliceRun
import Derived.Deep.DeepCutAuto
import Derived.Maps.AppendAt
import Derived.Shelf.RegionOpen
import Derived.Test.YtekmgaigppenlaaProg
import Derived.Test.YtekmgaigppenlaaChecked
import Derived.ProofKit
import Derived.OpenShut

namespace Go.Proofs.Ytekmgaigppenlaa
open Go Go.RowKit Go.Shelf
attribute [local go_sem] Oper.semAt_some

/-- Cells in the blocks Y lie as they lay. -/
def KpC (Y : Nat → Prop) (W W' : World) : Prop := ∀ b o, Y b → W.heap[b]? = some o → o.isCells = true → W'.heap[b]? = some o
section
variable {Y : Nat → Prop} {U V W W' : World} {A : Option Addr} {c : Nat} {xs : List Stp} {b : Nat} {t : TypeId} {v : Value}
theorem KpC.refl (Y : Nat → Prop) (W : World) : KpC Y W W := fun _ _ _ h _ => h
theorem KpC.trans (h : KpC Y U V) (k : KpC Y V W) : KpC Y U W := fun b o hb ho hc => k b o hb (h b o hb ho hc) hc
theorem KpC.book (W : World) (l : Nat) (o o' : Obj) (h : W.heap[l]? = some o) (h1 : o.isCells = false) : KpC Y W (W.putObj l o') := fun b u _ hu hc =>
  (World.putObj_heap_other (fun e => by subst e; rw [h] at hu; cases hu; rw [h1] at hc; cases hc)).trans hu
theorem KpC.of_below (h : Below W.heap.size W W') : KpC Y W W' := fun b _ _ ho _ => (h.block b (Array.getElem?_eq_some_iff.1 ho).1).trans ho
theorem KpC.box (h : KpC Y W W') (hb : Y b) (hv : Boxed W b t v) : Boxed W' b t v := h b _ hb hv rfl
theorem KpC.rec (h : KpC Y W W') (hA : 0 < xs.length → ∀ b off s, A = some ⟨b, off, s⟩ → Y b) (hR : RecIn RS W A c xs) : RecIn RS W' A c xs := by
  refine ⟨hR.cap, hR.nil, fun i hi => ?_⟩
  obtain ⟨b, off, e, hb, hc⟩ := hR.at_ i hi
  have h0 : W.cell? ⟨b, off + (i * RS.n + 0), none⟩ = some (.int .i64 xs[i].node) := hc 0 (by decide)
  obtain ⟨o, ho, hcell⟩ := cells_of_cell h0
  have ho' := h b o (hA (by omega) b off none e) ho hcell
  refine ⟨b, off, e, (Array.getElem?_eq_some_iff.1 ho').1, fun f hf => (World.cell?_of_block (a := ⟨b, off + (i * RS.n + f), none⟩) (ho'.trans ho.symm)).trans (hc f hf)⟩
end
section
set_option maxRecDepth 100000 in
set_option maxHeartbeats 2000000 in
theorem bkG_in (n : Nat) (hn : 1 ≤ n) (Kp : World → World → Prop) (l Bs len cap : Nat) (A : Option Addr) (xs : List Stp) (hlen : xs.length = len) (hl : len ≤ 1000000) (hKB : ∀ X Y, Kp X Y → Boxed X Bs 22 (.slice A len cap) → Boxed Y Bs 22 (.slice A len cap)) (hKR : ∀ X Y, Kp X Y → RecIn RS X A cap xs → RecIn RS Y A cap xs) (J Jx : List (Nat × Stp) → World → Prop)
    (hY : ∀ pre x W, J pre W → pre.length < len → YieldAt Fence.wide (n - 1) Try.prog l #[.int .i64 (x.1 : Int), .agg #[.int .i64 x.2.node, .int .i64 x.2.target, .int .i64 x.2.related, .bool x.2.cr, .bool x.2.cs]] W fun e W' =>
      (e = .returned (.bool true) ∧ J (pre ++ [x]) W' ∧ Kp W W') ∨ (e = .returned (.bool false) ∧ Jx (pre ++ [x]) W'))
    (W : World) (hBs : Boxed W Bs 22 (.slice A len cap)) (hR : RecIn RS W A cap xs) (h0 : J [] W) :
    CallsIn Fence.wide n Try.prog 34 #[.func (.yield l) #[] #[], .pointer (some ⟨Bs, 0, none⟩)] W fun e W' => (∃ v, e = .returned v) ∧
      ((∃ ys, ys = bkL xs ∧ J ys W') ∨ (∃ pre, (∃ k, k ≤ len ∧ pre = (bkL xs).take k) ∧ Jx pre W')) := by
  have HR := Lib.hid hR
  have HY := Lib.hid hY
  have HKB := Lib.hid hKB
  have HKR := Lib.hid hKR
  have HL := Lib.hid hlen
  have HB := Lib.hid hBs
  have q0 := hBs.cell
  have hwl : IntKind.i64.wrap ((len : Int) - 1) = (len : Int) - 1 := wrap_small (by omega) (by omega)
  clear hR hY hKB hKR hlen hBs
  refine callsIn_of_wp Try.func34 rfl trivial ?_ rfl
  simp only [Try.ntmps34, List.size_toArray, List.length_cons, List.length_nil, Nat.reduceAdd, Nat.reduceSub, Array.replicate_succ, Array.replicate_zero, List.push_toArray, List.append_toArray, List.nil_append, List.cons_append]
  gi_wp2
  gi_loopw [3] (fun i wr => ∃ m : Nat, m ≤ len ∧ i = .int .i64 ((m : Int) - 1) ∧ J ((bkL xs).take (len - m)) wr ∧ Boxed wr Bs 22 (.slice A len cap) ∧ RecIn RS wr A cap xs) (fun i _ => (intOf i + 1).toNat)
  case atStart => exact ⟨len, Nat.le_refl _, rfl, by rw [Nat.sub_self]; exact h0, HB.out, HR.out⟩
  case round =>
    obtain ⟨m, hm, rfl, hJs, hkb, hkr⟩ := hrel
    cases m with
    | zero =>
      rw [Nat.sub_zero, List.take_of_length_le (by rw [bk_len, HL.out]; exact Nat.le_refl _)] at hJs
      have HJ := Lib.hid hJs
      clear hJs
      gi_wp2
      go_end0
      exact ⟨⟨_, rfl⟩, .inl ⟨_, rfl, HJ.out⟩⟩
    | succ k =>
      have hkl : k < xs.length := by rw [HL.out]; omega
      obtain ⟨b, off, rfl, c0, c1, c2, c3, c4⟩ := five_of hkr hkl
      have hnx : (bkL xs)[len - (k + 1)]? = some (k, xs[k]) := by
        have := bk_get (p := xs) (k := len - (k + 1)) (by rw [HL.out]; omega)
        rw [this]
        simp only [show xs.length - 1 - (len - (k + 1)) = k by rw [HL.out]; omega]
      obtain ⟨x, hx⟩ : ∃ x, x = xs[k] := ⟨_, rfl⟩
      rw [← hx] at c0 c1 c2 c3 c4 hnx
      have htk : (bkL xs).take (len - k) = (bkL xs).take (len - (k + 1)) ++ [(k, x)] := by
        rw [show len - k = len - (k + 1) + 1 by omega, List.take_add_one, hnx]
        rfl
      have hle : ((bkL xs).take (len - (k + 1))).length < len := by
        rw [List.length_take, bk_len, HL.out]
        omega
      obtain ⟨x0, x1, x2, x3, x4⟩ := x
      obtain ⟨fn, tmps, assign, body, hy, hRd⟩ := HY.out _ (k, ⟨x0, x1, x2, x3, x4⟩) wr hJs hle
      have hkk : (((k + 1 : Nat) : Int) - 1) = (k : Int) := by omega
      rw [hkk]
      dsimp only at hy c0 c1 c2 c3 c4
      have q1 := hkb.cell
      have hwk : IntKind.i64.wrap ((k : Int) - 1) = (k : Int) - 1 := wrap_small (by omega) (by omega)
      have HK := Lib.hid hkb
      have HK2 := Lib.hid hkr
      have HT := Lib.hid htk
      have HJ := Lib.hid hJs
      have HRd := Lib.hid hRd
      clear hnx hx hkk hkb hkr htk hle hJs hRd q0
      gi_wp2
      refine HRd.out.mono ?_
      rintro e W3 (⟨rfl, hJ3, hk3⟩ | ⟨rfl, hJx3⟩)
      · have HJ3 := Lib.hid hJ3
        have HK3 := Lib.hid hk3
        clear hJ3 hk3 c0 c1 c2 c3 c4 q1 hy
        gi_wp2
        go_roundw
        case rel => exact ⟨k, by omega, rfl, by rw [HT.out]; exact HJ3.out, HKB.out _ _ HK3.out HK.out, HKR.out _ _ HK3.out HK2.out⟩
        case measure => simp [intOf]
      · have HJ3 := Lib.hid hJx3
        clear hJx3 c0 c1 c2 c3 c4 q1 hy
        gi_wp2
        refine bodyPost_ret (results_none rfl _ _ _) rfl ?_
        exact ⟨⟨_, rfl⟩, .inr ⟨_, ⟨len - k, by omega, HT.out.symm⟩, HJ3.out⟩⟩
theorem bkC_stops (n : Nat) (hn : 1 ≤ n) (Y : Nat → Prop) (Bs len cap : Nat) (A : Option Addr) (xs : List Stp) (hlen : xs.length = len) (hl : len ≤ 1000000) (w : World) (hBs : Y Bs) (hA : 0 < xs.length → ∀ b off s, A = some ⟨b, off, s⟩ → Y b)
    (hc : Boxed w Bs 22 (.slice A len cap)) (hR : RecIn RS w A cap xs) :
    SeqStopsK Fence.wide n Try.prog 34 #[.pointer (some ⟨Bs, 0, none⟩)] (fun x : Nat × Stp => #[Value.int .i64 (x.1 : Int), .agg #[.int .i64 x.2.node, .int .i64 x.2.target, .int .i64 x.2.related, .bool x.2.cr, .bool x.2.cs]]) (KpC Y) (fun ys => ys = bkL xs)
      (fun pre => ∃ k, k ≤ len ∧ pre = (bkL xs).take k) len w := fun l J Jx W hW _ _ hY h0 =>
  bkG_in n hn (KpC Y) l Bs len cap A xs hlen hl (fun _ _ h => h.box hBs) (fun _ _ h => h.rec hA) J Jx hY W ((hW.block Bs hc.lt).trans hc) (hR.below hW) h0
end
end Go.Proofs.Ytekmgaigppenlaa

namespace Go.Proofs.Ytekmgaigppenlaa
open Go

/-- A turn: a place, the phase, whether it is on the capturing way. -/
structure Trn where
  at_ : Int
  phase : Int
  cap : Bool
def Trn.cells (t : Trn) : List Value := [.int .i64 t.at_, .int .i64 t.phase, .bool t.cap]
def RT : Rec Trn := ⟨Trn.cells, 3, fun _ => rfl, fun a u hu => by
  simp only [Trn.cells, List.mem_cons, List.not_mem_nil, or_false] at hu
  rcases hu with rfl | rfl | rfl <;> rfl, by decide⟩
/-- The capturing way of a path whose first entry is at the place n; the other way. -/
def capT : Nat → List Stp → List Trn
  | _, [] => []
  | n, s :: r => capT (n + 1) r ++ [⟨n, if s.target ≠ 0 then 2 else 1, true⟩]
def bub1 (bub : Bool) (n : Nat) (s : Stp) : List Trn := if s.target ≠ 0 then [⟨n, 2, false⟩] else if bub = true then [⟨n, 3, false⟩] else []
def bubT (bub : Bool) : Nat → List Stp → List Trn
  | _, [] => []
  | n, s :: r => bub1 bub n s ++ bubT bub (n + 1) r
def turnsL (p : List Stp) (bub : Bool) : List Trn := capT 0 p ++ bubT bub 0 p
/-- The target that is told at a place: that of the last entry up to it that has one. -/
def toldT : List Stp → Int → Int
  | [], t => t
  | s :: r, t => toldT r (if s.target ≠ 0 then s.target else t)
def targetL (p : List Stp) (i : Int) : Int := if 0 ≤ i ∧ i < p.length then toldT (p.take (i.toNat + 1)) 0 else 0
section
variable {bub : Bool} {n i : Nat} {p : List Stp} {s : Stp} {t : Trn}
theorem cap_len : ∀ (p : List Stp) (n : Nat), (capT n p).length = p.length
  | [], _ => rfl
  | s :: r, n => by rw [capT, List.length_append, cap_len r, List.length_cons]; rfl
theorem cap_snoc : ∀ (p : List Stp) (n : Nat), capT n (p ++ [s]) = ⟨((n + p.length : Nat) : Int), if s.target ≠ 0 then 2 else 1, true⟩ :: capT n p
  | [], n => by simp [capT]
  | x :: r, n => by
    rw [List.cons_append, capT, cap_snoc r (n + 1), capT, List.length_cons, show n + 1 + r.length = n + (r.length + 1) by omega]
    rfl
/-- The i-th turn of the capturing way is at the i-th place from the end. -/
theorem cap_at : ∀ (p : List Stp) (n i : Nat) (t : Trn), (capT n p)[i]? = some t → t.cap = true ∧ t.at_ = ((n + p.length : Nat) : Int) - 1 - (i : Int)
  | [], _, _, _, h => by simp [capT] at h
  | s :: r, n, i, t, h => by
    rw [capT] at h
    by_cases hi : i < (capT (n + 1) r).length
    · rw [List.getElem?_append_left hi] at h
      obtain ⟨h1, h2⟩ := cap_at r (n + 1) i t h
      refine ⟨h1, ?_⟩
      rw [h2, List.length_cons]
      omega
    · rw [List.getElem?_append_right (by omega), cap_len] at h
      rw [cap_len] at hi
      have hi2 : i - r.length = 0 := by
        have := (List.getElem?_eq_some_iff.1 h).1
        simpa using this
      rw [hi2] at h
      obtain rfl : (⟨n, if s.target ≠ 0 then 2 else 1, true⟩ : Trn) = t := by simpa using h
      refine ⟨rfl, ?_⟩
      rw [List.length_cons]
      show (n : Int) = _
      omega
theorem bub1_at (h : t ∈ bub1 bub n s) : t.cap = false ∧ t.at_ = n := by
  unfold bub1 at h
  split at h
  · obtain rfl := List.mem_singleton.1 h
    exact ⟨rfl, rfl⟩
  · split at h
    · obtain rfl := List.mem_singleton.1 h
      exact ⟨rfl, rfl⟩
    · cases h
theorem bub_in : ∀ (p : List Stp) (n : Nat), ∀ t ∈ bubT bub n p, t.cap = false ∧ (n : Int) ≤ t.at_ ∧ t.at_ < ((n + p.length : Nat) : Int)
  | [], _, t, h => by cases h
  | s :: r, n, t, h => by
    rw [bubT] at h
    rcases List.mem_append.1 h with h | h
    · obtain ⟨h1, h2⟩ := bub1_at h
      rw [List.length_cons]
      exact ⟨h1, by omega, by omega⟩
    · obtain ⟨h1, h2, h3⟩ := bub_in r (n + 1) t h
      rw [List.length_cons]
      exact ⟨h1, by omega, by omega⟩
theorem bub_rise : ∀ (p : List Stp) (n : Nat), (bubT bub n p).Pairwise fun a b => a.at_ < b.at_
  | [], _ => List.Pairwise.nil
  | s :: r, n => by
    rw [bubT, List.pairwise_append]
    refine ⟨?_, bub_rise r (n + 1), fun a ha b hb => ?_⟩
    · unfold bub1
      split
      · exact List.pairwise_singleton _ _
      · split
        · exact List.pairwise_singleton _ _
        · exact List.Pairwise.nil
    · obtain ⟨-, h1⟩ := bub1_at ha
      obtain ⟨-, h2, -⟩ := bub_in r (n + 1) b hb
      omega
theorem bub_all : ∀ (p : List Stp) (n : Nat), (bubT true n p).length = p.length
  | [], _ => rfl
  | s :: r, n => by
    rw [bubT, List.length_append, bub_all r, List.length_cons]
    have : (bub1 true n s).length = 1 := by
      unfold bub1
      split <;> rfl
    omega
theorem bub_some : ∀ (p : List Stp) (n : Nat), (bubT false n p).length = (p.filter fun s => decide (s.target ≠ 0)).length
  | [], _ => rfl
  | s :: r, n => by
    rw [bubT, List.length_append, bub_some r]
    by_cases h : s.target ≠ 0
    · rw [List.filter_cons_of_pos (by simpa using h), List.length_cons]
      have : (bub1 false n s).length = 1 := by
        unfold bub1
        rw [if_pos h]
        rfl
      omega
    · rw [List.filter_cons_of_neg (by simpa using h)]
      have : (bub1 false n s).length = 0 := by
        unfold bub1
        rw [if_neg h]
        rfl
      omega
theorem told_snoc : ∀ (p : List Stp) (t : Int), toldT (p ++ [s]) t = if s.target ≠ 0 then s.target else toldT p t
  | [], _ => rfl
  | _ :: r, _ => told_snoc r _
end
end Go.Proofs.Ytekmgaigppenlaa

namespace Go.Proofs.Ytekmgaigppenlaa
open Go Go.RowKit

/-- The phase that is told of an entry, on a way whose other entries have that one. -/
def phs (s : Stp) (o : Int) : Int := if s.target ≠ 0 then 2 else o
def capO (x : Nat × Stp) : Trn := ⟨x.1, phs x.2 1, true⟩
theorem cap_map : ∀ (p : List Stp) (n : Nat), (fwL n p).reverse.map capO = capT n p
  | [], _ => rfl
  | s :: r, n => by
    rw [fwL, List.reverse_cons, List.map_append, cap_map r, capT]
    rfl
theorem bk_cap (p : List Stp) : (bkL p).map capO = capT 0 p := cap_map p 0
theorem bub_snoc (b : Bool) (s : Stp) : ∀ (p : List Stp) (n : Nat), bubT b n (p ++ [s]) = bubT b n p ++ bub1 b (n + p.length) s
  | [], n => by simp [bubT]
  | x :: r, n => by
    rw [List.cons_append, bubT, bub_snoc b s r (n + 1), bubT, List.append_assoc, List.length_cons, show n + 1 + r.length = n + (r.length + 1) by omega]
theorem bub_app (b : Bool) (ys : List Stp) : ∀ (xs : List Stp) (n : Nat), bubT b n (xs ++ ys) = bubT b n xs ++ bubT b (n + xs.length) ys
  | [], n => by simp [bubT]
  | x :: r, n => by
    rw [List.cons_append, bubT, bub_app b ys r (n + 1), bubT, List.append_assoc, List.length_cons, show n + 1 + r.length = n + (r.length + 1) by omega]
theorem turns_pre {b : Bool} {p : List Stp} {k : Nat} {t : Trn} (hk : k < p.length) (h : bub1 b k p[k] = [t]) : (capT 0 p ++ bubT b 0 (p.take k)) ++ [t] <+: turnsL p b := by
  have e : bubT b 0 p = bubT b 0 (p.take k) ++ ([t] ++ bubT b (k + 1) (p.drop (k + 1))) := by
    have e1 : p = p.take k ++ p[k] :: p.drop (k + 1) := by rw [List.getElem_cons_drop, List.take_append_drop]
    have e2 : (p.take k).length = k := by
      rw [List.length_take]
      omega
    have e3 : bubT b 0 p = bubT b 0 (p.take k ++ p[k] :: p.drop (k + 1)) := congrArg _ e1
    rw [e3, bub_app, e2, bubT, Nat.zero_add, h]
  refine ⟨bubT b (k + 1) (p.drop (k + 1)), ?_⟩
  rw [turnsL, e]
  simp only [List.append_assoc]
theorem bub1_yes {b : Bool} {s : Stp} (n : Nat) (h : s.target ≠ 0 ∨ b = true) : bub1 b n s = [⟨n, phs s 3, false⟩] := by
  unfold bub1 phs
  by_cases h1 : s.target ≠ 0
  · rw [if_pos h1, if_pos h1]
  · rw [if_neg h1, if_neg h1, if_pos (h.resolve_left h1)]
theorem bub1_no {b : Bool} {s : Stp} (n : Nat) (h : s.target = 0) (hb : b = false) : bub1 b n s = [] := by
  unfold bub1
  rw [if_neg (fun k => k h), if_neg (by rw [hb]; decide)]

theorem Try.infoU : (Try.prog.info? 32).map (fun i => (i.zero, i.size, i.bytes)) = some (some (.agg #[.int .i64 0, .int .i64 0, .bool false]), 3, 24) := by kernel_rfl

section
set_option maxHeartbeats 1000000 in
theorem wkHas (s : Stp) (w : World) : Calls Try.prog 24 #[.agg #[.int .i64 s.node, .int .i64 s.target, .int .i64 s.related, .bool s.cr, .bool s.cs]] w fun e w' => e = .returned (.bool (s.target != 0)) ∧ Below w.heap.size w w' := by
  obtain ⟨x0, x1, x2, cr, cs⟩ := s
  have hX : Has (w.alloc (.cells #[.int .i64 x0, .int .i64 x1, .int .i64 x2, .bool cr, .bool cs] 44)) w.heap.size _ := Has.fresh w (.cells #[.int .i64 x0, .int .i64 x1, .int .i64 x2, .bool cr, .bool cs] 44)
  have c1 := hX.cell 1
  clear hX
  go_enter Try.func24, Try.ntmps24
  go_wp2
  go_ret
  exact ⟨rfl, (Below.refl _ w).alloc (Nat.le_refl _) _⟩
set_option maxHeartbeats 1000000 in
theorem wkPhase (s : Stp) (o : Int) (w : World) : Calls Try.prog 23 #[.agg #[.int .i64 s.node, .int .i64 s.target, .int .i64 s.related, .bool s.cr, .bool s.cs], .int .i64 o] w fun e w' => e = .returned (.int .i64 (phs s o)) ∧ Below w.heap.size w w' := by
  obtain ⟨x0, x1, x2, cr, cs⟩ := s
  have hX : Has (w.alloc (.cells #[.int .i64 x0, .int .i64 x1, .int .i64 x2, .bool cr, .bool cs] 44)) w.heap.size _ := Has.fresh w (.cells #[.int .i64 x0, .int .i64 x1, .int .i64 x2, .bool cr, .bool cs] 44)
  have c0 := hX.cell 0
  have c1 := hX.cell 1
  have c2 := hX.cell 2
  have c3 := hX.cell 3
  have c4 := hX.cell 4
  obtain ⟨R, hR⟩ : ∃ R : Int, R = phs ⟨x0, x1, x2, cr, cs⟩ o := ⟨_, rfl⟩
  rw [← hR]
  have HR := Lib.hid hR
  clear hR
  have HW := Lib.hid ((Below.refl _ w).alloc (Nat.le_refl _) (.cells #[.int .i64 x0, .int .i64 x1, .int .i64 x2, .bool cr, .bool cs] 44))
  clear hX
  go_enter Try.func23, Try.ntmps23
  go_wp2_with fail
  refine (wkHas ⟨x0, x1, x2, cr, cs⟩ _).mono ?_
  rintro e w2 ⟨rfl, hb⟩
  have HB := Lib.hid (HW.out.trans (hb.mono (by simp)))
  clear hb c0 c1 c2 c3 c4
  by_cases h : x1 = 0
  · have z : (x1 != 0) = false := by simp [h]
    have e1 : (if x1 ≠ 0 then (2 : Int) else o) = o := if_neg (fun k => k h)
    have E1 := Lib.hid e1
    clear h e1
    go_wp2
    go_ret
    exact ⟨by rw [HR.out]; unfold phs; rw [E1.out]; rfl, HB.out⟩
  · have z : (x1 != 0) = true := by simp [h]
    have e1 : (if x1 ≠ 0 then (2 : Int) else o) = 2 := if_pos h
    have E1 := Lib.hid e1
    clear h e1
    go_wp2
    go_ret
    exact ⟨by rw [HR.out]; unfold phs; rw [E1.out]; rfl, HB.out⟩
set_option maxRecDepth 100000 in
set_option maxHeartbeats 2000000 in
theorem stClone (A : Option Addr) (n c : Nat) (p : List Stp) (w : World) (hn : p.length = n) (hl : n ≤ 1000) (hR : RecIn RS w A c p) :
    Calls Try.prog 20 #[.slice A n c] w fun e w' => ∃ v, e = .returned v ∧ Recs RS 44 w.heap.size w' v p ∧ Below w.heap.size w w' := by
  cases A with
  | none =>
    have hc := hR.nil rfl
    have hcap := hR.cap
    have h0 : p = [] := List.eq_nil_of_length_eq_zero (by omega)
    subst h0
    obtain rfl : 0 = n := hn
    obtain rfl : c = 0 := hc
    clear hcap hR
    have q0 : ∀ (w : World) (a : Option Addr) (n c n' c' : Nat), (binOp .eql 22 (.slice a n c) (.slice none n' c')).run Try.prog w = .ok (.bool a.isNone) w := fun w a n c n' c' => Lib.run_eql_slice_nil w _ _ a n c n' c' Try.underlying22
    go_enter Try.func20, Try.ntmps20
    go_wp2
    go_ret
    exact ⟨_, rfl, Recs.nil _ _ _ _, Below.refl _ _⟩
  | some a =>
    have HN := Lib.hid hn
    have HB0 := Lib.hid (Below.refl w.heap.size w)
    obtain ⟨j0, qi, qz0, qz1, qz2⟩ := info_parts Try.infoS
    have Qi := Lib.hid qi
    have Qz0 := Lib.hid qz0
    have Qz1 := Lib.hid qz1
    have Qz2 := Lib.hid qz2
    have HE := Lib.hid (rec_empty w)
    have HGv := Lib.hid ((hR.below ((Below.refl _ w).alloc (Nat.le_refl _) (.cells #[] 44))).gives hn.symm)
    have HS : Hid (w.heap.size ≤ (w.alloc (.cells #[] 44)).heap.size) := Lib.hid (by simp)
    clear qi qz0 qz1 qz2 hn hR
    have q0 : ∀ (w : World) (a : Option Addr) (n c n' c' : Nat), (binOp .eql 22 (.slice a n c) (.slice none n' c')).run Try.prog w = .ok (.bool a.isNone) w := fun w a n c n' c' => Lib.run_eql_slice_nil w _ _ a n c n' c' Try.underlying22
    go_enter Try.func20, Try.ntmps20
    go_wp2_with (at_builtin; refine wpList_joinR (R := RS) (xs := []) (ys := p) (v := .slice (some ⟨w.heap.size, 0, none⟩) 0 0) (X := .slice (some a) n c) (m := n) (base := w.heap.size) rfl (.tmp 5) (.tmp 6) 22 rfl j0 _ 32 Try.underlying22 Qi.out Qz0.out Qz1.out Qz2.out rfl rfl rfl HE.out HGv.out HN.out.symm (by rw [HN.out]; simp; omega) (by omega) HS.out ?_; intro v1 w1 hR1 hk1 hat1; rw [List.nil_append] at hR1; have HR1 := Lib.hid hR1; have HB1 := Lib.hid (below_then (HB0.out.alloc HB0.out.size (.cells #[] 44)) hk1 (by rw [World.size_alloc]; have := HB0.out.size; omega) fun i hi e => by have := HB0.out.size; have e2 : w.heap.size = i := (by simpa [Value.ownBlock] using e); omega); obtain ⟨A1, c1, rfl, -⟩ := hR1.form; clear hR1 hk1 hat1)
    go_ret
    exact ⟨_, rfl, HR1.out, HB1.out⟩
end
end Go.Proofs.Ytekmgaigppenlaa

namespace Go.Proofs.Ytekmgaigppenlaa
open Go Go.RowKit Go.Shelf
attribute [local go_sem] Oper.semAt_some

def encT (t : Trn) : Array Value := #[.agg #[.int .i64 t.at_, .int .i64 t.phase, .bool t.cap]]
section
set_option maxRecDepth 100000 in
set_option maxHeartbeats 4000000 in
theorem each1 (p : List Stp) (bub : Bool) (Y : Nat → Prop) (Bo Bb len cap : Nat) (A : Option Addr) (w0 : World) (hlen : p.length = len) (hl : len ≤ 1000) (hYo : Y Bo) (hYb : Y Bb) (hYA : 0 < p.length → ∀ b off s, A = some ⟨b, off, s⟩ → Y b)
    (hYT : ∀ b, Y b → ∃ o, w0.heap[b]? = some o ∧ ∀ c f, o ≠ .cells c 32 f) (ho : Boxed w0 Bo 22 (.slice A len cap)) (hb : Boxed w0 Bb 4 (.bool bub)) (hR : RecIn RS w0 A cap p) :
    SeqX Try.prog 21 #[.pointer (some ⟨Bo, 0, none⟩), .pointer (some ⟨Bb, 0, none⟩)] encT Y 32 (fun ts => ts = turnsL p bub) (fun pre => pre <+: turnsL p bub) (turnsL p bub).length w0 := by
  intro l X J Jx W hW hX hJ hJx hY h0
  have ho1 : Boxed W Bo 22 (.slice A len cap) := (hW.block Bo ho.lt).trans ho
  have hb1 : Boxed W Bb 4 (.bool bub) := (hW.block Bb hb.lt).trans hb
  have hR1 := hR.below hW
  have HYT : Hid (∀ b, Y b → ∃ o, W.heap[b]? = some o ∧ ∀ c f, o ≠ .cells c 32 f) := Lib.hid fun b hb => by
    obtain ⟨o, h1, h2⟩ := hYT b hb
    exact ⟨o, (hW.block b (Array.getElem?_eq_some_iff.1 h1).1).trans h1, h2⟩
  have HY := Lib.hid fun pre x V hJp hlt => yield_one (hY pre x V hJp hlt)
  have HJ := Lib.hid hJ
  have HJx := Lib.hid hJx
  have HX := Lib.hid hX
  have HL := Lib.hid hlen
  have HYA := Lib.hid hYA
  have HR1 := Lib.hid hR1
  have HW : Hid (W.heap.size ≤ W.heap.size) := Lib.hid (Nat.le_refl _)
  clear hY hJ hJx hX hYA hR1 hR hYT ho hb hW hlen w0
  have d0 := (ho1.alloc (.cells #[.func (.yield l) #[] #[]] 49)).cell
  refine (callsIn_wide (n := 9)).1 ?_
  refine callsIn_of_wp_marks Try.func21 rfl trivial ?_ rfl
  simp only [Try.ntmps21, List.size_toArray, List.length_cons, List.length_nil, Nat.reduceAdd, Nat.reduceSub, Array.replicate_succ, Array.replicate_zero, List.push_toArray, List.append_toArray, List.nil_append, List.cons_append]
  gi_wp2_with (refine ⟨trivial, ?_⟩; gi_at_call 22; refine (callsIn_wide.2 (bkA _ _ _ _)).mono ?_; rintro e w' ⟨rfl, rfl⟩)
  have w1 : Boxed ((W.alloc (.cells #[.func (.yield l) #[] #[]] 49)).alloc (.cells #[.slice A len cap] 22)) W.heap.size 49 (.func (.yield l) #[] #[]) := (Boxed.new W 49 (.func (.yield l) #[] #[])).alloc _
  have w2 := Boxed.new (W.alloc (.cells #[.func (.yield l) #[] #[]] 49)) 22 (.slice A len cap)
  have w3 := (ho1.alloc (.cells #[.func (.yield l) #[] #[]] 49)).alloc (.cells #[.slice A len cap] 22)
  have w4 := (hb1.alloc (.cells #[.func (.yield l) #[] #[]] 49)).alloc (.cells #[.slice A len cap] 22)
  have hB0 : Below W.heap.size W ((W.alloc (.cells #[.func (.yield l) #[] #[]] 49)).alloc (.cells #[.slice A len cap] 22)) := ((Below.refl _ W).alloc (Nat.le_refl _) _).alloc (by simp) _
  have hsz : ((W.alloc (.cells #[.func (.yield l) #[] #[]] 49)).alloc (.cells #[.slice A len cap] 22)).heap.size = W.heap.size + 1 + 1 := by simp
  simp only [World.size_alloc] at w2
  obtain ⟨W0, hW0⟩ : ∃ W0, (W.alloc (.cells #[.func (.yield l) #[] #[]] 49)).alloc (.cells #[.slice A len cap] 22) = W0 := ⟨_, rfl⟩
  rw [hW0] at w1 w2 w3 w4 hB0 hsz ⊢
  clear hW0 ho1 hb1 d0
  have hR0 := HR1.out.below hB0
  have hJ0 : J [] W0 := ownFrom_step HJ.out h0 hB0
  clear h0 HR1
  obtain ⟨M, eM⟩ : ∃ M, M = W.heap.size := ⟨_, rfl⟩
  have hYM : ∀ b, Y b → b < M ∧ ∃ o, W0.heap[b]? = some o ∧ ∀ c f, o ≠ .cells c 32 f := fun b hb => by
    obtain ⟨o, h1, h2⟩ := HYT.out b hb
    have h3 := (Array.getElem?_eq_some_iff.1 h1).1
    exact ⟨by omega, o, (hB0.block b h3).trans h1, h2⟩
  have hXM : ∀ b, X b → b < M ∧ ¬ Y b := by rw [eM]; exact HX.out
  have hJM : OwnFrom M J := by rw [eM]; exact HJ.out
  have hJxM : OwnFrom M Jx := by rw [eM]; exact HJx.out
  rw [← eM] at w1 w2 hsz ⊢
  clear hB0 HYT HX HJ HJx HW
  clear eM
  have hYo2 := hYM Bo hYo
  have hYb2 := hYM Bb hYb
  refine wpIn_rangeFunc_ownH rfl (by decide) (gf := 34) (lb := #[.pointer (some ⟨M + 1, 0, none⟩)]) rfl trivial (enters_of Try.func34 (by kernel_rfl) rfl)
    (bkC_stops (9 - 1) (by decide) (fun b => b = M + 1 ∨ Y b) (M + 1) len cap A p HL.out (by omega) W0 (.inl rfl) (fun h0 b off s e => .inr (HYA.out h0 b off s e)) w2 hR0) KpC.trans (fun V k o o' _ h h1 _ => KpC.book V k o o' h h1) (Below.refl _ _) (fun _ => rfl)
    (fun pre V => J (pre.map capO) V ∧ KpX X 32 W0 V)
    (fun cd pre V => (cd = .ret ∧ Jx (pre.map capO) V) ∧ KpX X 32 W0 V)
    (OwnFrom.and (fun s U V row hs hg hr => hJM _ U V row hs hg fun i e => ⟨by have := (hr i e).1; omega, (hr i e).2⟩) (ownFrom_kpx (Nat.le_refl _)))
    (fun cd => OwnFrom.and (fun s U V row hs hg hr => ⟨hs.1, hJxM _ U V row hs.2 hg fun i e => ⟨by have := (hr i e).1; omega, (hr i e).2⟩⟩) (ownFrom_kpx (Nat.le_refl _)))
    ⟨hJ0, KpX.refl _ _ _⟩
    (fun x a' V => ∃ Bx, M + 1 < Bx ∧ Has V Bx (.cells #[.int .i64 x.2.node, .int .i64 x.2.target, .int .i64 x.2.related, .bool x.2.cr, .bool x.2.cs] 44 (0, 0)) ∧ a' = { tmps := #[.func (.yield l) #[] #[], .pointer (some ⟨Bo, 0, none⟩), .pointer (some ⟨Bb, 0, none⟩), .pointer (some ⟨M, 0, none⟩), .int .i64 (x.1 : Int), .pointer (some ⟨Bx, 0, none⟩), undef, undef, .slice A len cap, .func (.func 34) #[] #[.pointer (some ⟨M + 1, 0, none⟩)], .int .i64 (x.1 : Int), .agg #[.int .i64 x.2.node, .int .i64 x.2.target, .int .i64 x.2.related, .bool x.2.cr, .bool x.2.cs], undef, undef, undef, undef, undef, undef, undef, undef, undef, undef, undef, undef, undef, undef, undef, undef, undef, undef, undef, undef, undef, undef, undef, undef, undef, undef, undef, undef, undef], defers := [] })
    (fun x a' _ U V row hs hg hr => by obtain ⟨Bx, h1, h2, h3⟩ := hs; exact ⟨Bx, h1, has_own Bx (fun (_ : Unit) => #[.int .i64 x.2.node, .int .i64 x.2.target, .int .i64 x.2.related, .bool x.2.cr, .bool x.2.cs]) _ _ () U V row h2 hg (fun r e => (hr r e).2), h3⟩)
    ?assign ?body ?done ?stop
  case assign =>
    rintro l' pre x V K ⟨hJp, hk⟩ hK
    have hVs := hk.1
    gi_wp2
    exact hK _ _ ((KeepsOthers.alloc _ _).from _) (KpC.of_below ((Below.refl _ V).alloc (Nat.le_refl _) _)) ⟨ownFrom_step hJM hJp ((Below.refl _ V).alloc (Nat.le_refl _) _), hk.trans (KpX.alloc _ _)⟩ ⟨V.heap.size, by omega, Has.fresh V (.cells #[.int .i64 x.2.node, .int .i64 x.2.target, .int .i64 x.2.related, .bool x.2.cr, .bool x.2.cs] 44), rfl⟩
  case body =>
    rename_i Qo Ko ao
    clear ao
    clear Ko Qo
    rintro l' pre x a' V hl' ⟨r, hr⟩ ⟨hJp, hk⟩ ⟨Bx, hBx, bX, rfl⟩ hlt
    have hmx : Try.prog.follows .mixedOrders = true := by kernel_rfl
    have hMV := hk.1
    have hXM1 : ∀ b, M ≤ b → ¬ X b := fun b hb e => by have := (hXM b e).1; omega
    have hby := hk.box (hXM1 M (Nat.le_refl _)) (by decide) w1
    have c0 := bX.cell 0
    have c1 := bX.cell 1
    have c2 := bX.cell 2
    have c3 := bX.cell 3
    have c4 := bX.cell 4
    have e0 := hby.cell
    obtain ⟨i, x0, x1, x2, x3, x4⟩ := x
    obtain ⟨R, hRR⟩ : ∃ R : Int, R = phs ⟨x0, x1, x2, x3, x4⟩ 1 := ⟨_, rfl⟩
    have HP : Hid (∀ w, Calls Try.prog 23 #[.agg #[.int .i64 x0, .int .i64 x1, .int .i64 x2, .bool x3, .bool x4], .int .i64 1] w fun e w' => e = .returned (.int .i64 R) ∧ Below w.heap.size w w') := Lib.hid fun w => by
      rw [hRR]
      exact wkPhase _ _ w
    have HXN : Hid (capO (i, ⟨x0, x1, x2, x3, x4⟩) = ⟨(i : Int), R, true⟩) := Lib.hid (by unfold capO; rw [hRR])
    have HN : Hid ((pre.map capO).length < (turnsL p bub).length) := Lib.hid (by
      rw [List.length_map, turnsL, List.length_append, cap_len, HL.out]
      omega)
    have hYV : ∀ b, Y b → ∃ o, V.heap[b]? = some o ∧ ∀ c f, o ≠ .cells c 32 f := fun b hb => by
      obtain ⟨-, o, h1, h2⟩ := hYM b hb
      exact ⟨o, hk.same (fun e => (hXM b e).2 hb) h1 h2, h2⟩
    have hbs := hk.box (hXM1 (M + 1) (by omega)) (by decide) w2
    have HEnd : Hid (∀ W3, KpX X 32 V W3 → KeepsFrom W0.heap.size V W3 ∧ KpC (fun b => b = M + 1 ∨ Y b) V W3 ∧ KpX X 32 W0 W3) := Lib.hid fun W3 h => by
      refine ⟨h.from fun b e => by have := (hXM b e).1; omega, ?_, hk.trans h⟩
      rintro b o (rfl | hb) h1 -
      · exact h.box (hXM1 _ (by omega)) (by decide) hbs |> fun k => by rw [show V.heap[M + 1]? = _ from hbs] at h1; cases h1; exact k
      · obtain ⟨o', h2, h3⟩ := hYV b hb
        rw [h2] at h1
        cases h1
        exact h.same (fun e => (hXM b e).2 hb) h2 h3
    have HJp := Lib.hid hJp
    have HBY := Lib.hid hby
    have HK := Lib.hid hk
    clear hJp hby hbs hYV hk bX hRR hlt hYM hXM1 w1 w2 w3 w4 hYo2 hYb2 HL HYA hYo hYb hR0 hMV hsz hl' hr hXM hJxM hBx hl
    dsimp only at c0 c1 c2 c3 c4
    gi_wp2
    gi_region_with_o (first
      | (refine ⟨trivial, ?_⟩; gi_at_call 23; refine (CallsIn.inRound l' (callsIn_wide.2 (HP.out _))).mono ?_; rintro e w2 ⟨rfl, hb2⟩; have z0 : w2.cell? ⟨M, 0, none⟩ = some (.func (.yield l) #[] #[]) := (show Boxed w2 M 49 (.func (.yield l) #[] #[]) from (hb2.block M HBY.out.lt).trans HBY.out).cell; have hb3 : Below V.heap.size V w2 := (Below.refl V.heap.size V).drew.trans hb2; obtain ⟨fn, tm, asg, bod, hy, hRd⟩ := HY.out (pre.map capO) (capO (i, ⟨x0, x1, x2, x3, x4⟩)) w2 (ownFrom_step hJM HJp.out hb3) HN.out; rw [HXN.out] at hy hRd; dsimp only [encT] at hy; have HRd := Lib.hid hRd; have HB2 := Lib.hid hb3; clear hRd hb2 hb3)
      | (refine (round_in HRd.out).mono ?_; rintro e W3 ⟨v, rfl, hk3, hc3⟩; have HK3 := Lib.hid hk3; have HC3 := Lib.hid hc3; clear hk3 hc3 hy z0))
    all_goals (have hkV := HEnd.out W3 ((KpX.of_below HB2.out).trans HK3.out); have HKV := Lib.hid hkV; clear hkV HEnd HB2 HK3 HRd HBY HJp HY c0 c1 c2 c3 c4 e0; rcases HC3.out with ⟨rfl, hj⟩ | ⟨rfl, hj⟩)
    all_goals (have HJ3 := Lib.hid hj; clear hj HC3; gi_wp2)
    all_goals first
      | exact ⟨HKV.out.1, HKV.out.2.1, by rw [List.map_append, List.map_singleton, HXN.out]; exact HJ3.out, HKV.out.2.2⟩
      | exact ⟨HKV.out.1, ⟨rfl, by rw [List.map_append, List.map_singleton, HXN.out]; exact HJ3.out⟩, HKV.out.2.2⟩
  case done =>
    rintro D ys V hD rfl ⟨hJp, hk⟩ hK
    rw [bk_cap] at hJp
    have hXM1 : ∀ b, M ≤ b → ¬ X b := fun b hb e => by have := (hXM b e).1; omega
    have HXD : Hid (¬ X D) := Lib.hid (hXM1 D (by omega))
    have HMD : Hid (M ≤ D) := Lib.hid (by omega)
    have hmx : Try.prog.follows .mixedOrders = true := by kernel_rfl
    have f0 := (hk.box (fun e => (hXM Bo e).2 hYo) (by decide) w3).cell
    have HRec : Hid (∀ U, KpX X 32 W0 U → RecIn RS U A cap p) := Lib.hid fun U h => KpC.rec (Y := Y) (fun b o hb h1 _ => by
      obtain ⟨-, o', h2, h3⟩ := hYM b hb
      rw [h2] at h1
      cases h1
      exact h.same (fun e => (hXM b e).2 hb) h2 h3) HYA.out hR0
    have HBbx : Hid (∀ U, KpX X 32 W0 U → Boxed U Bb 4 (.bool bub)) := Lib.hid fun U h => h.box (fun e => (hXM Bb e).2 hYb) (by decide) w4
    have HBm : Hid (∀ U, KpX X 32 W0 U → Boxed U M 49 (.func (.yield l) #[] #[])) := Lib.hid fun U h => h.box (hXM1 M (Nat.le_refl _)) (by decide) w1
    have HKW := Lib.hid hk
    have HJ0 := Lib.hid hJp
    clear hk hJp w1 w2 w3 w4 hR0 hYM hYo2 hYb2 HYA hXM1
    gi_wp2
    gi_loopw [21] (fun i wr => ∃ k : Nat, k ≤ len ∧ i = .int .i64 (k : Int) ∧ J (capT 0 p ++ bubT bub 0 (p.take k)) wr ∧ KpX X 32 V wr) (fun i _ => len - (intOf i).toNat)
    case atStart => exact ⟨0, Nat.zero_le _, rfl, by rw [List.take_zero]; exact (List.append_nil (capT 0 p)).symm ▸ HJ0.out, KpX.refl _ _ _⟩
    case round =>
      obtain ⟨k, hkl, rfl, hJk, hkV⟩ := hrel
      by_cases hlt : k < len
      · have hkp : k < p.length := by rw [HL.out]; exact hlt
        have hkW := HKW.out.trans hkV
        obtain ⟨b, off, rfl, c0, c1, c2, c3, c4⟩ := five_of (HRec.out _ hkW) hkp
        obtain ⟨x, hx⟩ : ∃ x, x = p[k] := ⟨_, rfl⟩
        have HTK : Hid (p.take (k + 1) = p.take k ++ [x]) := Lib.hid (by rw [List.take_add_one, List.getElem?_eq_getElem hkp, hx]; rfl)
        have HLK : Hid (0 + (p.take k).length = k) := Lib.hid (by rw [List.length_take]; omega)
        rw [← hx] at c0 c1 c2 c3 c4
        have HPR : Hid (bub1 bub k x = [⟨(k : Int), phs x 3, false⟩] → (capT 0 p ++ bubT bub 0 (p.take k)) ++ [⟨(k : Int), phs x 3, false⟩] <+: turnsL p bub) := Lib.hid fun h => turns_pre hkp (by rw [hx] at h ⊢; exact h)
        clear hx hkp
        obtain ⟨x0, x1, x2, x3, x4⟩ := x
        dsimp only at c0 c1 c2 c3 c4
        obtain ⟨R, hRR⟩ : ∃ R : Int, R = phs ⟨x0, x1, x2, x3, x4⟩ 3 := ⟨_, rfl⟩
        have HP : Hid (∀ w, Calls Try.prog 23 #[.agg #[.int .i64 x0, .int .i64 x1, .int .i64 x2, .bool x3, .bool x4], .int .i64 3] w fun e w' => e = .returned (.int .i64 R) ∧ Below w.heap.size w w') := Lib.hid fun w => by
          rw [hRR]
          exact wkPhase _ _ w
        have HRR := Lib.hid hRR
        have hwk : IntKind.i64.wrap ((k : Int) + 1) = (k : Int) + 1 := wrap_small (by omega) (by omega)
        obtain ⟨cells, hcells⟩ : ∃ cells : Array Value, cells = #[.int .i64 x0, .int .i64 x1, .int .i64 x2, .bool x3, .bool x4] := ⟨_, rfl⟩
        have hBA : Below wr.heap.size wr (wr.alloc (.cells #[.int .i64 x0, .int .i64 x1, .int .i64 x2, .bool x3, .bool x4] 44)) := (Below.refl _ wr).alloc (Nat.le_refl _) _
        have hFX := Has.fresh wr (.cells #[.int .i64 x0, .int .i64 x1, .int .i64 x2, .bool x3, .bool x4] 44)
        have g0 := hFX.cell 0
        have g1 := hFX.cell 1
        have g2 := hFX.cell 2
        have g3 := hFX.cell 3
        have g4 := hFX.cell 4
        have g5 := ((HBbx.out _ hkW).alloc (.cells #[.int .i64 x0, .int .i64 x1, .int .i64 x2, .bool x3, .bool x4] 44)).cell
        have HFX := Lib.hid hFX
        have HKK := Lib.hid hkW
        have HKk := Lib.hid hkV
        have HJk := Lib.hid hJk
        have HBA := Lib.hid hBA
        clear hRR hFX hkW hkV hJk hBA hcells cells
        cases bub with
        | true =>
          have HB1 : Hid (bub1 true k ⟨x0, x1, x2, x3, x4⟩ = [⟨(k : Int), R, false⟩]) := Lib.hid (by rw [HRR.out]; exact bub1_yes k (.inr rfl))
          have HPre : Hid ((capT 0 p ++ bubT true 0 (p.take k)) ++ [⟨(k : Int), R, false⟩] <+: turnsL p true) := Lib.hid (by have := HB1.out; rw [HRR.out] at this ⊢; exact HPR.out this)
          have HN : Hid ((capT 0 p ++ bubT true 0 (p.take k)).length < (turnsL p true).length) := Lib.hid (by have := HPre.out.length_le; rw [List.length_append, List.length_singleton] at this; omega)
          gi_wp2
          refine ⟨trivial, ?_⟩
          obtain ⟨U, eU⟩ : ∃ U, U = wr.alloc (.cells #[.int .i64 x0, .int .i64 x1, .int .i64 x2, .bool x3, .bool x4] 44) := ⟨_, rfl⟩
          have HKU : Hid (KpX X 32 V U) := Lib.hid (by rw [eU]; exact HKk.out.trans (KpX.alloc _ _))
          have HJU : Hid (J (capT 0 p ++ bubT true 0 (p.take k)) U) := Lib.hid (by rw [eU]; exact ownFrom_step hJM HJk.out HBA.out)
          have HBY : Hid (Boxed U M 49 (.func (.yield l) #[] #[])) := Lib.hid (HBm.out _ (HKW.out.trans HKU.out))
          have e0 := HBY.out.cell
          rw [← eU] at g0 g1 g2 g3 g4 ⊢
          clear eU HKk HJk HBA HFX HKK g5 c0 c1 c2 c3 c4
          gi_wp2
          refine wpIn_mono (?_ : Code.wpIn _ _ _ _ (Exit.then _ (fun _ _ _ => False)) _ _) (fun e a' w' h => by cases e <;> first | exact h | exact h.elim)
          gi_region_with_o (first
            | (refine ⟨trivial, ?_⟩; gi_at_call 23; refine (callsIn_wide.2 (HP.out _)).mono ?_; rintro e w5 ⟨rfl, hb5⟩; have z0 : w5.cell? ⟨M, 0, none⟩ = some (.func (.yield l) #[] #[]) := (show Boxed w5 M 49 (.func (.yield l) #[] #[]) from (hb5.block M HBY.out.lt).trans HBY.out).cell; have hb6 : Below U.heap.size U w5 := (Below.refl U.heap.size U).drew.trans hb5; obtain ⟨fn, tm, asg, bod, hy, hRd⟩ := HY.out (capT 0 p ++ bubT true 0 (p.take k)) ⟨(k : Int), R, false⟩ w5 (ownFrom_step hJM HJU.out hb6) HN.out; dsimp only [encT] at hy; have HRd := Lib.hid hRd; have HB5 := Lib.hid hb6; clear hRd hb5 hb6)
            | (refine (round_any HRd.out).mono ?_; rintro e W3 ⟨v, rfl, hk3, hc3⟩; have HK3 := Lib.hid hk3; have HC3 := Lib.hid hc3; clear hk3 hc3 hy z0))
          all_goals (have HKV := Lib.hid (HKU.out.trans ((KpX.of_below HB5.out).trans HK3.out)); clear HB5 HK3 HRd HBY HJU HKU; rcases HC3.out with ⟨rfl, hj⟩ | ⟨rfl, hj⟩)
          all_goals (have HJ3 := Lib.hid hj; clear hj HC3; gi_wp2)
          all_goals first
            | (go_roundw; (case rel => exact ⟨k + 1, by omega, by go_num, by rw [HTK.out, bub_snoc, HLK.out, HB1.out, ← List.append_assoc]; exact HJ3.out, HKV.out⟩); (case measure => simp [intOf]; omega))
            | (refine ⟨by simp, .inl ⟨_, _, rfl, run_takeDeferred (HKV.out.same HXD.out hK (fun _ _ e => by cases e)), ?_⟩⟩; exact ⟨_, results_none rfl _ _ _, ⟨_, rfl⟩, .inr ⟨_, HPre.out, hJxM.putObj _ HJ3.out HMD.out (HKV.out.same HXD.out hK (fun _ _ e => by cases e)) rfl⟩⟩)
        | false =>
          have HH : Hid (∀ w, Calls Try.prog 24 #[.agg #[.int .i64 x0, .int .i64 x1, .int .i64 x2, .bool x3, .bool x4]] w fun e w' => e = .returned (.bool (x1 != 0)) ∧ Below w.heap.size w w') := Lib.hid fun w => wkHas ⟨x0, x1, x2, x3, x4⟩ w
          by_cases h1 : x1 = 0
          · have z : (x1 != 0) = false := by simp [h1]
            have HB0 : Hid (bub1 false k ⟨x0, x1, x2, x3, x4⟩ = []) := Lib.hid (bub1_no k h1 rfl)
            clear h1
            gi_wp2_with (refine ⟨trivial, ?_⟩; gi_at_call 24; refine (callsIn_wide.2 (HH.out _)).mono ?_; rintro e w4 ⟨rfl, hb4⟩; have HB4 := Lib.hid (HBA.out.trans (hb4.mono (World.size_alloc _ _ ▸ Nat.le_succ _))); clear hb4)
            go_roundw
            case rel => exact ⟨k + 1, by omega, by go_num, by rw [HTK.out, bub_snoc, HLK.out, HB0.out, List.append_nil]; exact ownFrom_step hJM HJk.out HB4.out, HKk.out.trans (KpX.of_below HB4.out)⟩
            case measure => simp [intOf]; omega
          · have z : (x1 != 0) = true := by simp [h1]
            have HB1 : Hid (bub1 false k ⟨x0, x1, x2, x3, x4⟩ = [⟨(k : Int), R, false⟩]) := Lib.hid (by rw [HRR.out]; exact bub1_yes k (.inl h1))
            have HPre : Hid ((capT 0 p ++ bubT false 0 (p.take k)) ++ [⟨(k : Int), R, false⟩] <+: turnsL p false) := Lib.hid (by have := HB1.out; rw [HRR.out] at this ⊢; exact HPR.out this)
            have HN : Hid ((capT 0 p ++ bubT false 0 (p.take k)).length < (turnsL p false).length) := Lib.hid (by have := HPre.out.length_le; rw [List.length_append, List.length_singleton] at this; omega)
            clear h1
            gi_wp2_with (refine ⟨trivial, ?_⟩; gi_at_call 24; refine (callsIn_wide.2 (HH.out _)).mono ?_; rintro e w4 ⟨rfl, hb4⟩; have k0 := (HFX.out.below hb4 HFX.out.inside).cell 0; have k1 := (HFX.out.below hb4 HFX.out.inside).cell 1; have k2 := (HFX.out.below hb4 HFX.out.inside).cell 2; have k3 := (HFX.out.below hb4 HFX.out.inside).cell 3; have k4 := (HFX.out.below hb4 HFX.out.inside).cell 4; have HB4 := Lib.hid (HBA.out.trans (hb4.mono (World.size_alloc _ _ ▸ Nat.le_succ _))); clear hb4 g0 g1 g2 g3 g4 g5 c0 c1 c2 c3 c4)
            obtain ⟨U, eU⟩ : ∃ U, U = w4 := ⟨_, rfl⟩
            have HKU : Hid (KpX X 32 V U) := Lib.hid (by rw [eU]; exact HKk.out.trans (KpX.of_below HB4.out))
            have HJU : Hid (J (capT 0 p ++ bubT false 0 (p.take k)) U) := Lib.hid (by rw [eU]; exact ownFrom_step hJM HJk.out HB4.out)
            have HBY : Hid (Boxed U M 49 (.func (.yield l) #[] #[])) := Lib.hid (HBm.out _ (HKW.out.trans HKU.out))
            have e0 := HBY.out.cell
            rw [← eU] at k0 k1 k2 k3 k4 ⊢
            clear eU HKk HJk HBA HFX HKK HB4 HH
            gi_wp2
            refine wpIn_mono (?_ : Code.wpIn _ _ _ _ (Exit.then _ (fun _ _ _ => False)) _ _) (fun e a' w' h => by cases e <;> first | exact h | exact h.elim)
            gi_region_with_o (first
              | (refine ⟨trivial, ?_⟩; gi_at_call 23; refine (callsIn_wide.2 (HP.out _)).mono ?_; rintro e w5 ⟨rfl, hb5⟩; have z0 : w5.cell? ⟨M, 0, none⟩ = some (.func (.yield l) #[] #[]) := (show Boxed w5 M 49 (.func (.yield l) #[] #[]) from (hb5.block M HBY.out.lt).trans HBY.out).cell; have hb6 : Below U.heap.size U w5 := (Below.refl U.heap.size U).drew.trans hb5; obtain ⟨fn, tm, asg, bod, hy, hRd⟩ := HY.out (capT 0 p ++ bubT false 0 (p.take k)) ⟨(k : Int), R, false⟩ w5 (ownFrom_step hJM HJU.out hb6) HN.out; dsimp only [encT] at hy; have HRd := Lib.hid hRd; have HB5 := Lib.hid hb6; clear hRd hb5 hb6)
              | (refine (round_any HRd.out).mono ?_; rintro e W3 ⟨v, rfl, hk3, hc3⟩; have HK3 := Lib.hid hk3; have HC3 := Lib.hid hc3; clear hk3 hc3 hy z0))
            all_goals (have HKV := Lib.hid (HKU.out.trans ((KpX.of_below HB5.out).trans HK3.out)); clear HB5 HK3 HRd HBY HJU HKU; rcases HC3.out with ⟨rfl, hj⟩ | ⟨rfl, hj⟩)
            all_goals (have HJ3 := Lib.hid hj; clear hj HC3; gi_wp2)
            all_goals first
              | (go_roundw; (case rel => exact ⟨k + 1, by omega, by go_num, by rw [HTK.out, bub_snoc, HLK.out, HB1.out, ← List.append_assoc]; exact HJ3.out, HKV.out⟩); (case measure => simp [intOf]; omega))
              | (refine ⟨by simp, .inl ⟨_, _, rfl, run_takeDeferred (HKV.out.same HXD.out hK (fun _ _ e => by cases e)), ?_⟩⟩; exact ⟨_, results_none rfl _ _ _, ⟨_, rfl⟩, .inr ⟨_, HPre.out, hJxM.putObj _ HJ3.out HMD.out (HKV.out.same HXD.out hK (fun _ _ e => by cases e)) rfl⟩⟩)
      · obtain rfl : k = len := by omega
        have hJk' : J (turnsL p bub) wr := by
          rw [turnsL]
          rwa [List.take_of_length_le (by rw [HL.out]; exact Nat.le_refl _)] at hJk
        have HJk := Lib.hid hJk'
        have HKV := Lib.hid hkV
        clear hJk hJk' hkV
        gi_wp2
        refine ⟨by simp, .inl ⟨_, _, rfl, run_takeDeferred (HKV.out.same HXD.out hK (fun _ _ e => by cases e)), ?_⟩⟩
        exact ⟨_, results_none rfl _ _ _, ⟨_, rfl⟩, .inl ⟨_, rfl, hJM.putObj _ HJk.out HMD.out (HKV.out.same HXD.out hK (fun _ _ e => by cases e)) rfl⟩⟩
  case stop =>
    rintro D cd pre V hD ⟨k, hk', rfl⟩ ⟨⟨rfl, hJp⟩, hk⟩ hK
    have hP : ((bkL p).take k).map capO <+: turnsL p bub := by
      rw [List.map_take, bk_cap, turnsL]
      exact (List.take_prefix _ _).trans (List.prefix_append _ _)
    have HPre := Lib.hid hP
    have HJp := Lib.hid hJp
    clear hJp hP
    gi_wp2
    refine ⟨by simp, .inl ⟨_, _, rfl, run_takeDeferred hK, ?_⟩⟩
    exact ⟨_, results_none rfl _ _ _, ⟨_, rfl⟩, .inr ⟨_, HPre.out, hJxM.putObj _ HJp.out (by omega) hK rfl⟩⟩
end
end Go.Proofs.Ytekmgaigppenlaa

namespace Go.Proofs.Ytekmgaigppenlaa
open Go Go.RowKit

theorem Pile.of_own {base : Nat} {w : World} {v : Value} {xs : List Int} (h : w.ownsRow base 3 1 v xs.length (xs.map (Value.int .i64))) : Pile base w v xs :=
  Pile.of_kids (G := fun g => base ≤ g) ⟨own_base h (Nat.zero_le _), fun g hg => (h.lt g hg).1⟩ fun _ hg _ => hg
theorem own_below {w w' : World} {base n size : Nat} {e : TypeId} {v : Value} {us : List Value} (h : w.ownsRow base e size v n us) (k : Below w.heap.size w w') : w'.ownsRow base e size v n us :=
  own_kept h (Keeps.of_below (F := fun i => w.heap.size ≤ i) k fun _ _ h => h) fun g hg => Nat.not_le.2 (own_in h g hg)
section
variable {w : World}
/-- What a cut gives. -/
theorem elem_ints : Try.prog.elem 55 = 3 := by kernel_rfl
theorem cut_low (A : Option Addr) (N k a : Nat) (ha : a ≤ k) (w : World) : (Instr.slice 55 (.slice A N k) none (some (.int .i64 (a : Int))) none).run Try.prog w = .ok (.slice A a k) w := by
  have hu : Try.prog.underlying 55 = some (.slice (Try.prog.elem 55)) := by rw [elem_ints]; exact Try.underlying55
  have hs : (sizeOf (Try.prog.elem 55)).run Try.prog w = .ok 1 w := by kernel_rfl
  rw [run_slice_h _ _ _ _ _ hu _ _ (by omega) (by omega), hs]
  simp only [Result.andThen, sliced, Int.toNat_natCast, Nat.sub_zero, Nat.zero_mul]
  by_cases h : k = 0
  · rw [if_pos h]
  · rw [if_neg h]
    cases A with
    | none => rfl
    | some x => simp [Addr.add]
theorem cut_high (A : Option Addr) (N k a : Nat) (ha : a ≤ N) (w : World) : (Instr.slice 55 (.slice A N k) (some (.int .i64 (a : Int))) none none).run Try.prog w = .ok (.slice (if k = a then A else A.map (·.add a)) (N - a) (k - a)) w := by
  have hu : Try.prog.underlying 55 = some (.slice (Try.prog.elem 55)) := by rw [elem_ints]; exact Try.underlying55
  have hs : (sizeOf (Try.prog.elem 55)).run Try.prog w = .ok 1 w := by kernel_rfl
  rw [run_slice_l _ _ _ _ _ hu _ _ (by omega) (by omega), hs]
  simp only [Result.andThen, sliced, Int.toNat_natCast, Nat.mul_one]
theorem ListIn.low {A : Option Addr} {k : Nat} {xa xb : List Int} (h : ListIn w A k (xa ++ xb)) : ListIn w A k xa := by
  refine ⟨Nat.le_trans (by simp) h.cap, h.nil, fun i hi => ?_⟩
  have := h.nums i (by rw [List.length_append]; omega)
  rwa [List.getElem_append_left hi] at this
theorem ListIn.high {A : Option Addr} {k : Nat} {xa xb : List Int} (h : ListIn w A k (xa ++ xb)) : ListIn w (if k = xa.length then A else A.map (·.add xa.length)) (k - xa.length) xb := by
  have hc := h.cap
  rw [List.length_append] at hc
  refine ⟨by omega, fun e => ?_, fun i hi => ?_⟩
  · by_cases hk : k = xa.length
    · omega
    · rw [if_neg hk] at e
      have : A = none := by cases A with
        | none => rfl
        | some x => cases e
      have := h.nil this
      omega
  · obtain ⟨g, off, rfl, hg, hcell⟩ := h.nums (xa.length + i) (by rw [List.length_append]; omega)
    rw [List.getElem_append_right (by omega)] at hcell
    simp only [Nat.add_sub_cancel_left] at hcell
    refine ⟨g, off + xa.length, ?_, hg, by rw [Nat.add_assoc]; exact hcell⟩
    rw [if_neg (by omega)]
    simp [Addr.add]
end
theorem own_aside2 {X : World} {base n size b o : Nat} {e : TypeId} {v u : Value} {us : List Value} (h : X.ownsRow base e size v n us) (hb : b < base) : (X.setCell ⟨b, o, none⟩ u).ownsRow base e size v n us :=
  own_kept h (Keeps.store (F := fun i => i = b) (p := ⟨b, o, none⟩) (Keeps.refl _ _) (.inl rfl) u) fun g hg e => by
    have := (h.lt g hg).1
    omega
end Go.Proofs.Ytekmgaigppenlaa

namespace Go.Proofs.Ytekmgaigppenlaa
open Go Go.RowKit

theorem bub_le (b : Bool) : ∀ (q : List Stp) (n : Nat), (bubT b n q).length ≤ q.length
  | [], _ => Nat.le_refl _
  | s :: r, n => by
    have h1 := bub_le b r (n + 1)
    have h2 : (bub1 b n s).length ≤ 1 := by
      unfold bub1
      split
      · exact Nat.le_refl _
      · split <;> simp
    rw [bubT, List.length_append, List.length_cons]
    omega
theorem turns_le (p : List Stp) (b : Bool) : (turnsL p b).length ≤ 2 * p.length := by
  have := bub_le b p 0
  rw [turnsL, List.length_append, cap_len]
  omega
theorem three_of {w : World} {A : Option Addr} {c k : Nat} {ts : List Trn} (h : RecIn RT w A c ts) (hk : k < ts.length) : ∃ b off, A = some ⟨b, off, none⟩ ∧
    w.cell? ⟨b, off + k * 3, none⟩ = some (.int .i64 ts[k].at_) ∧ w.cell? ⟨b, off + k * 3 + 1, none⟩ = some (.int .i64 ts[k].phase) ∧ w.cell? ⟨b, off + k * 3 + 2, none⟩ = some (.bool ts[k].cap) := by
  obtain ⟨b, off, e, _, hc⟩ := h.at_ k hk
  refine ⟨b, off, e, ?_⟩
  simp only [Nat.add_assoc]
  exact ⟨hc 0 (by decide), hc 1 (by decide), hc 2 (by decide)⟩
section
variable {w : World}
set_option maxHeartbeats 4000000 in
theorem turnsSame (ps : List Trn) (n : Nat) (A A' : Option Addr) (c c' : Nat) (w : World) (hn : ps.length = n) (hl : n ≤ 1000000) (h : RecIn RT w A c ps) (h' : RecIn RT w A' c' ps) :
    Calls Try.prog 9 #[.slice A n c, .slice A' n c'] w fun e w' => e = .returned (.bool true) ∧ ∃ m, w' = w.drewN m := by
  have HN := Lib.hid hn
  have H := Lib.hid h
  have H' := Lib.hid h'
  have y0 : ((n : Int) != (n : Int)) = false := by simp
  clear hn h h'
  go_enter Try.func9, Try.ntmps9
  go_wp2
  go_loopw [5] (fun i wr => ∃ k m : Nat, i = .int .i64 k ∧ k ≤ n ∧ wr = w.drewN m) (fun i _ => n - (intOf i).toNat)
  case atStart => exact ⟨0, 0, rfl, Nat.zero_le _, rfl⟩
  case round =>
    obtain ⟨k, m, rfl, hk, rfl⟩ := hrel
    by_cases hlt : (k : Int) < n
    · have hkn : k < ps.length := by rw [HN.out]; omega
      obtain ⟨b, off, rfl, c0, c1, c2⟩ := three_of H.out hkn
      obtain ⟨b', off', rfl, d0, d1, d2⟩ := three_of H'.out hkn
      obtain ⟨x, hx⟩ : ∃ x, x = ps[k] := ⟨_, rfl⟩
      rw [← hx] at c0 c1 c2 d0 d1 d2
      obtain ⟨x0, x1, x2⟩ := x
      simp only at c0 c1 c2 d0 d1 d2
      have hwk : IntKind.i64.wrap ((k : Int) + 1) = (k : Int) + 1 := wrap_small (by omega) (by omega)
      clear hx hkn
      go_wp2
      go_quiet (fail)
      go_wp2
      go_roundw
      case rel => exact ⟨k + 1, m + nq, by go_num, by omega, rfl⟩
      case measure => simp [intOf]; omega
    · go_wp2
      go_ret
      exact ⟨rfl, m, rfl⟩
theorem told_take {p : List Stp} {k : Nat} (hk : k < p.length) (t : Int) : toldT (p.take (k + 1)) t = if p[k].target ≠ 0 then p[k].target else toldT (p.take k) t := by
  rw [List.take_add_one, List.getElem?_eq_getElem hk]
  exact told_snoc _ _
theorem target_in {p : List Stp} {k : Nat} (hk : k < p.length) : targetL p (k : Int) = toldT (p.take (k + 1)) 0 := by
  rw [targetL, if_pos ⟨by omega, by omega⟩, Int.toNat_natCast]
theorem target_out {p : List Stp} {i : Int} (h : ¬ (0 ≤ i ∧ i < p.length)) : targetL p i = 0 := by rw [targetL, if_neg h]
set_option maxRecDepth 100000 in
set_option maxHeartbeats 4000000 in
theorem rfTarget (A : Option Addr) (n c : Nat) (p : List Stp) (i : Int) (w : World) (hn : p.length = n) (hl : n ≤ 1000) (hR : RecIn RS w A c p) :
    Calls Try.prog 12 #[.slice A n c, .int .i64 i] w fun e w' => e = .returned (.int .i64 (targetL p i)) ∧ w' = w := by
  have HR := Lib.hid hR
  have HN := Lib.hid hn
  obtain ⟨R, hRR⟩ : ∃ R, R = targetL p i := ⟨_, rfl⟩
  rw [← hRR]
  by_cases hin : 0 ≤ i ∧ i < (n : Int)
  · obtain ⟨i0, rfl⟩ : ∃ i0 : Nat, i = (i0 : Int) := ⟨i.toNat, by omega⟩
    have hi0 : i0 < n := by omega
    have HRR : Hid (R = toldT (p.take (i0 + 1)) 0) := Lib.hid (hRR.trans (target_in (by omega)))
    have y1 : ((i0 : Int) < (n : Int)) := by omega
    clear hRR hin hR hn
    go_enter Try.func12, Try.ntmps12
    go_wp2
    go_loopw [5, 6] (fun t k wr => ∃ m : Nat, m ≤ i0 + 1 ∧ k = .int .i64 (m : Int) ∧ t = .int .i64 (toldT (p.take m) 0) ∧ wr = w) (fun _ k _ => i0 + 1 - (intOf k).toNat)
    case atStart => exact ⟨0, Nat.zero_le _, rfl, rfl, rfl⟩
    case round =>
      obtain ⟨m, hm, rfl, rfl, rfl⟩ := hrel
      by_cases hlt : m ≤ i0
      · have y2 : (m : Int) ≤ (i0 : Int) := by omega
        have y3 : (m : Int) < (n : Int) := by omega
        have hmp : m < p.length := by rw [HN.out]; omega
        obtain ⟨b, off, rfl, c0, c1, c2, c3, c4⟩ := five_of HR.out hmp
        have HT := Lib.hid (told_take hmp 0)
        obtain ⟨x, hx⟩ : ∃ x, x = p[m] := ⟨_, rfl⟩
        rw [← hx] at c0 c1 c2 c3 c4 HT
        obtain ⟨x0, x1, x2, x3, x4⟩ := x
        simp only at c0 c1 c2 c3 c4 HT
        have hwk : IntKind.i64.wrap ((m : Int) + 1) = (m : Int) + 1 := wrap_small (by omega) (by omega)
        clear hx hmp
        by_cases h1 : x1 = 0
        · have z : (x1 != 0) = false := by simp [h1]
          have HT1 : Hid (toldT (p.take (m + 1)) 0 = toldT (p.take m) 0) := Lib.hid (by rw [HT.out, if_neg (fun k => k h1)])
          clear h1 HT
          go_wp2
          go_roundw
          case rel => exact ⟨m + 1, by omega, by go_num, by rw [HT1.out], by first | rfl | trivial⟩
          case measure => simp [intOf]; omega
        · have z : (x1 != 0) = true := by simp [h1]
          have HT1 : Hid (toldT (p.take (m + 1)) 0 = x1) := Lib.hid (by rw [HT.out, if_pos h1])
          clear h1 HT
          go_wp2
          go_roundw
          case rel => exact ⟨m + 1, by omega, by go_num, by rw [HT1.out], by first | rfl | trivial⟩
          case measure => simp [intOf]; omega
      · have HM : Hid (m = i0 + 1) := Lib.hid (by omega)
        have y2 : decide ((m : Int) ≤ (i0 : Int)) = false := by rw [decide_eq_false_iff_not]; omega
        have y3 : decide (m ≤ i0) = false := by rw [decide_eq_false_iff_not]; omega
        clear hm hlt
        go_wp2
        go_ret
        exact ⟨by first | (rw [HRR.out, HM.out]; done) | (rw [HRR.out, HM.out]; rfl) | (rw [HM.out, HRR.out]; rfl), rfl⟩
  · have HRR : Hid (R = 0) := Lib.hid (hRR.trans (target_out (by rw [hn]; exact hin)))
    clear hRR hR hn
    by_cases h0 : 0 ≤ i
    · have hge : ¬ (i < (n : Int)) := fun h => hin ⟨h0, h⟩
      have y0 : (decide (i < (n : Int))) = false := by rw [decide_eq_false_iff_not]; exact hge
      have y1 : (decide ((0 : Int) ≤ i)) = true := by rw [decide_eq_true_iff]; exact h0
      clear hin hge
      by_cases hn0 : 0 < n
      · have y2 : decide ((0 : Int) < (n : Int)) = true := by rw [decide_eq_true_iff]; omega
        have y3 : (0 : Int) < (n : Int) := by omega
        go_enter Try.func12, Try.ntmps12
        go_wp2
        go_loopw [5, 6] (fun t k wr => t = .int .i64 0 ∧ k = .int .i64 0 ∧ wr = w) (fun _ _ _ => 0)
        case atStart => exact ⟨rfl, rfl, rfl⟩
        case round =>
          obtain ⟨rfl, rfl, rfl⟩ := hrel
          go_wp2
          go_ret
          exact ⟨by first | (rw [HRR.out]; done) | (rw [HRR.out]; rfl), rfl⟩
      · obtain rfl : n = 0 := by omega
        go_enter Try.func12, Try.ntmps12
        go_wp2
        go_loopw [5, 6] (fun t k wr => t = .int .i64 0 ∧ k = .int .i64 0 ∧ wr = w) (fun _ _ _ => 0)
        case atStart => exact ⟨rfl, rfl, rfl⟩
        case round =>
          obtain ⟨rfl, rfl, rfl⟩ := hrel
          go_wp2
          go_ret
          exact ⟨by first | (rw [HRR.out]; done) | (rw [HRR.out]; rfl), rfl⟩
    · have y1 : (decide ((0 : Int) ≤ i)) = false := by rw [decide_eq_false_iff_not]; exact h0
      clear hin
      go_enter Try.func12, Try.ntmps12
      go_wp2
      go_loopw [5, 6] (fun t k wr => t = .int .i64 0 ∧ k = .int .i64 0 ∧ wr = w) (fun _ _ _ => 0)
      case atStart => exact ⟨rfl, rfl, rfl⟩
      case round =>
        obtain ⟨rfl, rfl, rfl⟩ := hrel
        go_wp2
        go_ret
        exact ⟨by first | (rw [HRR.out]; done) | (rw [HRR.out]; rfl), rfl⟩
set_option maxRecDepth 100000 in
set_option maxHeartbeats 8000000 in
theorem rfTurns {A : Option Addr} {n c : Nat} {p : List Stp} {w : World} (bub : Bool) (hn : p.length = n) (hl : n ≤ 1000) (hR : RecIn RS w A c p) :
    Calls Try.prog 8 #[.slice A n c, .bool bub] w fun e w' => ∃ v, e = .returned v ∧ Recs RT 32 w.heap.size w' v (turnsL p bub) ∧ Below w.heap.size w w' := by
  have HR := Lib.hid hR
  have HN := Lib.hid hn
  obtain ⟨j0, qi, qz0, qz1, qz2⟩ := info_parts Try.infoU
  have Qi := Lib.hid qi
  have Qz0 := Lib.hid qz0
  have Qz1 := Lib.hid qz1
  have Qz2 := Lib.hid qz2
  have hwl : IntKind.i64.wrap ((n : Int) - 1) = (n : Int) - 1 := wrap_small (by omega) (by omega)
  have HW : Hid (Below w.heap.size w w) := Lib.hid (Below.refl _ _)
  have HE := Lib.hid (Recs.nil RT 32 w.heap.size w)
  clear hR hn qi qz0 qz1 qz2
  go_enter Try.func8, Try.ntmps8
  go_wp2
  go_loopw [5, 6] (fun v i wr => ∃ m : Nat, m ≤ n ∧ i = .int .i64 ((m : Int) - 1) ∧ Recs RT 32 w.heap.size wr v (capT m (p.drop m)) ∧ Below w.heap.size w wr) (fun _ i _ => (intOf i + 1).toNat)
  case atStart => exact ⟨n, Nat.le_refl _, rfl, by rw [List.drop_eq_nil_of_le (by rw [HN.out]; exact Nat.le_refl _)]; exact HE.out, HW.out⟩
  case round =>
    obtain ⟨m, hm, rfl, hr, hb⟩ := hrel
    cases m with
    | zero =>
      have HR0 : Hid (Recs RT 32 w.heap.size wr _ (capT 0 p)) := Lib.hid hr
      have HB0 := Lib.hid hb
      clear hr hb
      rw [show (((0 : Nat) : Int) - 1) = -1 from rfl]
      go_wp2
      go_loopw [5, 8] (fun v i wr => ∃ k : Nat, k ≤ n ∧ i = .int .i64 (k : Int) ∧ Recs RT 32 w.heap.size wr v (capT 0 p ++ bubT bub 0 (p.take k)) ∧ Below w.heap.size w wr) (fun _ i _ => n - (intOf i).toNat)
      case atStart => exact ⟨0, Nat.zero_le _, rfl, by rw [List.take_zero]; exact (List.append_nil (capT 0 p)).symm ▸ HR0.out, HB0.out⟩
      case round =>
        obtain ⟨k, hk, rfl, hr, hb⟩ := hrel
        have HRo0 := Lib.hid hr
        by_cases hlt : (k : Int) < n
        · have hkp : k < p.length := by rw [HN.out]; omega
          obtain ⟨b, off, rfl, c0, c1, c2, c3, c4⟩ := five_of (HR.out.below hb) hkp
          obtain ⟨x, hx⟩ : ∃ x, x = p[k] := ⟨_, rfl⟩
          have HTK : Hid (p.take (k + 1) = p.take k ++ [x]) := Lib.hid (by rw [List.take_add_one, List.getElem?_eq_getElem hkp, hx]; rfl)
          have HLK : Hid (0 + (p.take k).length = k) := Lib.hid (by rw [List.length_take]; omega)
          rw [← hx] at c0 c1 c2 c3 c4
          have HLn : Hid ((capT 0 p ++ bubT bub 0 (p.take k)).length ≤ 1000000) := Lib.hid (by
            have h1 := bub_le bub (p.take k) 0
            rw [List.length_take] at h1
            rw [List.length_append, cap_len]
            have := HN.out
            omega)
          clear hx hkp
          obtain ⟨Ao, co, rfl, -⟩ := hr.form
          have HRo := Lib.hid hr
          have HB := Lib.hid hb
          obtain ⟨L, hL⟩ : ∃ L, (capT 0 p ++ bubT bub 0 (p.take k)).length = L := ⟨_, rfl⟩
          have HL1 := Lib.hid hL
          rw [hL] at HRo ⊢
          clear hL
          have hwk : IntKind.i64.wrap ((k : Int) + 1) = (k : Int) + 1 := wrap_small (by omega) (by omega)
          obtain ⟨x0, x1, x2, x3, x4⟩ := x
          dsimp only at c0 c1 c2 c3 c4
          clear hr hb HRo0
          by_cases h1 : x1 = 0
          · have z : (x1 != 0) = false := by simp [h1]
            cases hbub : bub with
            | false =>
              subst hbub
              have HC : Hid (capT 0 p ++ bubT false 0 (p.take (k + 1)) = capT 0 p ++ bubT false 0 (p.take k)) := Lib.hid (by rw [HTK.out, bub_snoc, HLK.out, bub1_no k h1 rfl, List.append_nil])
              clear h1
              go_wp2
              go_roundw
              case rel => exact ⟨k + 1, by omega, by go_num, by rw [HC.out]; exact HRo.out, HB.out⟩
              case measure => simp [intOf]; omega
            | true =>
              subst hbub
              have hA : Below wr.heap.size wr (wr.alloc (.cells #[.int .i64 (k : Int), .int .i64 3, .bool false] 32)) := (Below.refl _ wr).alloc (Nat.le_refl _) _
              have HR6 := Lib.hid (HRo.out.below hA)
              have HL6 : Hid (Has (wr.alloc (.cells #[.int .i64 (k : Int), .int .i64 3, .bool false] 32)) wr.heap.size (.cells (RT.cells ⟨(k : Int), 3, false⟩).toArray 32 (0, 0))) := Lib.hid (Has.fresh wr (.cells #[.int .i64 (k : Int), .int .i64 3, .bool false] 32))
              have HS6 : Hid (w.heap.size ≤ (wr.alloc (.cells #[.int .i64 (k : Int), .int .i64 3, .bool false] 32)).heap.size) := Lib.hid (by simp only [World.size_alloc]; have := HB.out.size; omega)
              have HA := Lib.hid hA
              have HC : Hid (capT 0 p ++ bubT true 0 (p.take (k + 1)) = (capT 0 p ++ bubT true 0 (p.take k)) ++ [⟨(k : Int), 3, false⟩]) := Lib.hid (by rw [HTK.out, bub_snoc, HLK.out, show bub1 true k ⟨x0, x1, x2, x3, x4⟩ = [⟨(k : Int), 3, false⟩] from by unfold bub1; rw [if_neg (fun h => h h1), if_pos rfl], List.append_assoc])
              clear hA h1
              go_wp2_with (at_builtin; refine wpList_pushR (R := RT) (x := ⟨(k : Int), 3, false⟩) (v := .slice Ao L co) (xs := capT 0 p ++ bubT true 0 (p.take k)) (base := w.heap.size) rfl (.tmp 47) (.tmp 50) 24 rfl j0 _ 24 Try.underlying24 Qi.out Qz0.out Qz1.out Qz2.out rfl rfl HR6.out rfl HL6.out HLn.out (by omega) HS6.out ?_; intro g' cap w5 hp5 hk5 _ _; rw [HL1.out] at hp5 ⊢; have HP5 := Lib.hid hp5; have HB5 := Lib.hid (below_then (HB.out.trans (HA.out.mono HB.out.size)) hk5 HS6.out fun i hi e => by have := (HRo.out.in_ i e).1; omega); clear hp5 hk5)
              go_roundw
              case rel => exact ⟨k + 1, by omega, by go_num, by rw [HC.out]; exact HP5.out, HB5.out⟩
              case measure => simp [intOf]; omega
          · have z : (x1 != 0) = true := by simp [h1]
            have hA : Below wr.heap.size wr (wr.alloc (.cells #[.int .i64 (k : Int), .int .i64 2, .bool false] 32)) := (Below.refl _ wr).alloc (Nat.le_refl _) _
            have HR6 := Lib.hid (HRo.out.below hA)
            have HL6 : Hid (Has (wr.alloc (.cells #[.int .i64 (k : Int), .int .i64 2, .bool false] 32)) wr.heap.size (.cells (RT.cells ⟨(k : Int), 2, false⟩).toArray 32 (0, 0))) := Lib.hid (Has.fresh wr (.cells #[.int .i64 (k : Int), .int .i64 2, .bool false] 32))
            have HS6 : Hid (w.heap.size ≤ (wr.alloc (.cells #[.int .i64 (k : Int), .int .i64 2, .bool false] 32)).heap.size) := Lib.hid (by simp only [World.size_alloc]; have := HB.out.size; omega)
            have HA := Lib.hid hA
            have HC : Hid (capT 0 p ++ bubT bub 0 (p.take (k + 1)) = (capT 0 p ++ bubT bub 0 (p.take k)) ++ [⟨(k : Int), 2, false⟩]) := Lib.hid (by rw [HTK.out, bub_snoc, HLK.out, show bub1 bub k ⟨x0, x1, x2, x3, x4⟩ = [⟨(k : Int), 2, false⟩] from by unfold bub1; rw [if_pos h1], List.append_assoc])
            clear hA h1
            go_wp2_with (at_builtin; refine wpList_pushR (R := RT) (x := ⟨(k : Int), 2, false⟩) (v := .slice Ao L co) (xs := capT 0 p ++ bubT bub 0 (p.take k)) (base := w.heap.size) rfl (.tmp 41) (.tmp 44) 24 rfl j0 _ 24 Try.underlying24 Qi.out Qz0.out Qz1.out Qz2.out rfl rfl HR6.out rfl HL6.out HLn.out (by omega) HS6.out ?_; intro g' cap w5 hp5 hk5 _ _; rw [HL1.out] at hp5 ⊢; have HP5 := Lib.hid hp5; have HB5 := Lib.hid (below_then (HB.out.trans (HA.out.mono HB.out.size)) hk5 HS6.out fun i hi e => by have := (HRo.out.in_ i e).1; omega); clear hp5 hk5)
            go_roundw
            case rel => exact ⟨k + 1, by omega, by go_num, by rw [HC.out]; exact HP5.out, HB5.out⟩
            case measure => simp [intOf]; omega
        · have HB := Lib.hid hb
          have HT : Hid (capT 0 p ++ bubT bub 0 (p.take k) = turnsL p bub) := Lib.hid (by rw [turnsL, List.take_of_length_le (by rw [HN.out]; omega)])
          clear hr hb
          go_wp2
          go_ret
          exact ⟨_, rfl, by rw [← HT.out]; exact HRo0.out, HB.out⟩
    | succ k =>
      have hkp : k < p.length := by rw [HN.out]; omega
      obtain ⟨b, off, rfl, c0, c1, c2, c3, c4⟩ := five_of (HR.out.below (hb.alloc hb.size (.cells #[.int .i64 (k : Int), .int .i64 1, .bool true] 32))) hkp
      obtain ⟨x, hx⟩ : ∃ x, x = p[k] := ⟨_, rfl⟩
      have HD : Hid (p.drop k = x :: p.drop (k + 1)) := Lib.hid (by rw [hx, List.getElem_cons_drop])
      rw [← hx] at c0 c1 c2 c3 c4
      clear hx hkp
      obtain ⟨Ao, co, rfl, -⟩ := hr.form
      have HRo := Lib.hid hr
      have HB := Lib.hid hb
      have HLn : Hid ((capT (k + 1) (p.drop (k + 1))).length ≤ 1000000) := Lib.hid (by rw [cap_len, List.length_drop, HN.out]; omega)
      obtain ⟨L, hL⟩ : ∃ L, (capT (k + 1) (p.drop (k + 1))).length = L := ⟨_, rfl⟩
      have HL1 := Lib.hid hL
      rw [hL] at HRo ⊢
      clear hL
      have hkk : (((k + 1 : Nat) : Int) - 1) = (k : Int) := by omega
      have hwk : IntKind.i64.wrap ((k : Int) - 1) = (k : Int) - 1 := wrap_small (by omega) (by omega)
      rw [hkk]
      obtain ⟨x0, x1, x2, x3, x4⟩ := x
      dsimp only at c0 c1 c2 c3 c4
      clear hr hb hkk
      have hFX := Has.fresh wr (.cells #[.int .i64 (k : Int), .int .i64 1, .bool true] 32)
      by_cases h1 : x1 = 0
      · have z : (x1 != 0) = false := by simp [h1]
        have HC : Hid (capT k (p.drop k) = capT (k + 1) (p.drop (k + 1)) ++ [⟨(k : Int), 1, true⟩]) := Lib.hid (by rw [HD.out, capT, if_neg (fun h => h h1)])
        clear h1 hFX
        have hA : Below wr.heap.size wr ((wr.alloc (.cells #[.int .i64 (k : Int), .int .i64 1, .bool true] 32)).alloc (.cells #[.int .i64 (k : Int), .int .i64 1, .bool true] 32)) := ((Below.refl _ wr).alloc (Nat.le_refl _) _).alloc (by simp) _
        have HR6 := Lib.hid (HRo.out.below hA)
        have HL6 : Hid (Has ((wr.alloc (.cells #[.int .i64 (k : Int), .int .i64 1, .bool true] 32)).alloc (.cells #[.int .i64 (k : Int), .int .i64 1, .bool true] 32)) (wr.heap.size + 1) (.cells (RT.cells ⟨(k : Int), 1, true⟩).toArray 32 (0, 0))) := Lib.hid (by have := Has.fresh (wr.alloc (.cells #[.int .i64 (k : Int), .int .i64 1, .bool true] 32)) (.cells #[.int .i64 (k : Int), .int .i64 1, .bool true] 32); rw [World.size_alloc] at this; exact this)
        have HS6 : Hid (w.heap.size ≤ ((wr.alloc (.cells #[.int .i64 (k : Int), .int .i64 1, .bool true] 32)).alloc (.cells #[.int .i64 (k : Int), .int .i64 1, .bool true] 32)).heap.size) := Lib.hid (by simp only [World.size_alloc]; have := HB.out.size; omega)
        have HA := Lib.hid hA
        clear hA
        go_wp2_with (at_builtin; refine wpList_pushR (R := RT) (x := ⟨(k : Int), 1, true⟩) (v := .slice Ao L co) (xs := capT (k + 1) (p.drop (k + 1))) (base := w.heap.size) rfl (.tmp 25) (.tmp 27) 24 rfl j0 _ 24 Try.underlying24 Qi.out Qz0.out Qz1.out Qz2.out rfl rfl HR6.out rfl HL6.out HLn.out (by omega) HS6.out ?_; intro g' cap w5 hp5 hk5 _ _; rw [HL1.out] at hp5 ⊢; have HP5 := Lib.hid hp5; have HB5 := Lib.hid (below_then (HB.out.trans (HA.out.mono HB.out.size)) hk5 HS6.out fun i hi e => by have := (HRo.out.in_ i e).1; omega); clear hp5 hk5)
        go_roundw
        case rel => exact ⟨k, by omega, by go_num, by rw [HC.out]; exact HP5.out, HB5.out⟩
        case measure => simp [intOf]
      · have z : (x1 != 0) = true := by simp [h1]
        have HC : Hid (capT k (p.drop k) = capT (k + 1) (p.drop (k + 1)) ++ [⟨(k : Int), 2, true⟩]) := Lib.hid (by rw [HD.out, capT, if_pos h1])
        clear h1 hFX
        have hA : Below wr.heap.size wr ((wr.alloc (.cells #[.int .i64 (k : Int), .int .i64 2, .bool true] 32)).alloc (.cells #[.int .i64 (k : Int), .int .i64 2, .bool true] 32)) := ((Below.refl _ wr).alloc (Nat.le_refl _) _).alloc (by simp) _
        have HR6 := Lib.hid (HRo.out.below hA)
        have HL6 : Hid (Has ((wr.alloc (.cells #[.int .i64 (k : Int), .int .i64 2, .bool true] 32)).alloc (.cells #[.int .i64 (k : Int), .int .i64 2, .bool true] 32)) (wr.heap.size + 1) (.cells (RT.cells ⟨(k : Int), 2, true⟩).toArray 32 (0, 0))) := Lib.hid (by have := Has.fresh (wr.alloc (.cells #[.int .i64 (k : Int), .int .i64 2, .bool true] 32)) (.cells #[.int .i64 (k : Int), .int .i64 2, .bool true] 32); rw [World.size_alloc] at this; exact this)
        have HS6 : Hid (w.heap.size ≤ ((wr.alloc (.cells #[.int .i64 (k : Int), .int .i64 2, .bool true] 32)).alloc (.cells #[.int .i64 (k : Int), .int .i64 2, .bool true] 32)).heap.size) := Lib.hid (by simp only [World.size_alloc]; have := HB.out.size; omega)
        have HA := Lib.hid hA
        clear hA
        go_wp2_with (at_builtin; refine wpList_pushR (R := RT) (x := ⟨(k : Int), 2, true⟩) (v := .slice Ao L co) (xs := capT (k + 1) (p.drop (k + 1))) (base := w.heap.size) rfl (.tmp 25) (.tmp 27) 24 rfl j0 _ 24 Try.underlying24 Qi.out Qz0.out Qz1.out Qz2.out rfl rfl HR6.out rfl HL6.out HLn.out (by omega) HS6.out ?_; intro g' cap w5 hp5 hk5 _ _; rw [HL1.out] at hp5 ⊢; have HP5 := Lib.hid hp5; have HB5 := Lib.hid (below_then (HB.out.trans (HA.out.mono HB.out.size)) hk5 HS6.out fun i hi e => by have := (HRo.out.in_ i e).1; omega); clear hp5 hk5)
        go_roundw
        case rel => exact ⟨k, by omega, by go_num, by rw [HC.out]; exact HP5.out, HB5.out⟩
        case measure => simp [intOf]
end
end Go.Proofs.Ytekmgaigppenlaa

namespace Go.Proofs.Ytekmgaigppenlaa
open Go Go.RowKit Go.Shelf
attribute [local go_sem] Oper.semAt_some

/-- The row that a slice owns is of its element type. -/
theorem own_type {w : World} {base n size g : Nat} {e : TypeId} {v : Value} {us : List Value} (h : w.ownsRow base e size v n us) (hg : v.ownBlock = some g) : ∃ c f, w.heap[g]? = some (.cells c e f) := by
  rcases h.2 with ⟨rfl, _⟩ | ⟨g', cap, cur, rfl, _, hgb, _⟩
  · simp [Value.ownBlock] at hg
  · obtain rfl : g' = g := by simpa [Value.ownBlock] using hg
    exact ⟨_, _, hgb⟩
theorem KpX.of_keeps {X F : Nat → Prop} {T : TypeId} {W W' : World} (k : Keeps F W W') (hF : ∀ b, F b → X b ∨ ∃ c f, W.heap[b]? = some (.cells c T f)) : KpX X T W W' :=
  ⟨k.grows, fun b o hb ho hT => (k.old b (Array.getElem?_eq_some_iff.1 ho).1 (fun hf => by
    rcases hF b hf with h | ⟨c, f, h⟩
    · exact hb h
    · rw [ho] at h
      cases h
      exact hT c f rfl)).trans ho⟩
section
variable {α : Type} {R : Rec α} {e : TypeId} {base : Nat} {w : World} {v : Value} {xs : List α} {x : α} {F : Fence} {n : Nat}
theorem wpListIn_pushR {P : Program} {ops : Array Oper} {rest : List Oper} {o : Oper} {a : Act} {Q : Exit → Act → World → Prop} (hgd : o.guard = none) (s p : Operand) (t : TypeId)
    (ho : o.op = .call { callee := .builtin .append, args := #[s, p], argTypes := #[t, t] }) (i : TypeInfo) (z : Value) (bytes : Nat) (ht : P.underlying t = some (.slice e)) (hi : P.info? e = some i) (hz : i.zero = some z) (hsize : i.size = R.n) (hby : i.bytes = bytes) (hzs : z.cells.size = R.n)
    (hs : a.eval s = v) (h : Recs R e base w v xs) {b c : Nat} {fr : Nat × Nat} (hx : a.eval p = .slice (some ⟨b, 0, none⟩) 1 c) (hb : Has w b (.cells (R.cells x).toArray e fr)) (hl : xs.length ≤ 1000000) (hbb : bytes ≤ 1000000) (hbase : base ≤ w.heap.size)
    (hK : ∀ g cap w', Recs R e base w' (.slice (some ⟨g, 0, none⟩) (xs.length + 1) cap) (xs ++ [x]) → Keeps (fun i => v.ownBlock = some i) w w' → (v.ownBlock = some g ∨ w.heap.size ≤ g) → g < w'.heap.size → wpListIn F n P ops Q rest (a.put o.dst (.slice (some ⟨g, 0, none⟩) (xs.length + 1) cap)) w') : wpListIn F n P ops Q (o :: rest) a w := by
  obtain ⟨g, cap, w', hr, h2, h3, h4, h5⟩ := run_pushR (c := c) (x := x) t o.type i z bytes ht hi hz hsize hby hzs h hb hl hbb hbase
  refine wpListIn_plain hgd fun _ hK' => ?_
  unfold Oper.wpIn
  refine ⟨by simp [Oper.about, ho, resolve, Target.leads, Sem.run_pure], ?_⟩
  rw [Oper.semAt_plain F _ _ (by rw [ho]; intro c hc'; cases hc')]
  simp [execOp, ho, resolve, invoke, builtin, hs, hx, hr, Result.andThen]
  exact hK' _ _ (hK g cap w' h2 h3 h4 h5)
end
section
set_option maxRecDepth 100000 in
set_option maxHeartbeats 2000000 in
theorem wkEach {A : Option Addr} {n c : Nat} {p : List Stp} {w : World} (bub : Bool) (hn : p.length = n) (hl : n ≤ 1000) (hR : RecIn RS w A c p) :
    Calls Try.prog 13 #[.slice A n c, .bool bub] w fun e w' => ∃ (Bo Bb : Nat) (Y : Nat → Prop), e = .returned (.func (.func 21) #[] #[.pointer (some ⟨Bo, 0, none⟩), .pointer (some ⟨Bb, 0, none⟩)]) ∧
      SeqX Try.prog 21 #[.pointer (some ⟨Bo, 0, none⟩), .pointer (some ⟨Bb, 0, none⟩)] encT Y 32 (fun ts => ts = turnsL p bub) (fun pre => pre <+: turnsL p bub) (turnsL p bub).length w' ∧ (∀ b, Y b → w.heap.size ≤ b ∧ b < w'.heap.size) ∧ Below w.heap.size w w' := by
  have HR := Lib.hid hR
  have HB0 : Hid (Below w.heap.size w (w.alloc (.cells #[.bool bub] 4))) := Lib.hid ((Below.refl _ w).alloc (Nat.le_refl _) _)
  have HB := Lib.hid (Boxed.new w 4 (.bool bub))
  clear hR
  go_enter Try.func13, Try.ntmps13
  go_wp2_with fail
  refine (stClone A n c p _ hn hl (HR.out.below HB0.out)).mono ?_
  rintro e w2 ⟨v, rfl, hr2, hb2⟩
  obtain ⟨A2, c2, rfl, hI2⟩ := hr2.form
  rw [hn] at hr2 ⊢
  have hs2 := hb2.size
  have h3 : Below w.heap.size w w2 := HB0.out.trans (hb2.mono (by simp))
  have hBb : Boxed w2 w.heap.size 4 (.bool bub) := (hb2.block _ HB.out.lt).trans HB.out
  have hA3 : Below w2.heap.size w2 (w2.alloc (.cells #[.slice A2 n c2] 22)) := (Below.refl _ w2).alloc (Nat.le_refl _) _
  have hBo := Boxed.new w2 22 (.slice A2 n c2)
  simp only [World.size_alloc] at hs2
  have hin := hr2.in_
  have hseq : SeqX Try.prog 21 #[.pointer (some ⟨w2.heap.size, 0, none⟩), .pointer (some ⟨w.heap.size, 0, none⟩)] encT (fun b => b = w2.heap.size ∨ b = w.heap.size ∨ (Value.slice A2 n c2).ownBlock = some b) 32 (fun ts => ts = turnsL p bub) (fun pre => pre <+: turnsL p bub) (turnsL p bub).length (w2.alloc (.cells #[.slice A2 n c2] 22)) := by
    refine each1 p bub _ w2.heap.size w.heap.size n c2 A2 _ hn hl (.inl rfl) (.inr (.inl rfl)) (fun h0 b off s e => .inr (.inr (by rw [e]; simp [Value.ownBlock]))) ?_ hBo (hBb.alloc _) (hI2.below hA3)
    rintro b (rfl | rfl | hb)
    · exact ⟨_, hBo, fun c f e => by cases e⟩
    · exact ⟨_, hBb.alloc _, fun c f e => by cases e⟩
    · obtain ⟨c', f', hc⟩ := own_type hr2 hb
      exact ⟨_, (hA3.block b (hin b hb).2).trans hc, fun c f e => by cases e⟩
  have hY : ∀ b, (b = w2.heap.size ∨ b = w.heap.size ∨ (Value.slice A2 n c2).ownBlock = some b) → w.heap.size ≤ b ∧ b < (w2.alloc (.cells #[.slice A2 n c2] 22)).heap.size := by
    rw [World.size_alloc]
    rintro b (rfl | rfl | hb)
    · omega
    · omega
    · have := hin b hb
      rw [World.size_alloc] at this
      omega
  have HSeq := Lib.hid hseq
  have HY := Lib.hid hY
  have H3 := Lib.hid (h3.alloc (by omega) (.cells #[.slice A2 n c2] 22))
  clear hseq hY h3 hin hBo hA3 hBb hs2 hI2 hr2 hb2 HB HB0 HR
  go_wp2
  go_ret
  exact ⟨_, _, _, rfl, HSeq.out, HY.out, H3.out⟩
set_option maxRecDepth 100000 in
set_option maxHeartbeats 4000000 in
theorem wkTurns {A : Option Addr} {n c : Nat} {p : List Stp} {w : World} (bub : Bool) (hn : p.length = n) (hl : n ≤ 1000) (hR : RecIn RS w A c p) :
    Calls Try.prog 10 #[.slice A n c, .bool bub] w fun e w' => ∃ v, e = .returned v ∧ Recs RT 32 w.heap.size w' v (turnsL p bub) ∧ Below w.heap.size w w' := by
  have HR := Lib.hid hR
  have HB0 : Hid (Below w.heap.size w (w.alloc (.cells #[.slice none 0 0] 24))) := Lib.hid ((Below.refl _ w).alloc (Nat.le_refl _) _)
  have HB := Lib.hid (Boxed.new w 24 (.slice none 0 0))
  clear hR
  refine (callsIn_wide (n := 9)).1 ?_
  refine callsIn_of_wp_marks Try.func10 rfl trivial ?_ rfl
  simp only [Try.ntmps10, List.size_toArray, List.length_cons, List.length_nil, Nat.reduceAdd, Nat.reduceSub, Array.replicate_succ, Array.replicate_zero, List.push_toArray, List.append_toArray, List.nil_append, List.cons_append]
  gi_wp2_with (refine ⟨trivial, ?_⟩; gi_at_call 13; refine (callsIn_wide.2 (wkEach bub hn hl (HR.out.below HB0.out))).mono ?_; rintro e w1 ⟨Bo, Bb, Y, rfl, hseq, hY, hb1⟩; have HSeq := Lib.hid hseq; have HY := Lib.hid hY; have HB1 := Lib.hid hb1; clear hseq hY hb1)
  have b0 : Boxed w1 w.heap.size 24 (.slice none 0 0) := (HB1.out.block _ HB.out.lt).trans HB.out
  have hsz := HB1.out.size
  have hB1 : Below w.heap.size w w1 := HB0.out.trans (HB1.out.mono HB0.out.size)
  have hYT : ∀ b, Y b → w.heap.size + 1 ≤ b ∧ b < w1.heap.size := fun b hb => by
    have := HY.out b hb
    rw [World.size_alloc] at this
    exact this
  rw [World.size_alloc] at hsz
  obtain ⟨T, eT⟩ : ∃ T, T = w.heap.size := ⟨_, rfl⟩
  rw [← eT] at b0 hB1 hYT hsz ⊢
  have HT := Lib.hid eT
  have HTw : Hid (T ≤ w.heap.size) := Lib.hid (by omega)
  obtain ⟨B, eB⟩ : ∃ B, B = w1.heap.size := ⟨_, rfl⟩
  have HBB := Lib.hid eB
  obtain ⟨j0, qi, qz0, qz1, qz2⟩ := info_parts Try.infoU
  have Qi := Lib.hid qi
  have Qz0 := Lib.hid qz0
  have Qz1 := Lib.hid qz1
  have Qz2 := Lib.hid qz2
  have HN : Hid ((turnsL p bub).length ≤ 100000) := Lib.hid (by have := turns_le p bub; omega)
  clear eT eB HB0 HB HB1 HY HR qi qz0 qz1 qz2
  refine wpIn_range_X (by decide) (gf := 21) (lb := #[.pointer (some ⟨Bo, 0, none⟩), .pointer (some ⟨Bb, 0, none⟩)]) rfl (enters_of Try.func21 (by kernel_rfl) rfl) HSeq.out (Below.refl _ _) (fun _ => rfl)
    (fun b => b = T) (fun b hb => (hYT b hb).2) (by rintro b rfl; exact ⟨by omega, fun e => by have := (hYT _ e).1; omega⟩)
    (fun pre V => (∃ v, Boxed V T 24 v ∧ V.ownsRow (T + 1) 32 3 v pre.length (flatR RT pre) ∧ True) ∧ Below T w V)
    (fun _ _ _ => False)
    (OwnFrom.and (Own.from (holdsRow_own (T + 1) T 24 32 3 (fun pre : List Trn => pre.length) (fun pre => flatR RT pre) (fun _ _ => True)) _) (ownFrom_below HTw.out (by omega)))
    (fun _ _ _ _ _ hs _ _ => hs)
    ⟨⟨_, b0, World.ownsRow_nil _ _ _ _, trivial⟩, hB1⟩
    (fun x a' V => ∃ Bx, T < Bx ∧ Has V Bx (.cells #[.int .i64 x.at_, .int .i64 x.phase, .bool x.cap] 32 (0, 0)) ∧ a' = { tmps := #[.slice A n c, .bool bub, undef, undef, .slice none 0 0, .pointer (some ⟨T, 0, none⟩), .pointer (some ⟨Bx, 0, none⟩), .slice A n c, .bool bub, .func (.func 21) #[] #[.pointer (some ⟨Bo, 0, none⟩), .pointer (some ⟨Bb, 0, none⟩)], .agg #[.int .i64 x.at_, .int .i64 x.phase, .bool x.cap], undef, undef, undef, undef, undef], defers := [] })
    (fun x a' _ X Y row hs hg hr => by obtain ⟨Bx, h1, h2, h3⟩ := hs; exact ⟨Bx, h1, has_own Bx (fun (_ : Unit) => #[.int .i64 x.at_, .int .i64 x.phase, .bool x.cap]) _ _ () X Y row h2 hg (fun r e => (hr r e).2), h3⟩)
    ?assign ?body ?done ?stop
  case assign =>
    rintro l pre x V K ⟨⟨v, q2, q3, -⟩, hB⟩ hK
    have hVs := hB.size
    have hlt := q2.lt
    dsimp only [encT]
    gi_wp2
    refine hK _ _ (KpX.alloc _ _) ⟨⟨v, q2.alloc _, own_below q3 ((Below.refl _ V).alloc (Nat.le_refl _) _), trivial⟩, hB.alloc (by have := HTw.out; omega) _⟩ ⟨V.heap.size, hlt, Has.fresh V (.cells #[.int .i64 x.at_, .int .i64 x.phase, .bool x.cap] 32), rfl⟩
  case body =>
    rintro l pre x a' V ⟨⟨v, q2, q3, -⟩, hB⟩ ⟨Bx, hBx, bX, rfl⟩ hlt
    have d2 := q2.cell
    have d3 := q2.frozen
    have c0 := bX.cell 0
    have c1 := bX.cell 1
    have c2 := bX.cell 2
    have hTV := q2.lt
    have hA : Below V.heap.size V (V.alloc (.cells #[.int .i64 x.at_, .int .i64 x.phase, .bool x.cap] 32)) := (Below.refl _ V).alloc (Nat.le_refl _) _
    have hrs : Recs RT 32 (T + 1) V v pre := q3
    have HR6 := Lib.hid (hrs.below hA)
    have HL6 : Hid (Has (V.alloc (.cells #[.int .i64 x.at_, .int .i64 x.phase, .bool x.cap] 32)) V.heap.size (.cells (RT.cells x).toArray 32 (0, 0))) := Lib.hid (Has.fresh V (.cells #[.int .i64 x.at_, .int .i64 x.phase, .bool x.cap] 32))
    have HS6 : Hid (T + 1 ≤ (V.alloc (.cells #[.int .i64 x.at_, .int .i64 x.phase, .bool x.cap] 32)).heap.size) := Lib.hid (by rw [World.size_alloc]; omega)
    have HLn : Hid (pre.length ≤ 1000000) := Lib.hid (by have := HN.out; omega)
    have HRs := Lib.hid hrs
    have HQ2 := Lib.hid q2
    have HB := Lib.hid hB
    clear q2 q3 hB bX hA hrs hlt hBx
    gi_wp2_with (gi_at_builtin; refine wpListIn_pushR (R := RT) (x := x) (v := v) (xs := pre) (base := T + 1) rfl (.tmp 11) (.tmp 13) 24 rfl j0 _ 24 Try.underlying24 Qi.out Qz0.out Qz1.out Qz2.out rfl rfl HR6.out rfl HL6.out HLn.out (by omega) HS6.out ?_; intro g cap w5 hp5 hk5 _ _; have hu : Boxed w5 T 24 v := (hk5.old T (by rw [World.size_alloc]; omega) (fun e => by have := (HRs.out.in_ T e).1; omega)).trans (HQ2.out.alloc _); have a7 := hu.cell; have a8 := hu.frozen; have HU := Lib.hid hu; have HP5 := Lib.hid hp5; have HK5 := Lib.hid hk5; clear hu hp5 hk5)
    have hP : Recs RT 32 (T + 1) (w5.setCell ⟨T, 0, none⟩ (.slice (some ⟨g, 0, none⟩) (pre.length + 1) cap)) (.slice (some ⟨g, 0, none⟩) (pre.length + 1) cap) (pre ++ [x]) := own_aside2 HP5.out (by omega)
    refine ⟨((KpX.alloc _ _).trans (KpX.of_keeps HK5.out fun b e => .inr (own_type HR6.out e))).trans (KpX.setCell (X := fun b => b = T) rfl _ _ _), ⟨_, HU.out.set _, ?_, trivial⟩, ?_⟩
    · exact hP
    · refine (below_then (HB.out.alloc (by have := HTw.out; have := HB.out.size; omega) _) HK5.out ?_ ?_).setCell (p := ⟨T, 0, none⟩) (Nat.le_refl _) _
      · rw [World.size_alloc]; omega
      · intro i hi e
        have := (HRs.out.in_ i e).1
        omega
  case done =>
    rintro D ys V hD rfl ⟨⟨v, q2, q3, -⟩, hB⟩ hK
    have d2 := q2.cell
    gi_wp2
    refine ⟨by simp, .inl ⟨_, _, rfl, run_takeDeferred hK, ?_⟩⟩
    refine ⟨_, results_tmp rfl _ _ _, v, rfl, ownsRow_putObj (own_base q3 (by rw [HT.out]; exact Nat.le_succ _)) _ hK rfl, ?_⟩
    exact (by rw [← HT.out]; exact hB.trans (belowK_b (w := w) (by rw [HT.out]; exact Nat.le_refl _) V D _ _ (by have := HT.out; omega) hK rfl rfl))
  case stop =>
    rintro D cd pre V hD _ h _
    exact h.elim
end
end Go.Proofs.Ytekmgaigppenlaa

namespace Go.Proofs.Ytekmgaigppenlaa
open Go Go.RowKit

def path1 : List Stp := [⟨1, 1, 0, false, false⟩]
theorem path1_turns : turnsL path1 false = [⟨0, 2, true⟩, ⟨0, 2, false⟩] := rfl
set_option maxRecDepth 100000 in
set_option maxHeartbeats 4000000 in
theorem awake16 (w : World) : Calls Try.prog 7 #[] w fun e w' => e = .returned (.bool true) ∧ Below w.heap.size w w' := by
  have hA : RecIn RS (w.alloc (.cells #[.int .i64 1, .int .i64 1, .int .i64 0, .bool false, .bool false] 44)) (some ⟨w.heap.size, 0, none⟩) 1 path1 := rec_lit (xs := path1) (fr := (0, 0)) (Has.fresh w (.cells #[.int .i64 1, .int .i64 1, .int .i64 0, .bool false, .bool false] 44))
  have HC := Lib.hid (wkTurns false (n := 1) rfl (by decide) hA)
  clear hA
  go_enter Try.func7, Try.ntmps7
  go_wp2_with fail
  refine HC.out.mono ?_
  rintro e w2 ⟨x, rfl, hx, hb2⟩
  obtain ⟨A2, c2, rfl, hL2⟩ := hx.form
  rw [path1_turns] at hL2 ⊢
  have hB : Below w.heap.size w w2 := ((Below.refl _ w).alloc (Nat.le_refl _) _).trans (hb2.mono (by simp))
  have HB := Lib.hid hB
  have hL3 : RecIn RT (w2.alloc (.cells #[.int .i64 0, .int .i64 2, .bool true, .int .i64 0, .int .i64 2, .bool false] 32)) (some ⟨w2.heap.size, 0, none⟩) 2 [⟨0, 2, true⟩, ⟨0, 2, false⟩] := rec_lit (xs := [(⟨0, 2, true⟩ : Trn), ⟨0, 2, false⟩]) (fr := (0, 0)) (Has.fresh w2 (.cells #[.int .i64 0, .int .i64 2, .bool true, .int .i64 0, .int .i64 2, .bool false] 32))
  have HL2 := Lib.hid (hL2.below ((Below.refl _ w2).alloc (Nat.le_refl _) (.cells #[.int .i64 0, .int .i64 2, .bool true, .int .i64 0, .int .i64 2, .bool false] 32)))
  have HL3 := Lib.hid hL3
  clear hx hb2 hL2 hB hL3 HC
  rw [show ([(⟨0, 2, true⟩ : Trn), ⟨0, 2, false⟩] : List Trn).length = 2 from rfl]
  go_wp2_with fail
  refine (turnsSame [⟨0, 2, true⟩, ⟨0, 2, false⟩] 2 A2 (some ⟨w2.heap.size, 0, none⟩) c2 2 _ rfl (by decide) HL2.out HL3.out).mono ?_
  rintro e w3 ⟨rfl, m, rfl⟩
  have HB3 := Lib.hid (below_draws (HB.out.alloc HB.out.size (.cells #[.int .i64 0, .int .i64 2, .bool true, .int .i64 0, .int .i64 2, .bool false] 32)) m)
  go_wp2
  go_ret
  exact ⟨rfl, HB3.out⟩
end Go.Proofs.Ytekmgaigppenlaa

namespace Go.Proofs.Ytekmgaigppenlaa
open Go Go.RowKit Go.Shelf
attribute [local go_sem] Oper.semAt_some

def noStp : Stp := ⟨0, 0, 0, false, false⟩
/-- The last entry that has a target. -/
def lastT (p : List Stp) : Stp := (p.reverse.find? fun s => s.target != 0).getD noStp
theorem lastT_snoc {p : List Stp} {s : Stp} : lastT (p ++ [s]) = if s.target ≠ 0 then s else lastT p := by
  unfold lastT
  rw [List.reverse_append, List.reverse_singleton, List.singleton_append, List.find?_cons]
  by_cases h : s.target = 0
  · have e : (s.target != 0) = false := by simp [h]
    rw [e, if_neg (fun k => k h)]
  · have e : (s.target != 0) = true := by simp [h]
    rw [e, if_pos h]
    rfl
theorem lastT_nil : lastT [] = noStp := rfl
theorem lastT_told (p : List Stp) : (lastT p).target = toldT p 0 := by
  obtain ⟨q, rfl⟩ : ∃ q : List Stp, p = q.reverse := ⟨p.reverse, (List.reverse_reverse p).symm⟩
  induction q with
  | nil => rfl
  | cons s r ih =>
    rw [List.reverse_cons, lastT_snoc, told_snoc]
    split
    · rfl
    · exact ih
theorem last_found {p : List Stp} {k : Nat} {ini : List (Nat × Stp)} {last : Nat × Stp} (e1 : (bkL p).take k = ini ++ [last]) (e2 : ∀ q ∈ ini, q.2.target = 0) (e3 : last.2.target ≠ 0) : lastT p = last.2 := by
  have h : p.reverse = (ini.map (·.2) ++ [last.2]) ++ ((bkL p).drop k).map (·.2) := by
    have h1 : p.reverse = ((bkL p).take k ++ (bkL p).drop k).map (·.2) := by rw [List.take_append_drop, bk_snd]
    rw [h1, e1]
    simp only [List.map_append, List.map_cons, List.map_nil]
  unfold lastT
  rw [h, List.append_assoc, List.find?_append]
  have h0 : (ini.map (·.2)).find? (fun s => s.target != 0) = none := by
    rw [List.find?_eq_none]
    intro s hs
    obtain ⟨q, hq, rfl⟩ := List.mem_map.1 hs
    simp [e2 q hq]
  have e : (last.2.target != 0) = true := by simp [e3]
  rw [h0, List.singleton_append, List.find?_cons, e]
  rfl
theorem last_none {p : List Stp} (h : ∀ q ∈ bkL p, q.2.target = 0) : lastT p = noStp := by
  unfold lastT
  have h0 : p.reverse.find? (fun s => s.target != 0) = none := by
    rw [List.find?_eq_none, ← bk_snd]
    intro s hs
    obtain ⟨q, hq, rfl⟩ := List.mem_map.1 hs
    simp [h q hq]
  rw [h0]
  rfl
/-- Five cells of a block, written anew. -/
def put5 (w : World) (T : Nat) (u0 u1 u2 u3 u4 : Value) : World := ((((w.setCell ⟨T, 0, none⟩ u0).setCell ⟨T, 1, none⟩ u1).setCell ⟨T, 2, none⟩ u2).setCell ⟨T, 3, none⟩ u3).setCell ⟨T, 4, none⟩ u4
theorem put5_has {w : World} {T : Nat} {t : TypeId} {z0 z1 z2 z3 z4 : Value} (h : Has w T (.cells #[z0, z1, z2, z3, z4] t (0, 0))) (u0 u1 u2 u3 u4 : Value) : Has (put5 w T u0 u1 u2 u3 u4) T (.cells #[u0, u1, u2, u3, u4] t (0, 0)) := by
  have h0 := h.stored 0 u0
  have h1 := h0.stored 1 u1
  have h2 := h1.stored 2 u2
  have h3 := h2.stored 3 u3
  have h4 := h3.stored 4 u4
  unfold put5
  simpa using h4
theorem put5_below {B : Nat} {w w' : World} (h : Below B w w') {T : Nat} (hT : B ≤ T) (u0 u1 u2 u3 u4 : Value) : Below B w (put5 w' T u0 u1 u2 u3 u4) :=
  ((((h.setCell (p := ⟨T, 0, none⟩) hT u0).setCell (p := ⟨T, 1, none⟩) hT u1).setCell (p := ⟨T, 2, none⟩) hT u2).setCell (p := ⟨T, 3, none⟩) hT u3).setCell (p := ⟨T, 4, none⟩) hT u4
theorem put5_keeps (w : World) (T : Nat) (u0 u1 u2 u3 u4 : Value) : KeepsOthers w (put5 w T u0 u1 u2 u3 u4) :=
  ((((KeepsOthers.setCell _ _ _).trans (KeepsOthers.setCell _ _ _)).trans (KeepsOthers.setCell _ _ _)).trans (KeepsOthers.setCell _ _ _)).trans (KeepsOthers.setCell _ _ _)
section
set_option maxRecDepth 100000 in
set_option maxHeartbeats 4000000 in
theorem wkLast {A : Option Addr} {n c : Nat} {p : List Stp} {w : World} (hn : p.length = n) (hl : n ≤ 1000) (hR : RecIn RS w A c p) :
    Calls Try.prog 19 #[.slice A n c] w fun e w' => e = .returned (.agg #[.int .i64 (lastT p).node, .int .i64 (lastT p).target, .int .i64 (lastT p).related, .bool (lastT p).cr, .bool (lastT p).cs]) ∧ Below w.heap.size w w' := by
  refine (callsIn_wide (n := 9)).1 ?_
  refine callsIn_of_wp_marks Try.func19 rfl trivial ?_ rfl
  simp only [Try.ntmps19, List.size_toArray, List.length_cons, List.length_nil, Nat.reduceAdd, Nat.reduceSub, Array.replicate_succ, Array.replicate_zero, List.push_toArray, List.append_toArray, List.nil_append, List.cons_append]
  gi_wp2_with (refine ⟨trivial, ?_⟩; gi_at_call 22; refine (callsIn_wide.2 (bkA _ _ _ _)).mono ?_; rintro e w' ⟨rfl, rfl⟩)
  have b0 : Has ((w.alloc (.cells #[.int .i64 0, .int .i64 0, .int .i64 0, .bool false, .bool false] 44)).alloc (.cells #[.slice A n c] 22)) w.heap.size (.cells #[.int .i64 0, .int .i64 0, .int .i64 0, .bool false, .bool false] 44 (0, 0)) := (Has.fresh w (.cells #[.int .i64 0, .int .i64 0, .int .i64 0, .bool false, .bool false] 44)).more _
  have b2 := Boxed.new (w.alloc (.cells #[.int .i64 0, .int .i64 0, .int .i64 0, .bool false, .bool false] 44)) 22 (.slice A n c)
  simp only [World.size_alloc] at b2
  have hB0 : Below w.heap.size w ((w.alloc (.cells #[.int .i64 0, .int .i64 0, .int .i64 0, .bool false, .bool false] 44)).alloc (.cells #[.slice A n c] 22)) := ((Below.refl _ w).alloc (Nat.le_refl _) _).alloc (by simp) _
  have hsz : (((w.alloc (.cells #[.int .i64 0, .int .i64 0, .int .i64 0, .bool false, .bool false] 44)).alloc (.cells #[.slice A n c] 22))).heap.size = w.heap.size + 1 + 1 := by simp
  obtain ⟨W0, hW0⟩ : ∃ W0, ((w.alloc (.cells #[.int .i64 0, .int .i64 0, .int .i64 0, .bool false, .bool false] 44)).alloc (.cells #[.slice A n c] 22)) = W0 := ⟨_, rfl⟩
  rw [hW0] at b0 b2 hB0 hsz ⊢
  clear hW0
  have hA : 0 < p.length → ∀ b off s, A = some ⟨b, off, s⟩ → b < w.heap.size := fun h0 b off s e => by
    obtain ⟨b', off', e', hb, -⟩ := hR.at_ 0 h0
    rw [e] at e'
    cases e'
    exact hb
  have hR0 := hR.below hB0
  obtain ⟨T, eT⟩ : ∃ T, T = w.heap.size := ⟨_, rfl⟩
  have HT := Lib.hid eT
  rw [← eT] at b0 b2 hB0 hsz hA ⊢
  clear hR
  have hTw : T ≤ w.heap.size := by omega
  clear eT
  refine wpIn_rangeFunc_ownH rfl (by decide) (gf := 34) (lb := #[.pointer (some ⟨T + 1, 0, none⟩)]) rfl trivial (enters_of Try.func34 (by kernel_rfl) rfl)
    (bk_stops (9 - 1) (by decide) (T + 1) T n c A p hn (by omega) W0 (by omega) hA b2 hR0) KpS.trans (KpS.book (by omega) (by omega)) (Below.refl _ _) (fun _ => rfl)
    (fun pre V => ((∀ q ∈ pre, q.2.target = 0) ∧ Has V T (.cells #[.int .i64 0, .int .i64 0, .int .i64 0, .bool false, .bool false] 44 (0, 0))) ∧ Below T w V)
    (fun cd pre V => (cd = .ret ∧ ∃ ini last, pre = ini ++ [last] ∧ (∀ q ∈ ini, q.2.target = 0) ∧ last.2.target ≠ 0 ∧ Has V T (.cells #[.int .i64 last.2.node, .int .i64 last.2.target, .int .i64 last.2.related, .bool last.2.cr, .bool last.2.cs] 44 (0, 0))) ∧ Below T w V)
    (OwnFrom.and (OwnFrom.and (ownFrom_pure _ _) (Own.from (has_own T (fun _ => #[.int .i64 0, .int .i64 0, .int .i64 0, .bool false, .bool false]) _ _) _)) (ownFrom_below hTw (by omega)))
    (fun cd => OwnFrom.and (Own.from (fun s U V row hs hg hr => by obtain ⟨h1, ini, last, e1, e2, e3, e4⟩ := hs; exact ⟨h1, ini, last, e1, e2, e3, has_own T (fun (_ : Unit) => #[.int .i64 last.2.node, .int .i64 last.2.target, .int .i64 last.2.related, .bool last.2.cr, .bool last.2.cs]) _ _ () U V row e4 hg hr⟩) _) (ownFrom_below hTw (by omega)))
    ⟨⟨(fun q hq => by cases hq), b0⟩, hB0⟩
    (fun x a' V => ∃ Bx, T < Bx ∧ Has V Bx (.cells #[.int .i64 x.2.node, .int .i64 x.2.target, .int .i64 x.2.related, .bool x.2.cr, .bool x.2.cs] 44 (0, 0)) ∧ a' = { tmps := #[.slice A n c, undef, .pointer (some ⟨T, 0, none⟩), undef, .pointer (some ⟨Bx, 0, none⟩), .slice A n c, .func (.func 34) #[] #[.pointer (some ⟨T + 1, 0, none⟩)], .int .i64 (x.1 : Int), .agg #[.int .i64 x.2.node, .int .i64 x.2.target, .int .i64 x.2.related, .bool x.2.cr, .bool x.2.cs], undef, undef, undef, undef], defers := [] })
    (fun x a' _ U V row hs hg hr => by obtain ⟨Bx, h1, h2, h3⟩ := hs; exact ⟨Bx, h1, has_own Bx (fun (_ : Unit) => #[.int .i64 x.2.node, .int .i64 x.2.target, .int .i64 x.2.related, .bool x.2.cr, .bool x.2.cs]) _ _ () U V row h2 hg (fun r e => (hr r e).2), h3⟩)
    ?assign ?body ?done ?stop
  case assign =>
    rintro l pre x V K ⟨⟨hp, q0⟩, hB⟩ hK
    have hs := hB.size
    have hlt := q0.inside
    gi_wp2
    exact hK _ _ ((KeepsOthers.alloc _ _).from _) (KpS.alloc (by omega) _) ⟨⟨hp, q0.more _⟩, hB.alloc (by omega) _⟩ ⟨V.heap.size, hlt, Has.fresh V (.cells #[.int .i64 x.2.node, .int .i64 x.2.target, .int .i64 x.2.related, .bool x.2.cr, .bool x.2.cs] 44), rfl⟩
  case body =>
    rintro l pre x a' V hl' ⟨r, hr⟩ ⟨⟨hp, q0⟩, hB⟩ ⟨Bx, hBx, bX, rfl⟩ hlt
    have c0 := bX.cell 0
    have c1 := bX.cell 1
    have c2 := bX.cell 2
    have c3 := bX.cell 3
    have c4 := bX.cell 4
    obtain ⟨i, x0, x1, x2, x3, x4⟩ := x
    have HH : Hid (∀ w, Calls Try.prog 24 #[.agg #[.int .i64 x0, .int .i64 x1, .int .i64 x2, .bool x3, .bool x4]] w fun e w' => e = .returned (.bool (x1 != 0)) ∧ Below w.heap.size w w') := Lib.hid fun w => wkHas ⟨x0, x1, x2, x3, x4⟩ w
    have HP := Lib.hid hp
    have HQ := Lib.hid q0
    have HB := Lib.hid hB
    have HX := Lib.hid bX
    have HTV : Hid (T ≤ V.heap.size) := Lib.hid (by have := hB.size; omega)
    clear hp q0 hB bX hlt hl' hr
    dsimp only at c0 c1 c2 c3 c4
    by_cases h1 : x1 = 0
    · have z : (x1 != 0) = false := by simp [h1]
      have H1 := Lib.hid h1
      clear h1
      gi_wp2_with (refine ⟨trivial, ?_⟩; gi_at_call 24; refine (CallsIn.inRound l (callsIn_wide.2 (HH.out _))).mono ?_; rintro e w2 ⟨rfl, hb2⟩; have HB2 := Lib.hid hb2; clear hb2)
      exact ⟨(KpX.of_below (X := fun _ => False) (T := 0) HB2.out).from (fun _ h => h.elim), ⟨HB2.out.mono HTV.out, fun o ho => (HB2.out.block _ (Array.getElem?_eq_some_iff.1 ho).1).trans ho⟩, ⟨fun q hq => (List.mem_append.1 hq).elim (HP.out q) (fun e => by rw [List.mem_singleton.1 e]; exact H1.out), HQ.out.below HB2.out HQ.out.inside⟩, HB.out.trans (HB2.out.mono HTV.out)⟩
    · have z : (x1 != 0) = true := by simp [h1]
      have H1 := Lib.hid h1
      clear h1
      gi_wp2_with (refine ⟨trivial, ?_⟩; gi_at_call 24; refine (CallsIn.inRound l (callsIn_wide.2 (HH.out _))).mono ?_; rintro e w2 ⟨rfl, hb2⟩; have HB2 := Lib.hid hb2; have hq2 := HQ.out.below hb2 HQ.out.inside; have hx2 := HX.out.below hb2 HX.out.inside; have d0 := hq2.cell 0; have d1 := hq2.cell 1; have d2 := hq2.cell 2; have d3 := hq2.cell 3; have d4 := hq2.cell 4; have f0 := hq2.free 0; have f1 := hq2.free 1; have f2 := hq2.free 2; have f3 := hq2.free 3; have f4 := hq2.free 4; have g0 := hx2.cell 0; have g1 := hx2.cell 1; have g2 := hx2.cell 2; have g3 := hx2.cell 3; have g4 := hx2.cell 4; have HQ2 := Lib.hid hq2; clear hb2 hq2 hx2)
      exact ⟨((KpX.of_below (X := fun _ => False) (T := 0) HB2.out).from (fun _ h => h.elim)).trans ((put5_keeps w2 T _ _ _ _ _).from _), ⟨rfl, pre, _, rfl, HP.out, H1.out, put5_has HQ2.out _ _ _ _ _⟩, put5_below (HB.out.trans (HB2.out.mono HTV.out)) (Nat.le_refl _) _ _ _ _ _⟩
  case done =>
    rintro D ys V hD rfl ⟨⟨hp, q0⟩, hB⟩ hK
    have e1 := last_none hp
    have d0 := q0.cell 0
    have d1 := q0.cell 1
    have d2 := q0.cell 2
    have d3 := q0.cell 3
    have d4 := q0.cell 4
    have f0 := q0.free 0
    have f1 := q0.free 1
    have f2 := q0.free 2
    have f3 := q0.free 3
    have f4 := q0.free 4
    have HE := Lib.hid e1
    have HQ := Lib.hid q0
    clear e1 hp q0
    gi_wp2
    have hK' := (put5_keeps V T (.int .i64 0) (.int .i64 0) (.int .i64 0) (.bool false) (.bool false)).same D _ hK rfl
    refine ⟨by simp, .inl ⟨_, _, rfl, run_takeDeferred hK', ?_⟩⟩
    have hF : Has ((put5 V T (.int .i64 0) (.int .i64 0) (.int .i64 0) (.bool false) (.bool false)).putObj D (.deferred none)) T (.cells #[.int .i64 0, .int .i64 0, .int .i64 0, .bool false, .bool false] 44 (0, 0)) := has_own T (fun (_ : Unit) => #[.int .i64 0, .int .i64 0, .int .i64 0, .bool false, .bool false]) _ _ () _ _ _ (put5_has HQ.out _ _ _ _ _) (grownBy_putObj' _ D _) (fun r e => by cases e; exact ⟨_, hK', rfl⟩)
    have r0 := hF.cell 0
    have r1 := hF.cell 1
    have r2 := hF.cell 2
    have r3 := hF.cell 3
    have r4 := hF.cell 4
    refine ⟨.agg #[.int .i64 0, .int .i64 0, .int .i64 0, .bool false, .bool false], ?_, by rw [HE.out]; rfl, (put5_below hB (Nat.le_refl _) _ _ _ _ _).trans (belowK_b (w := w) (by omega) _ D _ _ (by have := HT.out; omega) hK' rfl rfl) |> fun k => by rw [← HT.out]; exact k⟩
    obtain ⟨W9, hW9⟩ : ∃ W9, W9 = ((put5 V T (.int .i64 0) (.int .i64 0) (.int .i64 0) (.bool false) (.bool false)).putObj D (.deferred none)) := ⟨_, rfl⟩
    rw [← hW9] at r0 r1 r2 r3 r4
    change (results Try.f19 _).run Try.prog ((put5 V T (.int .i64 0) (.int .i64 0) (.int .i64 0) (.bool false) (.bool false)).putObj D (.deferred none)) = .ok _ ((put5 V T (.int .i64 0) (.int .i64 0) (.int .i64 0) (.bool false) (.bool false)).putObj D (.deferred none))
    rw [← hW9]
    simp [results, Try.f19, go_sem, r0, r1, r2, r3, r4]
  case stop =>
    rintro D cd pre V hD ⟨k, hk, rfl⟩ ⟨⟨rfl, ini, last, e1, e2, e3, q0⟩, hB⟩ hK
    have HE := Lib.hid (last_found e1 e2 e3)
    gi_wp2
    refine ⟨by simp, .inl ⟨_, _, rfl, run_takeDeferred hK, ?_⟩⟩
    have hF : Has (V.putObj D (.deferred none)) T (.cells #[.int .i64 last.2.node, .int .i64 last.2.target, .int .i64 last.2.related, .bool last.2.cr, .bool last.2.cs] 44 (0, 0)) := has_own T (fun (_ : Unit) => #[.int .i64 last.2.node, .int .i64 last.2.target, .int .i64 last.2.related, .bool last.2.cr, .bool last.2.cs]) _ _ () _ _ _ q0 (grownBy_putObj' _ D _) (fun r e => by cases e; exact ⟨_, hK, rfl⟩)
    have r0 := hF.cell 0
    have r1 := hF.cell 1
    have r2 := hF.cell 2
    have r3 := hF.cell 3
    have r4 := hF.cell 4
    refine ⟨.agg #[.int .i64 last.2.node, .int .i64 last.2.target, .int .i64 last.2.related, .bool last.2.cr, .bool last.2.cs], ?_, by rw [HE.out], hB.trans (belowK_b (w := w) (by omega) V D _ _ (by have := HT.out; omega) hK rfl rfl) |> fun k => by rw [← HT.out]; exact k⟩
    simp [results, Try.f19, go_sem, r0, r1, r2, r3, r4]
set_option maxRecDepth 100000 in
set_option maxHeartbeats 2000000 in
theorem wkTarget {A : Option Addr} {n c : Nat} {p : List Stp} {w : World} (i : Int) (hn : p.length = n) (hl : n ≤ 1000) (hR : RecIn RS w A c p) :
    Calls Try.prog 11 #[.slice A n c, .int .i64 i] w fun e w' => e = .returned (.int .i64 (targetL p i)) ∧ Below w.heap.size w w' := by
  obtain ⟨R, hRR⟩ : ∃ R, R = targetL p i := ⟨_, rfl⟩
  rw [← hRR]
  by_cases h0 : i < 0
  · have y0 : decide (i < 0) = true := by rw [decide_eq_true_iff]; exact h0
    have HRR : Hid (R = 0) := Lib.hid (hRR.trans (target_out (fun h => by omega)))
    clear hRR hR hn h0
    go_enter Try.func11, Try.ntmps11
    go_wp2_with (refine ⟨trivial, ?_⟩)
    go_ret
    exact ⟨by first | (rw [HRR.out]; done) | (rw [HRR.out]; rfl), Below.refl _ _⟩
  · have y0 : decide (i < 0) = false := by rw [decide_eq_false_iff_not]; exact h0
    by_cases h1 : (n : Int) ≤ i
    · have y1 : decide ((n : Int) ≤ i) = true := by rw [decide_eq_true_iff]; exact h1
      have HRR : Hid (R = 0) := Lib.hid (hRR.trans (target_out (fun h => by rw [hn] at h; omega)))
      clear hRR hR hn h0 h1
      go_enter Try.func11, Try.ntmps11
      go_wp2
      go_ret
      exact ⟨by first | (rw [HRR.out]; done) | (rw [HRR.out]; rfl), Below.refl _ _⟩
    · have y1 : decide ((n : Int) ≤ i) = false := by rw [decide_eq_false_iff_not]; exact h1
      obtain ⟨k, rfl⟩ : ∃ k : Nat, i = (k : Int) := ⟨i.toNat, by omega⟩
      have hk : k < n := by omega
      have y2 : decide (n ≤ k) = false := by rw [decide_eq_false_iff_not]; omega
      have hc := hR.cap
      have HRR : Hid (R = (lastT (p.take (k + 1))).target) := Lib.hid (hRR.trans ((target_in (by omega)).trans (lastT_told _).symm))
      have hwk : IntKind.i64.wrap ((k : Int) + 1) = (k : Int) + 1 := wrap_small (by omega) (by omega)
      have hcut := stepCut_low A n c (k + 1) (by omega)
      have hcc : (((k + 1 : Nat) : Int)) = (k : Int) + 1 := by omega
      rw [hcc] at hcut
      have hfl : ∀ (s : Stp) (w : World), (Instr.field 44 (.agg #[.int .i64 s.node, .int .i64 s.target, .int .i64 s.related, .bool s.cr, .bool s.cs]) 1).run Try.prog w = .ok (.int .i64 s.target) w := fun s w => by kernel_rfl
      have HL := Lib.hid (wkLast (w := w) (n := k + 1) (by rw [List.length_take]; omega) (by omega) (rec_low hR (a := k + 1) (by omega)))
      clear hRR hR hn h0 h1 hk hc hcc
      go_enter Try.func11, Try.ntmps11
      go_wp2_with fail
      refine HL.out.mono ?_
      rintro e w2 ⟨rfl, hb2⟩
      have HB2 := Lib.hid hb2
      clear hb2
      go_wp2
      go_ret
      exact ⟨by first | (rw [HRR.out]; done) | (rw [HRR.out]; rfl), HB2.out⟩
end
end Go.Proofs.Ytekmgaigppenlaa

namespace Go.Proofs.Ytekmgaigppenlaa
open Go Go.RowKit

/-- No operation of these is a defer statement. -/
def noDefer (l : List Oper) : Bool := l.all fun o => match o.op with
  | .defer _ => false
  | _ => true
theorem noDefer_at {l : List Oper} (h : noDefer l = true) {j : Nat} {o : Oper} (ho : l.toArray[j]? = some o) (c : Call) : o.op ≠ .defer c := fun e => by
  rw [List.getElem?_toArray] at ho
  have := List.all_eq_true.1 h o (List.mem_of_getElem? ho)
  rw [e] at this
  cases this
section
variable {l n : Nat} {P : Program} {ops : Array Oper} {Q : Exit → Act → World → Prop}
theorem oper_round {o : Oper} {a : Act} {w : World} {K : Act → World → Prop} (hd : ∀ c : Call, o.op ≠ .defer c) (h : o.wpIn Fence.wide n P a w K Q) : o.wpIn (Fence.wide.inRound l) n P a w K Q := by
  refine ⟨h.1, ?_⟩
  have h2 := h.2
  rw [show Fence.wide.round = none from rfl, Oper.semAt_none] at h2
  rw [show (Fence.wide.inRound l).round = some l from rfl, Oper.semAt_some l _ _ hd]
  generalize (execOp a.eval o).run P w = r at *
  cases r with
  | ok x w' => cases x <;> exact h2
  | halt x w' => cases x <;> exact h2
theorem op_round {i : Nat} {K : Act → World → Prop} {a : Act} {w : World} (hd : ∀ (j : Nat) (o : Oper), ops[j]? = some o → ∀ c : Call, o.op ≠ .defer c) (h : wpOpIn Fence.wide n P ops Q i K a w) : wpOpIn (Fence.wide.inRound l) n P ops Q i K a w := by
  unfold wpOpIn at *
  split
  · rename_i ho
    simpa only [ho] using h
  · rename_i o ho
    simp only [ho] at h
    split
    · rename_i hw
      simp only [hw, if_true] at h
      exact oper_round (hd i o ho) h
    · rename_i hw
      simp only [hw] at h
      exact h
theorem any_round {md : Region.Mode} (hd : ∀ (j : Nat) (o : Oper), ops[j]? = some o → ∀ c : Call, o.op ≠ .defer c) : ∀ (fuel : Nat) (listed : Array Bool) (a : Act) (w : World), wpAnyIn Fence.wide n P md ops Q fuel listed a w → wpAnyIn (Fence.wide.inRound l) n P md ops Q fuel listed a w
  | 0, _, _, _, h => h
  | fuel + 1, _, _, _, h => ⟨h.1, fun i hi => op_round hd (wpOpIn_mono (fun a w k => any_round hd fuel _ a w k) (h.2 i hi))⟩
/-- A region that only reads. -/
theorem region_round_quiet {id : Nat} {ls : List Oper} {a : Act} {w : World} (hm : P.follows .mixedOrders = true) (hB : Region.lexB .any ls.toArray = true) (hd : noDefer ls = true)
    (h : wpQuietIn Fence.wide n P ls.toArray (fun w' => ∃ m, w' = w.drewN m) (fun a' => ∀ w', (∃ m, w' = w.drewN m) → Q .normal a' w') ls a) : (Code.region id ls.toArray true).wpIn (Fence.wide.inRound l) n P Q a w := by
  have hB2 := hB
  simp only [Region.lexB, Bool.and_eq_true] at hB2
  refine wpIn_region_any hm (any_round (fun j o ho => noDefer_at hd ho) _ _ _ _ (wpAnyIn_of_quiet (C := fun w' => ∃ m, w' = w.drewN m) (Q := fun a' => ∀ w', (∃ m, w' = w.drewN m) → Q .normal a' w') rfl (fun _ w' hw' k => k w' hw') _ _ _ _ ⟨1, rfl⟩ ?_))
  have := wpAnyQIn_lex (F := Fence.wide) (n := n) (C := fun w' => ∃ m, w' = w.drewN m) (md := .any) hB2.1 ls 0 (Array.replicate ls.length false) a (by simp) (by simpa using hB2.2) h
  simpa using this
end
section
variable {P : Program} {t : TypeId} {ps rs : Array TypeId} {v : Bool}
theorem fnIn_some_nil (d : Nat) (h : P.underlying t = some (.func ps rs v)) (f : Fn) (first cap : Array Value) (w : World) : (Op.equalIn (d + 1) t (.func f first cap) .nilFunc).run P w = .ok false w := by
  simp [Op.equalIn, run_underlying h]
theorem fn_eql_nil (h : P.underlying t = some (.func ps rs v)) (f : Fn) (first cap : Array Value) (w : World) : (binOp .eql t (.func f first cap) .nilFunc).run P w = .ok (.bool false) w := by
  have e : (Op.equal t (.func f first cap) .nilFunc).run P w = .ok false w := fnIn_some_nil 9999 h f first cap w
  simp only [binOp]
  simp [e]
end
theorem pre_snoc {α : Type} {pre ts : List α} {x : α} (h : pre <+: ts) (hk : pre.length < ts.length) : (pre ++ [x] <+: ts) ↔ ts[pre.length] = x := by
  obtain ⟨r, rfl⟩ := h
  cases r with
  | nil => simp at hk
  | cons y r =>
    rw [List.prefix_append_right_inj, List.getElem_append_right (Nat.le_refl _)]
    simp [List.cons_prefix_cons, eq_comm]
end Go.Proofs.Ytekmgaigppenlaa

namespace Go.Proofs.Ytekmgaigppenlaa
open Go.ChangeShapes Go.WideShapes Go.ChangeAt Go.RowKit

theorem own : ownKnob Try.prog.godebug = none := by kernel_rfl
theorem laidOut : laidOutB Try.prog = true := by kernel_rfl
theorem ib {a : Int} (h : (Lit.int .i64 a).wf = true) : -9223372036854775808 ≤ a ∧ a ≤ 9223372036854775807 := by
  have h1 : IntKind.i64.min = -9223372036854775808 := rfl
  have h2 : IntKind.i64.max = 9223372036854775807 := rfl
  simp only [Lit.wf, Bool.and_eq_true, decide_eq_true_eq, h1, h2] at h
  exact h
theorem ib8 {a : Int} (h : (Lit.int .u8 a).wf = true) : 0 ≤ a ∧ a ≤ 255 := by
  have h1 : IntKind.u8.min = 0 := rfl
  have h2 : IntKind.u8.max = 255 := rfl
  simp only [Lit.wf, Bool.and_eq_true, decide_eq_true_eq, h1, h2] at h
  exact h
theorem ib16 {a : Int} (h : (Lit.int .u16 a).wf = true) : 0 ≤ a ∧ a ≤ 65535 := by
  have h1 : IntKind.u16.min = 0 := rfl
  have h2 : IntKind.u16.max = 65535 := rfl
  simp only [Lit.wf, Bool.and_eq_true, decide_eq_true_eq, h1, h2] at h
  exact h
end Go.Proofs.Ytekmgaigppenlaa

namespace Go.Proofs.Ytekmgaigppenlaa
open Go Go.ChangeShapes Go.WideShapes Go.ChangeAt Go.RowKit

section
variable {H : Type} {enc : TypeId × Value → H} {W : World} {sp : Nat → Bool} {held : Bool} {fuel : Nat} {cs : List Value} {y : DataW H × List MemPlace}
theorem step_in (h : DataW.trod enc Try.prog W 0 sp held fuel 44 cs = some y) : ∃ s : Stp, cs = s.cells := by
  obtain ⟨xs, n, _, _, hlen, hxl, hf⟩ := DataW.trod_struct Try.underlying44 h
  have h5 : cs.length = 5 := hlen.trans (by kernel_rfl)
  have hxl' : xs.length = 5 := hxl
  have one : Try.prog.cellsOf 3 = 1 := by kernel_rfl
  have oneB : Try.prog.cellsOf 4 = 1 := by kernel_rfl
  have get : ∀ i, i < 5 → ∃ z, xs[i]? = some z := fun i hi => ⟨xs[i]'(by omega), List.getElem?_eq_getElem _⟩
  obtain ⟨z0, g0⟩ := get 0 (by omega)
  obtain ⟨z1, g1⟩ := get 1 (by omega)
  obtain ⟨z2, g2⟩ := get 2 (by omega)
  obtain ⟨z3, g3⟩ := get 3 (by omega)
  obtain ⟨z4, g4⟩ := get 4 (by omega)
  obtain ⟨a0, e0, _, _⟩ := DataW.trod_int Try.underlying3 ((hf 0 _ rfl).trans g0)
  obtain ⟨a1, e1, _, _⟩ := DataW.trod_int Try.underlying3 ((hf 1 _ rfl).trans g1)
  obtain ⟨a2, e2, _, _⟩ := DataW.trod_int Try.underlying3 ((hf 2 _ rfl).trans g2)
  obtain ⟨a3, e3, _⟩ := DataW.trod_bool Try.underlying4 ((hf 3 _ rfl).trans g3)
  obtain ⟨a4, e4, _⟩ := DataW.trod_bool Try.underlying4 ((hf 4 _ rfl).trans g4)
  refine ⟨⟨a0, a1, a2, a3, a4⟩, ?_⟩
  refine List.ext_getElem? fun i => ?_
  match i with
  | 0 => exact part_one e0 one
  | 1 => exact part_one e1 one
  | 2 => exact part_one e2 one
  | 3 => exact part_one e3 oneB
  | 4 => exact part_one e4 oneB
  | i + 5 => rw [List.getElem?_eq_none (by omega), List.getElem?_eq_none (by show 5 ≤ i + 5; omega)]
set_option maxRecDepth 100000 in
theorem steps_in {A : Option Addr} {n cap : Nat} (h : DataW.trod enc Try.prog W 0 sp held fuel 22 [.slice A n cap] = some y) : ∃ xs : List Stp, xs.length = n ∧ RecIn RS W A cap xs ∧ n ≤ cap ∧ n ≤ maxLen := by
  have c5 : Try.prog.cellsOf 44 = 5 := by kernel_rfl
  rcases DataW.trod_slice Try.underlying22 h with ⟨hv, _⟩ | ⟨a, n', cap', elems, rest, m, _, hv, _, _, hl, hm, hlen, hel, _, _⟩
  · obtain ⟨rfl, rfl, rfl⟩ : A = none ∧ n = 0 ∧ cap = 0 := by simpa using hv
    exact ⟨[], rfl, RecIn.none_ _ _, Nat.le_refl 0, Nat.zero_le _⟩
  · obtain ⟨rfl, rfl, rfl⟩ : A = some a ∧ n = n' ∧ cap = cap' := by simpa using hv
    have each : ∀ i, i < n → ∃ x : Stp, ∃ b off, some a = some (⟨b, off, none⟩ : Addr) ∧ b < W.heap.size ∧ ∀ f, f < 5 → W.cell? ⟨b, off + (i * 5 + f), none⟩ = x.cells[f]? := fun i hi => by
      have hb := hel i hi
      rw [List.getElem?_eq_getElem (by omega), c5, Option.bind_eq_some_iff] at hb
      obtain ⟨cs, hcs, ht⟩ := hb
      obtain ⟨x, rfl⟩ := step_in ht
      obtain ⟨_, _, hc⟩ := World.cells?_some hcs
      obtain ⟨b, off, spot⟩ := a
      have hsp : spot = none := by
        have hb0 := hel 0 (by omega)
        rw [List.getElem?_eq_getElem (by omega), c5, Option.bind_eq_some_iff] at hb0
        obtain ⟨cs0, hcs0, _⟩ := hb0
        obtain ⟨_, hl0, hc0⟩ := World.cells?_some hcs0
        have h1 := hc0 0 (by omega)
        rw [List.getElem?_eq_getElem (by omega)] at h1
        simpa [Addr.add] using World.cell?_spot h1
      subst hsp
      have hc' : ∀ f, f < 5 → W.cell? ⟨b, off + (i * 5 + f), none⟩ = x.cells[f]? := fun f hf => by
        have := hc f hf
        rw [Addr.add_lit, Addr.add_lit, Nat.add_assoc] at this
        exact this
      exact ⟨x, b, off, rfl, cell_in (hc' 0 (by omega)), hc'⟩
    refine ⟨(List.range n).attach.map fun i => (each i.1 (List.mem_range.1 i.2)).choose, by simp, ⟨by simpa using hl, (fun e => by cases e), fun i hi => ?_⟩, hl, Nat.le_trans hl hm⟩
    have hi' : i < n := by simpa using hi
    have := (each i hi').choose_spec
    simp only [List.getElem_map, List.getElem_attach, List.getElem_range]
    exact this
end
end Go.Proofs.Ytekmgaigppenlaa
