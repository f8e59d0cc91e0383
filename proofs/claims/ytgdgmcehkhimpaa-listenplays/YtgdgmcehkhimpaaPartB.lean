/-
  The lists of package listen in memory; what New, Len, find, Get, Where do.
  What Get, Where, At, Find of package listen do.
  What Find of package listen does.
  Lists of numbers that a call builds: put behind, cut off at the end, read. No function is named here.
  A list of numbers, cut: s[:k], s[k:].
  slices.IndexFunc and slices.DeleteFunc with the function that leave of package listen hands on: a number that stands once in a list is taken out of it, in place.
  What leave and Kill of package listen do.
  What fits and keep of package listen do.
  What keep of package listen does.
-/
import Derived.Test.YtgdgmcehkhimpaaPartA
import Derived.Laws.ResultCell
import Derived.Lib.SliceRun
import Derived.Laws.EntriesVeiled
import Derived.Deep.DeepCutAuto

namespace Go.Proofs.Ytgdgmcehkhimpaa
open Go Go.RowKit

def Ls.cells (x : Ls) : List Value := [.int .i64 x.id, .string x.typ, .int .i64 x.cb, .bool x.cap, .bool x.once, .bool x.pas, .int .i64 x.sig, .bool x.rem]
def Ls.agg (x : Ls) : Value := .agg #[.int .i64 x.id, .string x.typ, .int .i64 x.cb, .bool x.cap, .bool x.once, .bool x.pas, .int .i64 x.sig, .bool x.rem]
/-- A listener's eight cells; with its node ahead, nine. -/
def RL : Rec Ls := ⟨Ls.cells, 8, fun _ => rfl, fun a u hu => by
  simp only [Ls.cells, List.mem_cons, List.not_mem_nil, or_false] at hu
  rcases hu with rfl | rfl | rfl | rfl | rfl | rfl | rfl | rfl <;> rfl, by decide⟩
def RE : Rec Ls := ⟨fun x => .int .i64 x.node :: x.cells, 9, fun _ => rfl, fun a u hu => by
  simp only [Ls.cells, List.mem_cons, List.not_mem_nil, or_false] at hu
  rcases hu with rfl | rfl | rfl | rfl | rfl | rfl | rfl | rfl | rfl <;> rfl, by decide⟩
theorem Try.infoL : (Try.prog.info? 34).map (fun i => (i.zero, i.size, i.bytes)) = some (some (.agg #[.int .i64 0, .string ⟨#[]⟩, .int .i64 0, .bool false, .bool false, .bool false, .int .i64 0, .bool false]), 8, 56) := by kernel_rfl
theorem Try.infoE : (Try.prog.info? 63).map (fun i => (i.zero, i.size, i.bytes)) = some (some (.agg #[.int .i64 0, .int .i64 0, .string ⟨#[]⟩, .int .i64 0, .bool false, .bool false, .bool false, .int .i64 0, .bool false]), 9, 64) := by kernel_rfl
def idsL (B : List Ls) (x : Int) : List Int := (atLs B x).map (·.id)
def ptrL (b : Nat) : Value := .pointer (some ⟨b, 0, none⟩)

/-- The lists at block b, whose giver gave k numbers: B are those that were added, f the slice of each node's numbers, I these numbers. -/
structure Lsts (S : Nat → Prop) (w : World) (b g m k n : Nat) (v : Value) (f : Int → Value) (B : List Ls) (I : Int → List Int) : Prop where
  head : Has w b (.cells #[.pointer (some ⟨g, 0, none⟩), v, .map (some m)] 55 (0, 0))
  giver : Giver w g 512 k
  rows : Recs RE 63 0 w v B
  map : Mp w m n f
  ids : ∀ x, Kids S w (f x) (I x)
  apart : ∀ x y i, x ≠ y → (f x).ownBlock = some i → (f y).ownBlock ≠ some i
  hb : S b
  hg : S g
  hm : S m
  hv : ∀ i, v.ownBlock = some i → S i
/-- The lists at block b hold B. -/
def Lst (S : Nat → Prop) (w : World) (b : Nat) (B : List Ls) : Prop :=
  LsOk B ∧ S b ∧ ((B = [] ∧ Has w b (.cells #[.pointer none, .slice none 0 0, .map none] 55 (0, 0))) ∨ ∃ g m v f, Lsts S w b g m B.length B.length v f B (idsL B))

section
variable {S S' F : Nat → Prop} {w w' : World} {b g m k n : Nat} {v : Value} {f : Int → Value} {B : List Ls} {I : Int → List Int}
theorem Lsts.kept (h : Lsts S w b g m k n v f B I) (K : Keeps F w w') (hF : ∀ i, S i → i < w.heap.size → ¬ F i) : Lsts S w' b g m k n v f B I :=
  ⟨h.head.kept K (hF _ h.hb h.head.inside), Has.kept h.giver K (hF _ h.hg (Has.inside h.giver)), h.rows.kept K fun i hi => hF i (h.hv i hi) (h.rows.in_ i hi).2, h.map.kept K (hF _ h.hm h.map.inside), fun x => (h.ids x).keptG K hF, h.apart, h.hb, h.hg, h.hm, h.hv⟩
theorem Lsts.wide (h : Lsts S w b g m k n v f B I) (hS : ∀ i, S i → i < w.heap.size → S' i) : Lsts S' w b g m k n v f B I :=
  ⟨h.head, h.giver, h.rows, h.map, fun x => (h.ids x).wide hS, h.apart, hS _ h.hb h.head.inside, hS _ h.hg (Has.inside h.giver), hS _ h.hm h.map.inside, fun i hi => hS i (h.hv i hi) (h.rows.in_ i hi).2⟩
theorem Lst.kept (h : Lst S w b B) (K : Keeps F w w') (hF : ∀ i, S i → i < w.heap.size → ¬ F i) : Lst S w' b B := by
  obtain ⟨h1, h2, h3⟩ := h
  refine ⟨h1, h2, h3.imp (fun ⟨e, hh⟩ => ⟨e, hh.kept K (hF _ h2 hh.inside)⟩) fun ⟨g, m, v, f, hh⟩ => ⟨g, m, v, f, hh.kept K hF⟩⟩
theorem Lst.wide (h : Lst S w b B) (hS : ∀ i, S i → i < w.heap.size → S' i) : Lst S' w b B := by
  obtain ⟨h1, h2, h3⟩ := h
  rcases h3 with ⟨e, hh⟩ | ⟨g, m, v, f, hh⟩
  · exact ⟨h1, hS _ h2 hh.inside, .inl ⟨e, hh⟩⟩
  · exact ⟨h1, hS _ h2 hh.head.inside, .inr ⟨g, m, v, f, hh.wide hS⟩⟩
theorem Lst.below (h : Lst S w b B) (K : Below w.heap.size w w') : Lst S w' b B :=
  h.kept (Keeps.of_below (F := fun i => w.heap.size ≤ i) K fun _ _ h => h) fun _ _ hi => Nat.not_le.2 hi
theorem Lsts.below (h : Lsts S w b g m k n v f B I) (K : Below w.heap.size w w') : Lsts S w' b g m k n v f B I :=
  h.kept (Keeps.of_below (F := fun i => w.heap.size ≤ i) K fun _ _ h => h) fun _ _ hi => Nat.not_le.2 hi
theorem Lst.ok (h : Lst S w b B) : LsOk B := h.1
theorem Lst.inside (h : Lst S w b B) : b < w.heap.size := by
  obtain ⟨_, _, h3⟩ := h
  rcases h3 with ⟨_, hh⟩ | ⟨g, m, v, f, hh⟩
  · exact hh.inside
  · exact hh.head.inside
theorem below_drawn (w : World) (n : Nat) : Below w.heap.size w (w.drewN n) := below_draws (Below.refl _ w) n
theorem Lst.drewN (h : Lst S w b B) (n : Nat) : Lst S (w.drewN n) b B := h.below (below_drawn w n)
/-- The rows, cell by cell. -/
theorem Lsts.row (h : Lsts S w b g m k n v f B I) {j : Nat} (hj : j < B.length) : ∃ q c, v = .slice (some ⟨q, 0, none⟩) B.length c ∧ B.length ≤ c ∧ S q ∧ q < w.heap.size ∧ (∀ i, w.frozen? ⟨q, i, none⟩ = false) ∧ ∀ f, f < 9 → w.cell? ⟨q, j * 9 + f, none⟩ = (RE.cells B[j])[f]? := by
  have hr := h.rows
  rcases hr.2 with ⟨_, h0⟩ | ⟨q, cap, cur, rfl, _, hh, h1, h2, h3, h4⟩
  · omega
  · refine ⟨q, cap, rfl, h1, h.hv q rfl, Has.inside hh, fun i => Has.free hh i, fun f hf => ?_⟩
    have hl : j * RE.n + f < B.length * RE.n := by
      have : (j + 1) * RE.n ≤ B.length * RE.n := Nat.mul_le_mul_right _ hj
      rw [Nat.add_mul, Nat.one_mul] at this
      have : RE.n = 9 := rfl
      omega
    have := hr.cellAt _ hl
    rw [flatR_get (List.getElem?_eq_getElem hj) (show f < RE.n from hf)] at this
    exact this
/-- .. written out. -/
theorem nine_of {x : Ls} {q j : Nat} (h : ∀ f, f < 9 → w.cell? ⟨q, j * 9 + f, none⟩ = (RE.cells x)[f]?) : w.cell? ⟨q, j * 9, none⟩ = some (.int .i64 x.node) ∧ w.cell? ⟨q, j * 9 + 1, none⟩ = some (.int .i64 x.id) ∧ w.cell? ⟨q, j * 9 + 2, none⟩ = some (.string x.typ) ∧ w.cell? ⟨q, j * 9 + 3, none⟩ = some (.int .i64 x.cb) ∧ w.cell? ⟨q, j * 9 + 4, none⟩ = some (.bool x.cap) ∧ w.cell? ⟨q, j * 9 + 5, none⟩ = some (.bool x.once) ∧ w.cell? ⟨q, j * 9 + 6, none⟩ = some (.bool x.pas) ∧ w.cell? ⟨q, j * 9 + 7, none⟩ = some (.int .i64 x.sig) ∧ w.cell? ⟨q, j * 9 + 8, none⟩ = some (.bool x.rem) :=
  ⟨h 0 (by decide), h 1 (by decide), h 2 (by decide), h 3 (by decide), h 4 (by decide), h 5 (by decide), h 6 (by decide), h 7 (by decide), h 8 (by decide)⟩
theorem lsAt_at {j : Nat} (hj : j < B.length) : lsAt B ((j : Int) + 1) = B[j] := by
  unfold lsAt
  rw [show ((j : Int) + 1 - 1).toNat = j by omega, List.getD_eq_getElem?_getD, List.getElem?_eq_getElem hj]
  rfl
theorem lThere_at {i : Int} (h : lThere B i = true) : ∃ j : Nat, i = (j : Int) + 1 ∧ j < B.length := by
  unfold lThere at h
  rw [Bool.and_eq_true, decide_eq_true_iff, decide_eq_true_iff] at h
  exact ⟨(i - 1).toNat, by omega, by omega⟩
theorem lThere_is (B : List Ls) (i : Int) : lThere B i = isB i (B.length : Int) := rfl
end

section
variable {S : Nat → Prop} {w : World} {b : Nat} {B : List Ls}
theorem lsNew (S : Nat → Prop) (w : World) (hS : Fut S w.heap.size) : Calls Try.prog 7 #[] w fun e w' => e = .returned (ptrL w.heap.size) ∧ Lst S w' w.heap.size [] ∧ Below w.heap.size w w' := by
  have hh : Has (w.alloc (.cells #[.pointer none, .slice none 0 0, .map none] 55)) w.heap.size (.cells #[.pointer none, .slice none 0 0, .map none] 55 (0, 0)) := Has.fresh _ _
  have hb : Below w.heap.size w (w.alloc (.cells #[.pointer none, .slice none 0 0, .map none] 55)) := (Below.refl _ w).alloc (Nat.le_refl _) _
  have HH := Lib.hid hh
  clear hh
  go_enter Try.func7, Try.ntmps7
  go_wp2
  go_ret
  exact ⟨rfl, ⟨lsOk_nil, hS _ (Nat.le_refl _), .inl ⟨rfl, HH.out⟩⟩, hb⟩
theorem lsLen (h : Lst S w b B) : Calls Try.prog 17 #[ptrL b] w fun e w' => e = .returned (.int .i64 B.length) ∧ ∃ n, w' = w.drewN n := by
  unfold ptrL
  obtain ⟨h1, h2, ⟨rfl, hh⟩ | ⟨g, m, v, f, hh⟩⟩ := h
  · have c0 := hh.cell 0
    clear hh h1 h2
    go_enter Try.func17, Try.ntmps17
    go_wp2_with fail
    refine (last_nil w).mono ?_
    rintro e w1 ⟨rfl, n, rfl⟩
    go_wp2
    go_ret
    exact ⟨rfl, _, rfl⟩
  · have c0 := hh.head.cell 0
    have hL := last_any g 512 B.length w (by omega) (by have := h1.few; omega) (by omega) hh.giver
    have HL := Lib.hid hL
    clear hh hL h1 h2
    go_enter Try.func17, Try.ntmps17
    go_wp2_with fail
    refine HL.out.mono ?_
    rintro e w1 ⟨rfl, n, rfl⟩
    go_wp2
    go_ret
    exact ⟨rfl, _, rfl⟩
theorem lsLen_nil (w : World) : Calls Try.prog 17 #[.pointer none] w fun e w' => e = .returned (.int .i64 0) ∧ w = w' := by
  go_enter Try.func17, Try.ntmps17
  go_wp2
  go_ret
  exact ⟨rfl, rfl⟩

theorem lsFind_nil (i : Int) (w : World) : Calls Try.prog 23 #[.pointer none, .int .i64 i] w fun e w' => e = .returned (.pointer none) ∧ w = w' := by
  go_enter Try.func23, Try.ntmps23
  go_wp2
  go_ret
  exact ⟨rfl, rfl⟩
theorem lsFind_not (i : Int) (h : Lst S w b B) (ht : lThere B i = false) : Calls Try.prog 23 #[ptrL b, .int .i64 i] w fun e w' => e = .returned (.pointer none) ∧ ∃ n, w' = w.drewN n := by
  unfold ptrL
  obtain ⟨h1, h2, ⟨rfl, hh⟩ | ⟨g, m, v, f, hh⟩⟩ := h
  · have c0 := hh.cell 0
    clear hh h1 h2 ht
    go_enter Try.func23, Try.ntmps23
    go_wp2_with fail
    refine (is_nil i w).mono ?_
    rintro e w1 ⟨rfl, n, rfl⟩
    go_wp2
    go_ret
    exact ⟨rfl, _, rfl⟩
  · have c0 := hh.head.cell 0
    have hL := is_any g 512 B.length i w (by omega) (by have := h1.few; omega) (by omega) hh.giver
    rw [← lThere_is, ht] at hL
    have HL := Lib.hid hL
    clear hh hL h1 h2 ht
    go_enter Try.func23, Try.ntmps23
    go_wp2_with fail
    refine HL.out.mono ?_
    rintro e w1 ⟨rfl, n, rfl⟩
    go_wp2
    go_ret
    exact ⟨rfl, _, rfl⟩
theorem lsFind {g m q c : Nat} {f : Int → Value} {j : Nat} (h : Lsts S w b g m B.length B.length (.slice (some ⟨q, 0, none⟩) B.length c) f B (idsL B)) (ok : LsOk B) (hj : j < B.length) :
    Calls Try.prog 23 #[ptrL b, .int .i64 ((j : Int) + 1)] w fun e w' => e = .returned (.pointer (some ⟨q, j * 9, none⟩)) ∧ ∃ n, w' = w.drewN n := by
  unfold ptrL
  have c0 := h.head.cell 0
  have c1 := h.head.cell 1
  have ht : isB ((j : Int) + 1) (B.length : Int) = true := by
    unfold isB
    rw [decide_eq_true (by omega), decide_eq_true (by omega)]
    rfl
  have hL := is_any g 512 B.length ((j : Int) + 1) w (by omega) (by have := ok.few; omega) (by omega) h.giver
  rw [ht] at hL
  have HL := Lib.hid hL
  have hf := ok.few
  obtain ⟨n, hn⟩ : ∃ n, n = B.length := ⟨_, rfl⟩
  rw [← hn] at c1 hj hf
  have hw : IntKind.i64.wrap ((j : Int) + 1 - 1) = (j : Int) := by rw [wrap_small (by omega) (by omega)]; omega
  clear h hL ok ht hn
  go_enter Try.func23, Try.ntmps23
  go_wp2_with fail
  refine HL.out.mono ?_
  rintro e w1 ⟨rfl, n, rfl⟩
  go_wp2
  go_ret
  exact ⟨rfl, _, rfl⟩
end
end Go.Proofs.Ytgdgmcehkhimpaa

namespace Go.Proofs.Ytgdgmcehkhimpaa
open Go Go.RowKit

/-- Is it alike? -/
def alB (t : ByteArray) (cb : Int) (cap : Bool) (x : Ls) : Bool := (x.typ.toList == t.toList) && (x.cb == cb) && (x.cap == cap)
section
variable {B : List Ls} {v cb : Int} {t : ByteArray} {cap : Bool} {x : Ls} {j k : Nat}
theorem atLs_lsIs (h : x ∈ atLs B v) : lsIs v t cb cap x = alB t cb cap x := by
  obtain ⟨-, h1, h2⟩ := atLs_mem.1 h
  unfold lsIs alB
  rw [h1, h2]
  simp
theorem mem_place (ok : LsOk B) (h : x ∈ B) : ∃ j : Nat, B[j]? = some x ∧ x.id = (j : Int) + 1 := by
  obtain ⟨j, hj⟩ := List.getElem?_of_mem h
  exact ⟨j, hj, ok.num j x hj⟩
theorem find_there (ok : LsOk B) (h : x ∈ atLs B v) (hx : alB t cb cap x = true) : findLs B v t cb cap = x.id := by
  obtain ⟨h0, h1, h2⟩ := atLs_mem.1 h
  obtain ⟨j, hj, hid⟩ := mem_place ok h0
  have hx' : lsIs v t cb cap x = true := by rw [atLs_lsIs h]; exact hx
  rw [hid]
  refine find_hit hj hx' fun i y hi hy => ?_
  cases hc : lsIs v t cb cap y with
  | false => rfl
  | true =>
    obtain ⟨a1, a2, a3, a4, a5⟩ := lsIs_iff.1 hx'
    obtain ⟨b1, b2, b3, b4, b5⟩ := lsIs_iff.1 hc
    have := ok.one j i x y hj hy h2 (lsIs_iff.2 ⟨b1.trans a1.symm, b2, b3.trans a3.symm, b4.trans a4.symm, b5.trans a5.symm⟩)
    omega
theorem find_not (h : ∀ x ∈ atLs B v, alB t cb cap x = false) : findLs B v t cb cap = 0 := find_none fun x hx => by
  cases hc : lsIs v t cb cap x with
  | false => rfl
  | true =>
    obtain ⟨b1, b2, -⟩ := lsIs_iff.1 hc
    have hm := atLs_mem.2 ⟨hx, b1, b2⟩
    rw [atLs_lsIs hm, h x hm] at hc
    cases hc
theorem atLs_len (B : List Ls) (v : Int) : (atLs B v).length ≤ B.length := List.length_filter_le _ _
end

section
variable {S : Nat → Prop} {w : World} {b : Nat} {B : List Ls}
theorem lsGet_nil (i : Int) (w : World) : Calls Try.prog 18 #[.pointer none, .int .i64 i] w fun e w' => e = .returned (.tuple #[Ls.zero.agg, .bool false]) ∧ Below w.heap.size w w' := by
  have hb0 : Below w.heap.size w (w.alloc (.cells #[.int .i64 0, .string ⟨#[]⟩, .int .i64 0, .bool false, .bool false, .bool false, .int .i64 0, .bool false] 34)) := (Below.refl _ w).alloc (Nat.le_refl _) _
  have HB0 := Lib.hid hb0
  have HF := fun w => Lib.hid (lsFind_nil i w)
  clear hb0
  go_enter Try.func18, Try.ntmps18
  go_wp2_with fail
  refine (lsFind_nil i _).mono ?_
  rintro e w1 ⟨rfl, rfl⟩
  go_wp2
  (try simp only [Exit.inBlock, Exit.then])
  refine bodyPost_ret (v := .tuple #[Ls.zero.agg, .bool false]) ?_ rfl ⟨rfl, HB0.out⟩
  rw [results_cell_tmp rfl]
  unfold Ls.agg Ls.zero
  go_simp
set_option maxHeartbeats 2000000 in
theorem lsGet (i : Int) (h : Lst S w b B) : Calls Try.prog 18 #[ptrL b, .int .i64 i] w fun e w' => e = .returned (.tuple #[(if lThere B i = true then lsAt B i else Ls.zero).agg, .bool (lThere B i)]) ∧ Below w.heap.size w w' := by
  have hb0 : Below w.heap.size w (w.alloc (.cells #[.int .i64 0, .string ⟨#[]⟩, .int .i64 0, .bool false, .bool false, .bool false, .int .i64 0, .bool false] 34)) := (Below.refl _ w).alloc (Nat.le_refl _) _
  have HB0 := Lib.hid hb0
  cases ht : lThere B i with
  | false =>
    rw [if_neg (by decide)]
    have HF := Lib.hid (lsFind_not i (h.below hb0) ht)
    clear h ht hb0
    go_enter Try.func18, Try.ntmps18
    go_wp2_with fail
    refine HF.out.mono ?_
    rintro e w1 ⟨rfl, n, rfl⟩
    have hres : Has ((w.alloc (.cells #[.int .i64 0, .string ⟨#[]⟩, .int .i64 0, .bool false, .bool false, .bool false, .int .i64 0, .bool false] 34)).drewN n) w.heap.size (.cells #[.int .i64 0, .string ⟨#[]⟩, .int .i64 0, .bool false, .bool false, .bool false, .int .i64 0, .bool false] 34 (0, 0)) := Has.fresh w _
    have HB1 := Lib.hid (below_draws HB0.out n)
    obtain ⟨W, hW⟩ : ∃ W, W = (w.alloc (.cells #[.int .i64 0, .string ⟨#[]⟩, .int .i64 0, .bool false, .bool false, .bool false, .int .i64 0, .bool false] 34)).drewN n := ⟨_, rfl⟩
    rw [← hW] at hres HB1 ⊢
    clear hW
    have z0 := hres.cell 0
    have z1 := hres.cell 1
    have z2 := hres.cell 2
    have z3 := hres.cell 3
    have z4 := hres.cell 4
    have z5 := hres.cell 5
    have z6 := hres.cell 6
    have z7 := hres.cell 7
    have x0 := hres.free 0
    have x1 := hres.free 1
    have x2 := hres.free 2
    have x3 := hres.free 3
    have x4 := hres.free 4
    have x5 := hres.free 5
    have x6 := hres.free 6
    have x7 := hres.free 7
    have HB2 : Hid (∀ u0 u1 u2 u3 u4 u5 u6 u7, Below w.heap.size w ((((((((W.setCell ⟨w.heap.size, 0, none⟩ u0).setCell ⟨w.heap.size, 1, none⟩ u1).setCell ⟨w.heap.size, 2, none⟩ u2).setCell ⟨w.heap.size, 3, none⟩ u3).setCell ⟨w.heap.size, 4, none⟩ u4).setCell ⟨w.heap.size, 5, none⟩ u5).setCell ⟨w.heap.size, 6, none⟩ u6).setCell ⟨w.heap.size, 7, none⟩ u7)) := Lib.hid fun u0 u1 u2 u3 u4 u5 u6 u7 => (((((((HB1.out.setCell (p := ⟨w.heap.size, 0, none⟩) (Nat.le_refl _) u0).setCell (p := ⟨w.heap.size, 1, none⟩) (Nat.le_refl _) u1).setCell (p := ⟨w.heap.size, 2, none⟩) (Nat.le_refl _) u2).setCell (p := ⟨w.heap.size, 3, none⟩) (Nat.le_refl _) u3).setCell (p := ⟨w.heap.size, 4, none⟩) (Nat.le_refl _) u4).setCell (p := ⟨w.heap.size, 5, none⟩) (Nat.le_refl _) u5).setCell (p := ⟨w.heap.size, 6, none⟩) (Nat.le_refl _) u6).setCell (p := ⟨w.heap.size, 7, none⟩) (Nat.le_refl _) u7
    clear hres
    go_wp2
    (try simp only [Exit.inBlock, Exit.then])
    refine bodyPost_ret (v := .tuple #[Ls.zero.agg, .bool false]) ?_ rfl ⟨rfl, HB2.out _ _ _ _ _ _ _ _⟩
    rw [results_cell_tmp rfl]
    unfold Ls.agg Ls.zero
    go_simp
  | true =>
    rw [if_pos rfl]
    obtain ⟨j, rfl, hj⟩ := lThere_at ht
    obtain ⟨ok, -, ⟨rfl, -⟩ | ⟨g, m, v, f, hh⟩⟩ := h
    · exact absurd hj (Nat.not_lt_zero _)
    obtain ⟨q, c, rfl, -, -, -, -, hc⟩ := (hh.below hb0).row hj
    have HF := Lib.hid (lsFind (hh.below hb0) ok hj)
    rw [lsAt_at hj]
    obtain ⟨x, hx⟩ : ∃ x, x = B[j] := ⟨_, rfl⟩
    rw [← hx] at hc ⊢
    obtain ⟨xi, xt, xc, xa, xo, xp, xs, xr, xn⟩ := x
    obtain ⟨-, hc1, hc2, hc3, hc4, hc5, hc6, hc7, hc8⟩ := nine_of hc
    simp only at hc1 hc2 hc3 hc4 hc5 hc6 hc7 hc8
    have hqn : q ≠ w.heap.size := fun e => by
      obtain ⟨q', c', e', -, -, hq, -⟩ := hh.row hj
      cases e'
      omega
    have HC : Hid (_ ∧ _ ∧ _ ∧ _ ∧ _ ∧ _ ∧ _ ∧ _) := Lib.hid ⟨hc1, hc2, hc3, hc4, hc5, hc6, hc7, hc8⟩
    clear hx hc hh ok ht hb0 hj hc1 hc2 hc3 hc4 hc5 hc6 hc7 hc8
    go_enter Try.func18, Try.ntmps18
    go_wp2_with fail
    refine HF.out.mono ?_
    rintro e w1 ⟨rfl, n, rfl⟩
    have hres : Has ((w.alloc (.cells #[.int .i64 0, .string ⟨#[]⟩, .int .i64 0, .bool false, .bool false, .bool false, .int .i64 0, .bool false] 34)).drewN n) w.heap.size (.cells #[.int .i64 0, .string ⟨#[]⟩, .int .i64 0, .bool false, .bool false, .bool false, .int .i64 0, .bool false] 34 (0, 0)) := Has.fresh w _
    have HB1 := Lib.hid (below_draws HB0.out n)
    obtain ⟨W, hW⟩ : ∃ W, W = (w.alloc (.cells #[.int .i64 0, .string ⟨#[]⟩, .int .i64 0, .bool false, .bool false, .bool false, .int .i64 0, .bool false] 34)).drewN n := ⟨_, rfl⟩
    have hcW : ∀ p, W.cell? p = (w.alloc (.cells #[.int .i64 0, .string ⟨#[]⟩, .int .i64 0, .bool false, .bool false, .bool false, .int .i64 0, .bool false] 34)).cell? p := fun p => by rw [hW]; rfl
    obtain ⟨c1, c2, c3, c4, c5, c6, c7, c8⟩ := HC.out
    rw [← hcW] at c1 c2 c3 c4 c5 c6 c7 c8
    rw [← hW] at hres HB1 ⊢
    clear hW hcW
    have z0 := hres.cell 0
    have z1 := hres.cell 1
    have z2 := hres.cell 2
    have z3 := hres.cell 3
    have z4 := hres.cell 4
    have z5 := hres.cell 5
    have z6 := hres.cell 6
    have z7 := hres.cell 7
    have x0 := hres.free 0
    have x1 := hres.free 1
    have x2 := hres.free 2
    have x3 := hres.free 3
    have x4 := hres.free 4
    have x5 := hres.free 5
    have x6 := hres.free 6
    have x7 := hres.free 7
    have HB2 : Hid (∀ u0 u1 u2 u3 u4 u5 u6 u7, Below w.heap.size w ((((((((W.setCell ⟨w.heap.size, 0, none⟩ u0).setCell ⟨w.heap.size, 1, none⟩ u1).setCell ⟨w.heap.size, 2, none⟩ u2).setCell ⟨w.heap.size, 3, none⟩ u3).setCell ⟨w.heap.size, 4, none⟩ u4).setCell ⟨w.heap.size, 5, none⟩ u5).setCell ⟨w.heap.size, 6, none⟩ u6).setCell ⟨w.heap.size, 7, none⟩ u7)) := Lib.hid fun u0 u1 u2 u3 u4 u5 u6 u7 => (((((((HB1.out.setCell (p := ⟨w.heap.size, 0, none⟩) (Nat.le_refl _) u0).setCell (p := ⟨w.heap.size, 1, none⟩) (Nat.le_refl _) u1).setCell (p := ⟨w.heap.size, 2, none⟩) (Nat.le_refl _) u2).setCell (p := ⟨w.heap.size, 3, none⟩) (Nat.le_refl _) u3).setCell (p := ⟨w.heap.size, 4, none⟩) (Nat.le_refl _) u4).setCell (p := ⟨w.heap.size, 5, none⟩) (Nat.le_refl _) u5).setCell (p := ⟨w.heap.size, 6, none⟩) (Nat.le_refl _) u6).setCell (p := ⟨w.heap.size, 7, none⟩) (Nat.le_refl _) u7
    clear hres HC
    go_wp2
    (try simp only [Exit.inBlock, Exit.then])
    refine bodyPost_ret (v := .tuple #[Ls.agg ⟨xi, xt, xc, xa, xo, xp, xs, xr, xn⟩, .bool true]) ?_ rfl ⟨rfl, HB2.out _ _ _ _ _ _ _ _⟩
    rw [results_cell_tmp rfl]
    unfold Ls.agg
    go_simp
theorem lsWhere_nil (i : Int) (w : World) : Calls Try.prog 19 #[.pointer none, .int .i64 i] w fun e w' => e = .returned (.int .i64 0) ∧ w = w' := by
  go_enter Try.func19, Try.ntmps19
  go_wp2_with fail
  refine (lsFind_nil i _).mono ?_
  rintro e w1 ⟨rfl, rfl⟩
  go_wp2
  go_ret
  exact ⟨rfl, rfl⟩
theorem lsWhere (i : Int) (h : Lst S w b B) : Calls Try.prog 19 #[ptrL b, .int .i64 i] w fun e w' => e = .returned (.int .i64 (if lThere B i = true then (lsAt B i).node else 0)) ∧ ∃ n, w' = w.drewN n := by
  cases ht : lThere B i with
  | false =>
    rw [if_neg (by decide)]
    have HF := Lib.hid (lsFind_not i h ht)
    clear h ht
    go_enter Try.func19, Try.ntmps19
    go_wp2_with fail
    refine HF.out.mono ?_
    rintro e w1 ⟨rfl, n, rfl⟩
    go_wp2
    go_ret
    exact ⟨rfl, _, rfl⟩
  | true =>
    rw [if_pos rfl]
    obtain ⟨j, rfl, hj⟩ := lThere_at ht
    obtain ⟨ok, -, ⟨rfl, -⟩ | ⟨g, m, v, f, hh⟩⟩ := h
    · exact absurd hj (Nat.not_lt_zero _)
    obtain ⟨q, c, rfl, -, -, -, -, hc⟩ := hh.row hj
    have HF := Lib.hid (lsFind hh ok hj)
    rw [lsAt_at hj]
    obtain ⟨x, hx⟩ : ∃ x, x = B[j] := ⟨_, rfl⟩
    rw [← hx] at hc ⊢
    obtain ⟨xi, xt, xc, xa, xo, xp, xs, xr, xn⟩ := x
    obtain ⟨hc0, -⟩ := nine_of hc
    simp only at hc0
    clear hx hc hh ok ht hj
    go_enter Try.func19, Try.ntmps19
    go_wp2_with fail
    refine HF.out.mono ?_
    rintro e w1 ⟨rfl, n, rfl⟩
    have c0 : (w.drewN n).cell? ⟨q, j * 9, none⟩ = some (.int .i64 xn) := hc0
    go_wp2
    go_ret
    exact ⟨rfl, _, rfl⟩
theorem lsAtNil (x : Int) (w : World) : Calls Try.prog 14 #[.pointer none, .int .i64 x] w fun e w' => e = .returned (.slice none 0 0) ∧ w = w' := by
  go_enter Try.func14, Try.ntmps14
  go_wp2
  go_ret
  exact ⟨rfl, rfl⟩
set_option maxHeartbeats 4000000 in
theorem lsAt_any (x : Int) (h : Lst S w b B) (h0 : -9223372036854775808 ≤ x) (h1 : x ≤ 9223372036854775807) :
    Calls Try.prog 14 #[ptrL b, .int .i64 x] w fun e w' => (∃ v, e = .returned v ∧ Recs RL 34 w.heap.size w' v (atLs B x)) ∧ Below w.heap.size w w' := by
  unfold ptrL
  obtain ⟨ok, -, ⟨rfl, hh⟩ | ⟨g, m, v, f, hh⟩⟩ := h
  · have hz := fun w => look_none (x := x) w h0 h1
    have c2 := hh.cell 2
    have c1 := hh.cell 1
    clear hh ok h0 h1
    go_enter Try.func14, Try.ntmps14
    go_wp2_with fail
    go_loopw [5, 17] (fun a i wr => a = .slice none 0 0 ∧ i = .int .i64 0 ∧ w = wr) (fun _ _ _ => 0)
    case atStart => exact ⟨rfl, rfl, rfl⟩
    case round =>
      obtain ⟨rfl, rfl, rfl⟩ := hrel
      go_wp2
      go_ret
      exact ⟨⟨_, rfl, Recs.nil _ _ _ _⟩, Below.refl _ _⟩
  · have hl := fun (w' : World) (K : Below w.heap.size w w') => (hh.below K).map.look (x := x) h0 h1
    have hlw := hl w (Below.refl _ _)
    obtain ⟨A, c, hfx, hcap, hN⟩ := (hh.ids x).form
    have c2 := hh.head.cell 2
    have c1 := hh.head.cell 1
    have hlen : (idsL B x).length = (atLs B x).length := by unfold idsL; rw [List.length_map]
    rw [hfx] at hlw
    obtain ⟨N, hNN⟩ : ∃ N, N = (idsL B x).length := ⟨_, rfl⟩
    rw [← hNN] at hlw hcap
    have hNle : N ≤ 512 := by rw [hNN, hlen]; exact Nat.le_trans (atLs_len B x) ok.few
    have HN := Lib.hid hN
    have HNN := Lib.hid (hNN.trans hlen)
    have HH := Lib.hid hh
    have HO := Lib.hid ok
    obtain ⟨i0, hi, hz0, hz1, hz2⟩ := info_parts Try.infoL
    have HI := Lib.hid hi
    have HZ0 := Lib.hid hz0
    have HZ1 := Lib.hid hz1
    have HZ2 := Lib.hid hz2
    clear hi hz0 hz1 hz2 hN hNN hlen hfx hl hh ok h0 h1
    go_enter Try.func14, Try.ntmps14
    go_wp2_with fail
    go_loopw [5, 17] (fun a i wr => ∃ (k : Nat) (va : Value), a = va ∧ i = .int .i64 k ∧ k ≤ N ∧ Hid (Recs RL 34 w.heap.size wr va ((atLs B x).take k)) ∧ Below w.heap.size w wr) (fun _ i _ => N - (intOf i).toNat)
    case atStart => exact ⟨0, _, rfl, rfl, Nat.zero_le _, Lib.hid (by rw [List.take_zero]; exact Recs.nil _ _ _ _), Below.refl _ _⟩
    case round =>
      obtain ⟨k, va, rfl, rfl, hk, HR, hb⟩ := hrel
      by_cases hlt : (k : Int) < N
      · have hka : k < (atLs B x).length := by rw [← HNN.out]; omega
        have hki : k < (idsL B x).length := by unfold idsL; rw [List.length_map]; exact hka
        obtain ⟨bi, off, rfl, hbi, hcell0⟩ := HN.out k hki
        have hcell := (hb.cell (p := ⟨bi, off + k, none⟩) hbi).trans hcell0
        have hid : (idsL B x)[k] = (atLs B x)[k].id := by simp only [idsL, List.getElem_map]
        rw [hid] at hcell
        obtain ⟨y, hy⟩ : ∃ y, y = (atLs B x)[k] := ⟨_, rfl⟩
        obtain ⟨j, hj, hyid⟩ := mem_place HO.out (atLs_mem.1 (show (atLs B x)[k] ∈ atLs B x from List.getElem_mem hka)).1
        have hjl : j < B.length := (List.getElem?_eq_some_iff.1 hj).1
        have hjB : B[j] = y := by rw [hy]; exact (List.getElem?_eq_some_iff.1 hj).2
        rw [hyid] at hcell
        have hstep : (atLs B x).take k ++ [y] = (atLs B x).take (k + 1) := by rw [List.take_add_one, List.getElem?_eq_getElem hka, hy]; rfl
        have hTl : ((atLs B x).take k).length = k := by rw [List.length_take]; omega
        have hhr := HH.out.below hb
        obtain ⟨q, qc, rfl, hqc, -, -, -, hc⟩ := hhr.row hjl
        rw [hjB] at hc
        have e1 := hhr.head.cell 1
        have hfew := HO.out.few
        obtain ⟨n, hn⟩ : ∃ n, n = B.length := ⟨_, rfl⟩
        rw [← hn] at e1 hqc hjl hfew
        have hw : IntKind.i64.wrap ((j : Int) + 1 - 1) = (j : Int) := by rw [wrap_small (by omega) (by omega)]; omega
        have hw2 : IntKind.i64.wrap ((k : Int) + 1) = (k : Int) + 1 := wrap_small (by omega) (by omega)
        obtain ⟨xi, xt, xc, xa, xo, xp, xs, xr, xn⟩ := y
        obtain ⟨-, k1, k2, k3, k4, k5, k6, k7, k8⟩ := nine_of hc
        simp only at k1 k2 k3 k4 k5 k6 k7 k8
        obtain ⟨T, hT⟩ : ∃ T, T = (atLs B x).take k := ⟨_, rfl⟩
        rw [← hT] at hstep hTl HR
        have HS := Lib.hid hstep
        have HT := Lib.hid hTl
        have HB := Lib.hid hb
        have HRw := Lib.hid (HR.out.below ((Below.refl _ wr).alloc (Nat.le_refl _) (.cells #[.int .i64 xi, .string xt, .int .i64 xc, .bool xa, .bool xo, .bool xp, .int .i64 xs, .bool xr] 34)))
        have Hnew : Hid (Has (wr.alloc (.cells #[.int .i64 xi, .string xt, .int .i64 xc, .bool xa, .bool xo, .bool xp, .int .i64 xs, .bool xr] 34)) wr.heap.size (.cells #[.int .i64 xi, .string xt, .int .i64 xc, .bool xa, .bool xo, .bool xp, .int .i64 xs, .bool xr] 34 (0, 0))) := Lib.hid (Has.fresh _ _)
        have HB1 := Lib.hid (hb.alloc hb.size (.cells #[.int .i64 xi, .string xt, .int .i64 xc, .bool xa, .bool xo, .bool xp, .int .i64 xs, .bool xr] 34))
        clear hy hid hyid hj hjB hstep hTl hhr hc hn HR hb hcell0 hka hki hT
        have Hx : Hid (T.length ≤ 1000000 ∧ w.heap.size ≤ (wr.alloc (.cells #[.int .i64 xi, .string xt, .int .i64 xc, .bool xa, .bool xo, .bool xp, .int .i64 xs, .bool xr] 34)).heap.size) := Lib.hid ⟨by rw [HT.out]; omega, HB1.out.size⟩
        go_wp2_with (at_builtin; refine wpList_pushR (R := RL) (x := (⟨xi, xt, xc, xa, xo, xp, xs, xr, xn⟩ : Ls)) rfl (.tmp 21) (.tmp 31) 27 rfl i0 _ 56 Try.underlying27 HI.out HZ0.out HZ1.out HZ2.out rfl rfl HRw.out rfl Hnew.out Hx.out.1 (by omega) Hx.out.2 ?_; intro g3 cap3 w3 hr3 hk3 hat3 hlt3)
        rw [HS.out] at hr3
        have hb3 : Below w.heap.size w w3 := below_then HB1.out hk3 HB1.out.size fun i hi hF => Nat.not_le.2 hi (HRw.out.in_ i hF).1
        go_roundw
        case rel => exact ⟨k + 1, _, rfl, by go_num, by omega, Lib.hid hr3, hb3⟩
        case measure => simp [intOf]; omega
      · have hkN : k = N := by omega
        have hR := HR.out
        rw [List.take_of_length_le (by rw [← HNN.out, hkN]; exact Nat.le_refl _)] at hR
        have HR2 := Lib.hid hR
        clear hR HR hkN
        go_wp2
        go_ret
        exact ⟨⟨_, rfl, HR2.out⟩, hb⟩
end
end Go.Proofs.Ytgdgmcehkhimpaa

namespace Go.Proofs.Ytgdgmcehkhimpaa
open Go Go.RowKit

section
variable {α : Type} {R : Rec α} {e : TypeId} {base : Nat} {w : World} {v : Value} {xs : List α}
/-- A list of the call's own, cell by cell. -/
theorem Recs.rowAt (h : Recs R e base w v xs) {i : Nat} (hi : i < xs.length) : ∃ q c, v = .slice (some ⟨q, 0, none⟩) xs.length c ∧ base ≤ q ∧ q < w.heap.size ∧ (∀ t, w.frozen? ⟨q, t, none⟩ = false) ∧ ∀ f, f < R.n → w.cell? ⟨q, i * R.n + f, none⟩ = (R.cells xs[i])[f]? := by
  have hr := h
  rcases hr.2 with ⟨_, h0⟩ | ⟨q, cap, cur, rfl, hb, hh, h1, h2, h3, h4⟩
  · omega
  · refine ⟨q, cap, rfl, hb, Has.inside hh, fun i => Has.free hh i, fun f hf => ?_⟩
    have hl : i * R.n + f < xs.length * R.n := by
      have : (i + 1) * R.n ≤ xs.length * R.n := Nat.mul_le_mul_right _ hi
      rw [Nat.add_mul, Nat.one_mul] at this
      omega
    have := hr.cellAt _ hl
    rw [flatR_get (List.getElem?_eq_getElem hi) hf] at this
    exact this
end
section
variable {w : World}
theorem eight_of {x : Ls} {q j : Nat} (h : ∀ f, f < RL.n → w.cell? ⟨q, j * RL.n + f, none⟩ = (RL.cells x)[f]?) : w.cell? ⟨q, j * 8, none⟩ = some (.int .i64 x.id) ∧ w.cell? ⟨q, j * 8 + 1, none⟩ = some (.string x.typ) ∧ w.cell? ⟨q, j * 8 + 2, none⟩ = some (.int .i64 x.cb) ∧ w.cell? ⟨q, j * 8 + 3, none⟩ = some (.bool x.cap) ∧ w.cell? ⟨q, j * 8 + 4, none⟩ = some (.bool x.once) ∧ w.cell? ⟨q, j * 8 + 5, none⟩ = some (.bool x.pas) ∧ w.cell? ⟨q, j * 8 + 6, none⟩ = some (.int .i64 x.sig) ∧ w.cell? ⟨q, j * 8 + 7, none⟩ = some (.bool x.rem) :=
  ⟨h 0 (by decide), h 1 (by decide), h 2 (by decide), h 3 (by decide), h 4 (by decide), h 5 (by decide), h 6 (by decide), h 7 (by decide)⟩
end
section
variable {S : Nat → Prop} {w : World} {b : Nat} {B : List Ls}
theorem lsFindNil (x cb : Int) (t : ByteArray) (cap : Bool) (w : World) : Calls Try.prog 12 #[.pointer none, .int .i64 x, .string t, .int .i64 cb, .bool cap] w fun e w' => e = .returned (.int .i64 0) ∧ w = w' := by
  go_enter Try.func12, Try.ntmps12
  go_wp2_with fail
  refine (lsAtNil x _).mono ?_
  rintro e w1 ⟨rfl, rfl⟩
  go_wp2_with fail
  go_loopw [17] (fun i wr => i = .int .i64 0 ∧ w = wr) (fun _ _ => 0)
  case atStart => exact ⟨rfl, rfl⟩
  case round =>
    obtain ⟨rfl, rfl⟩ := hrel
    go_wp2
    go_ret
    exact ⟨rfl, rfl⟩
set_option maxHeartbeats 4000000 in
theorem lsFind_any (x cb : Int) (t : ByteArray) (cap : Bool) (h : Lst S w b B) (h0 : -9223372036854775808 ≤ x) (h1 : x ≤ 9223372036854775807) :
    Calls Try.prog 12 #[ptrL b, .int .i64 x, .string t, .int .i64 cb, .bool cap] w fun e w' => e = .returned (.int .i64 (findLs B x t cb cap)) ∧ Below w.heap.size w w' := by
  have HA := Lib.hid (lsAt_any x h h0 h1)
  have hN := Nat.le_trans (atLs_len B x) h.ok.few
  have HO := Lib.hid h.ok
  have hthere := fun y hy => find_there (t := t) (cb := cb) (cap := cap) h.ok (x := y) (v := x) hy
  have hnot := find_not (B := B) (v := x) (t := t) (cb := cb) (cap := cap)
  obtain ⟨D, hD⟩ : ∃ D, D = atLs B x := ⟨_, rfl⟩
  rw [← hD] at HA hN hthere hnot
  obtain ⟨r, hr⟩ : ∃ r, r = findLs B x t cb cap := ⟨_, rfl⟩
  rw [← hr] at hthere hnot ⊢
  have HT := Lib.hid hthere
  have HNo := Lib.hid hnot
  clear hthere hnot hD hr h HO
  unfold ptrL at HA ⊢
  go_enter Try.func12, Try.ntmps12
  go_wp2_with fail
  refine HA.out.mono ?_
  rintro e w1 ⟨⟨va, rfl, hR⟩, hb1⟩
  have hform := hR.form
  obtain ⟨A, c, rfl, -⟩ := hform
  have HR := Lib.hid hR
  have HB1 := Lib.hid hb1
  obtain ⟨N, hNe⟩ : ∃ N, N = D.length := ⟨_, rfl⟩
  rw [← hNe] at hN HR ⊢
  have HNe := Lib.hid hNe
  clear hR hb1 hNe HA
  go_wp2_with fail
  go_loopw [17] (fun i wr => ∃ k : Nat, i = .int .i64 k ∧ k ≤ N ∧ Hid (∀ y ∈ D.take k, alB t cb cap y = false) ∧ Below w1.heap.size w1 wr) (fun i _ => N - (intOf i).toNat)
  case atStart => exact ⟨0, rfl, Nat.zero_le _, Lib.hid (fun y hy => by simp at hy), Below.refl _ _⟩
  case round =>
    obtain ⟨k, rfl, hk, HK, hb⟩ := hrel
    by_cases hlt : (k : Int) < N
    · have hkD : k < D.length := by rw [← HNe.out]; omega
      have hR := HR.out
      rw [HNe.out] at hR
      obtain ⟨q, qc, hq, -, -, -, hc⟩ := (hR.below hb).rowAt hkD
      obtain ⟨hq1, hq2⟩ : A = some ⟨q, 0, none⟩ ∧ c = qc := by injection hq with e1 _ e3; exact ⟨e1, e3⟩
      subst hq1 hq2
      obtain ⟨c0, c1, c2, c3, c4, c5, c6, c7⟩ := eight_of hc
      have hth := HT.out D[k] (List.getElem_mem hkD)
      have hst : ∀ y, y ∈ D.take (k + 1) → y ∈ D.take k ∨ y = D[k] := fun y hy => by
        rw [List.take_add_one, List.getElem?_eq_getElem hkD, List.mem_append] at hy
        exact hy.imp id fun h => by simpa using h
      obtain ⟨y, hy⟩ : ∃ y, y = D[k] := ⟨_, rfl⟩
      rw [← hy] at c0 c1 c2 c3 c4 c5 c6 c7 hth hst
      have hstep : alB t cb cap y = false → ∀ z ∈ D.take (k + 1), alB t cb cap z = false := fun hf z hz => by
        rcases hst z hz with hz | rfl
        · exact HK.out z hz
        · exact hf
      obtain ⟨xi, xt, xc, xa, xo, xp, xs, xr, xn⟩ := y
      simp only at c0 c1 c2 c3 c4 c5 c6 c7
      have HTH := Lib.hid hth
      have HST := Lib.hid hstep
      have hw2 : IntKind.i64.wrap ((k : Int) + 1) = (k : Int) + 1 := wrap_small (by omega) (by omega)
      have HB := Lib.hid (hb.alloc hb.size (.cells #[.int .i64 xi, .string xt, .int .i64 xc, .bool xa, .bool xo, .bool xp, .int .i64 xs, .bool xr] 34))
      have HBw := Lib.hid (HB1.out.trans (HB.out.mono HB1.out.size))
      clear hy hc hR hkD hth hst hstep HK hb hq
      cases t1 : (xt.toList == t.toList) with
      | false =>
        have HX := Lib.hid (HST.out (by unfold alB; rw [t1]; rfl))
        go_wp2
        go_roundw
        case rel => exact ⟨k + 1, by go_num, by omega, HX, HB.out⟩
        case measure => simp [intOf]; omega
      | true =>
        cases t2 : (xc == cb) with
        | false =>
          have HX := Lib.hid (HST.out (by unfold alB; rw [t1, t2]; rfl))
          go_wp2
          go_roundw
          case rel => exact ⟨k + 1, by go_num, by omega, HX, HB.out⟩
          case measure => simp [intOf]; omega
        | true =>
          cases t3 : (xa == cap) with
          | false =>
            have HX := Lib.hid (HST.out (by unfold alB; rw [t1, t2, t3]; rfl))
            go_wp2
            go_roundw
            case rel => exact ⟨k + 1, by go_num, by omega, HX, HB.out⟩
            case measure => simp [intOf]; omega
          | true =>
            have HX := Lib.hid (HTH.out (by unfold alB; rw [t1, t2, t3]; rfl))
            go_wp2
            go_ret
            rw [HX.out]
            exact ⟨rfl, HBw.out⟩
    · have hkN : k = N := by omega
      have hall := HK.out
      rw [List.take_of_length_le (by rw [← HNe.out, hkN]; exact Nat.le_refl _)] at hall
      have HX := Lib.hid (HNo.out hall)
      have HBw := Lib.hid (HB1.out.trans (hb.mono HB1.out.size))
      clear hall HK hkN hb
      go_wp2
      go_ret
      rw [HX.out]
      exact ⟨rfl, HBw.out⟩
end
end Go.Proofs.Ytgdgmcehkhimpaa

namespace Go.Proofs.Ytgdgmcehkhimpaa
open Go Go.RowKit

/-- A list of numbers of the call's own, its block from base on; what lies behind its end may be written over only where nobody else can see it. -/
def Pile (base : Nat) (w : World) (v : Value) (xs : List Int) : Prop :=
  (v = .slice none 0 0 ∧ xs = []) ∨
  ∃ g cap cur, v = .slice (some ⟨g, 0, none⟩) xs.length cap ∧ base ≤ g ∧ Has w g (.cells cur 3 (0, 0)) ∧ xs.length ≤ cap ∧ cap ≤ maxLen ∧ (cur.size = cap ∨ cap = xs.length) ∧ cur.toList.take xs.length = xs.map (Value.int .i64)

section
variable {base base' : Nat} {w w' : World} {v : Value} {xs : List Int} {F : Nat → Prop}
theorem Pile.nil (base : Nat) (w : World) : Pile base w (.slice none 0 0) [] := .inl ⟨rfl, rfl⟩
theorem Pile.lt (h : Pile base w v xs) : ∀ g, v.ownBlock = some g → base ≤ g ∧ g < w.heap.size := by
  intro k hk
  rcases h with ⟨rfl, _⟩ | ⟨g, cap, cur, rfl, hb, hg, _⟩
  · cases hk
  · obtain rfl : g = k := by simpa [Value.ownBlock] using hk
    exact ⟨hb, hg.inside⟩
theorem Pile.kept (h : Pile base w v xs) (k : Keeps F w w') (hF : ∀ g, v.ownBlock = some g → ¬ F g) : Pile base w' v xs := by
  rcases h with h | ⟨g, cap, cur, rfl, hb, hg, rest⟩
  · exact .inl h
  · exact .inr ⟨g, cap, cur, rfl, hb, hg.kept k (hF g rfl), rest⟩
theorem Pile.below (h : Pile base w v xs) (k : Below w.heap.size w w') : Pile base w' v xs :=
  h.kept (Keeps.of_below (F := fun i => w.heap.size ≤ i) k fun _ _ h => h) fun g hg => Nat.not_le.2 (h.lt g hg).2
theorem Pile.from_ (h : Pile base w v xs) (hb : base' ≤ base) : Pile base' w v xs := by
  rcases h with h | ⟨g, cap, cur, rfl, h1, rest⟩
  · exact .inl h
  · exact .inr ⟨g, cap, cur, rfl, Nat.le_trans hb h1, rest⟩
theorem Pile.since (h : Pile base w v xs) (hb : ∀ g, v.ownBlock = some g → base' ≤ g) : Pile base' w v xs := by
  rcases h with h | ⟨g, cap, cur, rfl, h1, rest⟩
  · exact .inl h
  · exact .inr ⟨g, cap, cur, rfl, hb g rfl, rest⟩
theorem Pile.alloc (h : Pile base w v xs) (o : Obj) : Pile base (w.alloc o) v xs := h.below ((Below.refl _ w).alloc (Nat.le_refl _) o)
theorem Pile.drew (h : Pile base w v xs) : Pile base w.drew v xs := h
theorem Pile.drewN (h : Pile base w v xs) (n : Nat) : Pile base (w.drewN n) v xs := h
/-- Its shape, and that it may be read. -/
theorem Pile.form (h : Pile base w v xs) : ∃ A c, v = .slice A xs.length c ∧ ListIn w A c xs := by
  rcases h with ⟨rfl, rfl⟩ | ⟨g, cap, cur, rfl, hb, hg, hl, hm, hc, ht⟩
  · exact ⟨none, 0, rfl, Nat.le_refl _, fun _ => rfl, fun i hi => absurd hi (Nat.not_lt_zero i)⟩
  · refine ⟨_, cap, rfl, hl, (fun e => by cases e), fun i hi => ⟨g, 0, rfl, hg.inside, ?_⟩⟩
    have e := congrArg (fun z => z[i]?) ht
    simp only [List.getElem?_take, if_pos hi, List.getElem?_map, List.getElem?_eq_getElem hi] at e
    rw [Nat.zero_add, hg.cell i, ← Array.getElem?_toList, e]
    rfl
theorem Pile.of_kids {G : Nat → Prop} (h : Kids G w v xs) (hb : ∀ g, G g → g < w.heap.size → base ≤ g) : Pile base w v xs := by
  rcases h.1.2 with ⟨hv, h0⟩ | ⟨g, cap, cur, hv, _, hg, h1, h2, h3, h4⟩
  · exact .inl ⟨hv, List.length_eq_zero_iff.1 h0⟩
  · exact .inr ⟨g, cap, cur, hv, hb g (h.2 g (by rw [hv]; rfl)) (Has.inside hg), hg, h1, h2, .inl (by omega), by rw [Nat.mul_one] at h4; exact h4⟩
/-- A literal. -/
theorem Pile.lit (w : World) (xs : List Int) (n : Nat) (hn : n = xs.length) (hm : n ≤ maxLen) (hb : base ≤ w.heap.size) : Pile base (w.alloc (.cells (xs.map (Value.int .i64)).toArray 3)) (.slice (some ⟨w.heap.size, 0, none⟩) n n) xs := by
  subst hn
  refine .inr ⟨w.heap.size, xs.length, _, rfl, hb, Has.fresh _ _, Nat.le_refl _, hm, .inr rfl, ?_⟩
  simp only
  rw [List.take_of_length_le (by simp)]
/-- The last one is cut off. -/
theorem Pile.clip {A : Option Addr} {n c : Nat} {y : Int} (h : Pile base w (.slice A (n + 1) c) (xs ++ [y])) (hn : n = xs.length) : ∃ g, A = some ⟨g, 0, none⟩ ∧ Pile base w (.slice A n n) xs := by
  subst hn
  rcases h with ⟨hv, _⟩ | ⟨g, cap, cur, hv, hb, hg, hl, hm, hc, ht⟩
  · cases hv
  · obtain ⟨rfl, -, rfl⟩ : A = some ⟨g, 0, none⟩ ∧ xs.length + 1 = (xs ++ [y]).length ∧ c = cap := by injection hv with e1 e2 e3; exact ⟨e1, e2, e3⟩
    refine ⟨g, rfl, .inr ⟨g, xs.length, cur, rfl, hb, hg, Nat.le_refl _, ?_, .inr rfl, ?_⟩⟩
    · rw [List.length_append] at hl
      omega
    · have e := congrArg (List.take xs.length) ht
      rw [List.take_take, List.length_append, List.map_append, List.take_append_of_le_length (by simp), Nat.min_eq_left (by omega)] at e
      have e2 : List.take xs.length (xs.map (Value.int .i64)) = xs.map (Value.int .i64) := List.take_of_length_le (by simp)
      rw [e2] at e
      exact e
end

section
variable {base : Nat} {w : World} {v : Value} {xs : List Int}
/-- One number is put behind: in the old row or a new one. -/
theorem run_push (t ty : TypeId) (i : TypeInfo) (z : Value) {P : Program} (ht : P.underlying t = some (.slice 3)) (hi : P.info? 3 = some i) (hz : i.zero = some z) (hsize : i.size = 1) (hby : i.bytes = 8) (hzs : z.cells.size = 1)
    (hP : Pile base w v xs) {b c : Nat} {y : Int} {fr : Nat × Nat} (hb : Has w b (.cells #[.int .i64 y] 3 fr)) (hl : xs.length ≤ 1000000) (hbase : base ≤ w.heap.size) :
    ∃ g cap w', (Builtin.append_ #[t, t] ty #[v, .slice (some ⟨b, 0, none⟩) 1 c]).run P w = .ok (.slice (some ⟨g, 0, none⟩) (xs.length + 1) cap) w' ∧
      Pile base w' (.slice (some ⟨g, 0, none⟩) (xs.length + 1) cap) (xs ++ [y]) ∧ Keeps (fun i => v.ownBlock = some i) w w' ∧ (v.ownBlock = some g ∨ w.heap.size ≤ g) ∧ g < w'.heap.size := by
  have hnews : ∀ j u, [Value.int .i64 y][j]? = some u → w.cell? ((⟨b, 0, none⟩ : Addr).add j) = some u := World.news_of_block hb
  have h1 : ∀ u ∈ [Value.int .i64 y], u.oneCell' = true := fun u hu => by obtain rfl := List.mem_singleton.1 hu; rfl
  have owned : ∀ {vo : Value}, w.ownsRow base 3 1 vo xs.length (xs.map (Value.int .i64)) → ∃ g cap w', (Builtin.append_ #[t, t] ty #[vo, .slice (some ⟨b, 0, none⟩) 1 c]).run P w = .ok (.slice (some ⟨g, 0, none⟩) (xs.length + 1) cap) w' ∧
      Pile base w' (.slice (some ⟨g, 0, none⟩) (xs.length + 1) cap) (xs ++ [y]) ∧ Keeps (fun i => vo.ownBlock = some i) w w' ∧ (vo.ownBlock = some g ∨ w.heap.size ≤ g) ∧ g < w'.heap.size := by
    intro vo hown
    obtain ⟨g, cap, w', hr, h2, h3, h4, h5⟩ := run_append_lies (P := P) w t ty base 3 i z 1 8 ht hi hz hsize hby hzs (by decide) vo xs.length (xs.map (Value.int .i64)) hown ⟨b, 0, none⟩ 1 c [.int .i64 y] rfl hnews h1 (by decide) (by unfold maxLen; omega) (by omega) hbase _ rfl
    refine ⟨g, cap, w', hr, ?_, Keeps.of_grown h3, h4.imp id fun e => by omega, h5⟩
    rcases h2.2 with ⟨hv, _⟩ | ⟨g', cap', cur, hv, hb', hg, q1, q2, q3, q4⟩
    · cases hv
    · obtain ⟨rfl, rfl⟩ : g = g' ∧ cap = cap' := by injection hv with e1 _ e3; exact ⟨by simpa using e1, e3⟩
      refine .inr ⟨g, cap, cur, by simp, hb', hg, by simpa using q1, q2, .inl (by omega), ?_⟩
      rw [Nat.mul_one] at q4
      simpa using q4
  rcases hP with ⟨rfl, rfl⟩ | ⟨g, cap, cur, rfl, hb', hg, hlc, hm, hc, htk⟩
  · exact owned (World.ownsRow_nil w base 3 1)
  · by_cases hfull : cap = xs.length
    · subst hfull
      have hle : xs.length ≤ cur.size := by
        have := congrArg List.length htk
        rw [List.length_take, List.length_map] at this
        have h2 : cur.toList.length = cur.size := Array.length_toList
        omega
      have holds : ∀ j u, (xs.map (Value.int .i64))[j]? = some u → w.cell? ((⟨g, 0, none⟩ : Addr).add j) = some u := by
        intro j u hu
        have hj : j < xs.length := by
          have := (List.getElem?_eq_some_iff.1 hu).1
          simpa using this
        rw [Addr.add_lit, Nat.zero_add, hg.cell j]
        rw [← htk, List.getElem?_take, if_pos hj, Array.getElem?_toList] at hu
        exact hu
      have hr := run_append_grow (P := P) w t ty 3 i z ht hi hz ⟨g, 0, none⟩ xs.length xs.length (xs.map (Value.int .i64)) (by rw [hsize]; simp) holds ⟨b, 0, none⟩ 1 c [.int .i64 y] (by rw [hsize]; rfl) hnews (by omega) (by omega) (growslice_fits (by omega) (by rw [hby]; omega))
      have hge := grownCap_ge w (xs.length + 1) xs.length 3
      refine ⟨w.heap.size, grownCap w (xs.length + 1) xs.length 3, _, hr, .inr ⟨w.heap.size, grownCap w (xs.length + 1) xs.length 3, _, by simp, hbase, Has.fresh w.drew _, by simpa using hge, grownCap_le_maxLen w _ _ _ (by unfold maxLen; omega), .inl ?_, ?_⟩, ⟨⟨rfl, rfl, rfl⟩, by simp, fun k hk _ => Below.heap_alloc w.drew _ k hk⟩, .inr (Nat.le_refl _), by simp⟩
      · simp only [Array.size_append, List.size_toArray, size_zeroCells, hzs, List.length_map, List.length_cons, List.length_nil]
        omega
      · simp only [Array.toList_append, List.map_append, List.map_cons, List.map_nil, List.length_append, List.length_cons, List.length_nil]
        rw [List.take_append_of_le_length (by simp), List.take_of_length_le (by simp)]
    · have hcs : cur.size = cap := hc.resolve_right hfull
      exact owned ⟨by simp, .inr ⟨g, cap, cur, rfl, hb', hg, hlc, hm, by omega, by rw [Nat.mul_one]; exact htk⟩⟩
/-- At a plain region. -/
theorem wpList_push {ops : Array Oper} {rest : List Oper} {o : Oper} {a : Act} {Q : Exit → Act → World → Prop} (hgd : o.guard = none) (s x : Operand)
    (ho : o.op = .call { callee := .builtin .append, args := #[s, x], argTypes := #[28, 28] }) (hs : a.eval s = v) (hP : Pile base w v xs) {b c : Nat} {y : Int} {fr : Nat × Nat} (hx : a.eval x = .slice (some ⟨b, 0, none⟩) 1 c)
    (hb : Has w b (.cells #[.int .i64 y] 3 fr)) (hl : xs.length ≤ 1000000) (hbase : base ≤ w.heap.size)
    (h : ∀ g cap w', Pile base w' (.slice (some ⟨g, 0, none⟩) (xs.length + 1) cap) (xs ++ [y]) → Keeps (fun i => v.ownBlock = some i) w w' → (v.ownBlock = some g ∨ w.heap.size ≤ g) → g < w'.heap.size → wpList Try.prog ops Q rest (a.put o.dst (.slice (some ⟨g, 0, none⟩) (xs.length + 1) cap)) w') : wpList Try.prog ops Q (o :: rest) a w := by
  obtain ⟨i0, hi, hz0, hz1, hz2⟩ := info_parts Try.infoInt
  obtain ⟨g, cap, w', hr, h2, h3, h4, h5⟩ := run_push (c := c) 28 o.type i0 _ Try.underlying28 hi hz0 hz1 hz2 rfl hP hb hl hbase
  refine wpList_plain hgd fun _ hK => ?_
  unfold Oper.wp execOp
  simp only [ho, resolve, invoke, builtin, Sem.run_bind, Sem.run_pure, Result.andThen_ok, List.map_toArray, List.map_cons, List.map_nil, hs, hx, hr]
  exact hK _ _ (h g cap w' h2 h3 h4 h5)
end
end Go.Proofs.Ytgdgmcehkhimpaa

namespace Go.Proofs.Ytgdgmcehkhimpaa
open Go Go.RowKit

theorem Pile.of_own {base : Nat} {w : World} {v : Value} {xs : List Int} (h : w.ownsRow base 3 1 v xs.length (xs.map (Value.int .i64))) : Pile base w v xs :=
  Pile.of_kids (G := fun g => base ≤ g) ⟨own_base h (Nat.zero_le _), fun g hg => (h.lt g hg).1⟩ fun _ hg _ => hg
theorem own_below {w w' : World} {base n size : Nat} {e : TypeId} {v : Value} {us : List Value} (h : w.ownsRow base e size v n us) (k : Below w.heap.size w w') : w'.ownsRow base e size v n us :=
  own_kept h (Keeps.of_below (F := fun i => w.heap.size ≤ i) k fun _ _ h => h) fun g hg => Nat.not_le.2 (own_in h g hg)
section
variable {w : World}
/-- What a cut gives. -/
theorem elem_ints : Try.prog.elem 28 = 3 := by kernel_rfl
theorem cut_low (A : Option Addr) (N k a : Nat) (ha : a ≤ k) (w : World) : (Instr.slice 28 (.slice A N k) none (some (.int .i64 (a : Int))) none).run Try.prog w = .ok (.slice A a k) w := by
  have hu : Try.prog.underlying 28 = some (.slice (Try.prog.elem 28)) := by rw [elem_ints]; exact Try.underlying28
  have hs : (sizeOf (Try.prog.elem 28)).run Try.prog w = .ok 1 w := by kernel_rfl
  rw [run_slice_h _ _ _ _ _ hu _ _ (by omega) (by omega), hs]
  simp only [Result.andThen, sliced, Int.toNat_natCast, Nat.sub_zero, Nat.zero_mul]
  by_cases h : k = 0
  · rw [if_pos h]
  · rw [if_neg h]
    cases A with
    | none => rfl
    | some x => simp [Addr.add]
theorem cut_high (A : Option Addr) (N k a : Nat) (ha : a ≤ N) (w : World) : (Instr.slice 28 (.slice A N k) (some (.int .i64 (a : Int))) none none).run Try.prog w = .ok (.slice (if k = a then A else A.map (·.add a)) (N - a) (k - a)) w := by
  have hu : Try.prog.underlying 28 = some (.slice (Try.prog.elem 28)) := by rw [elem_ints]; exact Try.underlying28
  have hs : (sizeOf (Try.prog.elem 28)).run Try.prog w = .ok 1 w := by kernel_rfl
  rw [run_slice_l _ _ _ _ _ hu _ _ (by omega) (by omega), hs]
  simp only [Result.andThen, sliced, Int.toNat_natCast, Nat.mul_one]
theorem ListIn.low {A : Option Addr} {k : Nat} {xa xb : List Int} (h : ListIn w A k (xa ++ xb)) : ListIn w A k xa := by
  refine ⟨Nat.le_trans (by simp) h.cap, h.nil, fun i hi => ?_⟩
  have := h.nums i (by rw [List.length_append]; omega)
  rwa [List.getElem_append_left hi] at this
theorem ListIn.high {A : Option Addr} {k : Nat} {xa xb : List Int} (h : ListIn w A k (xa ++ xb)) : ListIn w (if k = xa.length then A else A.map (·.add xa.length)) (k - xa.length) xb := by
  have hc := h.cap
  rw [List.length_append] at hc
  refine ⟨by omega, fun e => ?_, fun i hi => ?_⟩
  · by_cases hk : k = xa.length
    · omega
    · rw [if_neg hk] at e
      have : A = none := by cases A with
        | none => rfl
        | some x => cases e
      have := h.nil this
      omega
  · obtain ⟨g, off, rfl, hg, hcell⟩ := h.nums (xa.length + i) (by rw [List.length_append]; omega)
    rw [List.getElem_append_right (by omega)] at hcell
    simp only [Nat.add_sub_cancel_left] at hcell
    refine ⟨g, off + xa.length, ?_, hg, by rw [Nat.add_assoc]; exact hcell⟩
    rw [if_neg (by omega)]
    simp [Addr.add]
end
end Go.Proofs.Ytgdgmcehkhimpaa

namespace Go.Proofs.Ytgdgmcehkhimpaa
open Go Go.RowKit

/-- The function that leave hands on. -/
abbrev sameF (C : Nat) : Value := .func (.func 31) #[] #[.pointer (some ⟨C, 0, none⟩)]
theorem same_any (x id : Int) (C : Nat) (w : World) (hc : w.cell? ⟨C, 0, none⟩ = some (.int .i64 id)) :
    Calls Try.prog 31 #[.int .i64 x, .pointer (some ⟨C, 0, none⟩)] w fun e w' => e = .returned (.bool (x == id)) ∧ w = w' := by
  go_enter Try.func31, Try.ntmps31
  go_wp2
  go_ret
  exact ⟨rfl, rfl⟩

/-- A list of numbers in a block of its own, cell by cell. -/
structure RowAt (w : World) (g cap n : Nat) (z : Nat → Int) : Prop where
  row : ∃ cur, Has w g (.cells cur 3 (0, 0)) ∧ cur.size = cap ∧ ∀ t, t < n → cur[t]? = some (.int .i64 (z t))
section
variable {w : World} {g cap n : Nat} {z : Nat → Int}
theorem RowAt.cell (h : RowAt w g cap n z) {t : Nat} (ht : t < n) : w.cell? ⟨g, t, none⟩ = some (.int .i64 (z t)) := by
  obtain ⟨cur, h1, -, h3⟩ := h.row
  rw [h1.cell, h3 t ht]
theorem RowAt.free (h : RowAt w g cap n z) (t : Nat) : w.frozen? ⟨g, t, none⟩ = false := by
  obtain ⟨cur, h1, -, -⟩ := h.row
  exact h1.free t
theorem RowAt.store (h : RowAt w g cap n z) (t : Nat) (x : Int) : RowAt (w.setCell ⟨g, t, none⟩ (.int .i64 x)) g cap n fun i => if i = t then x else z i := by
  obtain ⟨cur, h1, h2, h3⟩ := h.row
  refine ⟨_, h1.stored t _, by simpa using h2, fun i hi => ?_⟩
  rw [Array.getElem?_setIfInBounds]
  by_cases e : i = t
  · subst e
    have := h3 i hi
    have hlt : i < cur.size := (Array.getElem?_eq_some_iff.1 this).1
    rw [if_pos rfl, if_pos rfl, if_pos hlt]
  · rw [if_neg (fun e' => e e'.symm), if_neg e]
    exact h3 i hi
theorem RowAt.congr {z' : Nat → Int} (h : RowAt w g cap n z) (hz : ∀ t, t < n → z t = z' t) : RowAt w g cap n z' := by
  obtain ⟨cur, h1, h2, h3⟩ := h.row
  exact ⟨cur, h1, h2, fun t ht => by rw [← hz t ht]; exact h3 t ht⟩
theorem RowAt.drewN (h : RowAt w g cap n z) (k : Nat) : RowAt (w.drewN k) g cap n z := ⟨h.row⟩
theorem RowAt.own {xs : List Int} {z : Nat → Int} (h : RowAt w g cap n z) (hl : xs.length ≤ n) (hn : n ≤ cap) (hc : cap ≤ maxLen) (hz : ∀ t (ht : t < xs.length), z t = xs[t]) : w.ownsRow 0 3 1 (.slice (some ⟨g, 0, none⟩) xs.length cap) xs.length (xs.map (Value.int .i64)) := by
  obtain ⟨cur, h1, h2, h3⟩ := h.row
  refine ⟨by simp, .inr ⟨g, cap, cur, rfl, Nat.zero_le _, h1, by omega, hc, by omega, ?_⟩⟩
  rw [Nat.mul_one]
  apply List.ext_getElem?
  intro t
  rw [List.getElem?_take, List.getElem?_map]
  by_cases ht : t < xs.length
  · rw [if_pos ht, Array.getElem?_toList, h3 t (by omega), List.getElem?_eq_getElem ht, hz t ht]
    rfl
  · rw [if_neg ht, List.getElem?_eq_none (by omega)]
    rfl
theorem own_row {xs : List Int} {v : Value} (h : w.ownsRow 0 3 1 v xs.length (xs.map (Value.int .i64))) (h0 : 0 < xs.length) : ∃ g cap, v = .slice (some ⟨g, 0, none⟩) xs.length cap ∧ xs.length ≤ cap ∧ cap ≤ maxLen ∧ RowAt w g cap xs.length fun t => xs.getD t 0 := by
  rcases h.2 with ⟨_, h1⟩ | ⟨g, cap, cur, rfl, _, hh, h1, h2, h3, h4⟩
  · omega
  · refine ⟨g, cap, rfl, h1, h2, cur, hh, by omega, fun t ht => ?_⟩
    have e := congrArg (fun z => z[t]?) h4
    simp only [Nat.mul_one, List.getElem?_take, if_pos ht, List.getElem?_map, List.getElem?_eq_getElem ht, Option.map_some] at e
    rw [← Array.getElem?_toList, e, List.getD_eq_getElem?_getD, List.getElem?_eq_getElem ht]
    rfl
end

section
variable {w : World} {g cap C : Nat} {id : Int} {ys zs : List Int}
theorem mid_get (ys zs : List Int) (id : Int) {t : Nat} (ht : t < ys.length) : (ys ++ id :: zs).getD t 0 = ys[t] := by
  rw [List.getD_eq_getElem?_getD, List.getElem?_append_left ht, List.getElem?_eq_getElem ht]
  rfl
theorem mid_at (ys zs : List Int) (id : Int) : (ys ++ id :: zs).getD ys.length 0 = id := by
  rw [List.getD_eq_getElem?_getD, List.getElem?_append_right (Nat.le_refl _), Nat.sub_self]
  rfl
theorem mid_behind (ys zs : List Int) (id : Int) {t : Nat} (ht : ys.length < t) : (ys ++ id :: zs).getD t 0 = (ys ++ zs).getD (t - 1) 0 := by
  rw [List.getD_eq_getElem?_getD, List.getD_eq_getElem?_getD, List.getElem?_append_right (by omega), List.getElem?_append_right (by omega), show t - ys.length = (t - 1 - ys.length) + 1 by omega, List.getElem?_cons_succ]
set_option maxHeartbeats 1000000 in
theorem index_same (xs : List Int) (cap i0 : Nat) (hl : xs.length ≤ 1000000) (h : RowAt w g cap xs.length fun t => xs.getD t 0) (hc : w.cell? ⟨C, 0, none⟩ = some (.int .i64 id)) (h0 : i0 < xs.length) (hi : xs.getD i0 0 = id) (hb : ∀ t, t < i0 → xs.getD t 0 ≠ id) :
    Calls Try.prog 36 #[.slice (some ⟨g, 0, none⟩) xs.length cap, sameF C] w fun e w' => e = .returned (.int .i64 i0) ∧ w = w' := by
  obtain ⟨n, hn⟩ : ∃ n, n = xs.length := ⟨_, rfl⟩
  rw [← hn] at h h0 hl ⊢
  have H := Lib.hid h
  have HB := Lib.hid hb
  have HI := Lib.hid hi
  clear h hb hi hn
  go_enter Try.func36, Try.ntmps36
  go_wp2_with fail
  go_loopw [8] (fun i wr => ∃ k : Nat, i = .int .i64 k ∧ k ≤ i0 ∧ w = wr) (fun i _ => n - (intOf i).toNat)
  case atStart => exact ⟨0, rfl, Nat.zero_le _, rfl⟩
  case round =>
    obtain ⟨k, rfl, hk, rfl⟩ := hrel
    have hlt : (k : Int) < n := by omega
    have hcell := H.out.cell (t := k) (by omega)
    obtain ⟨y, hy⟩ : ∃ y, y = xs.getD k 0 := ⟨_, rfl⟩
    simp only [← hy] at hcell
    by_cases e : k = i0
    · subst e
      have hyi : y = id := by rw [hy]; exact HI.out
      subst hyi
      clear hy
      go_wp2_with fail
      refine (same_any y y C w hc).mono ?_
      rintro e w1 ⟨rfl, rfl⟩
      have hq : (y == y) = true := by simp
      go_wp2
      go_ret
      trivial
    · have hyi : (y == id) = false := by
        rw [beq_eq_false_iff_ne, hy]
        exact HB.out k (by omega)
      clear hy
      go_wp2_with fail
      refine (same_any y id C w hc).mono ?_
      rintro e w1 ⟨rfl, rfl⟩
      go_wp2
      go_roundw
      case rel => exact ⟨k + 1, by go_num, by omega, trivial⟩
      case measure => simp [intOf]; omega

theorem cut_low' (n k a : Nat) (ha : a ≤ k) (w : World) : (Instr.slice 28 (.slice (some ⟨g, 0, none⟩) n k) none (some (.int .i64 (a : Int))) none).run Try.prog w = .ok (.slice (some ⟨g, 0, none⟩) a k) w := cut_low _ n k a ha w
theorem cut_high' (n k a : Nat) (ha : a ≤ n) (hk : a < k) (w : World) : (Instr.slice 28 (.slice (some ⟨g, 0, none⟩) n k) (some (.int .i64 (a : Int))) none none).run Try.prog w = .ok (.slice (some ⟨g, a, none⟩) (n - a) (k - a)) w := by
  rw [cut_high _ n k a ha w, if_neg (by omega)]
  simp only [Option.map_some, Addr.add_lit, Nat.zero_add]
theorem zeroInt (w : World) : (zeroValue 3).run Try.prog w = .ok (.int .i64 0) w := by kernel_rfl

set_option maxHeartbeats 4000000 in
theorem delete_same (cap : Nat) (hl : (ys ++ id :: zs).length ≤ 1000000) (hcap : (ys ++ id :: zs).length ≤ cap) (h : RowAt w g cap (ys ++ id :: zs).length fun t => (ys ++ id :: zs).getD t 0) (hc : w.cell? ⟨C, 0, none⟩ = some (.int .i64 id)) (hC : C ≠ g) (hy : id ∉ ys) (hz : id ∉ zs) :
    Calls Try.prog 30 #[.slice (some ⟨g, 0, none⟩) (ys ++ id :: zs).length cap, sameF C] w fun e w' => e = .returned (.slice (some ⟨g, 0, none⟩) (ys ++ zs).length cap) ∧ RowAt w' g cap (ys ++ zs).length (fun t => (ys ++ zs).getD t 0) ∧ Keeps (Just [g]) w w' := by
  have hi := index_same (C := C) (ys ++ id :: zs) cap ys.length hl h hc (by simp) (mid_at ys zs id) (fun t ht e => by rw [mid_get ys zs id ht] at e; exact hy (e ▸ List.getElem_mem ht))
  have hm : ∀ t, t < (ys ++ zs).length → (ys ++ zs).getD t 0 ≠ id := fun t ht e => by
    rw [List.getD_eq_getElem?_getD, List.getElem?_eq_getElem ht] at e
    have := List.getElem_mem ht
    rw [show (ys ++ zs)[t] = id from e, List.mem_append] at this
    exact this.elim hy hz
  have hstart : ∀ t, t < ys.length → (ys ++ id :: zs).getD t 0 = (ys ++ zs).getD t 0 := fun t ht => by
    rw [mid_get ys zs id ht, List.getD_eq_getElem?_getD, List.getElem?_append_left ht, List.getElem?_eq_getElem ht]
    rfl
  have hbehind : ∀ t, ys.length < t → (ys ++ id :: zs).getD t 0 = (ys ++ zs).getD (t - 1) 0 := fun t ht => mid_behind ys zs id ht
  obtain ⟨m, hmm⟩ : ∃ m, m = (ys ++ zs).length := ⟨_, rfl⟩
  have hn : (ys ++ id :: zs).length = m + 1 := by rw [hmm]; simp; omega
  have hyl : ys.length ≤ m := by rw [hmm]; simp
  rw [hn] at h hl hcap hi ⊢
  rw [← hmm]
  rw [← hmm] at hm
  obtain ⟨p, hp⟩ : ∃ p, p = ys.length := ⟨_, rfl⟩
  rw [← hp] at hi hstart hbehind hyl
  obtain ⟨d, hd⟩ : ∃ d : Nat → Int, d = fun t => (ys ++ zs).getD t 0 := ⟨_, rfl⟩
  have hm' : ∀ t, t < m → d t ≠ id := fun t ht => by rw [hd]; exact hm t ht
  have h0 : RowAt w g cap (m + 1) fun t => if t < p then d t else if t = p then id else d (t - 1) := h.congr fun t ht => by
    by_cases e : t < p
    · rw [if_pos e, hd]
      exact hstart t e
    · rw [if_neg e]
      by_cases e' : t = p
      · rw [if_pos e', e', hp]
        exact mid_at ys zs id
      · rw [if_neg e', hd]
        exact hbehind t (by omega)
  rw [← hd]
  have HI := Lib.hid hi
  have HM := Lib.hid hm'
  have H0 := Lib.hid h0
  clear hi hm hstart hbehind hmm hn hp hd hm' h h0 hy hz
  have hlow : ∀ w : World, _ := fun w => cut_low' (g := g) (m + 1) cap m (by omega) w
  have hhigh : ∀ w : World, (Instr.slice 28 (.slice (some ⟨g, 0, none⟩) (m + 1) cap) (some (.int .i64 (m : Int))) none none).run Try.prog w = .ok (.slice (some ⟨g, m, none⟩) 1 (cap - m)) w := fun w => by
    rw [cut_high' (g := g) (m + 1) cap m (by omega) (by omega) w, show m + 1 - m = 1 by omega]
  have hcl : ∀ (w : World) (ty : TypeId), (w.cell? ⟨g, m, none⟩).isSome = true → w.frozen? ⟨g, m, none⟩ = false → (Builtin.clear_ #[28] ty #[.slice (some ⟨g, m, none⟩) 1 (cap - m)]).run Try.prog w = .ok (.tuple #[]) (w.setCell ⟨g, m, none⟩ (.int .i64 0)) := fun w ty h1 h2 => by
    exact Lib.run_clear_slice w 28 3 ty (.int .i64 0) Try.underlying28 zeroInt rfl rfl g m 1 (cap - m) (by omega) (fun j hj => by rw [show m + j = m by omega]; exact h1) (fun j hj => by rw [show m + j = m by omega]; exact h2)
  have HL := Lib.hid hlow
  have HH := Lib.hid hhigh
  have HCL := Lib.hid hcl
  clear hlow hhigh hcl
  go_enter Try.func30, Try.ntmps30
  go_wp2_with fail
  refine HI.out.mono ?_
  rintro e w1 ⟨rfl, rfl⟩
  have hne : ((p : Int) == -1) = false := by rw [beq_eq_false_iff_ne]; omega
  have hw1 : IntKind.i64.wrap ((p : Int) + 1) = (p : Int) + 1 := wrap_small (by omega) (by omega)
  go_wp2_with fail
  go_loopw [5, 6] (fun i j wr => ∃ k J : Nat, i = .int .i64 k ∧ j = .int .i64 J ∧ J = k + 1 ∧ p ≤ k ∧ k ≤ m ∧ Hid (∃ z, RowAt wr g cap (m + 1) z ∧ (∀ t, t < k → z t = d t) ∧ (∀ t, k < t → t ≤ m → z t = d (t - 1))) ∧ Keeps (Just [g]) w wr) (fun _ j _ => m + 1 - (intOf j).toNat)
  case atStart => exact ⟨p, p + 1, rfl, by go_num, rfl, Nat.le_refl _, hyl, Lib.hid ⟨_, H0.out, fun t ht => if_pos ht, fun t ht _ => by rw [if_neg (by omega), if_neg (by omega)]⟩, Keeps.refl _ _⟩
  case round =>
    obtain ⟨k, J, rfl, rfl, hJ, hpk, hk, HZ, hkw⟩ := hrel
    obtain ⟨z, hz, hz1, hz2⟩ := HZ.out
    have hcr : wr.cell? ⟨C, 0, none⟩ = some (.int .i64 id) := by
      have := hkw.old C (cell_in hc) (just_ne hC)
      rw [← hc]
      unfold World.cell?
      simp only [this]
    have HKW := Lib.hid hkw
    clear hkw HZ
    by_cases hlt : (J : Int) < (m : Int) + 1
    · have hcell := hz.cell (t := J) (by omega)
      have hdz := hz2 J (by omega) (by omega)
      rw [show J - 1 = k by omega] at hdz
      obtain ⟨y, hy⟩ : ∃ y, y = d k := ⟨_, rfl⟩
      rw [hdz, ← hy] at hcell
      have hyi : (y == id) = false := by
        rw [beq_eq_false_iff_ne, hy]
        exact HM.out k (by omega)
      have hck := hz.cell (t := k) (by omega)
      have hfk := hz.free k
      have hst := hz.store k y
      have HS : Hid (∃ z', RowAt (wr.setCell ⟨g, k, none⟩ (.int .i64 y)) g cap (m + 1) z' ∧ (∀ t, t < k + 1 → z' t = d t) ∧ (∀ t, k + 1 < t → t ≤ m → z' t = d (t - 1))) := Lib.hid ⟨_, hst, fun t ht => by
          by_cases e : t = k
          · rw [if_pos e, hy, e]
          · rw [if_neg e]
            exact hz1 t (by omega), fun t ht hm => by
          rw [if_neg (by omega)]
          exact hz2 t (by omega) hm⟩
      have HK2 := Lib.hid (HKW.out.store1 (g := g) k (.int .i64 y))
      have HJ := Lib.hid hJ
      have hw2 : IntKind.i64.wrap ((J : Int) + 1) = (J : Int) + 1 := wrap_small (by omega) (by omega)
      have hw3 : IntKind.i64.wrap ((k : Int) + 1) = (k : Int) + 1 := wrap_small (by omega) (by omega)
      clear hst hz hz1 hz2 hdz hy hJ
      go_wp2_with fail
      refine (same_any y id C wr hcr).mono ?_
      rintro e w1 ⟨rfl, rfl⟩
      go_wp2
      go_roundw
      case rel => exact ⟨k + 1, J + 1, by go_num, by go_num, by rw [HJ.out], by omega, by have := HJ.out; omega, HS, HK2.out⟩
      case measure => simp [intOf]; omega
    · have hkm : k = m := by omega
      subst hkm
      have hck := hz.cell (t := k) (by omega)
      have hfk := hz.free k
      have hst := hz.store k 0
      have HR : Hid (RowAt (wr.setCell ⟨g, k, none⟩ (.int .i64 0)) g cap k d) := Lib.hid (by
        obtain ⟨cur, q1, q2, q3⟩ := hst.row
        refine ⟨cur, q1, q2, fun t ht => ?_⟩
        rw [q3 t (by omega), if_neg (by omega), hz1 t ht])
      have HK2 := Lib.hid (HKW.out.store1 (g := g) k (.int .i64 0))
      have hcl := fun ty => HCL.out wr ty (by rw [hck]; rfl) hfk
      have hlow := fun w => HL.out w
      have hhigh := fun w => HH.out w
      clear hst hz hz1 hz2 hck hfk hJ
      go_wp2
      go_ret
      exact ⟨rfl, HR.out, HK2.out⟩
end
end Go.Proofs.Ytgdgmcehkhimpaa

namespace Go.Proofs.Ytgdgmcehkhimpaa
open Go Go.RowKit

section
variable {A C B : List Ls} {x : Ls} {v : Int} {j : Nat}
theorem atLs_append (A C : List Ls) (v : Int) : atLs (A ++ C) v = atLs A v ++ atLs C v := by unfold atLs; rw [List.filter_append]
theorem atLs_cons (x : Ls) (C : List Ls) (v : Int) : atLs (x :: C) v = (if x.node = v ∧ x.rem = false then [x] else []) ++ atLs C v := by
  unfold atLs
  rw [List.filter_cons]
  by_cases h1 : x.node = v
  · cases x.rem
    · simp [h1]
    · simp [h1]
  · simp [h1]
theorem idsL_append (A C : List Ls) (v : Int) : idsL (A ++ C) v = idsL A v ++ idsL C v := by unfold idsL; rw [atLs_append, List.map_append]
theorem idsL_cons (x : Ls) (C : List Ls) (v : Int) : idsL (x :: C) v = (if x.node = v ∧ x.rem = false then [x.id] else []) ++ idsL C v := by
  unfold idsL
  rw [atLs_cons, List.map_append]
  by_cases h : x.node = v ∧ x.rem = false
  · rw [if_pos h, if_pos h]
    rfl
  · rw [if_neg h, if_neg h]
    rfl
theorem idsL_mem {i : Int} (h : i ∈ idsL B v) : ∃ y ∈ B, y.id = i := by
  unfold idsL at h
  obtain ⟨y, hy, rfl⟩ := List.mem_map.1 h
  exact ⟨y, (atLs_mem.1 hy).1, rfl⟩
theorem split_at (hj : j < B.length) : B = B.take j ++ B[j] :: B.drop (j + 1) := by
  rw [← List.drop_eq_getElem_cons hj, List.take_append_drop]
theorem killLs_set (hj : j < B.length) (hr : B[j].rem = false) : killLs B ((j : Int) + 1) = B.set j { B[j] with rem := true } := by
  have ha : lsAlive B ((j : Int) + 1) = true := by
    unfold lsAlive
    rw [lsAt_at hj, hr]
    unfold lThere
    rw [decide_eq_true (by omega), decide_eq_true (by omega)]
    rfl
  unfold killLs
  rw [if_pos ha, show ((j : Int) + 1 - 1).toNat = j by omega]
  apply List.ext_getElem?
  intro t
  rw [List.getElem?_modify, List.getElem?_set]
  by_cases e : j = t
  · subst e
    rw [if_pos rfl, if_pos hj, List.getElem?_eq_getElem hj]
    simp
  · rw [if_neg e]
    simp [e]
theorem set_split (hj : j < B.length) (y : Ls) : B.set j y = B.take j ++ y :: B.drop (j + 1) := List.set_eq_take_append_cons_drop.trans (if_pos hj)
theorem idsL_kill (ok : LsOk B) (hj : j < B.length) (hr : B[j].rem = false) : ∃ ys zs, idsL B B[j].node = ys ++ ((j : Int) + 1) :: zs ∧ ((j : Int) + 1) ∉ ys ∧ ((j : Int) + 1) ∉ zs ∧ idsL (B.set j { B[j] with rem := true }) = upd (idsL B) B[j].node (ys ++ zs) := by
  have hid := ok.num j B[j] (List.getElem?_eq_getElem hj)
  refine ⟨idsL (B.take j) B[j].node, idsL (B.drop (j + 1)) B[j].node, ?_, fun h => ?_, fun h => ?_, ?_⟩
  · have e := congrArg (fun Z => idsL Z B[j].node) (split_at hj)
    refine e.trans ?_
    show idsL _ _ = _
    rw [idsL_append, idsL_cons, if_pos ⟨rfl, hr⟩, hid]
    rfl
  · obtain ⟨y, hy, he⟩ := idsL_mem h
    obtain ⟨t, ht⟩ := List.getElem?_of_mem hy
    rw [List.getElem?_take] at ht
    split at ht
    · have := ok.num t y ht
      omega
    · cases ht
  · obtain ⟨y, hy, he⟩ := idsL_mem h
    obtain ⟨t, ht⟩ := List.getElem?_of_mem hy
    rw [List.getElem?_drop] at ht
    have := ok.num _ y ht
    omega
  · funext v
    rw [set_split hj, idsL_append, idsL_cons, if_neg (by simp)]
    by_cases e : v = B[j].node
    · subst e
      rw [upd_self]
      rfl
    · rw [upd_other e]
      have e' := congrArg (fun Z => idsL Z v) (split_at hj)
      refine Eq.trans ?_ e'.symm
      show _ = idsL _ _
      rw [idsL_append, idsL_cons, if_neg (fun h => e h.1.symm)]
end

section
variable {S : Nat → Prop} {w w3 : World} {b g m k n q : Nat} {v v' : Value} {f : Int → Value} {B : List Ls} {I : Int → List Int} {node : Int} {L : List Int}
theorem kids_nil (G : Nat → Prop) (w : World) : Kids G w (.slice none 0 0) [] := ⟨World.ownsRow_nil _ _ _ _, fun g hg => by cases hg⟩
/-- One node's slice is another one, in its own row or nil. -/
theorem Lsts.left (h : Lsts S w b g m k n v f B I) (hq : (f node).ownBlock = some q) (K : Keeps (fun i => i = q ∨ i = m) w w3) (hM : Mp w3 m n (upd f node v')) (hv' : Kids S w3 v' L) (ho : ∀ i, v'.ownBlock = some i → i = q) : Lsts S w3 b g m k n v (upd f node v') B (upd I node L) := by
  obtain ⟨es, cl, hmap⟩ := h.map.there
  have hrow := (h.ids node).1
  have hqm : ∀ {i : Nat} {cs : Array Value} {t : TypeId} {fr : Nat × Nat}, Has w i (.cells cs t fr) → t ≠ 3 → ¬ (i = q ∨ i = m) := fun {i cs t fr} hi ht e => by
    rcases e with rfl | rfl
    · exact own_apart hrow hi ht hq
    · exact Has.apart hi hmap (by simp) rfl
  refine ⟨h.head.kept K (hqm h.head (by decide)), Has.kept h.giver K (hqm h.giver (by decide)), h.rows.kept K fun i hi e => ?_, hM, fun x => ?_, fun x y i hxy hx hy => ?_, h.hb, h.hg, h.hm, h.hv⟩
  · rcases h.rows.2 with ⟨hv, _⟩ | ⟨g', cap, cur, hv, _, hh, _⟩
    · rw [hv] at hi
      cases hi
    · rw [hv] at hi
      obtain rfl : g' = i := by simpa [Value.ownBlock] using hi
      exact hqm hh (by decide) e
  · by_cases e : x = node
    · subst e
      rw [upd_self, upd_self]
      exact hv'
    · rw [upd_other e, upd_other e]
      refine ⟨own_kept (h.ids x).1 K fun i hi hF => ?_, (h.ids x).2⟩
      rcases hF with rfl | rfl
      · exact h.apart x node i e hi hq
      · rcases (h.ids x).1.2 with ⟨hv, _⟩ | ⟨g', cap, cur, hv, _, hh, _⟩
        · rw [hv] at hi
          cases hi
        · rw [hv] at hi
          obtain rfl : g' = i := by simpa [Value.ownBlock] using hi
          exact Has.apart hh hmap (by simp) rfl
  · by_cases e1 : x = node
    · subst e1
      rw [upd_self] at hx
      rw [upd_other (fun e => hxy e.symm)] at hy
      rw [ho i hx] at hy
      exact h.apart x y q hxy hq hy
    · rw [upd_other e1] at hx
      by_cases e2 : y = node
      · subst e2
        rw [upd_self] at hy
        rw [ho i hy] at hx
        exact h.apart x y q hxy hx hq
      · rw [upd_other e2] at hy
        exact h.apart x y i hxy hx hy
set_option maxHeartbeats 4000000 in
theorem lsLeave (id : Int) (ys zs : List Int) (h : Lsts S w b g m k n v f B I) (hn : n ≤ 1000) (hI : I node = ys ++ id :: zs) (hy : id ∉ ys) (hz : id ∉ zs) (hl : (I node).length ≤ 1000) (h0 : -9223372036854775808 ≤ node) (h1 : node ≤ 9223372036854775807) :
    Calls Try.prog 24 #[ptrL b, .int .i64 node, .int .i64 id] w fun e w' => e = .returned (.tuple #[]) ∧ (∃ f', Lsts S w' b g m k n v f' B (upd I node (ys ++ zs))) ∧ Keeps S w w' := by
  unfold ptrL
  have hmf : ∀ (fn : Fn) (first cap : Array Value) (w : World), (Instr.makeFunc fn first cap).run Try.prog w = .ok (.func fn first cap) w := fun _ _ _ _ => rfl
  obtain ⟨W, hW⟩ : ∃ W, W = w.alloc (.cells #[.int .i64 id] 3) := ⟨_, rfl⟩
  have hbW : Below w.heap.size w W := by rw [hW]; exact (Below.refl _ w).alloc (Nat.le_refl _) _
  have hWc : W.cell? ⟨w.heap.size, 0, none⟩ = some (.int .i64 id) := by rw [hW]; exact (Has.fresh _ _).cell 0
  have hh := h.below hbW
  have hK := hh.ids node
  rw [hI] at hl hK
  obtain ⟨q, cap, hfq, hc1, hc2, hR⟩ := own_row hK.1 (by rw [List.length_append, List.length_cons]; omega)
  have hqin : q < w.heap.size := (own_in (h.ids node).1 q (by rw [hfq]; rfl))
  have hD := delete_same (C := w.heap.size) cap (by omega) hc1 hR hWc (by omega) hy hz
  have hlook := hh.map.look (x := node) h0 h1
  rw [hfq] at hlook
  have c2 : W.cell? ⟨b, 2, none⟩ = some (.map (some m)) := hh.head.cell 2
  have hq' : (f node).ownBlock = some q := by rw [hfq]; rfl
  have hSq : S q := (h.ids node).2 q hq'
  -- behind DeleteFunc
  have HB : Hid (∀ w2, RowAt w2 q cap (ys ++ zs).length (fun t => (ys ++ zs).getD t 0) → Keeps (Just [q]) W w2 → w2.cell? ⟨b, 2, none⟩ = some (.map (some m)) ∧ Mp w2 m n f ∧
      (∀ w3, ys ++ zs = [] → Mp w3 m n (upd f node (.slice none 0 0)) → Keeps (fun i => i = m) w2 w3 → (∃ f', Lsts S w3 b g m k n v f' B (upd I node (ys ++ zs))) ∧ Keeps S w w3) ∧
      (∀ w3, Mp w3 m n (upd f node (.slice (some ⟨q, 0, none⟩) (ys ++ zs).length cap)) → Keeps (fun i => i = m) w2 w3 → (∃ f', Lsts S w3 b g m k n v f' B (upd I node (ys ++ zs))) ∧ Keeps S w w3)) := Lib.hid fun w2 hR2 hk2 => by
    obtain ⟨es, cl, hmap⟩ := hh.map.there
    have hmq : m ≠ q := fun e => by
      subst e
      obtain ⟨cur, hcur, -⟩ := hR.row
      exact Has.apart hcur hmap (by simp) rfl
    have hbq : b ≠ q := fun e => by
      subst e
      obtain ⟨cur, hcur, -⟩ := hR.row
      exact Has.apart hcur hh.head (by simp) rfl
    have kk : ∀ w3, Keeps (fun i => i = m) w2 w3 → Keeps (fun i => i = q ∨ i = m) W w3 := fun w3 k3 => (hk2.wide fun i _ hi => .inl (List.mem_singleton.1 hi)).trans k3 fun i _ hi => .inr hi
    have ks : ∀ w3, Keeps (fun i => i = m) w2 w3 → Keeps S w w3 := fun w3 k3 => (Keeps.of_below (F := S) hbW fun i hi hle => by omega).trans (kk w3 k3) fun i _ hi => by
      rcases hi with rfl | rfl
      · exact hSq
      · exact h.hm
    refine ⟨(hh.head.kept hk2 (just_ne hbq)).cell 2, hh.map.kept hk2 (just_ne hmq), fun w3 he hM k3 => ⟨⟨_, hh.left hq' (kk w3 k3) hM (by rw [he]; exact kids_nil _ _) fun i hi => by cases hi⟩, ks w3 k3⟩, fun w3 hM k3 => ⟨⟨_, hh.left hq' (kk w3 k3) hM ⟨?_, fun i hi => ?_⟩ fun i hi => ?_⟩, ks w3 k3⟩⟩
    · refine own_kept (hR2.own (Nat.le_refl _) (by simp at hc1 ⊢; omega) hc2 fun t ht => ?_) k3 fun i hi e => ?_
      · rw [List.getD_eq_getElem?_getD, List.getElem?_eq_getElem ht]
        rfl
      · obtain rfl : q = i := by simpa [Value.ownBlock] using hi
        exact hmq e.symm
    · obtain rfl : q = i := by simpa [Value.ownBlock] using hi
      exact hSq
    · have : q = i := by simpa [Value.ownBlock] using hi
      exact this.symm
  have HNE : Hid (f node ≠ .slice none 0 0) := Lib.hid (by rw [hfq]; intro e; cases e)
  have HE : Hid (∀ l : Nat, ∃ d, sEnc (.slice (some ⟨q, 0, none⟩) l cap) = some (d, [])) := Lib.hid fun l => ⟨_, rfl⟩
  have HZ : Hid ((ys ++ zs).length = 0 → ys ++ zs = []) := Lib.hid List.length_eq_zero_iff.1
  have HD := Lib.hid hD
  obtain ⟨X, hX⟩ : ∃ X, X = (ys ++ id :: zs).length := ⟨_, rfl⟩
  obtain ⟨Y, hY⟩ : ∃ Y, Y = (ys ++ zs).length := ⟨_, rfl⟩
  rw [← hX] at HD hlook
  rw [← hY] at HD HZ HB
  subst hW
  clear hD hR hK hh hq' hfq hWc hbW hI hy hz hX hY hl hc1 hc2 h
  go_enter Try.func24, Try.ntmps24
  go_wp2_with fail
  refine HD.out.mono ?_
  rintro e w2 ⟨rfl, hR2, hk2⟩
  obtain ⟨d2, hM2, hfin0, hfin1⟩ := HB.out w2 hR2 hk2
  have HM2 := Lib.hid hM2
  have HF0 := Lib.hid hfin0
  have HF1 := Lib.hid hfin1
  clear hM2 hfin0 hfin1 hR2 hk2 HB HD
  by_cases hYz : Y = 0
  · have hnil := HZ.out hYz
    have HN := Lib.hid hnil
    subst hYz
    clear hnil
    go_wp2_with (at_delete; go_loud (refine wpList_mapDel rfl (.tmp 21) (.tmp 22) rfl rfl rfl HM2.out h0 h1 ?_; intro w3 hM3 hk3))
    first | go_end0 | (simp only [Exit.inBlock, Exit.then]; refine bodyPost_ret (results_none rfl _ _ _) rfl ?_) | refine bodyPost_ret (results_none rfl _ _ _) rfl ?_
    exact ⟨rfl, HF0.out w3 HN.out hM3 hk3⟩
  · have hYp : ((Y : Int) == 0) = false := by rw [beq_eq_false_iff_ne]; omega
    go_wp2_with (at_mapUpdate; go_loud (refine wpList_mapPut rfl (.tmp 26) (.tmp 27) (.tmp 28) rfl rfl rfl rfl HM2.out h0 h1 (by omega) (HE.out Y) ?_; intro w3 hM3 hM4 hk3))
    first | go_end0 | (simp only [Exit.inBlock, Exit.then]; refine bodyPost_ret (results_none rfl _ _ _) rfl ?_) | refine bodyPost_ret (results_none rfl _ _ _) rfl ?_
    exact ⟨rfl, HF1.out w3 (hM4 HNE.out) hk3⟩
theorem lsKill_nil (i : Int) (w : World) : Calls Try.prog 10 #[.pointer none, .int .i64 i] w fun e w' => e = .returned (.bool false) ∧ w = w' := by
  go_enter Try.func10, Try.ntmps10
  go_wp2_with fail
  refine (lsFind_nil i _).mono ?_
  rintro e w1 ⟨rfl, rfl⟩
  go_wp2
  go_ret
  exact ⟨rfl, rfl⟩
set_option maxHeartbeats 4000000 in
theorem lsKill (i : Int) (h : Lst S w b B) : Calls Try.prog 10 #[ptrL b, .int .i64 i] w fun e w' => e = .returned (.bool (lsAlive B i)) ∧ Lst S w' b (killLs B i) ∧ Keeps S w w' := by
  cases ht : lThere B i with
  | false =>
    have e1 : lsAlive B i = false := by unfold lsAlive; rw [ht]; rfl
    have e2 : killLs B i = B := by unfold killLs; rw [e1]; exact if_neg (by decide)
    rw [e1, e2]
    have HF := Lib.hid (lsFind_not i h ht)
    have H := Lib.hid h
    clear h ht e1 e2
    go_enter Try.func10, Try.ntmps10
    go_wp2_with fail
    refine HF.out.mono ?_
    rintro e w1 ⟨rfl, n, rfl⟩
    go_wp2
    go_ret
    exact ⟨rfl, H.out.drewN n, (Keeps.refl _ _).drewN n⟩
  | true =>
    obtain ⟨j, rfl, hj⟩ := lThere_at ht
    have H := Lib.hid h
    obtain ⟨ok, hSb, ⟨rfl, -⟩ | ⟨g, m, v, f, hh⟩⟩ := h
    · exact absurd hj (Nat.not_lt_zero _)
    obtain ⟨q, c, rfl, hcc, hSq, hq, hfz, hc⟩ := hh.row hj
    have HF := Lib.hid (lsFind hh ok hj)
    cases hr : B[j].rem with
    | true =>
      have e1 : lsAlive B ((j : Int) + 1) = false := by unfold lsAlive; rw [lsAt_at hj, hr, Bool.and_comm]; rfl
      have e2 : killLs B ((j : Int) + 1) = B := by unfold killLs; rw [e1]; exact if_neg (by decide)
      rw [e1, e2]
      obtain ⟨-, -, -, -, -, -, -, -, c8⟩ := nine_of hc
      rw [hr] at c8
      clear hh ok ht hj e1 e2 hc hr hfz
      go_enter Try.func10, Try.ntmps10
      go_wp2_with fail
      refine HF.out.mono ?_
      rintro e w1 ⟨rfl, n, rfl⟩
      have d8 : (w.drewN n).cell? ⟨q, j * 9 + 8, none⟩ = some (.bool true) := c8
      go_wp2
      go_ret
      exact ⟨rfl, H.out.drewN n, (Keeps.refl _ _).drewN n⟩
    | false =>
      have e1 : lsAlive B ((j : Int) + 1) = true := by unfold lsAlive; rw [ht, lsAt_at hj, hr]; rfl
      have okK := lsOk_kill (k := (j : Int) + 1) ok
      rw [e1]
      rw [killLs_set hj hr] at okK ⊢
      obtain ⟨ys, zs, hI, hy, hz, hidk⟩ := idsL_kill ok hj hr
      have hfit := ok.fit B[j] (List.getElem_mem hj)
      have hIl : (idsL B B[j].node).length ≤ 1000 := by unfold idsL; rw [List.length_map]; exact Nat.le_trans (Nat.le_trans (atLs_len _ _) ok.few) (by decide)
      obtain ⟨c0, -, -, -, -, -, -, -, c8⟩ := nine_of hc
      rw [hr] at c8
      have hf8 := hfz (j * 9 + 8)
      have hfew := ok.few
      -- the world behind the store
      have HW : Hid (∀ n, ∃ W, W = (w.drewN n).setCell ⟨q, j * 9 + 8, none⟩ (.bool true) ∧ W.cell? ⟨q, j * 9, none⟩ = some (.int .i64 B[j].node) ∧ Keeps S w W ∧ Lsts S W b g m B.length B.length (.slice (some ⟨q, 0, none⟩) B.length c) f (B.set j { B[j] with rem := true }) (idsL B)) := Lib.hid fun n => by
        have hhn := hh.below (below_drawn w n)
        have hk : Keeps (fun i => i = q) (w.drewN n) ((w.drewN n).setCell ⟨q, j * 9 + 8, none⟩ (.bool true)) := Keeps.store (F := fun i => i = q) (p := ⟨q, j * 9 + 8, none⟩) (Keeps.refl _ _) (.inl rfl) _
        have hst : Recs RE 63 0 ((w.drewN n).setCell ⟨q, j * 9 + 8, none⟩ (.bool true)) (.slice (some ⟨q, 0, none⟩) B.length c) (B.set j { B[j] with rem := true }) := Recs.store (R := RE) (f := 8) hhn.rows (List.getElem?_eq_getElem hj) (by decide) rfl
        obtain ⟨es, cl, hmap⟩ := hhn.map.there
        obtain ⟨cur, hcur⟩ : ∃ cur, Has (w.drewN n) q (.cells cur 63 (0, 0)) := by
          rcases hhn.rows.2 with ⟨hv, _⟩ | ⟨g', cap, cur, hv, _, hh', _⟩
          · cases hv
          · obtain rfl : q = g' := by injection hv with e1 _ _; simpa using e1
            exact ⟨cur, hh'⟩
        refine ⟨_, rfl, ?_, ((Keeps.refl S w).drewN n).trans hk fun i _ hi => by rw [hi]; exact hSq, ?_⟩
        · rw [World.cell?_setCell_other]
          · exact c0
          · intro e
            simp at e
        · refine ⟨hhn.head.kept hk fun e => Has.apart hcur hhn.head (by simp) e.symm, Has.kept hhn.giver hk fun e => Has.apart hcur hhn.giver (by simp) e.symm, hst, hhn.map.kept hk fun e => Has.apart hcur hmap (by simp) e.symm, fun x => ?_, hhn.apart, hhn.hb, hhn.hg, hhn.hm, hhn.hv⟩
          exact ⟨own_kept (hhn.ids x).1 hk fun i hi e => own_apart (hhn.ids x).1 hcur (by decide) (e ▸ hi), (hhn.ids x).2⟩
      have HE : Hid (∀ w', (∃ f', Lsts S w' b g m B.length B.length (.slice (some ⟨q, 0, none⟩) B.length c) f' (B.set j { B[j] with rem := true }) (upd (idsL B) B[j].node (ys ++ zs))) → Lst S w' b (B.set j { B[j] with rem := true })) := Lib.hid fun w' ⟨f', hL⟩ => by
        refine ⟨okK, hSb, .inr ⟨g, m, .slice (some ⟨q, 0, none⟩) B.length c, f', ?_⟩⟩
        rw [List.length_set, hidk]
        exact hL
      have HL : Hid (∀ W, Lsts S W b g m B.length B.length (.slice (some ⟨q, 0, none⟩) B.length c) f (B.set j { B[j] with rem := true }) (idsL B) → Calls Try.prog 24 #[ptrL b, .int .i64 B[j].node, .int .i64 ((j : Int) + 1)] W fun e w' => e = .returned (.tuple #[]) ∧ (∃ f', Lsts S w' b g m B.length B.length (.slice (some ⟨q, 0, none⟩) B.length c) f' (B.set j { B[j] with rem := true }) (upd (idsL B) B[j].node (ys ++ zs))) ∧ Keeps S W w') := Lib.hid fun W hWs => lsLeave ((j : Int) + 1) ys zs hWs (by omega) hI hy hz hIl (by omega) (by omega)
      obtain ⟨D, hD⟩ : ∃ D, D = B.set j { B[j] with rem := true } := ⟨_, rfl⟩
      obtain ⟨nd, hnd⟩ : ∃ nd, nd = B[j].node := ⟨_, rfl⟩
      rw [← hD] at HE HL HW ⊢
      rw [← hnd] at HE HL HW
      have hnot : ∀ (x : Bool) (w : World), (Op.unary .not (.bool x)).run Try.prog w = .ok (.bool (!x)) w := fun _ _ => rfl
      clear hh ok ht hj e1 hc hr hfz okK hI hy hz hidk hfit hIl c0 hfew hD hnd H
      unfold ptrL at HL
      go_enter Try.func10, Try.ntmps10
      go_wp2_with fail
      refine HF.out.mono ?_
      rintro e w1 ⟨rfl, n, rfl⟩
      have d8 : (w.drewN n).cell? ⟨q, j * 9 + 8, none⟩ = some (.bool false) := c8
      have f8 : (w.drewN n).frozen? ⟨q, j * 9 + 8, none⟩ = false := hf8
      obtain ⟨W, hW, d0, hkW, hLW⟩ := HW.out n
      have HkW := Lib.hid hkW
      have HLW := Lib.hid hLW
      clear hkW hLW HW HF
      subst hW
      go_wp2_with fail
      refine (HL.out _ HLW.out).mono ?_
      rintro e w3 ⟨rfl, hL3, hk3⟩
      have hfin := HE.out w3 hL3
      have HX := Lib.hid hfin
      have HK3 := Lib.hid (HkW.out.also hk3)
      clear hL3 hk3 hfin
      go_wp2
      go_ret
      exact ⟨rfl, HX.out, HK3.out⟩
end
end Go.Proofs.Ytgdgmcehkhimpaa

namespace Go.Proofs.Ytgdgmcehkhimpaa
open Go Go.RowKit

/-- A number, as a record of one cell. -/
def RI : Rec Int := ⟨fun x => [.int .i64 x], 1, fun _ => rfl, fun a u hu => by
  obtain rfl := List.mem_singleton.1 hu
  rfl, by decide⟩
theorem flat_ints : ∀ xs : List Int, flatR RI xs = xs.map (Value.int .i64)
  | [] => rfl
  | x :: r => by rw [flatR_cons, flat_ints r]; rfl
/-- May it be added, but for how many there are? -/
def fitB (node : Int) (t : ByteArray) (cb sig : Int) : Bool := decide (1 ≤ node) && decide (1 ≤ cb) && decide (0 ≤ sig) && rightL t.data.toList
section
variable {w : World} {xi xc xs node : Int} {xt : ByteArray} {xa xo xp xr : Bool}
set_option maxHeartbeats 1000000 in
theorem lsFits (ht : xt.size ≤ 9223372036854775807) : Calls Try.prog 20 #[.int .i64 node, .agg #[.int .i64 xi, .string xt, .int .i64 xc, .bool xa, .bool xo, .bool xp, .int .i64 xs, .bool xr]] w fun e w' => e = .returned (.bool (fitB node xt xc xs)) ∧ Below w.heap.size w w' := by
  have hbb : Below w.heap.size w (w.alloc (.cells #[.int .i64 xi, .string xt, .int .i64 xc, .bool xa, .bool xo, .bool xp, .int .i64 xs, .bool xr] 34)) := (Below.refl _ w).alloc (Nat.le_refl _) _
  have HR := Lib.hid (right_any xt (w.alloc (.cells #[.int .i64 xi, .string xt, .int .i64 xc, .bool xa, .bool xo, .bool xp, .int .i64 xs, .bool xr] 34)) ht)
  have HB := Lib.hid hbb
  clear hbb
  by_cases h1 : 1 ≤ node
  · have d1 : decide (1 ≤ node) = true := decide_eq_true h1
    by_cases h2 : 1 ≤ xc
    · have d2 : decide (1 ≤ xc) = true := decide_eq_true h2
      by_cases h3 : 0 ≤ xs
      · have d3 : decide (0 ≤ xs) = true := decide_eq_true h3
        have e : fitB node xt xc xs = rightL xt.data.toList := by unfold fitB; rw [d1, d2, d3]; rfl
        rw [e]
        clear e h1 h2 h3
        go_enter Try.func20, Try.ntmps20
        go_wp2_with fail
        refine HR.out.mono ?_
        rintro e w1 ⟨rfl, hb1⟩
        have HB1 := Lib.hid (HB.out.trans (hb1.mono HB.out.size))
        clear hb1
        go_wp2
        go_ret
        exact ⟨rfl, HB1.out⟩
      · have d3 : decide (0 ≤ xs) = false := decide_eq_false h3
        have e : fitB node xt xc xs = false := by unfold fitB; rw [d1, d2, d3]; rfl
        rw [e]
        clear e h1 h2 h3
        go_enter Try.func20, Try.ntmps20
        go_wp2
        go_ret
        exact ⟨rfl, HB.out⟩
    · have d2 : decide (1 ≤ xc) = false := decide_eq_false h2
      have e : fitB node xt xc xs = false := by unfold fitB; rw [d1, d2]; rfl
      rw [e]
      clear e h1 h2
      go_enter Try.func20, Try.ntmps20
      go_wp2
      go_ret
      exact ⟨rfl, HB.out⟩
  · have d1 : decide (1 ≤ node) = false := decide_eq_false h1
    have e : fitB node xt xc xs = false := by unfold fitB; rw [d1]; rfl
    rw [e]
    clear e h1
    go_enter Try.func20, Try.ntmps20
    go_wp2
    go_ret
    exact ⟨rfl, HB.out⟩
end

section
variable {S : Nat → Prop} {w w' : World} {b g m k k' n n' : Nat} {v v' : Value} {f : Int → Value} {B B' : List Ls} {I : Int → List Int} {node : Int} {L : List Int} {u : Value}
/-- The giver gave one more. -/
theorem Lsts.gave (h : Lsts S w b g m k n v f B I) (hG : Giver w' g 512 k') (K : Keeps (Just [g]) w w') : Lsts S w' b g m k' n v f B I := by
  obtain ⟨es, cl, hmap⟩ := h.map.there
  have hg := h.giver
  refine ⟨h.head.kept K fun e => Has.apart h.head hg (by simp) (List.mem_singleton.1 e), hG, h.rows.kept K fun i hi e => ?_, h.map.kept K fun e => Has.apart hmap hg (by simp) (List.mem_singleton.1 e), fun x => ⟨own_kept (h.ids x).1 K fun i hi e => ?_, (h.ids x).2⟩, h.apart, h.hb, h.hg, h.hm, h.hv⟩
  · exact own_apart h.rows hg (by decide) (List.mem_singleton.1 e ▸ hi)
  · exact own_apart (h.ids x).1 hg (by decide) (List.mem_singleton.1 e ▸ hi)
/-- One more stands in the row. -/
theorem Lsts.pushed (h : Lsts S w b g m k n v f B I) (hR : Recs RE 63 0 w' v' B') (hH : Has w' b (.cells #[.pointer (some ⟨g, 0, none⟩), v', .map (some m)] 55 (0, 0))) (K : Keeps (fun i => v.ownBlock = some i ∨ i = b) w w') (hv' : ∀ i, v'.ownBlock = some i → S i) : Lsts S w' b g m k n v' f B' I := by
  obtain ⟨es, cl, hmap⟩ := h.map.there
  refine ⟨hH, Has.kept h.giver K fun e => ?_, hR, h.map.kept K fun e => ?_, fun x => ⟨own_kept (h.ids x).1 K fun i hi e => ?_, (h.ids x).2⟩, h.apart, h.hb, h.hg, h.hm, hv'⟩
  · rcases e with e | e
    · exact own_apart h.rows h.giver (by decide) e
    · exact Has.apart h.giver h.head (by simp) e
  · rcases e with e | e
    · rcases h.rows.2 with ⟨hv, _⟩ | ⟨g', cap, cur, hv, _, hh, _⟩
      · rw [hv] at e
        cases e
      · rw [hv] at e
        obtain rfl : g' = m := by simpa [Value.ownBlock] using e
        exact Has.apart hh hmap (by simp) rfl
    · exact Has.apart hmap h.head (by simp) e
  · rcases e with e | e
    · exact own_apart2 (h.ids x).1 h.rows (by decide) i e hi
    · exact own_apart (h.ids x).1 h.head (by decide) (e ▸ hi)
/-- One node's slice is another one, in its own row or a new one. -/
theorem Lsts.turn (h : Lsts S w b g m k n v f B I) (K : Keeps (fun i => (f node).ownBlock = some i ∨ i = m) w w') (hM : Mp w' m n' (upd f node v')) (hv' : Kids S w' v' L) (ho : ∀ i, v'.ownBlock = some i → (f node).ownBlock = some i ∨ w.heap.size ≤ i) : Lsts S w' b g m k n' v (upd f node v') B (upd I node L) := by
  obtain ⟨es, cl, hmap⟩ := h.map.there
  have hrow := (h.ids node).1
  have hqm : ∀ {i : Nat} {cs : Array Value} {t : TypeId} {fr : Nat × Nat}, Has w i (.cells cs t fr) → t ≠ 3 → ¬ ((f node).ownBlock = some i ∨ i = m) := fun {i cs t fr} hi ht e => by
    rcases e with e | rfl
    · exact own_apart hrow hi ht e
    · exact Has.apart hi hmap (by simp) rfl
  refine ⟨h.head.kept K (hqm h.head (by decide)), Has.kept h.giver K (hqm h.giver (by decide)), h.rows.kept K fun i hi e => ?_, hM, fun x => ?_, fun x y i hxy hx hy => ?_, h.hb, h.hg, h.hm, h.hv⟩
  · rcases h.rows.2 with ⟨hv, _⟩ | ⟨g', cap, cur, hv, _, hh, _⟩
    · rw [hv] at hi
      cases hi
    · rw [hv] at hi
      obtain rfl : g' = i := by simpa [Value.ownBlock] using hi
      exact hqm hh (by decide) e
  · by_cases e : x = node
    · subst e
      rw [upd_self, upd_self]
      exact hv'
    · rw [upd_other e, upd_other e]
      refine ⟨own_kept (h.ids x).1 K fun i hi hF => ?_, (h.ids x).2⟩
      rcases hF with hF | rfl
      · exact h.apart x node i e hi hF
      · rcases (h.ids x).1.2 with ⟨hv, _⟩ | ⟨g', cap, cur, hv, _, hh, _⟩
        · rw [hv] at hi
          cases hi
        · rw [hv] at hi
          obtain rfl : g' = i := by simpa [Value.ownBlock] using hi
          exact Has.apart hh hmap (by simp) rfl
  · by_cases e1 : x = node
    · subst e1
      rw [upd_self] at hx
      rw [upd_other (fun e => hxy e.symm)] at hy
      rcases ho i hx with hx | hx
      · exact h.apart x y i hxy hx hy
      · have := own_in (h.ids y).1 i hy
        omega
    · rw [upd_other e1] at hx
      by_cases e2 : y = node
      · subst e2
        rw [upd_self] at hy
        rcases ho i hy with hy | hy
        · exact h.apart x y i hxy hx hy
        · have := own_in (h.ids x).1 i hx
          omega
      · rw [upd_other e2] at hy
        exact h.apart x y i hxy hx hy
theorem idsL_add {y : Ls} (hr : y.rem = false) : idsL (B ++ [y]) = upd (idsL B) y.node (idsL B y.node ++ [y.id]) := by
  funext x
  rw [idsL_append, idsL_cons]
  by_cases e : x = y.node
  · subst e
    rw [upd_self, if_pos ⟨rfl, hr⟩]
    rfl
  · rw [upd_other e, if_neg fun h => e h.1.symm]
    show idsL B x ++ ([] ++ []) = _
    rw [List.append_nil, List.append_nil]
end
end Go.Proofs.Ytgdgmcehkhimpaa

namespace Go.Proofs.Ytgdgmcehkhimpaa
open Go Go.RowKit

theorem Try.infoI : (Try.prog.info? 3).map (fun i => (i.zero, i.size, i.bytes)) = some (some (.int .i64 0), 1, 8) := by kernel_rfl
section
variable {S : Nat → Prop} {w : World} {b : Nat} {B : List Ls} {xi xc xs node : Int} {xt : ByteArray} {xa xo xp xr : Bool}
/-- A new list: its giver and its map are made. -/
theorem lsts_new {w3 : World} {g m : Nat} (hb : S b) (hg : S g) (hm : S m) (h : Has w3 b (.cells #[.pointer (some ⟨g, 0, none⟩), .slice none 0 0, .map (some m)] 55 (0, 0))) (hG : Giver w3 g 512 0) (hM : Mp w3 m 0 fun _ => .slice none 0 0) : Lsts S w3 b g m 0 0 (.slice none 0 0) (fun _ => .slice none 0 0) [] (idsL []) :=
  ⟨h, hG, Recs.nil _ _ _ _, hM, (fun _ => kids_nil _ _), (fun _ _ _ _ h => by cases h), hb, hg, hm, (fun _ h => by cases h)⟩
set_option maxHeartbeats 8000000 in
set_option maxRecDepth 100000 in
theorem lsKeep (n : Nat) (hn : n = B.length) (h : Lst S w b B) (hS : Fut S w.heap.size) (hl : n < 512) (h0 : 1 ≤ node) (h1 : node ≤ 9223372036854775807) :
    Calls Try.prog 21 #[ptrL b, .int .i64 node, .agg #[.int .i64 xi, .string xt, .int .i64 xc, .bool xa, .bool xo, .bool xp, .int .i64 xs, .bool xr]] w fun e w' => e = .returned (.int .i64 ((n : Int) + 1)) ∧ (∃ g m v f, Lsts S w' b g m (n + 1) (n + 1) v f (B ++ [(⟨(n : Int) + 1, xt, xc, xa, xo, xp, xs, false, node⟩ : Ls)]) (upd (idsL B) node (idsL B node ++ [(n : Int) + 1]))) ∧ Keeps S w w' := by
  unfold ptrL
  have hmm := @run_makeMap Try.prog
  obtain ⟨W, hW⟩ : ∃ W, W = w.alloc (.cells #[.int .i64 xi, .string xt, .int .i64 xc, .bool xa, .bool xo, .bool xp, .int .i64 xs, .bool xr] 34) := ⟨_, rfl⟩
  have hbW : Below w.heap.size w W := by rw [hW]; exact (Below.refl _ w).alloc (Nat.le_refl _) _
  have hsW : W.heap.size = w.heap.size + 1 := by rw [hW]; simp
  have hbox : Has W w.heap.size (.cells #[.int .i64 xi, .string xt, .int .i64 xc, .bool xa, .bool xo, .bool xp, .int .i64 xs, .bool xr] 34 (0, 0)) := by rw [hW]; exact Has.fresh _ _
  have hkW : Keeps S w W := Keeps.of_below hbW fun i hi hle => by omega
  have hLW := h.below hbW
  obtain ⟨ok, hSb, hcase⟩ := hLW
  have hREL : Hid (∀ wc, (∃ g m v f, Lsts S wc b g m B.length B.length v f B (idsL B)) → Has wc w.heap.size (.cells #[.int .i64 xi, .string xt, .int .i64 xc, .bool xa, .bool xo, .bool xp, .int .i64 xs, .bool xr] 34 (0, 0)) → Keeps S w wc → (∃ g m v f, Lsts S wc b g m n n v f B (idsL B)) ∧ Has wc w.heap.size (.cells #[.int .i64 xi, .string xt, .int .i64 xc, .bool xa, .bool xo, .bool xp, .int .i64 xs, .bool xr] 34 (0, 0)) ∧ Keeps S w wc) := Lib.hid fun wc q1 q2 q3 => ⟨by rw [hn]; exact q1, q2, q3⟩
  have HC := Lib.hid hcase
  have HW := Lib.hid hW
  have HS := Lib.hid hS
  have HBox := Lib.hid hbox
  have HKW := Lib.hid hkW
  have HsW := Lib.hid hsW
  have HbW := Lib.hid hbW
  have HHn := Lib.hid hn
  obtain ⟨p, c0, hp⟩ : ∃ p, W.cell? ⟨b, 0, none⟩ = some (.pointer p) ∧ ((p = none ∧ B = [] ∧ Has W b (.cells #[.pointer none, .slice none 0 0, .map none] 55 (0, 0))) ∨ (∃ g, p = some ⟨g, 0, none⟩) ∧ ∃ g m v f, Lsts S W b g m B.length B.length v f B (idsL B)) := by
    rcases hcase with ⟨h1, hh⟩ | ⟨g, m, v, f, hh⟩
    · exact ⟨_, hh.cell 0, .inl ⟨rfl, h1, hh⟩⟩
    · exact ⟨_, hh.head.cell 0, .inr ⟨⟨_, rfl⟩, g, m, v, f, hh⟩⟩
  have HP := Lib.hid hp
  clear hcase hbox hkW hsW hbW hS h hn hp HC
  subst hW
  go_enter Try.func21, Try.ntmps21
  go_upto_if 13 with (fail)
  go_cut [] (fun wc => (∃ g m v f, Lsts S wc b g m n n v f B (idsL B)) ∧ Has wc w.heap.size (.cells #[.int .i64 xi, .string xt, .int .i64 xc, .bool xa, .bool xo, .bool xp, .int .i64 xs, .bool xr] 34 (0, 0)) ∧ Keeps S w wc)
  case first =>
    rcases HP.out with ⟨rfl, hB, hh⟩ | ⟨⟨g0, rfl⟩, hL⟩
    · have HH := Lib.hid hh
      have HB := Lib.hid hB
      have hN := new_any 512 (w.alloc (.cells #[.int .i64 xi, .string xt, .int .i64 xc, .bool xa, .bool xo, .bool xp, .int .i64 xs, .bool xr] 34)) (by omega) (by omega)
      rw [show max (512 : Int) 0 = 512 by decide, HsW.out] at hN
      have HN := Lib.hid hN
      clear hh hB hN HP
      go_wp2_with fail
      refine HN.out.mono ?_
      rintro e w1 ⟨rfl, hg, hb1, hs1⟩
      rw [← HsW.out] at hb1
      have hb2 := hb1.alloc hb1.size (.map #[] 0)
      have hh2 := HH.out.below hb2 HH.out.inside
      have hbx2 := HBox.out.below hb2 HBox.out.inside
      have hg2 : Giver (w1.alloc (.map #[] 0)) (w.heap.size + 1) 512 0 := Has.more hg _
      have hM2 : Mp (w1.alloc (.map #[] 0)) w1.heap.size 0 fun _ => .slice none 0 0 := Mp.made w1
      have hbi := HH.out.inside
      have d0 := hh2.cell 0
      have d2 := hh2.cell 2
      have f0 := hh2.free 0
      have f2 := hh2.free 2
      have hbw : b < w.heap.size + 1 := by have := HsW.out; omega
      have hbne : b ≠ w.heap.size := Has.apart HH.out HBox.out (by simp)
      have hFin : Hid (Lsts S (((w1.alloc (.map #[] 0)).setCell ⟨b, 0, none⟩ (.pointer (some ⟨w.heap.size + 1, 0, none⟩))).setCell ⟨b, 2, none⟩ (.map (some w1.heap.size))) b (w.heap.size + 1) w1.heap.size 0 0 (.slice none 0 0) (fun _ => .slice none 0 0) [] (idsL []) ∧
          Has (((w1.alloc (.map #[] 0)).setCell ⟨b, 0, none⟩ (.pointer (some ⟨w.heap.size + 1, 0, none⟩))).setCell ⟨b, 2, none⟩ (.map (some w1.heap.size))) w.heap.size (.cells #[.int .i64 xi, .string xt, .int .i64 xc, .bool xa, .bool xo, .bool xp, .int .i64 xs, .bool xr] 34 (0, 0)) ∧
          Keeps S w (((w1.alloc (.map #[] 0)).setCell ⟨b, 0, none⟩ (.pointer (some ⟨w.heap.size + 1, 0, none⟩))).setCell ⟨b, 2, none⟩ (.map (some w1.heap.size)))) := Lib.hid (by
        have hs1' := hs1
        have hle : w.heap.size ≤ w1.heap.size := by omega
        refine ⟨lsts_new hSb (HS.out _ (by omega)) (HS.out _ hle) ?_ ?_ ?_, ?_, ?_⟩
        · have := (hh2.stored 0 (.pointer (some ⟨w.heap.size + 1, 0, none⟩))).stored 2 (.map (some w1.heap.size))
          simpa using this
        · exact Has.aside (Has.aside hg2 (by show w.heap.size + 1 ≠ b; omega) _) (by show w.heap.size + 1 ≠ b; omega) _
        · have k0 : Keeps (fun i => i = b) (w1.alloc (.map #[] 0)) (((w1.alloc (.map #[] 0)).setCell ⟨b, 0, none⟩ (.pointer (some ⟨w.heap.size + 1, 0, none⟩))).setCell ⟨b, 2, none⟩ (.map (some w1.heap.size))) := Keeps.store (F := fun i => i = b) (p := ⟨b, 2, none⟩) (Keeps.store (F := fun i => i = b) (p := ⟨b, 0, none⟩) (Keeps.refl _ _) (.inl rfl) _) (.inl rfl) _
          exact hM2.kept k0 (by show ¬ w1.heap.size = b; omega)
        · exact (hbx2.aside (by exact fun e => hbne e.symm) _).aside (by exact fun e => hbne e.symm) _
        · exact ((HKW.out.also (Keeps.of_below hb2 fun i hi hle => by omega)).store (p := ⟨b, 0, none⟩) (.inl hSb) _).store (p := ⟨b, 2, none⟩) (.inl hSb) _)
      clear hs1 hb1 hb2 hh2 hbx2 hg2 hM2 hbi hbw hbne hg
      go_wp2
      go_meet
      refine hREL.out _ ⟨w.heap.size + 1, w1.heap.size, .slice none 0 0, fun _ => .slice none 0 0, ?_⟩ hFin.out.2.1 hFin.out.2.2
      rw [HB.out]
      exact hFin.out.1
    · have HL := Lib.hid hL
      clear hL HP
      go_wp2
      go_meet
      exact hREL.out _ HL.out HBox.out HKW.out
  case rest =>
    obtain ⟨⟨g, m, v, f, hL⟩, hbx, hk⟩ := hcut
    have hbxne : w.heap.size ≠ g := Has.apart hbx hL.giver (by simp)
    have q0 := hL.head.cell 0
    have HN := Lib.hid (next_more g 512 n wc (by omega) (by omega) (by omega) hL.giver)
    have HL := Lib.hid hL
    have HX := Lib.hid hbx
    have HK := Lib.hid hk
    have HNE := Lib.hid hbxne
    clear hL hbx hk hbxne HKW HsW HbW HBox HP hREL c0
    go_wp2_with fail
    refine HN.out.mono ?_
    rintro e w1 ⟨rfl, hg1, hk1⟩
    have hg1' : Giver w1 g 512 ((n + 1 : Nat) : Int) := by rw [show ((n + 1 : Nat) : Int) = (n : Int) + 1 by omega]; exact hg1
    have hL1 := HL.out.gave hg1' hk1
    have hbx1 := HX.out.kept hk1 (just_ne HNE.out)
    have HK1 := Lib.hid (HK.out.trans hk1 fun i _ hi => by rw [List.mem_singleton.1 hi]; exact HL.out.hg)
    have b1 := hbx1.cell 1
    have b2 := hbx1.cell 2
    have b3 := hbx1.cell 3
    have b4 := hbx1.cell 4
    have b5 := hbx1.cell 5
    have b6 := hbx1.cell 6
    have HL1 := Lib.hid hL1
    clear hg1 hg1' hk1 hL1 hbx1 HX HK HN HL q0
    have hT : b ≠ w1.heap.size := by have := HL1.out.head.inside; omega
    have hb2 : Below w1.heap.size w1 (w1.alloc (.cells #[.int .i64 ((n : Int) + 1), .string xt, .int .i64 xc, .bool xa, .bool xo, .bool xp, .int .i64 xs, .bool false] 34)) := (Below.refl _ w1).alloc (Nat.le_refl _) _
    have hL2 := HL1.out.below hb2
    have hnew2 : Has (w1.alloc (.cells #[.int .i64 ((n : Int) + 1), .string xt, .int .i64 xc, .bool xa, .bool xo, .bool xp, .int .i64 xs, .bool false] 34)) w1.heap.size (.cells #[.int .i64 ((n : Int) + 1), .string xt, .int .i64 xc, .bool xa, .bool xo, .bool xp, .int .i64 xs, .bool false] 34 (0, 0)) := Has.fresh _ _
    have hS0 : ∀ W, Below (w1.alloc (.cells #[.int .i64 ((n : Int) + 1), .string xt, .int .i64 xc, .bool xa, .bool xo, .bool xp, .int .i64 xs, .bool false] 34)).heap.size (w1.alloc (.cells #[.int .i64 ((n : Int) + 1), .string xt, .int .i64 xc, .bool xa, .bool xo, .bool xp, .int .i64 xs, .bool false] 34)) W → (W.cell? ⟨w1.heap.size, 0, none⟩ = some (.int .i64 ((n : Int) + 1)) ∧ W.cell? ⟨w1.heap.size, 1, none⟩ = some (.string xt) ∧ W.cell? ⟨w1.heap.size, 2, none⟩ = some (.int .i64 xc) ∧ W.cell? ⟨w1.heap.size, 3, none⟩ = some (.bool xa) ∧ W.cell? ⟨w1.heap.size, 4, none⟩ = some (.bool xo) ∧ W.cell? ⟨w1.heap.size, 5, none⟩ = some (.bool xp) ∧ W.cell? ⟨w1.heap.size, 6, none⟩ = some (.int .i64 xs) ∧ W.cell? ⟨w1.heap.size, 7, none⟩ = some (.bool false)) ∧ W.cell? ⟨b, 1, none⟩ = some v := fun W hW => by
      have hq := hnew2.below hW hnew2.inside
      exact ⟨⟨hq.cell 0, hq.cell 1, hq.cell 2, hq.cell 3, hq.cell 4, hq.cell 5, hq.cell 6, hq.cell 7⟩, ((hL2.below hW).head).cell 1⟩
    obtain ⟨j0, qi, qz0, qz1, qz2⟩ := info_parts Try.infoE
    obtain ⟨j1, ri, rz0, rz1, rz2⟩ := info_parts Try.infoI
    have HS0 := Lib.hid hS0
    have HL2 := Lib.hid hL2
    have Qi := Lib.hid qi
    have Qz0 := Lib.hid qz0
    have Qz1 := Lib.hid qz1
    have Qz2 := Lib.hid qz2
    have Ri := Lib.hid ri
    have Rz0 := Lib.hid rz0
    have Rz1 := Lib.hid rz1
    have Rz2 := Lib.hid rz2
    have HB2 := Lib.hid hb2
    clear hS0 hL2 qi qz0 qz1 qz2 ri rz0 rz1 rz2 hnew2 hb2
    go_wp2_with fail
    refine wp_region_way (late := [12]) (S := fun W => (W.cell? ⟨w1.heap.size, 0, none⟩ = some (.int .i64 ((n : Int) + 1)) ∧ W.cell? ⟨w1.heap.size, 1, none⟩ = some (.string xt) ∧ W.cell? ⟨w1.heap.size, 2, none⟩ = some (.int .i64 xc) ∧ W.cell? ⟨w1.heap.size, 3, none⟩ = some (.bool xa) ∧ W.cell? ⟨w1.heap.size, 4, none⟩ = some (.bool xo) ∧ W.cell? ⟨w1.heap.size, 5, none⟩ = some (.bool xp) ∧ W.cell? ⟨w1.heap.size, 6, none⟩ = some (.int .i64 xs) ∧ W.cell? ⟨w1.heap.size, 7, none⟩ = some (.bool false)) ∧ W.cell? ⟨b, 1, none⟩ = some v) (y := Way.takes [0, 1, 2, 3, 4, 5, 6, 7] (.run 8 (.run 9 (.run 10 (.run 11 (.run 12 .fin)))))) (by kernel_rfl) (by kernel_rfl) rfl (by kernel_rfl) (HS0.out _ (Below.refl _ _).drew) (fun hHeld => ?_)
    simp only [Way.takes]
    (repeat (first | (refine way_skip (by simp only [List.getElem?_toArray, List.getElem?_cons_succ, List.getElem?_cons_zero]; rfl) (by rfl) hHeld ?_; (try simp only [Act.put, List.setIfInBounds_toArray, List.set_cons_zero, List.set_cons_succ])) | (refine way_pass (by simp only [List.getElem?_toArray, List.getElem?_cons_succ, List.getElem?_cons_zero]; rfl) (by rfl) hHeld ?_; (try simp only [Act.put, List.setIfInBounds_toArray, List.set_cons_zero, List.set_cons_succ])) | (refine way_take (v := ?_) (by simp only [List.getElem?_toArray, List.getElem?_cons_succ, List.getElem?_cons_zero]; rfl) (by rfl) ?_ hHeld ?_; rotate_left; (focus (intro w hSw; (try dsimp only at hSw); go_simp; (try with_reducible rfl); done)); (try simp only [Act.put, List.setIfInBounds_toArray, List.set_cons_zero, List.set_cons_succ]))))
    refine way_run (by simp only [List.getElem?_toArray, List.getElem?_cons_succ, List.getElem?_cons_zero]; rfl) (by rfl) (fun K hK => ?_)
    go_simp
    have hb3 : Below (w1.alloc (.cells #[.int .i64 ((n : Int) + 1), .string xt, .int .i64 xc, .bool xa, .bool xo, .bool xp, .int .i64 xs, .bool false] 34)).heap.size (w1.alloc (.cells #[.int .i64 ((n : Int) + 1), .string xt, .int .i64 xc, .bool xa, .bool xo, .bool xp, .int .i64 xs, .bool false] 34)) ((w1.alloc (.cells #[.int .i64 ((n : Int) + 1), .string xt, .int .i64 xc, .bool xa, .bool xo, .bool xp, .int .i64 xs, .bool false] 34)).alloc (.cells #[.int .i64 node, .int .i64 ((n : Int) + 1), .string xt, .int .i64 xc, .bool xa, .bool xo, .bool xp, .int .i64 xs, .bool false] 63)).drew := ((Below.refl _ (w1.alloc (.cells #[.int .i64 ((n : Int) + 1), .string xt, .int .i64 xc, .bool xa, .bool xo, .bool xp, .int .i64 xs, .bool false] 34))).alloc (Nat.le_refl _) _).drew
    have hL3 := HL2.out.below hb3
    have hnew3 : Has ((w1.alloc (.cells #[.int .i64 ((n : Int) + 1), .string xt, .int .i64 xc, .bool xa, .bool xo, .bool xp, .int .i64 xs, .bool false] 34)).alloc (.cells #[.int .i64 node, .int .i64 ((n : Int) + 1), .string xt, .int .i64 xc, .bool xa, .bool xo, .bool xp, .int .i64 xs, .bool false] 63)).drew (w1.alloc (.cells #[.int .i64 ((n : Int) + 1), .string xt, .int .i64 xc, .bool xa, .bool xo, .bool xp, .int .i64 xs, .bool false] 34)).heap.size (.cells #[.int .i64 node, .int .i64 ((n : Int) + 1), .string xt, .int .i64 xc, .bool xa, .bool xo, .bool xp, .int .i64 xs, .bool false] 63 (0, 0)) := Has.fresh (w1.alloc (.cells #[.int .i64 ((n : Int) + 1), .string xt, .int .i64 xc, .bool xa, .bool xo, .bool xp, .int .i64 xs, .bool false] 34)) (.cells #[.int .i64 node, .int .i64 ((n : Int) + 1), .string xt, .int .i64 xc, .bool xa, .bool xo, .bool xp, .int .i64 xs, .bool false] 63)
    have hs2 : (w1.alloc (.cells #[.int .i64 ((n : Int) + 1), .string xt, .int .i64 xc, .bool xa, .bool xo, .bool xp, .int .i64 xs, .bool false] 34)).heap.size = w1.heap.size + 1 := by simp
    rw [hs2] at hnew3
    have HL3 := Lib.hid hL3
    have HB3 := Lib.hid (HB2.out.trans (hb3.mono HB2.out.size))
    have HN3 := Lib.hid hnew3
    have HQ3 := Lib.hid (HS0.out _ hb3)
    clear hL3 hnew3 hb3
    refine hK.out _ _ HQ3.out (fun hHeld => ?_)
    clear hK K
    (try simp only [Act.put, List.setIfInBounds_toArray, List.set_cons_zero, List.set_cons_succ])
    refine way_run (by simp only [List.getElem?_toArray, List.getElem?_cons_succ, List.getElem?_cons_zero]; rfl) (by rfl) (fun K hK => ?_)
    refine wp_pushR (R := RE) (x := (⟨(n : Int) + 1, xt, xc, xa, xo, xp, xs, false, node⟩ : Ls)) (v := v) (xs := B) (base := 0) (.tmp 39) (.tmp 43) 52 rfl j0 _ 64 Try.underlying52 Qi.out Qz0.out Qz1.out Qz2.out rfl rfl HL3.out.rows rfl HN3.out (by have := HHn.out; omega) (by omega) (Nat.zero_le _) (fun g4 c4 w4 hR4 hk4 hat4 hlt4 => ?_)
    have hvb : ¬ v.ownBlock = some b := fun e => own_apart HL3.out.rows HL3.out.head (by decide) e
    have hh4 := HL3.out.head.kept hk4 hvb
    have hTn : ¬ v.ownBlock = some w1.heap.size := fun e => by
      have := (HL1.out.rows.in_ _ e).2
      omega
    have hT3 : Has ((w1.alloc (.cells #[.int .i64 ((n : Int) + 1), .string xt, .int .i64 xc, .bool xa, .bool xo, .bool xp, .int .i64 xs, .bool false] 34)).alloc (.cells #[.int .i64 node, .int .i64 ((n : Int) + 1), .string xt, .int .i64 xc, .bool xa, .bool xo, .bool xp, .int .i64 xs, .bool false] 63)).drew w1.heap.size (.cells #[.int .i64 ((n : Int) + 1), .string xt, .int .i64 xc, .bool xa, .bool xo, .bool xp, .int .i64 xs, .bool false] 34 (0, 0)) := (Has.fresh w1 (.cells #[.int .i64 ((n : Int) + 1), .string xt, .int .i64 xc, .bool xa, .bool xo, .bool xp, .int .i64 xs, .bool false] 34)).more _
    have hT4 := hT3.kept hk4 hTn
    have hgb : g4 ≠ b := fun e => own_apart hR4 hh4 (by decide) (by rw [← e]; rfl)
    have hk5 : Keeps (fun i => i = b) w4 (w4.setCell ⟨b, 1, none⟩ (.slice (some ⟨g4, 0, none⟩) (B.length + 1) c4)) := Keeps.store (F := fun i => i = b) (p := ⟨b, 1, none⟩) (Keeps.refl _ _) (.inl rfl) _
    have hK5 : Keeps (fun i => v.ownBlock = some i ∨ i = b) ((w1.alloc (.cells #[.int .i64 ((n : Int) + 1), .string xt, .int .i64 xc, .bool xa, .bool xo, .bool xp, .int .i64 xs, .bool false] 34)).alloc (.cells #[.int .i64 node, .int .i64 ((n : Int) + 1), .string xt, .int .i64 xc, .bool xa, .bool xo, .bool xp, .int .i64 xs, .bool false] 63)).drew (w4.setCell ⟨b, 1, none⟩ (.slice (some ⟨g4, 0, none⟩) (B.length + 1) c4)) := (hk4.wide fun i _ hi => .inl hi).trans hk5 fun i _ hi => .inr hi
    have hR5 : Recs RE 63 0 (w4.setCell ⟨b, 1, none⟩ (.slice (some ⟨g4, 0, none⟩) (B.length + 1) c4)) (.slice (some ⟨g4, 0, none⟩) (B.length + 1) c4) (B ++ [(⟨(n : Int) + 1, xt, xc, xa, xo, xp, xs, false, node⟩ : Ls)]) := hR4.kept hk5 fun i hi e => hgb (by
      have : g4 = i := by simpa [Value.ownBlock] using hi
      rw [this]
      exact e)
    have hH5 : Has (w4.setCell ⟨b, 1, none⟩ (.slice (some ⟨g4, 0, none⟩) (B.length + 1) c4)) b (.cells #[.pointer (some ⟨g, 0, none⟩), (.slice (some ⟨g4, 0, none⟩) (B.length + 1) c4), .map (some m)] 55 (0, 0)) := by
      have := hh4.stored 1 (.slice (some ⟨g4, 0, none⟩) (B.length + 1) c4)
      simpa using this
    have hS4 : ∀ i, Value.ownBlock (.slice (some ⟨g4, 0, none⟩) (B.length + 1) c4) = some i → S i := fun i hi => by
      obtain rfl : g4 = i := by simpa [Value.ownBlock] using hi
      rcases hat4 with e | e
      · exact HL3.out.hv _ e
      · refine HS.out _ (Nat.le_trans ?_ e)
        exact Nat.le_trans HK1.out.grows HB3.out.size
    have hL5 := HL3.out.pushed hR5 hH5 hK5 hS4
    have HK5 : Hid (Keeps S w (w4.setCell ⟨b, 1, none⟩ (.slice (some ⟨g4, 0, none⟩) (B.length + 1) c4))) := Lib.hid ((HK1.out.also (Keeps.of_below HB3.out fun i hi hle => by omega)).trans hK5 fun i _ hi => by
      rcases hi with hi | rfl
      · exact HL3.out.hv _ hi
      · exact HL3.out.hb)
    have q44 := hh4.cell 1
    have hz4 := hh4.free 1
    have Q4 : Hid _ := Lib.hid (And.intro (And.intro (hT4.cell 0) (And.intro (hT4.cell 1) (And.intro (hT4.cell 2) (And.intro (hT4.cell 3) (And.intro (hT4.cell 4) (And.intro (hT4.cell 5) (And.intro (hT4.cell 6) (hT4.cell 7)))))))) (hh4.cell 1))
    have HL5 := Lib.hid hL5
    clear hL5 hS4 hH5 hR5 hK5 hk5 hgb hT3 hT4 hTn hh4 hvb hR4 hk4 hat4 hlt4
    refine hK.out _ _ Q4.out (fun hHeld => ?_)
    clear hK K
    (try simp only [Act.put, List.setIfInBounds_toArray, List.set_cons_zero, List.set_cons_succ])
    refine way_run (by simp only [List.getElem?_toArray, List.getElem?_cons_succ, List.getElem?_cons_zero]; rfl) (by rfl) (fun K hK => ?_)
    go_simp
    refine hK.out _ _ Q4.out (fun hHeld => ?_)
    clear hK K
    (try simp only [Act.put, List.setIfInBounds_toArray, List.set_cons_zero, List.set_cons_succ])
    refine way_run (by simp only [List.getElem?_toArray, List.getElem?_cons_succ, List.getElem?_cons_zero]; rfl) (by rfl) (fun K hK => ?_)
    go_simp
    refine hK.out _ _ Q4.out (fun hHeld => ?_)
    clear hK K
    (try simp only [Act.put, List.setIfInBounds_toArray, List.set_cons_zero, List.set_cons_succ])
    refine way_last (by rfl) (by simp only [List.getElem?_toArray, List.getElem?_cons_succ, List.getElem?_cons_zero]; rfl) (by rfl) (fun K hK => ?_)
    go_simp
    refine hK.out _ _ ?_
    clear hK K
    refine way_done ?_
    clear hHeld q44 hz4 Q4 HS0 HL2 HB2 HL3 HB3 HN3 HQ3 HL1 HK1 b1 b2 b3 b4 b5 b6 hT
    obtain ⟨w5, hw5⟩ : ∃ w5, w5 = (w4.setCell ⟨b, 1, none⟩ (.slice (some ⟨g4, 0, none⟩) (B.length + 1) c4)) := ⟨_, rfl⟩
    rw [← hw5] at HL5 HK5 ⊢
    clear hw5
    obtain ⟨va, hva⟩ : ∃ va, va = f node := ⟨_, rfl⟩
    have HVA := Lib.hid hva
    have hS1 : ∀ W, Below w5.heap.size w5 W → W.cell? ⟨b, 2, none⟩ = some (.map (some m)) ∧ (Instr.lookup 53 (.map (some m)) (.int .i64 node) false).run Try.prog W = .ok va W := fun W hW => ⟨(HL5.out.below hW).head.cell 2, by
      have := (HL5.out.below hW).map.look (x := node) (by omega) h1
      rw [hva]
      exact this⟩
    have HS1 := Lib.hid hS1
    clear hS1 hva
    go_wp2_with fail
    refine wp_region_way (late := [14]) (S := fun W => W.cell? ⟨b, 2, none⟩ = some (.map (some m)) ∧ (Instr.lookup 53 (.map (some m)) (.int .i64 node) false).run Try.prog W = .ok va W) (y := Way.takes [0, 1, 2, 3, 4, 5, 6, 7, 8, 9, 10, 11] (.run 12 (.run 13 (.run 14 .fin)))) (by kernel_rfl) (by kernel_rfl) rfl (by kernel_rfl) (HS1.out _ (Below.refl _ _).drew) (fun hHeld => ?_)
    simp only [Way.takes]
    (repeat (first | (refine way_skip (by simp only [List.getElem?_toArray, List.getElem?_cons_succ, List.getElem?_cons_zero]; rfl) (by rfl) hHeld ?_; (try simp only [Act.put, List.setIfInBounds_toArray, List.set_cons_zero, List.set_cons_succ])) | (refine way_pass (by simp only [List.getElem?_toArray, List.getElem?_cons_succ, List.getElem?_cons_zero]; rfl) (by rfl) hHeld ?_; (try simp only [Act.put, List.setIfInBounds_toArray, List.set_cons_zero, List.set_cons_succ])) | (refine way_take (v := ?_) (by simp only [List.getElem?_toArray, List.getElem?_cons_succ, List.getElem?_cons_zero]; rfl) (by rfl) ?_ hHeld ?_; rotate_left; (focus (intro w hSw; (try dsimp only at hSw); go_simp; (try with_reducible rfl); done)); (try simp only [Act.put, List.setIfInBounds_toArray, List.set_cons_zero, List.set_cons_succ]))))
    refine way_run (by simp only [List.getElem?_toArray, List.getElem?_cons_succ, List.getElem?_cons_zero]; rfl) (by rfl) (fun K hK => ?_)
    go_simp
    have hb6 : Below w5.heap.size w5 (w5.alloc (.cells #[.int .i64 ((n : Int) + 1)] 3)).drew := ((Below.refl _ w5).alloc (Nat.le_refl _) _).drew
    have hL6 := HL5.out.below hb6
    have hnew6 : Has (w5.alloc (.cells #[.int .i64 ((n : Int) + 1)] 3)).drew w5.heap.size (.cells #[.int .i64 ((n : Int) + 1)] 3 (0, 0)) := Has.fresh w5 (.cells #[.int .i64 ((n : Int) + 1)] 3)
    have hRV : Recs RI 3 0 (w5.alloc (.cells #[.int .i64 ((n : Int) + 1)] 3)).drew va (idsL B node) := by
      unfold Recs
      rw [flat_ints, HVA.out]
      exact (hL6.ids node).1
    have hlen : (idsL B node).length ≤ 1000000 := by
      unfold idsL
      rw [List.length_map]
      have := HHn.out
      exact Nat.le_trans (atLs_len B node) (by omega)
    have HL6 := Lib.hid hL6
    have HB6 := Lib.hid hb6
    have HN6 := Lib.hid hnew6
    have HRV := Lib.hid hRV
    have HLen := Lib.hid hlen
    have HQ6 := Lib.hid (HS1.out _ hb6)
    clear hL6 hb6 hnew6 hRV hlen
    refine hK.out _ _ HQ6.out (fun hHeld => ?_)
    clear hK K
    (try simp only [Act.put, List.setIfInBounds_toArray, List.set_cons_zero, List.set_cons_succ])
    refine way_run (by simp only [List.getElem?_toArray, List.getElem?_cons_succ, List.getElem?_cons_zero]; rfl) (by rfl) (fun K hK => ?_)
    refine wp_pushR (R := RI) (x := (n : Int) + 1) (v := va) (xs := idsL B node) (base := 0) (.tmp 57) (.tmp 59) 28 rfl j1 _ 8 Try.underlying28 Ri.out Rz0.out Rz1.out Rz2.out rfl rfl HRV.out rfl HN6.out HLen.out (by omega) (Nat.zero_le _) (fun g7 c7 w7 hR7 hk7 hat7 hlt7 => ?_)
    obtain ⟨es, cl, hmap⟩ := HL6.out.map.there
    have hvm : ¬ va.ownBlock = some m := fun e => by
      rcases HRV.out.2 with ⟨hv, _⟩ | ⟨g', cap, cur, hv, _, hh, _⟩
      · rw [hv] at e
        cases e
      · rw [hv] at e
        obtain rfl : g' = m := by simpa [Value.ownBlock] using e
        exact Has.apart hh hmap (by simp) rfl
    have hvb : ¬ va.ownBlock = some b := fun e => own_apart HRV.out HL6.out.head (by decide) e
    have hM7 := HL6.out.map.kept hk7 hvm
    have hq7 : w7.cell? ⟨b, 2, none⟩ = some (.map (some m)) ∧ (Instr.lookup 53 (.map (some m)) (.int .i64 node) false).run Try.prog w7 = .ok va w7 := ⟨(HL6.out.head.kept hk7 hvb).cell 2, by
      rw [HVA.out]
      exact hM7.look (by omega) h1⟩
    have hgm : g7 ≠ m := fun e => by
      rcases hat7 with h' | h'
      · exact hvm (by rw [h', e])
      · have := HL6.out.map.inside
        omega
    have hFIN : Hid (∀ w8, Mp w8 m (n + 1) (upd f node (.slice (some ⟨g7, 0, none⟩) ((idsL B node).length + 1) c7)) → Keeps (fun i => i = m) w7 w8 → (∃ g m v f, Lsts S w8 b g m (n + 1) (n + 1) v f (B ++ [(⟨(n : Int) + 1, xt, xc, xa, xo, xp, xs, false, node⟩ : Ls)]) (upd (idsL B) node (idsL B node ++ [(n : Int) + 1]))) ∧ Keeps S w w8) := Lib.hid fun w8 hM8 hk8 => by
      have hK8 : Keeps (fun i => (f node).ownBlock = some i ∨ i = m) (w5.alloc (.cells #[.int .i64 ((n : Int) + 1)] 3)).drew w8 := (hk7.wide fun i _ hi => .inl (by rw [← HVA.out]; exact hi)).trans hk8 fun i _ hi => .inr hi
      have hv8 : Kids S w8 (.slice (some ⟨g7, 0, none⟩) ((idsL B node).length + 1) c7) (idsL B node ++ [(n : Int) + 1]) := by
        refine ⟨?_, fun i hi => ?_⟩
        · have h7 := hR7
          unfold Recs at h7
          rw [flat_ints] at h7
          exact own_kept h7 hk8 fun i hi e => by
            obtain rfl : g7 = i := by simpa [Value.ownBlock] using hi
            exact hgm e
        · obtain rfl : g7 = i := by simpa [Value.ownBlock] using hi
          rcases hat7 with h' | h'
          · exact (HL6.out.ids node).2 _ (by rw [← HVA.out]; exact h')
          · exact HS.out _ (Nat.le_trans (Nat.le_trans HK5.out.grows HB6.out.size) h')
      refine ⟨⟨_, _, _, _, HL6.out.turn hK8 hM8 hv8 fun i hi => ?_⟩, ((HK5.out.also (Keeps.of_below HB6.out fun i hi hle => by omega)).trans hK8 fun i _ hi => ?_)⟩
      · obtain rfl : g7 = i := by simpa [Value.ownBlock] using hi
        rw [← HVA.out]
        exact hat7
      · rcases hi with hi | rfl
        · exact (HL6.out.ids node).2 _ hi
        · exact HL6.out.hm
    have HM7 := Lib.hid hM7
    have HQ7 := Lib.hid hq7
    clear hR7 hk7 hat7 hlt7 hvm hvb hM7 hq7 hgm hmap
    refine hK.out _ _ HQ7.out (fun hHeld => ?_)
    clear hK K
    (try simp only [Act.put, List.setIfInBounds_toArray, List.set_cons_zero, List.set_cons_succ])
    refine way_last (by rfl) (by simp only [List.getElem?_toArray, List.getElem?_cons_succ, List.getElem?_cons_zero]; rfl) (by rfl) (fun K hK => ?_)
    refine wp_mapPut (.tmp 50) (.tmp 51) (.tmp 60) rfl rfl rfl rfl HM7.out (by omega) h1 (by omega) ⟨_, rfl⟩ (fun w8 hM8 _ hk8 => ?_)
    refine hK.out _ _ ?_
    clear hK K
    refine way_done ?_
    have hfin := hFIN.out w8 hM8 hk8
    have HF := Lib.hid hfin
    clear hfin hFIN hM8 hk8 hHeld
    go_wp2
    go_ret
    exact ⟨rfl, HF.out⟩
end
end Go.Proofs.Ytgdgmcehkhimpaa
