/-
  Calls on a forest that came in: a list of them, each with its text, its node and its list of numbers, read cell by cell.
-/
import Derived.Test.YtkafaceanlkjjaaFd
namespace Go.Proofs.Ytkafaceanlkjjaa
open Go Go.ChangeShapes Go.WideShapes Go.ChangeAt Go.RowKit

theorem cell_in {w : World} {a : Addr} {v : Value} (h : w.cell? a = some v) : a.block < w.heap.size := by
  rcases Nat.lt_or_ge a.block w.heap.size with h' | h'
  · exact h'
  · rw [World.cell?, Array.getElem?_eq_none h'] at h
    cases h

/-- A list of numbers within what came in. -/
structure ListIn (w : World) (A : Option Addr) (c : Nat) (xs : List Int) : Prop where
  cap : xs.length ≤ c
  nil : A = none → c = 0
  nums : Nums w w.heap.size A .i64 xs

section
variable {H : Type} {enc : TypeId × Value → H} {W : World} {sp : Nat → Bool} {held : Bool} {fuel : Nat} {cs : List Value} {y : DataW H × List MemPlace}

theorem list_in (h : DataW.trod enc Try.prog W 0 sp held fuel 32 cs = some y) : ∃ A c xs, cs = [.slice A (List.length xs) c] ∧ ListIn W A c xs := by
  rcases open_ints Try.underlying32 Try.underlying3 (by kernel_rfl) h with ⟨rfl, _⟩ | ⟨a, n, cap, zs, rfl, _, hl, hm, hz, hxe, hcell, hws⟩
  · exact ⟨none, 0, [], rfl, Nat.le_refl 0, fun _ => rfl, fun i hi => absurd hi (Nat.not_lt_zero i)⟩
  · have hge : n ≤ zs.length := by rw [hz]; split <;> omega
    have hlen : (zs.take n).length = n := by rw [List.length_take]; omega
    refine ⟨some a, cap, zs.take n, by rw [hlen], by rw [hlen]; exact hl, fun e => absurd e (by simp), fun i hi => ?_⟩
    rw [hlen] at hi
    have hi' : i < zs.length := by omega
    have hc := hcell i hi'
    have hc0 := hcell 0 (by omega)
    obtain ⟨b, off, spot⟩ := a
    obtain rfl : spot = none := by simpa [Addr.add] using World.cell?_spot hc0
    rw [Addr.add_lit] at hc
    refine ⟨b, off, rfl, cell_in hc, hc.trans ?_⟩
    rw [List.getElem_take, List.getD_eq_getElem?_getD, List.getElem?_eq_getElem hi']
    rfl

/-- One cell of a row, by its part. -/
theorem part_one {cs : List Value} {i n : Nat} {v : Value} (h : (cs.drop i).take n = [v]) (hn : n = 1) : cs[i]? = some v := by
  subst hn
  have : ((cs.drop i).take 1)[0]? = some v := by rw [h]; rfl
  rw [List.getElem?_take, if_pos (by omega), List.getElem?_drop] at this
  exact this

theorem node_in (h : DataW.trod enc Try.prog W 0 sp held fuel 41 cs = some y) :
    ∃ (d : Nd) (A : Option Addr) (c : Nat), cs = d.cells (.slice A d.kids.length c) ∧ d.name.size ≤ 9223372036854775807 ∧ d.want.size ≤ 9223372036854775807 ∧ ListIn W A c d.kids := by
  obtain ⟨xs, n, _, _, hlen, hxl, hf⟩ := DataW.trod_struct Try.underlying41 h
  have h9 : cs.length = 9 := hlen.trans (by kernel_rfl)
  have hxl' : xs.length = 9 := hxl
  have one : Try.prog.cellsOf 3 = 1 := by kernel_rfl
  have oneB : Try.prog.cellsOf 4 = 1 := by kernel_rfl
  have oneS : Try.prog.cellsOf 9 = 1 := by kernel_rfl
  have oneL : Try.prog.cellsOf 32 = 1 := by kernel_rfl
  have get : ∀ i, i < 9 → ∃ z, xs[i]? = some z := fun i hi => ⟨xs[i]'(by omega), List.getElem?_eq_getElem _⟩
  obtain ⟨z0, g0⟩ := get 0 (by omega)
  obtain ⟨z1, g1⟩ := get 1 (by omega)
  obtain ⟨z2, g2⟩ := get 2 (by omega)
  obtain ⟨z3, g3⟩ := get 3 (by omega)
  obtain ⟨z4, g4⟩ := get 4 (by omega)
  obtain ⟨z5, g5⟩ := get 5 (by omega)
  obtain ⟨z6, g6⟩ := get 6 (by omega)
  obtain ⟨z7, g7⟩ := get 7 (by omega)
  obtain ⟨z8, g8⟩ := get 8 (by omega)
  obtain ⟨a0, e0, _, _⟩ := DataW.trod_int Try.underlying3 ((hf 0 _ rfl).trans g0)
  obtain ⟨a1, e1, _, _⟩ := DataW.trod_int Try.underlying3 ((hf 1 _ rfl).trans g1)
  obtain ⟨a2, e2, _, _⟩ := DataW.trod_int Try.underlying3 ((hf 2 _ rfl).trans g2)
  obtain ⟨a3, e3, _, _⟩ := DataW.trod_int Try.underlying3 ((hf 3 _ rfl).trans g3)
  obtain ⟨a4, e4, _, _⟩ := DataW.trod_int Try.underlying3 ((hf 4 _ rfl).trans g4)
  obtain ⟨a5, e5, _⟩ := DataW.trod_bool Try.underlying4 ((hf 5 _ rfl).trans g5)
  obtain ⟨a6, e6, _, s6⟩ := DataW.trod_string Try.underlying9 ((hf 6 _ rfl).trans g6)
  obtain ⟨a7, e7, _, s7⟩ := DataW.trod_string Try.underlying9 ((hf 7 _ rfl).trans g7)
  obtain ⟨A, c, ks, e8, hL⟩ := list_in ((hf 8 _ rfl).trans g8)
  refine ⟨⟨a0, a1, a2, a3, a4, a5, a6, a7, ks⟩, A, c, ?_, s6, s7, hL⟩
  refine List.ext_getElem? fun i => ?_
  match i with
  | 0 => exact part_one e0 one
  | 1 => exact part_one e1 one
  | 2 => exact part_one e2 one
  | 3 => exact part_one e3 one
  | 4 => exact part_one e4 one
  | 5 => exact part_one e5 oneB
  | 6 => exact part_one e6 oneS
  | 7 => exact part_one e7 oneS
  | 8 => exact part_one e8 oneL
  | i + 9 => rw [List.getElem?_eq_none (by omega), List.getElem?_eq_none (by rw [Nd.cells_length]; omega)]

/-- A call's fourteen cells. -/
def actCells (x : Ac) (kv lv : Value) : List Value := [.int .i64 x.kind, .int .i64 x.a, .int .i64 x.b, .string x.s, .int .i64 x.n.kind, .int .i64 x.n.parent, .int .i64 x.n.host, .int .i64 x.n.shadow, .int .i64 x.n.mode, .bool x.n.slot, .string x.n.name, .string x.n.want, kv, lv]

theorem act_in (h : DataW.trod enc Try.prog W 0 sp held fuel 46 cs = some y) :
    ∃ (x : Ac) (A1 : Option Addr) (c1 : Nat) (A2 : Option Addr) (c2 : Nat), cs = actCells x (.slice A1 x.n.kids.length c1) (.slice A2 x.l.length c2) ∧ ListIn W A1 c1 x.n.kids ∧ ActIn W x A2 c2 := by
  obtain ⟨xs, n, _, _, hlen, hxl, hf⟩ := DataW.trod_struct Try.underlying46 h
  have h14 : cs.length = 14 := hlen.trans (by kernel_rfl)
  have hxl' : xs.length = 6 := hxl
  have one : Try.prog.cellsOf 3 = 1 := by kernel_rfl
  have oneS : Try.prog.cellsOf 9 = 1 := by kernel_rfl
  have oneL : Try.prog.cellsOf 32 = 1 := by kernel_rfl
  have nine : Try.prog.cellsOf 41 = 9 := by kernel_rfl
  have get : ∀ i, i < 6 → ∃ z, xs[i]? = some z := fun i hi => ⟨xs[i]'(by omega), List.getElem?_eq_getElem _⟩
  obtain ⟨z0, g0⟩ := get 0 (by omega)
  obtain ⟨z1, g1⟩ := get 1 (by omega)
  obtain ⟨z2, g2⟩ := get 2 (by omega)
  obtain ⟨z3, g3⟩ := get 3 (by omega)
  obtain ⟨z4, g4⟩ := get 4 (by omega)
  obtain ⟨z5, g5⟩ := get 5 (by omega)
  obtain ⟨a0, e0, _, _⟩ := DataW.trod_int Try.underlying3 ((hf 0 _ rfl).trans g0)
  obtain ⟨a1, e1, _, _⟩ := DataW.trod_int Try.underlying3 ((hf 1 _ rfl).trans g1)
  obtain ⟨a2, e2, _, _⟩ := DataW.trod_int Try.underlying3 ((hf 2 _ rfl).trans g2)
  obtain ⟨a3, e3, _, s3⟩ := DataW.trod_string Try.underlying9 ((hf 3 _ rfl).trans g3)
  obtain ⟨d, A1, c1, e4, s4, s5, hL1⟩ := node_in ((hf 4 _ rfl).trans g4)
  obtain ⟨A2, c2, ls, e5, hL2⟩ := list_in ((hf 5 _ rfl).trans g5)
  refine ⟨⟨a0, a1, a2, a3, d, ls⟩, A1, c1, A2, c2, ?_, hL1, ⟨s3, s4, s5, hL2.cap, hL2.nil, hL2.nums⟩⟩
  have hd : ∀ f, f < 9 → cs[4 + f]? = (d.cells (.slice A1 d.kids.length c1))[f]? := fun f hf => by
    have : ((cs.drop 4).take (Try.prog.cellsOf 41))[f]? = (d.cells (.slice A1 d.kids.length c1))[f]? := congrArg (fun l : List Value => l[f]?) e4
    rw [nine, List.getElem?_take, if_pos hf, List.getElem?_drop] at this
    exact this
  refine List.ext_getElem? fun i => ?_
  match i with
  | 0 => exact part_one e0 one
  | 1 => exact part_one e1 one
  | 2 => exact part_one e2 one
  | 3 => exact part_one e3 oneS
  | 4 => exact hd 0 (by omega)
  | 5 => exact hd 1 (by omega)
  | 6 => exact hd 2 (by omega)
  | 7 => exact hd 3 (by omega)
  | 8 => exact hd 4 (by omega)
  | 9 => exact hd 5 (by omega)
  | 10 => exact hd 6 (by omega)
  | 11 => exact hd 7 (by omega)
  | 12 => exact hd 8 (by omega)
  | 13 => exact part_one e5 oneL
  | i + 14 => rw [List.getElem?_eq_none (by omega), List.getElem?_eq_none (by show 14 ≤ i + 14; omega)]
end

/-- A call that came in, at its place. -/
def ActAt (w : World) (A : Option Addr) (i : Nat) (x : Ac) : Prop :=
  ∃ (b off : Nat) (A1 : Option Addr) (c1 : Nat) (A2 : Option Addr) (c2 : Nat), A = some ⟨b, off, none⟩ ∧ b < w.heap.size ∧ (∀ f, f < 14 → w.cell? ⟨b, off + (i * 14 + f), none⟩ = (actCells x (.slice A1 x.n.kids.length c1) (.slice A2 x.l.length c2))[f]?) ∧ ListIn w A1 c1 x.n.kids ∧ ActIn w x A2 c2
def Acts (w : World) (A : Option Addr) (xs : List Ac) : Prop := ∀ i (h : i < xs.length), ActAt w A i xs[i]

theorem ListIn.below {w w' : World} {A : Option Addr} {c : Nat} {xs : List Int} (h : ListIn w A c xs) (hb : Below w.heap.size w w') : ListIn w' A c xs := ⟨h.cap, h.nil, (h.nums.below hb).mono hb.size⟩
theorem Acts.below {w w' : World} {A : Option Addr} {xs : List Ac} (h : Acts w A xs) (hb : Below w.heap.size w w') : Acts w' A xs := fun i hi => by
  obtain ⟨b, off, A1, c1, A2, c2, e, hB, hc, hL, hA⟩ := h i hi
  exact ⟨b, off, A1, c1, A2, c2, e, Nat.lt_of_lt_of_le hB hb.size, fun f hf => (hb.cell (p := ⟨b, off + (i * 14 + f), none⟩) hB).trans (hc f hf), hL.below hb, hA.below hb⟩

/-- Out of the row's reading. -/
theorem acts_in {H : Type} {enc : TypeId × Value → H} {W : World} {sp : Nat → Bool} {held : Bool} {fuel : Nat} {A : Option Addr} {n cap : Nat} {y : DataW H × List MemPlace}
    (h : DataW.trod enc Try.prog W 0 sp held fuel 22 [.slice A n cap] = some y) : ∃ xs : List Ac, xs.length = n ∧ Acts W A xs ∧ n ≤ cap ∧ n ≤ maxLen := by
  have c14 : Try.prog.cellsOf 46 = 14 := by kernel_rfl
  rcases DataW.trod_slice Try.underlying22 h with ⟨hv, _⟩ | ⟨a, n', cap', elems, rest, m, _, hv, _, _, hl, hm, hlen, hel, _, _⟩
  · obtain ⟨rfl, rfl, rfl⟩ : A = none ∧ n = 0 ∧ cap = 0 := by simpa using hv
    exact ⟨[], rfl, fun i hi => absurd hi (Nat.not_lt_zero i), Nat.le_refl 0, Nat.zero_le _⟩
  · obtain ⟨rfl, rfl, rfl⟩ : A = some a ∧ n = n' ∧ cap = cap' := by simpa using hv
    have each : ∀ i, i < n → ∃ x, ActAt W (some a) i x := fun i hi => by
      have hb := hel i hi
      rw [List.getElem?_eq_getElem (by omega), c14, Option.bind_eq_some_iff] at hb
      obtain ⟨cs, hcs, ht⟩ := hb
      obtain ⟨x, A1, c1, A2, c2, rfl, hL, hA⟩ := act_in ht
      obtain ⟨_, _, hc⟩ := World.cells?_some hcs
      have h0 := hc 0 (by omega)
      have hz : ∃ v, W.cell? ((a.add (i * 14)).add 0) = some v := ⟨_, h0⟩
      obtain ⟨b, off, spot⟩ := a
      have hs : spot = none := by
        have hb0 := hel 0 (by omega)
        rw [List.getElem?_eq_getElem (by omega), c14, Option.bind_eq_some_iff] at hb0
        obtain ⟨cs0, hcs0, _⟩ := hb0
        obtain ⟨_, hl0, hc0⟩ := World.cells?_some hcs0
        have h1 := hc0 0 (by omega)
        rw [List.getElem?_eq_getElem (by omega)] at h1
        simpa [Addr.add] using World.cell?_spot h1
      subst hs
      have hc' : ∀ f, f < 14 → W.cell? ⟨b, off + (i * 14 + f), none⟩ = (actCells x (.slice A1 x.n.kids.length c1) (.slice A2 x.l.length c2))[f]? := fun f hf => by
        have := hc f hf
        rw [Addr.add_lit, Addr.add_lit] at this
        rw [← this, Nat.add_assoc]
      exact ⟨x, b, off, A1, c1, A2, c2, rfl, cell_in (hc' 0 (by omega)), hc', hL, hA⟩
    refine ⟨(List.range n).attach.map fun i => (each i.1 (List.mem_range.1 i.2)).choose, by simp, fun i hi => ?_, hl, Nat.le_trans hl hm⟩
    have hi' : i < n := by simpa using hi
    have := (each i hi').choose_spec
    simpa using this
end Go.Proofs.Ytkafaceanlkjjaa
