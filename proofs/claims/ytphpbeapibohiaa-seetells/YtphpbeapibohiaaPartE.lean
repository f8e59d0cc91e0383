/-
  Paths that came in: a list of entries, read cell by cell.
  What towncrierlaw15.awake does: it answers true. A list of records, written out.
  What the document's place and Level (towncrierref15) do.
  What the document's From (towncrierref15) does.
  What towncrierlaw15.SeeTells does: it answers true.
  Proved: the law answers true for every input, and each argument reads afterwards as it read before. No condition.
-/
import Derived.Test.YtphpbeapibohiaaPartD
import Derived.Test.YtphpbeapibohiaaRows
import Derived.ProofKit
import Derived.OpenShut
import Derived.ChangeOld

namespace Go.Proofs.Ytphpbeapibohiaa
open Go Go.ChangeShapes Go.WideShapes Go.ChangeAt Go.RowKit

section
variable {H : Type} {enc : TypeId × Value → H} {W : World} {sp : Nat → Bool} {held : Bool} {fuel : Nat} {cs : List Value} {y : DataW H × List MemPlace}
theorem step_in (h : DataW.trod enc Try.prog W 0 sp held fuel 28 cs = some y) : ∃ s : Stp, cs = s.cells := by
  obtain ⟨xs, n, _, _, hlen, hxl, hf⟩ := DataW.trod_struct Try.underlying28 h
  have h5 : cs.length = 5 := hlen.trans (by kernel_rfl)
  have hxl' : xs.length = 5 := hxl
  have one : Try.prog.cellsOf 3 = 1 := by kernel_rfl
  have oneB : Try.prog.cellsOf 4 = 1 := by kernel_rfl
  have get : ∀ i, i < 5 → ∃ z, xs[i]? = some z := fun i hi => ⟨xs[i]'(by omega), List.getElem?_eq_getElem _⟩
  obtain ⟨z0, g0⟩ := get 0 (by omega)
  obtain ⟨z1, g1⟩ := get 1 (by omega)
  obtain ⟨z2, g2⟩ := get 2 (by omega)
  obtain ⟨z3, g3⟩ := get 3 (by omega)
  obtain ⟨z4, g4⟩ := get 4 (by omega)
  obtain ⟨a0, e0, _, _⟩ := DataW.trod_int Try.underlying3 ((hf 0 _ rfl).trans g0)
  obtain ⟨a1, e1, _, _⟩ := DataW.trod_int Try.underlying3 ((hf 1 _ rfl).trans g1)
  obtain ⟨a2, e2, _, _⟩ := DataW.trod_int Try.underlying3 ((hf 2 _ rfl).trans g2)
  obtain ⟨a3, e3, _⟩ := DataW.trod_bool Try.underlying4 ((hf 3 _ rfl).trans g3)
  obtain ⟨a4, e4, _⟩ := DataW.trod_bool Try.underlying4 ((hf 4 _ rfl).trans g4)
  refine ⟨⟨a0, a1, a2, a3, a4⟩, ?_⟩
  refine List.ext_getElem? fun i => ?_
  match i with
  | 0 => exact part_one e0 one
  | 1 => exact part_one e1 one
  | 2 => exact part_one e2 one
  | 3 => exact part_one e3 oneB
  | 4 => exact part_one e4 oneB
  | i + 5 => rw [List.getElem?_eq_none (by omega), List.getElem?_eq_none (by show 5 ≤ i + 5; omega)]
theorem steps_in {A : Option Addr} {n cap : Nat} (h : DataW.trod enc Try.prog W 0 sp held fuel 22 [.slice A n cap] = some y) : ∃ xs : List Stp, xs.length = n ∧ RecIn RS W A cap xs ∧ n ≤ cap ∧ n ≤ maxLen := by
  have c5 : Try.prog.cellsOf 28 = 5 := by kernel_rfl
  rcases DataW.trod_slice Try.underlying22 h with ⟨hv, _⟩ | ⟨a, n', cap', elems, rest, m, _, hv, _, _, hl, hm, hlen, hel, _, _⟩
  · obtain ⟨rfl, rfl, rfl⟩ : A = none ∧ n = 0 ∧ cap = 0 := by simpa using hv
    exact ⟨[], rfl, RecIn.none_ _ _, Nat.le_refl 0, Nat.zero_le _⟩
  · obtain ⟨rfl, rfl, rfl⟩ : A = some a ∧ n = n' ∧ cap = cap' := by simpa using hv
    have each : ∀ i, i < n → ∃ x : Stp, ∃ b off, some a = some (⟨b, off, none⟩ : Addr) ∧ b < W.heap.size ∧ ∀ f, f < 5 → W.cell? ⟨b, off + (i * 5 + f), none⟩ = x.cells[f]? := fun i hi => by
      have hb := hel i hi
      rw [List.getElem?_eq_getElem (by omega), c5, Option.bind_eq_some_iff] at hb
      obtain ⟨cs, hcs, ht⟩ := hb
      obtain ⟨x, rfl⟩ := step_in ht
      obtain ⟨_, _, hc⟩ := World.cells?_some hcs
      obtain ⟨b, off, spot⟩ := a
      have hsp : spot = none := by
        have hb0 := hel 0 (by omega)
        rw [List.getElem?_eq_getElem (by omega), c5, Option.bind_eq_some_iff] at hb0
        obtain ⟨cs0, hcs0, _⟩ := hb0
        obtain ⟨_, hl0, hc0⟩ := World.cells?_some hcs0
        have h1 := hc0 0 (by omega)
        rw [List.getElem?_eq_getElem (by omega)] at h1
        simpa [Addr.add] using World.cell?_spot h1
      subst hsp
      have hc' : ∀ f, f < 5 → W.cell? ⟨b, off + (i * 5 + f), none⟩ = x.cells[f]? := fun f hf => by
        have := hc f hf
        rw [Addr.add_lit, Addr.add_lit, Nat.add_assoc] at this
        exact this
      exact ⟨x, b, off, rfl, cell_in (hc' 0 (by omega)), hc'⟩
    refine ⟨(List.range n).attach.map fun i => (each i.1 (List.mem_range.1 i.2)).choose, by simp, ⟨by simpa using hl, (fun e => by cases e), fun i hi => ?_⟩, hl, Nat.le_trans hl hm⟩
    have hi' : i < n := by simpa using hi
    have := (each i hi').choose_spec
    simp only [List.getElem_map, List.getElem_attach, List.getElem_range]
    exact this
end
end Go.Proofs.Ytphpbeapibohiaa

namespace Go.Proofs.Ytphpbeapibohiaa
open Go Go.RowKit

theorem rec_lit {α : Type} {R : Rec α} {W : World} {b : Nat} {e : TypeId} {fr : Nat × Nat} {xs : List α} (h : Has W b (.cells (flatR R xs).toArray e fr)) : RecIn R W (some ⟨b, 0, none⟩) xs.length xs :=
  ⟨Nat.le_refl _, (fun e => by cases e), fun i hi => ⟨b, 0, rfl, h.inside, fun f hf => by rw [h.cell, Nat.zero_add, List.getElem?_toArray, flatR_get (List.getElem?_eq_getElem hi) hf]⟩⟩
/-- What a call tells may be read. -/
theorem own_list {w : World} {base : Nat} {x : Value} {xs : List Int} (h : w.ownsRow base 3 1 x xs.length (xs.map (Value.int .i64))) : ∃ A c, x = .slice A xs.length c ∧ ListIn w A c xs := by
  rcases h.2 with ⟨rfl, h0⟩ | ⟨g, cap, cur, rfl, _, hg, hc, _⟩
  · have hx : xs = [] := List.eq_nil_of_length_eq_zero h0
    subst hx
    exact ⟨none, 0, rfl, listNone _⟩
  · refine ⟨_, cap, rfl, hc, (fun e => by cases e), fun i hi => ⟨g, 0, rfl, Has.inside hg, ?_⟩⟩
    rw [Nat.zero_add, h.cellAt i (by omega), List.getElem?_map, List.getElem?_eq_getElem hi]
    rfl
def path3 : List Stp := [⟨3, 3, 0, false, false⟩, ⟨2, 0, 0, false, false⟩, ⟨1, 0, 0, false, false⟩]
theorem path3_see : seeP path3 2 = [3, 2, 1] := by decide +kernel
set_option maxRecDepth 100000 in
set_option maxHeartbeats 4000000 in
theorem awake15 (w : World) : Calls Try.prog 8 #[] w fun e w' => e = .returned (.bool true) ∧ Below w.heap.size w w' := by
  have hA : RecIn RS (w.alloc (.cells #[.int .i64 3, .int .i64 3, .int .i64 0, .bool false, .bool false, .int .i64 2, .int .i64 0, .int .i64 0, .bool false, .bool false, .int .i64 1, .int .i64 0, .int .i64 0, .bool false, .bool false] 28)) (some ⟨w.heap.size, 0, none⟩) 3 path3 := rec_lit (xs := path3) (fr := (0, 0)) (Has.fresh w (.cells #[.int .i64 3, .int .i64 3, .int .i64 0, .bool false, .bool false, .int .i64 2, .int .i64 0, .int .i64 0, .bool false, .bool false, .int .i64 1, .int .i64 0, .int .i64 0, .bool false, .bool false] 28))
  have hC := seFrom 2 hA (n := 3) rfl (by decide)
  rw [path3_see] at hC
  have HC := Lib.hid hC
  clear hA hC
  go_enter Try.func8, Try.ntmps8
  go_wp2_with fail
  refine HC.out.mono ?_
  rintro e w2 ⟨x, rfl, hx, hb2⟩
  obtain ⟨A2, c2, rfl, hL2⟩ := own_list hx
  have hB : Below w.heap.size w w2 := ((Below.refl _ w).alloc (Nat.le_refl _) _).trans (hb2.mono (by simp))
  have HB := Lib.hid hB
  have hL3 : ListIn (w2.alloc (.cells #[.int .i64 3, .int .i64 2, .int .i64 1] 3)) (some ⟨w2.heap.size, 0, none⟩) 3 [3, 2, 1] := listLit (xs := [3, 2, 1]) (Has.fresh w2 _)
  have HL2 := Lib.hid (hL2.below ((Below.refl _ w2).alloc (Nat.le_refl _) (.cells #[.int .i64 3, .int .i64 2, .int .i64 1] 3)))
  have HL3 := Lib.hid hL3
  clear hx hb2 hL2 hB hL3 HC
  go_wp2_with fail
  refine (ints_any [3, 2, 1] [3, 2, 1] A2 (some ⟨w2.heap.size, 0, none⟩) 3 3 c2 3 _ rfl rfl (by decide) HL2.out.nums HL3.out.nums).mono ?_
  rintro e w3 ⟨rfl, hb3⟩
  have HB3 := Lib.hid ((HB.out.alloc HB.out.size (.cells #[.int .i64 3, .int .i64 2, .int .i64 1] 3)).trans (hb3.mono (by rw [World.size_alloc]; have := HB.out.size; omega)))
  have e1 : sameInts [3, 2, 1] [3, 2, 1] = true := by decide
  rw [e1]
  clear hb3 e1
  go_wp2
  go_ret
  exact ⟨rfl, HB3.out⟩
end Go.Proofs.Ytphpbeapibohiaa

namespace Go.Proofs.Ytphpbeapibohiaa
open Go Go.RowKit

section
variable {w : World} {A : Option Addr} {c n : Nat} {p : List Stp} {v : Int}
set_option maxRecDepth 100000 in
set_option maxHeartbeats 4000000 in
theorem rfPlace (v : Int) (hR : RecIn RS w A c p) (hn : p.length = n) (hl : n ≤ 300) :
    Calls Try.prog 26 #[.slice A n c, .int .i64 v] w fun e w' => e = .returned (.tuple #[.int .i64 (placeI p v), .int .i64 (levelP p v)]) ∧ w = w' := by
  have HR := Lib.hid hR
  have HN := Lib.hid hn
  have hwn : IntKind.i64.wrap ((n : Int) - 1) = (n : Int) - 1 := wrap_small (by omega) (by omega)
  clear hR hn
  go_enter Try.func26, Try.ntmps26
  go_wp2
  go_loop [6, 7] (fun lv i => ∃ m : Nat, m ≤ n ∧ i = .int .i64 ((m : Int) - 1) ∧ lv = .int .i64 (sumL (p.drop m)) ∧ placeL v (p.drop m) = none) (fun _ i => (intOf i + 1).toNat)
  case atStart => exact ⟨n, Nat.le_refl _, rfl, by rw [List.drop_eq_nil_of_le (by rw [HN.out]; exact Nat.le_refl _)]; rfl, by rw [List.drop_eq_nil_of_le (by rw [HN.out]; exact Nat.le_refl _)]; rfl⟩
  case round =>
    obtain ⟨m, hm, rfl, rfl, hp⟩ := hrel
    cases m with
    | zero =>
      have e0 := place_none_zero hp
      have e1 : placeI p v = -1 := by
        unfold placeI
        rw [e0]
      have e2 : levelP p v = 0 := by
        unfold levelP
        rw [e0]
      have E1 := Lib.hid e1
      have E2 := Lib.hid e2
      clear e0 e1 e2 hp
      go_wp2
      go_ret2
      rw [E1.out, E2.out]
      exact ⟨rfl, rfl⟩
    | succ k =>
      have hkl : k < p.length := by rw [HN.out]; omega
      obtain ⟨s1, s2, s3⟩ := place_step hkl hp
      have hsm := sum_len (p.drop (k + 1))
      rw [List.length_drop, HN.out] at hsm
      obtain ⟨b, off, rfl, c0, -, -, c3, c4⟩ := five_of HR.out hkl
      obtain ⟨x, hx⟩ : ∃ x, x = p[k] := ⟨_, rfl⟩
      rw [← hx] at c0 c3 c4 s1 s2 s3
      obtain ⟨x0, x1, x2, cr, cs⟩ := x
      simp only at c0 c3 c4 s1 s2 s3
      obtain ⟨sm, hs⟩ : ∃ sm, sm = sumL (p.drop (k + 1)) := ⟨_, rfl⟩
      rw [← hs] at hsm s1 s3 ⊢
      have hkk : (((k + 1 : Nat) : Int) - 1) = (k : Int) := by omega
      rw [hkk]
      have hw1 : IntKind.i64.wrap (sm + 1) = sm + 1 := wrap_small (by omega) (by omega)
      have hw2 : IntKind.i64.wrap (sm - 1) = sm - 1 := wrap_small (by omega) (by omega)
      have hw4 : wrap64 sm = sm := by
        unfold wrap64
        omega
      have hwk : IntKind.i64.wrap ((k : Int) - 1) = (k : Int) - 1 := wrap_small (by omega) (by omega)
      have S1 := Lib.hid s1
      have S2 := Lib.hid s2
      have S3 := Lib.hid s3
      clear s1 s2 s3 hx hs hkk hp hkl
      by_cases hv : x0 = v
      · have e1 := S1.out hv
        have e2 : placeI p v = (k : Int) := by
          unfold placeI
          rw [e1]
        have e3 := level_is e1
        have E2 := Lib.hid e2
        have E3 := Lib.hid e3
        clear e1 e2 e3
        subst hv
        cases cr
        · have e4 : levelP p x0 = sm := by
            rw [E3.out]
            simp
          have E4 := Lib.hid e4
          clear e4
          go_wp2
          go_ret2
          rw [E2.out, E4.out]
          exact ⟨rfl, rfl⟩
        · have e4 : levelP p x0 = sm + 1 := by
            rw [E3.out, if_pos rfl]
            omega
          have E4 := Lib.hid e4
          clear e4
          go_wp2
          go_ret2
          rw [E2.out, E4.out]
          exact ⟨rfl, rfl⟩
      · have z1 : (x0 == v) = false := by simpa using hv
        have e1 := S2.out hv
        have E1 := Lib.hid e1
        clear e1 hv
        cases cr <;> cases cs
        · go_wp2
          go_round
          case rel => exact ⟨k, by omega, rfl, by rw [S3.out]; simp, E1.out⟩
          case measure => simp [intOf]
        · go_wp2
          go_round
          case rel => exact ⟨k, by omega, rfl, by rw [S3.out]; simp; omega, E1.out⟩
          case measure => simp [intOf]
        · go_wp2
          go_round
          case rel => exact ⟨k, by omega, rfl, by rw [S3.out]; simp; omega, E1.out⟩
          case measure => simp [intOf]
        · go_wp2
          go_round
          case rel => exact ⟨k, by omega, rfl, by rw [S3.out]; simp, E1.out⟩
          case measure => simp [intOf]
theorem rfLevel (v : Int) (hR : RecIn RS w A c p) (hn : p.length = n) (hl : n ≤ 300) :
    Calls Try.prog 13 #[.slice A n c, .int .i64 v] w fun e w' => e = .returned (.int .i64 (levelP p v)) ∧ w = w' := by
  have HR := Lib.hid hR
  clear hR
  go_enter Try.func13, Try.ntmps13
  go_wp2_with fail
  refine (rfPlace v HR.out hn hl).mono ?_
  rintro e w' ⟨rfl, rfl⟩
  go_wp2
  go_ret
  exact ⟨rfl, rfl⟩
end
end Go.Proofs.Ytphpbeapibohiaa

namespace Go.Proofs.Ytphpbeapibohiaa
open Go Go.RowKit

theorem Try.infoB : (Try.prog.info? 4).map (fun i => (i.zero, i.size, i.bytes)) = some (some (.bool false), 1, 1) := by kernel_rfl
/-- The first walk's next entry. -/
theorem walk_back {p : List Stp} {F : List Bool} {lv lm : Int} {j : Nat} (hj : j < p.length) (hF : F.length = p.length) (h : backF p (j + 1) lv lm = F.take (j + 1)) :
    backF p j (nextLev p[j].cr p[j].cs lv) (nextLim p[j].cr p[j].cs lv lm) = F.take j ∧ F[j]? = some (decide (lv + (if p[j].cr = true then 1 else 0) ≤ lm)) := by
  have hjF : j < F.length := by omega
  rw [back_step hj, List.take_add_one, List.getElem?_eq_getElem hjF, Option.toList_some] at h
  obtain ⟨h1, h2⟩ := List.append_inj' h rfl
  refine ⟨h1, ?_⟩
  rw [List.getElem?_eq_getElem hjF, (List.cons.inj h2).1]
theorem walk_on {p : List Stp} {F : List Bool} {lv lm : Int} {j : Nat} (hj : j < p.length) (hF : F.length = p.length) (h : onF p j lv lm = F.drop j) :
    onF p (j + 1) (nextLev p[j].cs p[j].cr lv) (nextLim p[j].cs p[j].cr lv lm) = F.drop (j + 1) ∧ F[j]? = some (decide (lv + (if p[j].cs = true then 1 else 0) ≤ lm)) := by
  have hjF : j < F.length := by omega
  rw [on_step hj, List.drop_eq_getElem_cons hjF] at h
  obtain ⟨h1, h2⟩ := List.cons.inj h
  exact ⟨h2, by rw [List.getElem?_eq_getElem hjF, h1]⟩
theorem set_more {fl F : List Bool} {j : Nat} {d : Bool} {P : Nat → Prop} (h : ∀ t, P t → fl[t]? = F[t]?) (hj : j < fl.length) (hd : F[j]? = some d) : ∀ t, (t = j ∨ P t) → (fl.set j d)[t]? = F[t]? := fun t ht => by
  rw [List.getElem?_set]
  by_cases e : j = t
  · subst e
    rw [if_pos rfl, if_pos hj, hd]
  · rw [if_neg e]
    rcases ht with e' | h1
    · exact absurd e'.symm e
    · exact h t h1
/-- The table of truths. -/
structure Tbl (w wr : World) (g n : Nat) (fl : List Bool) : Prop where
  len : fl.length = n
  own : wr.ownsRow g 4 1 (.slice (some ⟨g, 0, none⟩) n n) n (fl.map Value.bool)
  below : Below g w wr
section
variable {w wr : World} {g n j : Nat} {fl : List Bool}
theorem Tbl.store (h : Tbl w wr g n fl) (j : Nat) (d : Bool) : Tbl w (wr.setCell ⟨g, j, none⟩ (.bool d)) g n (fl.set j d) := by
  refine ⟨by rw [List.length_set, h.len], ?_, h.below.setCell (p := ⟨g, j, none⟩) (Nat.le_refl _) _⟩
  have := (h.own.stored j (.bool d)).1
  rw [← List.map_set] at this
  exact this
theorem Tbl.cell (h : Tbl w wr g n fl) (hj : j < fl.length) : wr.cell? ⟨g, j, none⟩ = some (.bool fl[j]) := by
  rw [h.own.cellAt j (by have := h.len; omega), List.getElem?_map, List.getElem?_eq_getElem hj]
  rfl
theorem Tbl.kept {F : Nat → Prop} {w' : World} (h : Tbl w wr g n fl) (k : Keeps F wr w') (hF : ∀ i, F i → g < i) : Tbl w w' g n fl := by
  refine ⟨h.len, own_kept h.own k fun i hi e => ?_, ?_⟩
  · have := hF i e
    have h2 : g = i := by simpa [Value.ownBlock] using hi
    omega
  · by_cases hs : g ≤ wr.heap.size
    · exact below_then h.below k hs fun i hi e => by have := hF i e; omega
    · have h3 : g < wr.heap.size := own_in h.own g rfl
      omega
theorem Tbl.free (h : Tbl w wr g n fl) (j : Nat) : wr.frozen? ⟨g, j, none⟩ = false := h.own.frozenAt j
end
section
variable {w : World} {A : Option Addr} {c n : Nat} {p : List Stp} {v : Int}
set_option maxRecDepth 100000 in
set_option maxHeartbeats 8000000 in
theorem rfFrom (v : Int) (hR : RecIn RS w A c p) (hn : p.length = n) (hl : n ≤ 300) :
    Calls Try.prog 12 #[.slice A n c, .int .i64 v] w fun e w' => ∃ A' c', e = .returned (.slice A' (seeP p v).length c') ∧ ListIn w' A' c' (seeP p v) ∧ Below w.heap.size w w' := by
  have HP := Lib.hid (rfPlace v hR hn hl)
  cases hp : placeL v p with
  | none =>
    have e1 : placeI p v = -1 := by
      unfold placeI
      rw [hp]
    rw [e1] at HP
    rw [(from_no hp).1]
    clear e1 hp hR hn
    go_enter Try.func12, Try.ntmps12
    go_wp2_with fail
    refine HP.out.mono ?_
    rintro e w1 ⟨rfl, rfl⟩
    go_wp2
    go_ret
    exact ⟨_, _, rfl, listNone _, Below.refl _ _⟩
  | some kl =>
    obtain ⟨k, lev⟩ := kl
    have e1 : placeI p v = (k : Int) := by
      unfold placeI
      rw [hp]
    obtain ⟨hk, hs1, hs2⟩ := place_small hp (by rw [hn]; exact hl)
    rw [e1, level_is hp] at HP
    have hFs : seeP p v = pickF p (flagsP p k lev) := by
      unfold seeP
      rw [hp]
    have hFl := flags_len (lev := lev) hk
    have hFk := flags_at (lev := lev) hk
    have hFb : backF p k lev lev = (flagsP p k lev).take k := by
      rw [flags_split]
      exact (List.take_left' (by rw [back_len]; omega)).symm
    have hFo : onF p (k + 1) lev lev = (flagsP p k lev).drop (k + 1) := by
      have e : flagsP p k lev = (backF p k lev lev ++ [true]) ++ onF p (k + 1) lev lev := by
        rw [flags_split, List.append_assoc]
        rfl
      rw [e, List.drop_left' (by rw [List.length_append, back_len]; simp; omega)]
    obtain ⟨F, hF⟩ : ∃ F, F = flagsP p k lev := ⟨_, rfl⟩
    rw [← hF] at hFs hFl hFk hFb hFo
    have HFs := Lib.hid hFs
    have HFl := Lib.hid hFl
    have HFk := Lib.hid hFk
    have HFb := Lib.hid hFb
    have HFo := Lib.hid hFo
    have HR := Lib.hid hR
    have HN := Lib.hid hn
    rw [hn] at hk
    clear hFs hFl hFk hFb hFo hF hp e1 hR hn
    obtain ⟨g, hg⟩ : ∃ g, g = w.heap.size := ⟨_, rfl⟩
    have HG := Lib.hid hg
    obtain ⟨j0, qi, qz0, qz1, qz2⟩ := info_parts Try.infoB
    have hmk : (Instr.makeSlice 50 (.int .i64 n) (.int .i64 n)).run Try.prog w = .ok (.slice (some ⟨g, 0, none⟩) n n) (w.alloc (.cells (madeCells #[.bool false] n) 4)) := by
      have := run_makeSlice (P := Try.prog) w 50 4 j0 _ Try.underlying50 qi qz0 .i64 .i64 n n (by omega) (by omega) (by rw [qz1]; omega) (by rw [qz2]; omega) (by omega)
      rw [qz1, Int.toNat_natCast, Nat.mul_one] at this
      rw [hg]
      exact this
    have hT0 : Tbl w (w.alloc (.cells (madeCells #[.bool false] n) 4)) g n (List.replicate n false) := by
      refine ⟨List.length_replicate, ?_, by rw [hg]; exact (Below.refl _ w).alloc (Nat.le_refl _) _⟩
      have := World.ownsRow_lit (base := g) (e := 4) (size := 1) w (madeCells #[.bool false] n) n (by omega) (by unfold maxLen; omega) (by rw [size_madeCells, Nat.mul_one])
      rw [toList_madeCells_one, ← hg] at this
      rw [List.map_replicate]
      exact this
    obtain ⟨W1, hW1⟩ : ∃ W1, W1 = w.alloc (.cells (madeCells #[.bool false] n) 4) := ⟨_, rfl⟩
    rw [← hW1] at hmk hT0
    have c0 := hT0.cell (j := k) (by rw [List.length_replicate]; exact hk)
    have f0 := hT0.free k
    have hT1 := hT0.store k true
    have HT1 := Lib.hid hT1
    have hkn : (k : Int) < n := by omega
    have z0 : decide ((k : Int) < 0) = false := by rw [decide_eq_false_iff_not]; omega
    have hwk : IntKind.i64.wrap ((k : Int) - 1) = (k : Int) - 1 := wrap_small (by omega) (by omega)
    clear hT0 hT1 hg hW1 qi qz0 qz1 qz2
    go_enter Try.func12, Try.ntmps12
    go_wp2_with fail
    refine HP.out.mono ?_
    rintro e w1 ⟨rfl, rfl⟩
    go_wp2_with fail
    go_loopw [8, 9, 10] (fun lvv lmv iv wr => ∃ (m : Nat) (lv lm : Int) (fl : List Bool), m ≤ k ∧ iv = .int .i64 ((m : Int) - 1) ∧ lvv = .int .i64 lv ∧ lmv = .int .i64 lm ∧ Tbl w wr g n fl ∧ (∀ t, m ≤ t → t ≤ k → fl[t]? = F[t]?) ∧ backF p m lv lm = F.take m ∧ (-(2000 - (m : Int)) ≤ lv ∧ lv ≤ 2000 - m) ∧ (-(2000 - (m : Int)) ≤ lm ∧ lm ≤ 2000 - m)) (fun _ _ i _ => (intOf i + 1).toNat)
    case atStart =>
      refine ⟨k, lev, lev, _, Nat.le_refl _, rfl, rfl, rfl, HT1.out, fun t h1 h2 => ?_, HFb.out, ⟨by omega, by omega⟩, ⟨by omega, by omega⟩⟩
      obtain rfl : t = k := by omega
      rw [HFk.out, List.getElem?_set, if_pos rfl, if_pos (by rw [List.length_replicate]; exact hk)]
    case round =>
      obtain ⟨m, lv, lm, fl, hm, rfl, rfl, rfl, hT, hfl, hbk, ⟨u1, u2⟩, ⟨u3, u4⟩⟩ := hrel
      have HT := Lib.hid hT
      have HRw := Lib.hid (HR.out.below (by rw [← HG.out]; exact hT.below))
      clear hT
      cases m with
      | zero =>
        have HFL := Lib.hid hfl
        have hwk2 : IntKind.i64.wrap ((k : Int) + 1) = (k : Int) + 1 := wrap_small (by omega) (by omega)
        clear hfl hbk u1 u2 u3 u4 hwk
        go_wp2_with fail
        go_loopw [8, 9, 11] (fun lvv lmv iv wr => ∃ (i : Nat) (lv lm : Int) (fl : List Bool), k < i ∧ i ≤ n ∧ iv = .int .i64 (i : Int) ∧ lvv = .int .i64 lv ∧ lmv = .int .i64 lm ∧ Tbl w wr g n fl ∧ (∀ t, t < i → fl[t]? = F[t]?) ∧ onF p i lv lm = F.drop i ∧ (-(2000 + (i : Int)) ≤ lv ∧ lv ≤ 2000 + i) ∧ (-(2000 + (i : Int)) ≤ lm ∧ lm ≤ 2000 + i)) (fun _ _ i _ => n - (intOf i).toNat)
        case atStart => exact ⟨k + 1, lev, lev, _, Nat.lt_succ_self _, hk, by go_num, rfl, rfl, HT.out, (fun t h => HFL.out t (Nat.zero_le _) (by omega)), HFo.out, ⟨by omega, by omega⟩, ⟨by omega, by omega⟩⟩
        case round =>
          clear HT HFL HRw
          obtain ⟨j, lv, lm, fl, hkj, hjn0, rfl, rfl, rfl, hT, hfl, hon, ⟨u1, u2⟩, ⟨u3, u4⟩⟩ := hrel
          have HT := Lib.hid hT
          have HRw := Lib.hid (HR.out.below (by rw [← HG.out]; exact hT.below))
          clear hT
          by_cases hjn : (j : Int) < n
          · have hjp : j < p.length := by rw [HN.out]; omega
            obtain ⟨k1, k2⟩ := walk_on hjp HFl.out hon
            obtain ⟨b, off, rfl, -, -, -, c3, c4⟩ := five_of HRw.out hjp
            obtain ⟨x, hx⟩ : ∃ x, x = p[j] := ⟨_, rfl⟩
            rw [← hx] at c3 c4 k1 k2
            obtain ⟨x0, x1, x2, cr, cs⟩ := x
            simp only at c3 c4 k1 k2
            have hbg : b ≠ g := fun e => by
              obtain ⟨b', off', e', hb', -⟩ := HR.out.at_ j hjp
              have := HG.out
              cases e'
              omega
            have h4 : ∀ u, (wr.setCell ⟨g, j, none⟩ u).cell? ⟨b, off + j * 5 + 3, none⟩ = some (.bool cr) := fun u => (World.cell?_of_block (w := wr) (Below.heap_setCell _ _ _ _ hbg)).trans c3
            have t0 := HT.out.cell (j := j) (by rw [HT.out.len]; omega)
            have t1 := HT.out.free j
            have hw1 : IntKind.i64.wrap (lv + 1) = lv + 1 := wrap_small (by omega) (by omega)
            have hw3 : IntKind.i64.wrap (lv - 1) = lv - 1 := wrap_small (by omega) (by omega)
            have hw4 : wrap64 lv = lv := by
              unfold wrap64
              omega
            have hwj : IntKind.i64.wrap ((j : Int) + 1) = (j : Int) + 1 := wrap_small (by omega) (by omega)
            clear hon hx HRw c3 hbg
            cases cs <;> cases cr
            · rw [lev_ff, lim_f] at k1
              rw [inc_f] at k2
              have hst := set_more (P := fun t => t < j) hfl (by rw [HT.out.len]; omega) k2
              have hnew := HT.out.store j (decide (lv ≤ lm))
              have K1 := Lib.hid k1
              have HST := Lib.hid hst
              have HNW := Lib.hid hnew
              clear k1 k2 hst hnew hfl
              go_wp2
              go_roundw
              case rel => exact ⟨j + 1, lv, lm, _, by omega, by omega, by go_num, rfl, rfl, HNW.out, (fun t h1 => HST.out t (by omega)), K1.out, ⟨by omega, by omega⟩, ⟨by omega, by omega⟩⟩
              case measure => simp [intOf]; omega
            · rw [lev_ft, lim_ft] at k1
              rw [inc_f] at k2
              have hst := set_more (P := fun t => t < j) hfl (by rw [HT.out.len]; omega) k2
              have hnew := HT.out.store j (decide (lv ≤ lm))
              have HST := Lib.hid hst
              have HNW := Lib.hid hnew
              clear k2 hst hnew hfl
              by_cases hlt : (lv - 1) < lm
              · rw [if_pos hlt] at k1
                have zl : decide ((lv - 1) < lm) = true := by rw [decide_eq_true_iff]; exact hlt
                have K1 := Lib.hid k1
                clear k1
                go_wp2
                go_roundw
                case rel => exact ⟨j + 1, (lv - 1), (lv - 1), _, by omega, by omega, by go_num, rfl, rfl, HNW.out, (fun t h1 => HST.out t (by omega)), K1.out, ⟨by omega, by omega⟩, ⟨by omega, by omega⟩⟩
                case measure => simp [intOf]; omega
              · rw [if_neg hlt] at k1
                have zl : decide ((lv - 1) < lm) = false := by rw [decide_eq_false_iff_not]; exact hlt
                have K1 := Lib.hid k1
                clear k1
                go_wp2
                go_roundw
                case rel => exact ⟨j + 1, (lv - 1), lm, _, by omega, by omega, by go_num, rfl, rfl, HNW.out, (fun t h1 => HST.out t (by omega)), K1.out, ⟨by omega, by omega⟩, ⟨by omega, by omega⟩⟩
                case measure => simp [intOf]; omega
            · rw [lev_tf, lim_f] at k1
              rw [inc_t] at k2
              have hst := set_more (P := fun t => t < j) hfl (by rw [HT.out.len]; omega) k2
              have hnew := HT.out.store j (decide ((lv + 1) ≤ lm))
              have K1 := Lib.hid k1
              have HST := Lib.hid hst
              have HNW := Lib.hid hnew
              clear k1 k2 hst hnew hfl
              go_wp2
              go_roundw
              case rel => exact ⟨j + 1, (lv + 1), lm, _, by omega, by omega, by go_num, rfl, rfl, HNW.out, (fun t h1 => HST.out t (by omega)), K1.out, ⟨by omega, by omega⟩, ⟨by omega, by omega⟩⟩
              case measure => simp [intOf]; omega
            · rw [lev_tt, lim_tt] at k1
              rw [inc_t] at k2
              have hst := set_more (P := fun t => t < j) hfl (by rw [HT.out.len]; omega) k2
              have hnew := HT.out.store j (decide ((lv + 1) ≤ lm))
              have HST := Lib.hid hst
              have HNW := Lib.hid hnew
              clear k2 hst hnew hfl
              by_cases hlt : lv < lm
              · rw [if_pos hlt] at k1
                have zl : decide (lv < lm) = true := by rw [decide_eq_true_iff]; exact hlt
                have K1 := Lib.hid k1
                clear k1
                go_wp2
                go_roundw
                case rel => exact ⟨j + 1, lv, lv, _, by omega, by omega, by go_num, rfl, rfl, HNW.out, (fun t h1 => HST.out t (by omega)), K1.out, ⟨by omega, by omega⟩, ⟨by omega, by omega⟩⟩
                case measure => simp [intOf]; omega
              · rw [if_neg hlt] at k1
                have zl : decide (lv < lm) = false := by rw [decide_eq_false_iff_not]; exact hlt
                have K1 := Lib.hid k1
                clear k1
                go_wp2
                go_roundw
                case rel => exact ⟨j + 1, lv, lm, _, by omega, by omega, by go_num, rfl, rfl, HNW.out, (fun t h1 => HST.out t (by omega)), K1.out, ⟨by omega, by omega⟩, ⟨by omega, by omega⟩⟩
                case measure => simp [intOf]; omega
          · obtain rfl : j = n := by omega
            obtain rfl : fl = F := by
              have hl1 : fl.length = j := HT.out.len
              have hl2 : F.length = j := by rw [HFl.out, HN.out]
              refine List.ext_getElem? fun t => ?_
              by_cases ht : t < j
              · exact hfl t ht
              · rw [List.getElem?_eq_none (by omega), List.getElem?_eq_none (by omega)]
            have h0 : Pile (g + 1) wr (.slice none 0 0) (pickF (p.take 0) (fl.take 0)) := by
              have e : pickF (p.take 0) (fl.take 0) = [] := by
                rw [List.take_zero, List.take_zero, pickF.eq_2 []]
                intro s r f fs h
                cases h
              rw [e]
              exact Pile.nil _ _
            have HP0 := Lib.hid h0
            clear h0 hfl hon u1 u2 u3 u4 HRw hjn hjn0
            go_wp2_with fail
            go_loopw [12, 13] (fun o iv wr => ∃ i : Nat, i ≤ j ∧ iv = .int .i64 (i : Int) ∧ Tbl w wr g j fl ∧ Pile (g + 1) wr o (pickF (p.take i) (fl.take i))) (fun _ i _ => j - (intOf i).toNat)
            case atStart => exact ⟨0, Nat.zero_le _, rfl, HT.out, HP0.out⟩
            case round =>
              clear HT HP0
              obtain ⟨i, hi, rfl, hT, hP⟩ := hrel
              obtain ⟨A3, c3, rfl, hLi⟩ := hP.form
              have HT := Lib.hid hT
              have HPi := Lib.hid hP
              have HRw := Lib.hid (HR.out.below (by rw [← HG.out]; exact hT.below))
              clear hT hP
              by_cases hij : (i : Int) < j
              · have hip : i < p.length := by rw [HN.out]; omega
                have hif : i < fl.length := by rw [HT.out.len]; omega
                have hst := pick_step p fl i hip hif
                have hwi : IntKind.i64.wrap ((i : Int) + 1) = (i : Int) + 1 := wrap_small (by omega) (by omega)
                have t0 := HT.out.cell hif
                obtain ⟨b, off, rfl, c0, -⟩ := five_of HRw.out hip
                have hlp : (pickF (p.take i) (fl.take i)).length ≤ 1000000 := by
                  have := pick_len (p.take i) (fl.take i)
                  rw [List.length_take] at this
                  omega
                obtain ⟨y, hy⟩ : ∃ y, y = p[i].node := ⟨_, rfl⟩
                rw [← hy] at c0 hst
                obtain ⟨d, hd⟩ : ∃ d, d = fl[i] := ⟨_, rfl⟩
                rw [← hd] at t0 hst
                obtain ⟨ps, hps⟩ : ∃ ps, ps = pickF (p.take i) (fl.take i) := ⟨_, rfl⟩
                rw [← hps] at HPi hst hlp ⊢
                have HST := Lib.hid hst
                clear hst hy hd hps hip hif hLi HRw
                cases d
                · go_wp2
                  go_roundw
                  case rel => exact ⟨i + 1, by omega, by go_num, HT.out, by rw [HST.out, if_neg (by decide), List.append_nil]; exact HPi.out⟩
                  case measure => simp [intOf]; omega
                · have e2 : pickF (p.take (i + 1)) (fl.take (i + 1)) = ps ++ [y] := by
                    rw [HST.out]
                    simp
                  have E2 := Lib.hid e2
                  clear e2
                  have hpa := HPi.out.alloc (.cells #[.int .i64 y] 3)
                  have hba : Has (wr.alloc (.cells #[.int .i64 y] 3)) wr.heap.size _ := Has.fresh wr (.cells #[.int .i64 y] 3)
                  have hsa : g + 1 ≤ (wr.alloc (.cells #[.int .i64 y] 3)).heap.size := by
                    have := own_in HT.out.own g rfl
                    rw [World.size_alloc]
                    omega
                  have hTa : Tbl w (wr.alloc (.cells #[.int .i64 y] 3)) g j fl := HT.out.kept (F := fun i => wr.heap.size ≤ i) (Keeps.of_below ((Below.refl _ wr).alloc (Nat.le_refl _) _) fun _ _ h => h) fun i h => by
                    have := own_in HT.out.own g rfl
                    omega
                  have HPA := Lib.hid hpa
                  have HBA := Lib.hid hba
                  have HSA := Lib.hid hsa
                  have HTA := Lib.hid hTa
                  clear hpa hba hsa hTa HPi HT
                  go_wp2_with (at_builtin; refine wpList_push rfl (.tmp 104) (.tmp 110) rfl rfl HPA.out rfl HBA.out hlp HSA.out ?_; intro g2 cap w4 hp4 hk4 hat4 _; have HT4 := Lib.hid (HTA.out.kept hk4 fun i e => by have := (HPA.out.lt i e).1; omega); have HP4 := Lib.hid hp4; clear hp4 hk4 hat4)
                  go_roundw
                  case rel => exact ⟨i + 1, by omega, by go_num, HT4.out, by rw [E2.out]; exact HP4.out⟩
                  case measure => simp [intOf]; omega
              · have e1 : pickF (p.take i) (fl.take i) = seeP p v := by
                  rw [HFs.out, List.take_of_length_le (by rw [HN.out]; omega), List.take_of_length_le (by rw [HT.out.len]; omega)]
                rw [e1] at hLi ⊢
                have HLi := Lib.hid hLi
                clear e1 hLi HPi
                go_wp2
                go_ret
                exact ⟨_, _, rfl, HLi.out, by rw [← HG.out]; exact HT.out.below⟩
      | succ j =>
        have hjp : j < p.length := by rw [HN.out]; omega
        obtain ⟨k1, k2⟩ := walk_back hjp HFl.out hbk
        obtain ⟨b, off, rfl, -, -, -, c3, c4⟩ := five_of HRw.out hjp
        obtain ⟨x, hx⟩ : ∃ x, x = p[j] := ⟨_, rfl⟩
        rw [← hx] at c3 c4 k1 k2
        obtain ⟨x0, x1, x2, cr, cs⟩ := x
        simp only at c3 c4 k1 k2
        have hbg : b ≠ g := fun e => by
          obtain ⟨b', off', e', hb', -⟩ := HR.out.at_ j hjp
          have := HG.out
          cases e'
          omega
        have h4 : ∀ u, (wr.setCell ⟨g, j, none⟩ u).cell? ⟨b, off + j * 5 + 4, none⟩ = some (.bool cs) := fun u => (World.cell?_of_block (w := wr) (Below.heap_setCell _ _ _ _ hbg)).trans c4
        have t0 := HT.out.cell (j := j) (by rw [HT.out.len]; omega)
        have t1 := HT.out.free j
        have hkk : (((j + 1 : Nat) : Int) - 1) = (j : Int) := by omega
        rw [hkk]
        have hjn : (j : Int) < n := by omega
        have hw1 : IntKind.i64.wrap (lv + 1) = lv + 1 := wrap_small (by omega) (by omega)
        have hw3 : IntKind.i64.wrap (lv - 1) = lv - 1 := wrap_small (by omega) (by omega)
        have hw4 : wrap64 lv = lv := by
          unfold wrap64
          omega
        have hwj : IntKind.i64.wrap ((j : Int) - 1) = (j : Int) - 1 := wrap_small (by omega) (by omega)
        replace hfl : ∀ t, (j + 1 ≤ t ∧ t ≤ k) → fl[t]? = F[t]? := fun t h => hfl t h.1 h.2
        clear hbk hx hkk HRw c4 hbg
        cases cr <;> cases cs
        · rw [lev_ff, lim_f] at k1
          rw [inc_f] at k2
          have hst := set_more (P := fun t => j + 1 ≤ t ∧ t ≤ k) hfl (by rw [HT.out.len]; omega) k2
          have hnew := HT.out.store j (decide (lv ≤ lm))
          have K1 := Lib.hid k1
          have HST := Lib.hid hst
          have HNW := Lib.hid hnew
          clear k1 k2 hst hnew hfl
          go_wp2
          go_roundw
          case rel => exact ⟨j, lv, lm, _, by omega, rfl, rfl, rfl, HNW.out, (fun t h1 h2 => HST.out t (by omega)), K1.out, ⟨by omega, by omega⟩, ⟨by omega, by omega⟩⟩
          case measure => simp [intOf]
        · rw [lev_ft, lim_ft] at k1
          rw [inc_f] at k2
          have hst := set_more (P := fun t => j + 1 ≤ t ∧ t ≤ k) hfl (by rw [HT.out.len]; omega) k2
          have hnew := HT.out.store j (decide (lv ≤ lm))
          have HST := Lib.hid hst
          have HNW := Lib.hid hnew
          clear k2 hst hnew hfl
          by_cases hlt : (lv - 1) < lm
          · rw [if_pos hlt] at k1
            have zl : decide ((lv - 1) < lm) = true := by rw [decide_eq_true_iff]; exact hlt
            have K1 := Lib.hid k1
            clear k1
            go_wp2
            go_roundw
            case rel => exact ⟨j, (lv - 1), (lv - 1), _, by omega, rfl, rfl, rfl, HNW.out, (fun t h1 h2 => HST.out t (by omega)), K1.out, ⟨by omega, by omega⟩, ⟨by omega, by omega⟩⟩
            case measure => simp [intOf]
          · rw [if_neg hlt] at k1
            have zl : decide ((lv - 1) < lm) = false := by rw [decide_eq_false_iff_not]; exact hlt
            have K1 := Lib.hid k1
            clear k1
            go_wp2
            go_roundw
            case rel => exact ⟨j, (lv - 1), lm, _, by omega, rfl, rfl, rfl, HNW.out, (fun t h1 h2 => HST.out t (by omega)), K1.out, ⟨by omega, by omega⟩, ⟨by omega, by omega⟩⟩
            case measure => simp [intOf]
        · rw [lev_tf, lim_f] at k1
          rw [inc_t] at k2
          have hst := set_more (P := fun t => j + 1 ≤ t ∧ t ≤ k) hfl (by rw [HT.out.len]; omega) k2
          have hnew := HT.out.store j (decide ((lv + 1) ≤ lm))
          have K1 := Lib.hid k1
          have HST := Lib.hid hst
          have HNW := Lib.hid hnew
          clear k1 k2 hst hnew hfl
          go_wp2
          go_roundw
          case rel => exact ⟨j, (lv + 1), lm, _, by omega, rfl, rfl, rfl, HNW.out, (fun t h1 h2 => HST.out t (by omega)), K1.out, ⟨by omega, by omega⟩, ⟨by omega, by omega⟩⟩
          case measure => simp [intOf]
        · rw [lev_tt, lim_tt] at k1
          rw [inc_t] at k2
          have hst := set_more (P := fun t => j + 1 ≤ t ∧ t ≤ k) hfl (by rw [HT.out.len]; omega) k2
          have hnew := HT.out.store j (decide ((lv + 1) ≤ lm))
          have HST := Lib.hid hst
          have HNW := Lib.hid hnew
          clear k2 hst hnew hfl
          by_cases hlt : lv < lm
          · rw [if_pos hlt] at k1
            have zl : decide (lv < lm) = true := by rw [decide_eq_true_iff]; exact hlt
            have K1 := Lib.hid k1
            clear k1
            go_wp2
            go_roundw
            case rel => exact ⟨j, lv, lv, _, by omega, rfl, rfl, rfl, HNW.out, (fun t h1 h2 => HST.out t (by omega)), K1.out, ⟨by omega, by omega⟩, ⟨by omega, by omega⟩⟩
            case measure => simp [intOf]
          · rw [if_neg hlt] at k1
            have zl : decide (lv < lm) = false := by rw [decide_eq_false_iff_not]; exact hlt
            have K1 := Lib.hid k1
            clear k1
            go_wp2
            go_roundw
            case rel => exact ⟨j, lv, lm, _, by omega, rfl, rfl, rfl, HNW.out, (fun t h1 h2 => HST.out t (by omega)), K1.out, ⟨by omega, by omega⟩, ⟨by omega, by omega⟩⟩
            case measure => simp [intOf]
end
end Go.Proofs.Ytphpbeapibohiaa

namespace Go.Proofs.Ytphpbeapibohiaa
open Go Go.RowKit

theorem Try.infoS : (Try.prog.info? 28).map (fun i => (i.zero, i.size, i.bytes)) = some (some (.agg #[.int .i64 0, .int .i64 0, .int .i64 0, .bool false, .bool false]), 5, 32) := by kernel_rfl
theorem rec_empty (w : World) : Recs RS 28 w.heap.size (w.alloc (.cells #[] 28)) (.slice (some ⟨w.heap.size, 0, none⟩) 0 0) [] :=
  ⟨rfl, .inr ⟨w.heap.size, 0, #[], rfl, Nat.le_refl _, Has.fresh w (.cells #[] 28), Nat.le_refl _, Nat.zero_le _, rfl, rfl⟩⟩
section
variable {w : World}
set_option maxRecDepth 100000 in
set_option maxHeartbeats 8000000 in
theorem seeTells_any (A : Option Addr) (n c : Nat) (p : List Stp) (v : Int) (w : World) (hn : p.length = n) (hR : RecIn RS w A c p) :
    Calls Try.prog 3 #[.slice A n c, .int .i64 v] w fun e w' => e = .returned (.bool true) ∧ Below w.heap.size w w' := by
  have hnot : ∀ (x : Bool) (w : World), (Op.unary .not (.bool x)).run Try.prog w = .ok (.bool (!x)) w := fun _ _ => rfl
  have HR := Lib.hid hR
  have HN := Lib.hid hn
  clear hR hn
  go_enter Try.func3, Try.ntmps3
  go_wp2_with fail
  refine (awake15 w).mono ?_
  rintro e w0 ⟨rfl, hb0⟩
  have HB0 := Lib.hid hb0
  clear hb0
  by_cases hl : (300 : Int) < n
  · have z0 : decide ((300 : Int) < n) = true := by rw [decide_eq_true_iff]; exact hl
    go_wp2
    go_ret
    exact ⟨rfl, HB0.out⟩
  · have hl3 : n ≤ 300 := by omega
    have z0 : decide ((300 : Int) < n) = false := by rw [decide_eq_false_iff_not]; exact hl
    obtain ⟨j0, qi, qz0, qz1, qz2⟩ := info_parts Try.infoS
    have Qi := Lib.hid qi
    have Qz0 := Lib.hid qz0
    have Qz1 := Lib.hid qz1
    have Qz2 := Lib.hid qz2
    have HE := Lib.hid (rec_empty w0)
    have HGv := Lib.hid (((HR.out.below HB0.out).below ((Below.refl _ w0).alloc (Nat.le_refl _) (.cells #[] 28))).gives HN.out.symm)
    have HS : Hid (w0.heap.size ≤ (w0.alloc (.cells #[] 28)).heap.size) := Lib.hid (by simp)
    clear qi qz0 qz1 qz2 hl
    go_wp2_with (at_builtin; refine wpList_joinR (R := RS) (xs := []) (ys := p) (v := .slice (some ⟨w0.heap.size, 0, none⟩) 0 0) (X := .slice A n c) (m := n) (base := w0.heap.size) rfl (.tmp 14) (.tmp 15) 22 rfl j0 _ 32 Try.underlying22 Qi.out Qz0.out Qz1.out Qz2.out rfl rfl rfl HE.out HGv.out HN.out.symm (by rw [HN.out]; simp; omega) (by omega) HS.out ?_; intro v1 w1 hR1 hk1 hat1; rw [List.nil_append] at hR1; obtain ⟨A1, c1, rfl, hI1⟩ := hR1.form; rw [HN.out]; have HI1 := Lib.hid hI1; have HB1 := Lib.hid (below_then (HB0.out.alloc HB0.out.size (.cells #[] 28)) hk1 (by rw [World.size_alloc]; have := HB0.out.size; omega) fun i hi e => by have := HB0.out.size; have e2 : w0.heap.size = i := (by simpa [Value.ownBlock] using e); omega); clear hR1 hk1 hat1 hI1)
    refine (seFrom v HI1.out HN.out hl3).mono ?_
    rintro e w2 ⟨x, rfl, hx, hb2⟩
    obtain ⟨A2, c2, rfl, hL2⟩ := own_list hx
    have HI2 := Lib.hid (HI1.out.below hb2)
    have HB2 := Lib.hid (HB1.out.trans (hb2.mono HB1.out.size))
    have HL2 := Lib.hid hL2
    clear hx hb2 hL2 HI1 HB1 HE HGv HS
    go_wp2_with fail
    refine (seLevel v HI2.out HN.out hl3).mono ?_
    rintro e w3 ⟨rfl, hb3⟩
    have HI3 := Lib.hid (HI2.out.below hb3)
    have HB3 := Lib.hid (HB2.out.trans (hb3.mono HB2.out.size))
    have HL3 := Lib.hid (HL2.out.below hb3)
    have HR3 := Lib.hid (HR.out.below HB3.out)
    clear hb3 HI2 HB2 HL2
    go_wp2_with fail
    go_loopw [8] (fun i wr => ∃ k m : Nat, i = .int .i64 k ∧ k ≤ n ∧ wr = w3.drewN m) (fun i _ => n - (intOf i).toNat)
    case atStart => exact ⟨0, 0, rfl, Nat.zero_le _, rfl⟩
    case round =>
      obtain ⟨k, m, rfl, hk, rfl⟩ := hrel
      by_cases hlt : (k : Int) < n
      · have hkn : k < p.length := by rw [HN.out]; omega
        obtain ⟨b, off, rfl, c0, c1, c2, c3, c4⟩ := five_of HI3.out hkn
        obtain ⟨b', off', rfl, d0, d1, d2, d3, d4⟩ := five_of HR3.out hkn
        obtain ⟨x, hx⟩ : ∃ x, x = p[k] := ⟨_, rfl⟩
        rw [← hx] at c0 c1 c2 c3 c4 d0 d1 d2 d3 d4
        obtain ⟨x0, x1, x2, x3, x4⟩ := x
        simp only at c0 c1 c2 c3 c4 d0 d1 d2 d3 d4
        have hwk : IntKind.i64.wrap ((k : Int) + 1) = (k : Int) + 1 := wrap_small (by omega) (by omega)
        clear hx hkn
        go_wp2
        go_quiet (fail)
        go_wp2
        go_roundw
        case rel => exact ⟨k + 1, m + nq, by go_num, by omega, rfl⟩
        case measure => simp [intOf]; omega
      · have hbm : Below w3.heap.size w3 (w3.drewN m) := below_draws (Below.refl _ _) m
        have HB4 := Lib.hid (HB3.out.trans (hbm.mono HB3.out.size))
        have HL4 := Lib.hid (HL3.out.below hbm)
        have HR4 := Lib.hid (HR3.out.below hbm)
        obtain ⟨W4, hW4⟩ : ∃ W4, W4 = w3.drewN m := ⟨_, rfl⟩
        rw [← hW4] at HB4 HL4 HR4 ⊢
        clear hbm HB3 HL3 HR3 HI3 hW4
        go_wp2_with fail
        refine (rfFrom v HR4.out HN.out hl3).mono ?_
        rintro e w5 ⟨A5, c5, rfl, hL5, hb5⟩
        have HB5 := Lib.hid (HB4.out.trans (hb5.mono HB4.out.size))
        have HL5 := Lib.hid (HL4.out.below hb5)
        have HM5 := Lib.hid hL5
        have HR5 := Lib.hid (HR4.out.below hb5)
        clear hb5 hL5 HB4 HL4 HR4
        have hsl : (seeP p v).length ≤ 1000000 := by
          have := (see_sub (p := p) (v := v)).length_le
          rw [List.length_map, HN.out] at this
          omega
        have HSL := Lib.hid hsl
        have e1 : sameInts (seeP p v) (seeP p v) = true := by simp [sameInts]
        clear hsl
        go_wp2_with fail
        refine (ints_any (seeP p v) (seeP p v) A2 A5 _ _ c2 c5 _ rfl rfl HSL.out HL5.out.nums HM5.out.nums).mono ?_
        rintro e w6 ⟨rfl, hb6⟩
        rw [e1]
        have HB6 := Lib.hid (HB5.out.trans (hb6.mono HB5.out.size))
        have HR6 := Lib.hid (HR5.out.below hb6)
        clear hb6 HB5 HL5 HM5 HR5 e1
        go_wp2_with fail
        refine (rfLevel v HR6.out HN.out hl3).mono ?_
        rintro e w7 ⟨rfl, rfl⟩
        go_wp2
        go_ret
        exact ⟨rfl, HB6.out⟩
end
end Go.Proofs.Ytphpbeapibohiaa

namespace Go.Proofs.Ytphpbeapibohiaa
open Go.ChangeShapes Go.WideShapes Go.ChangeAt Go.RowKit
open Go.ChangeMaps (open_string shut_string)

set_option maxRecDepth 100000 in
theorem seeTells_lifted (os : Os) (started : os.Started) (H : Type) (enc : TypeId × Value → H) :
    ReturnsInHanded {} Try.checked os 3 .any (Rows.seeTellsSpec.pre6 enc Try.prog Try.f3 Rows.seeTellsRow.domain false) (Rows.seeTellsSpec.post enc Try.prog Try.f3 false true false false) := by
  refine returnsInHanded_of_change (C := Try.checked) own started (by kernel_rfl) Try.func3
    (ChangeSpec.witness6 (enc := enc) (C := Try.checked) false ⟨#[], #[.slice none 0 0, .int .i64 0], []⟩ 8 (by kernel_rfl) (by kernel_rfl) (by kernel_rfl) (by kernel_rfl)) ?_
  intro W base args ds gs before hval0 hW hcnd _
  have hval : ∀ (j : Nat) t v, Try.f3.params[j]? = some t → args[j]? = some v → Value.okWide Try.prog W .any base t v := hval0
  clear hval0 hcnd
  have hW' := hW
  obtain ⟨p, q, hA0, hV, rfl, hfz, hnd⟩ := hW
  have hA : DataW.TrodAll enc Try.prog W 0 (fun _ => true) true Try.f3.params.toList args.toList ds p := hA0
  rw [Try.params3] at hA hval
  obtain ⟨v0, vs0, d0, ds0, p0, q0, hargs, rfl, rfl, h0, r0⟩ := trodAll_cons hA
  obtain ⟨v1, vs1, d1, ds1, p1, q1, rfl, rfl, rfl, h1, r1⟩ := trodAll_cons r0
  obtain ⟨rfl, rfl, rfl⟩ := trodAll_nil r1
  obtain rfl : args = #[v0, v1] := by cases args; simp_all
  obtain ⟨rfl, rfl⟩ := trodVars_none hV
  obtain ⟨A0, n0, c0, rfl⟩ := okWide_slice Try.underlying22 (hval 0 22 v0 rfl rfl)
  have k0 := h0
  have lt0 : ∀ x ∈ p0, x.block < W.heap.size := by obtain ⟨m, hm⟩ := k0; exact DataW.trod_lt m _ _ _ hm
  obtain ⟨x0, l0, y0, z0, q0x⟩ : ∃ xs : List Stp, xs.length = n0 ∧ RecIn RS W A0 c0 xs ∧ n0 ≤ c0 ∧ n0 ≤ maxLen := by
    obtain ⟨fuel, hf⟩ := h0
    exact steps_in hf
  obtain ⟨a1, rfl, rfl, rfl, w1⟩ := open_int Try.underlying3 (hval 1 3 v1 rfl rfl) h1
  clear hA0
  refine (seeTells_any A0 n0 c0 x0 a1 W l0 y0).mono fun e W' ⟨he, bel⟩ => ?_
  subst he
  exact ⟨_, rfl, _, _, _, [], _, [], hW', trodAll_mk1 (shut_bool Try.underlying4 _), (trodAll_cons_mk (Below.trod laidOut (by kernel_rfl) (of_decide_eq_true (by kernel_rfl)) k0 bel lt0) (trodAll_cons_mk (shut_int Try.underlying3 w1) trodAll_mk0)), rfl, bel.frame _, fun h => by cases h⟩

theorem seeTells_holds : Rows.SeeTellsSaid :=
  OpenClaim.holds_of_wide 3 Try.f3 rfl rfl rfl rfl rfl rfl rfl ⟨rfl, rfl, rfl, rfl, rfl⟩ rfl rfl rfl rfl rfl (by kernel_rfl) Try.func3 (by kernel_rfl)
    (of_decide_eq_true (by kernel_rfl)) (by unfold Func.isWrapper; rw [if_neg (by decide +kernel)]; exact ⟨rfl, rfl⟩)
    (fun os started H enc _ => seeTells_lifted os started H enc)
end Go.Proofs.Ytphpbeapibohiaa
