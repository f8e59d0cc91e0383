/-
  Paths that came in: a list of entries, read cell by cell.
  What towncrierlaw15.awake does: it answers true. A list of records, written out.
  What towncrierlaw15.SeePart does: it answers true.
  Proved: the law answers true for every input, and each argument reads afterwards as it read before. No condition.
-/
import Derived.Test.YtphpbeapibohiaaPartD
import Derived.Test.YtphpbeapibohiaaRows
import Derived.ProofKit
import Derived.OpenShut
import Derived.ChangeOld

namespace Go.Proofs.Ytphpbeapibohiaa
open Go Go.ChangeShapes Go.WideShapes Go.ChangeAt Go.RowKit

section
variable {H : Type} {enc : TypeId × Value → H} {W : World} {sp : Nat → Bool} {held : Bool} {fuel : Nat} {cs : List Value} {y : DataW H × List MemPlace}
theorem step_in (h : DataW.trod enc Try.prog W 0 sp held fuel 28 cs = some y) : ∃ s : Stp, cs = s.cells := by
  obtain ⟨xs, n, _, _, hlen, hxl, hf⟩ := DataW.trod_struct Try.underlying28 h
  have h5 : cs.length = 5 := hlen.trans (by kernel_rfl)
  have hxl' : xs.length = 5 := hxl
  have one : Try.prog.cellsOf 3 = 1 := by kernel_rfl
  have oneB : Try.prog.cellsOf 4 = 1 := by kernel_rfl
  have get : ∀ i, i < 5 → ∃ z, xs[i]? = some z := fun i hi => ⟨xs[i]'(by omega), List.getElem?_eq_getElem _⟩
  obtain ⟨z0, g0⟩ := get 0 (by omega)
  obtain ⟨z1, g1⟩ := get 1 (by omega)
  obtain ⟨z2, g2⟩ := get 2 (by omega)
  obtain ⟨z3, g3⟩ := get 3 (by omega)
  obtain ⟨z4, g4⟩ := get 4 (by omega)
  obtain ⟨a0, e0, _, _⟩ := DataW.trod_int Try.underlying3 ((hf 0 _ rfl).trans g0)
  obtain ⟨a1, e1, _, _⟩ := DataW.trod_int Try.underlying3 ((hf 1 _ rfl).trans g1)
  obtain ⟨a2, e2, _, _⟩ := DataW.trod_int Try.underlying3 ((hf 2 _ rfl).trans g2)
  obtain ⟨a3, e3, _⟩ := DataW.trod_bool Try.underlying4 ((hf 3 _ rfl).trans g3)
  obtain ⟨a4, e4, _⟩ := DataW.trod_bool Try.underlying4 ((hf 4 _ rfl).trans g4)
  refine ⟨⟨a0, a1, a2, a3, a4⟩, ?_⟩
  refine List.ext_getElem? fun i => ?_
  match i with
  | 0 => exact part_one e0 one
  | 1 => exact part_one e1 one
  | 2 => exact part_one e2 one
  | 3 => exact part_one e3 oneB
  | 4 => exact part_one e4 oneB
  | i + 5 => rw [List.getElem?_eq_none (by omega), List.getElem?_eq_none (by show 5 ≤ i + 5; omega)]
theorem steps_in {A : Option Addr} {n cap : Nat} (h : DataW.trod enc Try.prog W 0 sp held fuel 22 [.slice A n cap] = some y) : ∃ xs : List Stp, xs.length = n ∧ RecIn RS W A cap xs ∧ n ≤ cap ∧ n ≤ maxLen := by
  have c5 : Try.prog.cellsOf 28 = 5 := by kernel_rfl
  rcases DataW.trod_slice Try.underlying22 h with ⟨hv, _⟩ | ⟨a, n', cap', elems, rest, m, _, hv, _, _, hl, hm, hlen, hel, _, _⟩
  · obtain ⟨rfl, rfl, rfl⟩ : A = none ∧ n = 0 ∧ cap = 0 := by simpa using hv
    exact ⟨[], rfl, RecIn.none_ _ _, Nat.le_refl 0, Nat.zero_le _⟩
  · obtain ⟨rfl, rfl, rfl⟩ : A = some a ∧ n = n' ∧ cap = cap' := by simpa using hv
    have each : ∀ i, i < n → ∃ x : Stp, ∃ b off, some a = some (⟨b, off, none⟩ : Addr) ∧ b < W.heap.size ∧ ∀ f, f < 5 → W.cell? ⟨b, off + (i * 5 + f), none⟩ = x.cells[f]? := fun i hi => by
      have hb := hel i hi
      rw [List.getElem?_eq_getElem (by omega), c5, Option.bind_eq_some_iff] at hb
      obtain ⟨cs, hcs, ht⟩ := hb
      obtain ⟨x, rfl⟩ := step_in ht
      obtain ⟨_, _, hc⟩ := World.cells?_some hcs
      obtain ⟨b, off, spot⟩ := a
      have hsp : spot = none := by
        have hb0 := hel 0 (by omega)
        rw [List.getElem?_eq_getElem (by omega), c5, Option.bind_eq_some_iff] at hb0
        obtain ⟨cs0, hcs0, _⟩ := hb0
        obtain ⟨_, hl0, hc0⟩ := World.cells?_some hcs0
        have h1 := hc0 0 (by omega)
        rw [List.getElem?_eq_getElem (by omega)] at h1
        simpa [Addr.add] using World.cell?_spot h1
      subst hsp
      have hc' : ∀ f, f < 5 → W.cell? ⟨b, off + (i * 5 + f), none⟩ = x.cells[f]? := fun f hf => by
        have := hc f hf
        rw [Addr.add_lit, Addr.add_lit, Nat.add_assoc] at this
        exact this
      exact ⟨x, b, off, rfl, cell_in (hc' 0 (by omega)), hc'⟩
    refine ⟨(List.range n).attach.map fun i => (each i.1 (List.mem_range.1 i.2)).choose, by simp, ⟨by simpa using hl, (fun e => by cases e), fun i hi => ?_⟩, hl, Nat.le_trans hl hm⟩
    have hi' : i < n := by simpa using hi
    have := (each i hi').choose_spec
    simp only [List.getElem_map, List.getElem_attach, List.getElem_range]
    exact this
end
end Go.Proofs.Ytphpbeapibohiaa

namespace Go.Proofs.Ytphpbeapibohiaa
open Go Go.RowKit

theorem rec_lit {α : Type} {R : Rec α} {W : World} {b : Nat} {e : TypeId} {fr : Nat × Nat} {xs : List α} (h : Has W b (.cells (flatR R xs).toArray e fr)) : RecIn R W (some ⟨b, 0, none⟩) xs.length xs :=
  ⟨Nat.le_refl _, (fun e => by cases e), fun i hi => ⟨b, 0, rfl, h.inside, fun f hf => by rw [h.cell, Nat.zero_add, List.getElem?_toArray, flatR_get (List.getElem?_eq_getElem hi) hf]⟩⟩
/-- What a call tells may be read. -/
theorem own_list {w : World} {base : Nat} {x : Value} {xs : List Int} (h : w.ownsRow base 3 1 x xs.length (xs.map (Value.int .i64))) : ∃ A c, x = .slice A xs.length c ∧ ListIn w A c xs := by
  rcases h.2 with ⟨rfl, h0⟩ | ⟨g, cap, cur, rfl, _, hg, hc, _⟩
  · have hx : xs = [] := List.eq_nil_of_length_eq_zero h0
    subst hx
    exact ⟨none, 0, rfl, listNone _⟩
  · refine ⟨_, cap, rfl, hc, (fun e => by cases e), fun i hi => ⟨g, 0, rfl, Has.inside hg, ?_⟩⟩
    rw [Nat.zero_add, h.cellAt i (by omega), List.getElem?_map, List.getElem?_eq_getElem hi]
    rfl
def path3 : List Stp := [⟨3, 3, 0, false, false⟩, ⟨2, 0, 0, false, false⟩, ⟨1, 0, 0, false, false⟩]
theorem path3_see : seeP path3 2 = [3, 2, 1] := by decide +kernel
set_option maxRecDepth 100000 in
set_option maxHeartbeats 4000000 in
theorem awake15 (w : World) : Calls Try.prog 8 #[] w fun e w' => e = .returned (.bool true) ∧ Below w.heap.size w w' := by
  have hA : RecIn RS (w.alloc (.cells #[.int .i64 3, .int .i64 3, .int .i64 0, .bool false, .bool false, .int .i64 2, .int .i64 0, .int .i64 0, .bool false, .bool false, .int .i64 1, .int .i64 0, .int .i64 0, .bool false, .bool false] 28)) (some ⟨w.heap.size, 0, none⟩) 3 path3 := rec_lit (xs := path3) (fr := (0, 0)) (Has.fresh w (.cells #[.int .i64 3, .int .i64 3, .int .i64 0, .bool false, .bool false, .int .i64 2, .int .i64 0, .int .i64 0, .bool false, .bool false, .int .i64 1, .int .i64 0, .int .i64 0, .bool false, .bool false] 28))
  have hC := seFrom 2 hA (n := 3) rfl (by decide)
  rw [path3_see] at hC
  have HC := Lib.hid hC
  clear hA hC
  go_enter Try.func8, Try.ntmps8
  go_wp2_with fail
  refine HC.out.mono ?_
  rintro e w2 ⟨x, rfl, hx, hb2⟩
  obtain ⟨A2, c2, rfl, hL2⟩ := own_list hx
  have hB : Below w.heap.size w w2 := ((Below.refl _ w).alloc (Nat.le_refl _) _).trans (hb2.mono (by simp))
  have HB := Lib.hid hB
  have hL3 : ListIn (w2.alloc (.cells #[.int .i64 3, .int .i64 2, .int .i64 1] 3)) (some ⟨w2.heap.size, 0, none⟩) 3 [3, 2, 1] := listLit (xs := [3, 2, 1]) (Has.fresh w2 _)
  have HL2 := Lib.hid (hL2.below ((Below.refl _ w2).alloc (Nat.le_refl _) (.cells #[.int .i64 3, .int .i64 2, .int .i64 1] 3)))
  have HL3 := Lib.hid hL3
  clear hx hb2 hL2 hB hL3 HC
  go_wp2_with fail
  refine (ints_any [3, 2, 1] [3, 2, 1] A2 (some ⟨w2.heap.size, 0, none⟩) 3 3 c2 3 _ rfl rfl (by decide) HL2.out.nums HL3.out.nums).mono ?_
  rintro e w3 ⟨rfl, hb3⟩
  have HB3 := Lib.hid ((HB.out.alloc HB.out.size (.cells #[.int .i64 3, .int .i64 2, .int .i64 1] 3)).trans (hb3.mono (by rw [World.size_alloc]; have := HB.out.size; omega)))
  have e1 : sameInts [3, 2, 1] [3, 2, 1] = true := by decide
  rw [e1]
  clear hb3 e1
  go_wp2
  go_ret
  exact ⟨rfl, HB3.out⟩
end Go.Proofs.Ytphpbeapibohiaa

namespace Go.Proofs.Ytphpbeapibohiaa
open Go Go.RowKit

theorem has_more {L : List Int} {v : Int} {k : Nat} (hk : k < L.length) : decide (v ∈ L.take (k + 1)) = (decide (v ∈ L.take k) || decide (L[k] = v)) := by
  rw [List.take_add_one, List.getElem?_eq_getElem hk, Option.toList_some, Bool.eq_iff_iff]
  simp only [decide_eq_true_eq, List.mem_append, List.mem_singleton, Bool.or_eq_true]
  exact ⟨fun h => h.imp id Eq.symm, fun h => h.imp id Eq.symm⟩
theorem eat_more {ns L : List Int} {i k : Nat} (h : eatL (ns.drop i) (L.drop k) = []) (hi : i < ns.length) (hk : k < L.length) : (ns[i] = L[k] → eatL (ns.drop (i + 1)) (L.drop (k + 1)) = []) ∧ (ns[i] ≠ L[k] → eatL (ns.drop (i + 1)) (L.drop k) = []) := by
  rw [List.drop_eq_getElem_cons hi, List.drop_eq_getElem_cons hk, eatL] at h
  constructor
  · intro e
    rw [if_pos e] at h
    exact h
  · intro e
    rw [if_neg e] at h
    rw [List.drop_eq_getElem_cons hk]
    exact h
theorem eat_end {ns L : List Int} {i k : Nat} (h : eatL (ns.drop i) (L.drop k) = []) (hi : ns.length ≤ i) (hk : k ≤ L.length) : k = L.length := by
  rw [List.drop_eq_nil_of_le hi] at h
  rcases Nat.lt_or_ge k L.length with h2 | h2
  · rw [List.drop_eq_getElem_cons h2, eatL] at h
    cases h
  · omega
theorem see_both (p : List Stp) (v : Int) : decide (v ∈ seeP p v) = decide (v ∈ p.map Stp.node) ∧ (v ∉ p.map Stp.node → seeP p v = []) := by
  constructor
  · rw [Bool.eq_iff_iff]
    simp only [decide_eq_true_eq]
    constructor
    · exact fun h => see_sub.subset h
    · intro h
      obtain ⟨s, h1, h2⟩ := List.mem_map.1 h
      exact see_has ⟨s, h1, h2⟩
  · intro h
    rcases see_empty p v with ⟨s, h1, h2⟩ | h1
    · exact absurd (List.mem_map.2 ⟨s, h1, h2⟩) h
    · exact h1
section
variable {w : World}
set_option maxRecDepth 100000 in
set_option maxHeartbeats 8000000 in
theorem seePart_any (A : Option Addr) (n c : Nat) (p : List Stp) (v : Int) (w : World) (hn : p.length = n) (hR : RecIn RS w A c p) :
    Calls Try.prog 4 #[.slice A n c, .int .i64 v] w fun e w' => e = .returned (.bool true) ∧ Below w.heap.size w w' := by
  have hnot : ∀ (x : Bool) (w : World), (Op.unary .not (.bool x)).run Try.prog w = .ok (.bool (!x)) w := fun _ _ => rfl
  have HR := Lib.hid hR
  have HN := Lib.hid hn
  clear hR hn
  go_enter Try.func4, Try.ntmps4
  go_wp2_with fail
  refine (awake15 w).mono ?_
  rintro e w0 ⟨rfl, hb0⟩
  have HB0 := Lib.hid hb0
  clear hb0
  by_cases hl : (300 : Int) < n
  · have z0 : decide ((300 : Int) < n) = true := by rw [decide_eq_true_iff]; exact hl
    go_wp2
    go_ret
    exact ⟨rfl, HB0.out⟩
  · have hl3 : n ≤ 300 := by omega
    have z0 : decide ((300 : Int) < n) = false := by rw [decide_eq_false_iff_not]; exact hl
    clear hl
    go_wp2_with fail
    refine (seFrom v (HR.out.below HB0.out) HN.out hl3).mono ?_
    rintro e w2 ⟨x, rfl, hx, hb2⟩
    obtain ⟨A2, c2, rfl, hL2⟩ := own_list hx
    have HB2 := Lib.hid (HB0.out.trans (hb2.mono HB0.out.size))
    have HL2 := Lib.hid hL2
    have HR2 := Lib.hid (HR.out.below HB2.out)
    have hsl : (seeP p v).length ≤ n := by
      have := (see_sub (p := p) (v := v)).length_le
      rw [List.length_map, HN.out] at this
      exact this
    have hE := eat_sub _ _ (see_sub (p := p) (v := v))
    obtain ⟨hb1, hb3⟩ := see_both p v
    obtain ⟨L, hL⟩ : ∃ L, L = seeP p v := ⟨_, rfl⟩
    rw [← hL] at HL2 hsl hE hb1 hb3
    rw [← hL]
    obtain ⟨r, hr⟩ : ∃ r, r = L.length := ⟨_, rfl⟩
    rw [← hr] at hsl
    rw [← hr]
    obtain ⟨ns, hns⟩ : ∃ ns, ns = p.map Stp.node := ⟨_, rfl⟩
    rw [← hns] at hE hb1 hb3
    have HE := Lib.hid hE
    have H1 := Lib.hid hb1
    have H3 := Lib.hid hb3
    have Hr := Lib.hid hr
    have HNS := Lib.hid hns
    have hnl : ns.length = n := by rw [hns, List.length_map, HN.out]
    have HNL := Lib.hid hnl
    clear hx hb2 hL2 hE hb1 hb3 hL hr hns hnl HB0 HR
    go_wp2_with fail
    go_loopw [6, 7, 8] (fun kv hv iv wr => ∃ i k m : Nat, iv = .int .i64 i ∧ kv = .int .i64 k ∧ hv = .bool (decide (v ∈ L.take k)) ∧ i ≤ n ∧ k ≤ r ∧ eatL (ns.drop i) (L.drop k) = [] ∧ wr = w2.drewN m) (fun _ _ i _ => n - (intOf i).toNat)
    case atStart => exact ⟨0, 0, 0, rfl, rfl, by simp, Nat.zero_le _, Nat.zero_le _, HE.out, rfl⟩
    case round =>
      obtain ⟨i, k, m, rfl, rfl, rfl, hi, hk, he, rfl⟩ := hrel
      by_cases hik : (i : Int) < n ∧ (k : Int) < r
      · obtain ⟨hin, hkr⟩ := hik
        have hip : i < p.length := by rw [HN.out]; omega
        have hil : i < ns.length := by rw [HNL.out]; omega
        have hkl : k < L.length := by rw [← Hr.out]; omega
        obtain ⟨m1, m2⟩ := eat_more he hil hkl
        have m3 := has_more (v := v) hkl
        obtain ⟨b, off, rfl, c0, -⟩ := five_of HR2.out hip
        obtain ⟨b2, off2, rfl, -, d0⟩ := HL2.out.nums k hkl
        have e0 : ns[i] = p[i].node := by simp [HNS.out]
        obtain ⟨y, hy⟩ : ∃ y, y = ns[i] := ⟨_, rfl⟩
        rw [← e0] at c0
        rw [← hy] at c0 m1 m2
        obtain ⟨z, hz⟩ : ∃ z, z = L[k] := ⟨_, rfl⟩
        rw [← hz] at d0 m1 m2 m3
        have hwi : IntKind.i64.wrap ((i : Int) + 1) = (i : Int) + 1 := wrap_small (by omega) (by omega)
        have hwk : IntKind.i64.wrap ((k : Int) + 1) = (k : Int) + 1 := wrap_small (by omega) (by omega)
        have M1 := Lib.hid m1
        have M2 := Lib.hid m2
        have M3 := Lib.hid m3
        clear he m1 m2 m3 e0 hy hz hip hil hkl
        by_cases hyz : y = z
        · have K1 := Lib.hid (M1.out hyz)
          clear M1
          subst hyz
          obtain ⟨hb, hhb⟩ : ∃ hb, hb = decide (v ∈ L.take k) := ⟨_, rfl⟩
          rw [← hhb] at M3 ⊢
          clear hhb M2
          cases hb
          · by_cases hyv : y = v
            · have e3 : decide (v ∈ L.take (k + 1)) = true := by rw [M3.out, decide_eq_true hyv]; rfl
              have E3 := Lib.hid e3
              clear e3
              subst hyv
              go_wp2
              go_quiet (fail)
              go_wp2
              go_roundw
              case rel => exact ⟨i + 1, k + 1, m + nq, by go_num, by go_num, by rw [E3.out], by omega, by omega, K1.out, rfl⟩
              case measure => simp [intOf]; omega
            · have e3 : decide (v ∈ L.take (k + 1)) = false := by rw [M3.out, decide_eq_false hyv]; rfl
              have E3 := Lib.hid e3
              have zy : (y == v) = false := by simpa using hyv
              clear e3 hyv
              go_wp2
              go_quiet (fail)
              go_wp2
              go_roundw
              case rel => exact ⟨i + 1, k + 1, m + nq, by go_num, by go_num, by rw [E3.out], by omega, by omega, K1.out, rfl⟩
              case measure => simp [intOf]; omega
          · have e3 : decide (v ∈ L.take (k + 1)) = true := by rw [M3.out]; rfl
            have E3 := Lib.hid e3
            clear e3
            go_wp2
            go_quiet (fail)
            go_wp2
            go_roundw
            case rel => exact ⟨i + 1, k + 1, m + nq, by go_num, by go_num, by rw [E3.out], by omega, by omega, K1.out, rfl⟩
            case measure => simp [intOf]; omega
        · have M2 := Lib.hid (M2.out hyz)
          have zy : (y == z) = false := by simpa using hyz
          obtain ⟨hb, hhb⟩ : ∃ hb, hb = decide (v ∈ L.take k) := ⟨_, rfl⟩
          have HHB := Lib.hid hhb
          rw [← hhb]
          clear hhb hyz M1 M3
          go_wp2
          go_quiet (fail)
          go_wp2
          go_roundw
          case rel => exact ⟨i + 1, k, m + nq, by go_num, rfl, by rw [HHB.out], by omega, by omega, M2.out, rfl⟩
          case measure => simp [intOf]; omega
      · have hkr : k = r := by
          by_cases hin : (i : Int) < n
          · have : ¬ (k : Int) < r := fun h => hik ⟨hin, h⟩
            omega
          · have := eat_end he (by rw [HNL.out]; omega) (by rw [← Hr.out]; exact hk)
            rw [Hr.out]
            exact this
        subst hkr
        have ht : L.take k = L := List.take_of_length_le (by rw [← Hr.out]; exact Nat.le_refl _)
        rw [ht, H1.out]
        obtain ⟨tb, htb⟩ : ∃ tb, tb = decide (v ∈ ns) := ⟨_, rfl⟩
        rw [← htb]
        have HTB := Lib.hid htb
        have z8 : tb = false → k = 0 := fun h => by
          rw [h] at htb
          have := H3.out (of_decide_eq_false htb.symm)
          rw [Hr.out, this]
          rfl
        have Z8 := Lib.hid z8
        have HBm := Lib.hid (below_draws HB2.out m)
        have HRm := Lib.hid (HR2.out.below (below_draws (Below.refl _ w2) m))
        obtain ⟨W4, hW4⟩ : ∃ W4, W4 = w2.drewN m := ⟨_, rfl⟩
        rw [← hW4] at HBm HRm ⊢
        have zk : decide ((k : Int) < k) = false := by simp
        clear hW4 htb z8 ht he hik
        by_cases hin : (i : Int) < n
        · have zi : decide ((i : Int) < n) = true := by rw [decide_eq_true_iff]; exact hin
          go_wp2_with fail
          go_loopw [9, 10] (fun tv iv wr => ∃ i : Nat, iv = .int .i64 i ∧ i ≤ n ∧ tv = .bool (decide (v ∈ ns.take i)) ∧ wr = W4) (fun _ i _ => n - (intOf i).toNat)
          case atStart => exact ⟨0, rfl, Nat.zero_le _, by simp, rfl⟩
          case round =>
            obtain ⟨i2, rfl, hi2, rfl, hwr⟩ := hrel
            subst hwr
            by_cases hin : (i2 : Int) < n
            · have hip : i2 < p.length := by rw [HN.out]; omega
              have hil : i2 < ns.length := by rw [HNL.out]; omega
              have m3 := has_more (v := v) hil
              obtain ⟨b, off, rfl, c0, -⟩ := five_of HRm.out hip
              have e0 : ns[i2] = p[i2].node := by simp [HNS.out]
              rw [← e0] at c0
              obtain ⟨y, hy⟩ : ∃ y, y = ns[i2] := ⟨_, rfl⟩
              rw [← hy] at c0 m3
              have hwi : IntKind.i64.wrap ((i2 : Int) + 1) = (i2 : Int) + 1 := wrap_small (by omega) (by omega)
              have M3 := Lib.hid m3
              obtain ⟨hb, hhb⟩ : ∃ hb, hb = decide (v ∈ ns.take i2) := ⟨_, rfl⟩
              rw [← hhb] at M3 ⊢
              clear m3 e0 hy hip hil hhb
              cases hb
              · by_cases hyv : y = v
                · have e3 : decide (v ∈ ns.take (i2 + 1)) = true := by rw [M3.out, decide_eq_true hyv]; rfl
                  have E3 := Lib.hid e3
                  clear e3
                  subst hyv
                  go_wp2
                  go_roundw
                  case rel => exact ⟨i2 + 1, by go_num, by omega, by rw [E3.out], by trivial⟩
                  case measure => simp [intOf]; omega
                · have e3 : decide (v ∈ ns.take (i2 + 1)) = false := by rw [M3.out, decide_eq_false hyv]; rfl
                  have E3 := Lib.hid e3
                  have zy : (y == v) = false := by simpa using hyv
                  clear e3 hyv
                  go_wp2
                  go_roundw
                  case rel => exact ⟨i2 + 1, by go_num, by omega, by rw [E3.out], by trivial⟩
                  case measure => simp [intOf]; omega
              · have e3 : decide (v ∈ ns.take (i2 + 1)) = true := by rw [M3.out]; rfl
                have E3 := Lib.hid e3
                clear e3
                go_wp2
                go_roundw
                case rel => exact ⟨i2 + 1, by go_num, by omega, by rw [E3.out], by trivial⟩
                case measure => simp [intOf]; omega
            · have ht : ns.take i2 = ns := List.take_of_length_le (by rw [HNL.out]; omega)
              rw [ht, ← HTB.out]
              clear ht
              cases tb
              · have hk0 := Z8.out rfl
                subst hk0
                clear Z8 HTB
                go_wp2
                go_ret
                exact ⟨rfl, HBm.out⟩
              · clear Z8 HTB
                go_wp2
                go_ret
                exact ⟨rfl, HBm.out⟩
        · have zi : decide ((i : Int) < n) = false := by rw [decide_eq_false_iff_not]; exact hin
          have zj : (n : Int) ≤ i := by omega
          clear hin
          go_wp2_with fail
          go_loopw [9, 10] (fun tv iv wr => ∃ i : Nat, iv = .int .i64 i ∧ i ≤ n ∧ tv = .bool (decide (v ∈ ns.take i)) ∧ wr = W4) (fun _ i _ => n - (intOf i).toNat)
          case atStart => exact ⟨0, rfl, Nat.zero_le _, by simp, rfl⟩
          case round =>
            obtain ⟨i2, rfl, hi2, rfl, hwr⟩ := hrel
            subst hwr
            by_cases hin : (i2 : Int) < n
            · have hip : i2 < p.length := by rw [HN.out]; omega
              have hil : i2 < ns.length := by rw [HNL.out]; omega
              have m3 := has_more (v := v) hil
              obtain ⟨b, off, rfl, c0, -⟩ := five_of HRm.out hip
              have e0 : ns[i2] = p[i2].node := by simp [HNS.out]
              rw [← e0] at c0
              obtain ⟨y, hy⟩ : ∃ y, y = ns[i2] := ⟨_, rfl⟩
              rw [← hy] at c0 m3
              have hwi : IntKind.i64.wrap ((i2 : Int) + 1) = (i2 : Int) + 1 := wrap_small (by omega) (by omega)
              have M3 := Lib.hid m3
              obtain ⟨hb, hhb⟩ : ∃ hb, hb = decide (v ∈ ns.take i2) := ⟨_, rfl⟩
              rw [← hhb] at M3 ⊢
              clear m3 e0 hy hip hil hhb
              cases hb
              · by_cases hyv : y = v
                · have e3 : decide (v ∈ ns.take (i2 + 1)) = true := by rw [M3.out, decide_eq_true hyv]; rfl
                  have E3 := Lib.hid e3
                  clear e3
                  subst hyv
                  go_wp2
                  go_roundw
                  case rel => exact ⟨i2 + 1, by go_num, by omega, by rw [E3.out], by trivial⟩
                  case measure => simp [intOf]; omega
                · have e3 : decide (v ∈ ns.take (i2 + 1)) = false := by rw [M3.out, decide_eq_false hyv]; rfl
                  have E3 := Lib.hid e3
                  have zy : (y == v) = false := by simpa using hyv
                  clear e3 hyv
                  go_wp2
                  go_roundw
                  case rel => exact ⟨i2 + 1, by go_num, by omega, by rw [E3.out], by trivial⟩
                  case measure => simp [intOf]; omega
              · have e3 : decide (v ∈ ns.take (i2 + 1)) = true := by rw [M3.out]; rfl
                have E3 := Lib.hid e3
                clear e3
                go_wp2
                go_roundw
                case rel => exact ⟨i2 + 1, by go_num, by omega, by rw [E3.out], by trivial⟩
                case measure => simp [intOf]; omega
            · have ht : ns.take i2 = ns := List.take_of_length_le (by rw [HNL.out]; omega)
              rw [ht, ← HTB.out]
              clear ht
              cases tb
              · have hk0 := Z8.out rfl
                subst hk0
                clear Z8 HTB
                go_wp2
                go_ret
                exact ⟨rfl, HBm.out⟩
              · clear Z8 HTB
                go_wp2
                go_ret
                exact ⟨rfl, HBm.out⟩
end
end Go.Proofs.Ytphpbeapibohiaa

namespace Go.Proofs.Ytphpbeapibohiaa
open Go.ChangeShapes Go.WideShapes Go.ChangeAt Go.RowKit
open Go.ChangeMaps (open_string shut_string)

set_option maxRecDepth 100000 in
theorem seePart_lifted (os : Os) (started : os.Started) (H : Type) (enc : TypeId × Value → H) :
    ReturnsInHanded {} Try.checked os 4 .any (Rows.seePartSpec.pre6 enc Try.prog Try.f4 Rows.seePartRow.domain false) (Rows.seePartSpec.post enc Try.prog Try.f4 false true false false) := by
  refine returnsInHanded_of_change (C := Try.checked) own started (by kernel_rfl) Try.func4
    (ChangeSpec.witness6 (enc := enc) (C := Try.checked) false ⟨#[], #[.slice none 0 0, .int .i64 0], []⟩ 8 (by kernel_rfl) (by kernel_rfl) (by kernel_rfl) (by kernel_rfl)) ?_
  intro W base args ds gs before hval0 hW hcnd _
  have hval : ∀ (j : Nat) t v, Try.f4.params[j]? = some t → args[j]? = some v → Value.okWide Try.prog W .any base t v := hval0
  clear hval0 hcnd
  have hW' := hW
  obtain ⟨p, q, hA0, hV, rfl, hfz, hnd⟩ := hW
  have hA : DataW.TrodAll enc Try.prog W 0 (fun _ => true) true Try.f4.params.toList args.toList ds p := hA0
  rw [Try.params4] at hA hval
  obtain ⟨v0, vs0, d0, ds0, p0, q0, hargs, rfl, rfl, h0, r0⟩ := trodAll_cons hA
  obtain ⟨v1, vs1, d1, ds1, p1, q1, rfl, rfl, rfl, h1, r1⟩ := trodAll_cons r0
  obtain ⟨rfl, rfl, rfl⟩ := trodAll_nil r1
  obtain rfl : args = #[v0, v1] := by cases args; simp_all
  obtain ⟨rfl, rfl⟩ := trodVars_none hV
  obtain ⟨A0, n0, c0, rfl⟩ := okWide_slice Try.underlying22 (hval 0 22 v0 rfl rfl)
  have k0 := h0
  have lt0 : ∀ x ∈ p0, x.block < W.heap.size := by obtain ⟨m, hm⟩ := k0; exact DataW.trod_lt m _ _ _ hm
  obtain ⟨x0, l0, y0, z0, q0x⟩ : ∃ xs : List Stp, xs.length = n0 ∧ RecIn RS W A0 c0 xs ∧ n0 ≤ c0 ∧ n0 ≤ maxLen := by
    obtain ⟨fuel, hf⟩ := h0
    exact steps_in hf
  obtain ⟨a1, rfl, rfl, rfl, w1⟩ := open_int Try.underlying3 (hval 1 3 v1 rfl rfl) h1
  clear hA0
  refine (seePart_any A0 n0 c0 x0 a1 W l0 y0).mono fun e W' ⟨he, bel⟩ => ?_
  subst he
  exact ⟨_, rfl, _, _, _, [], _, [], hW', trodAll_mk1 (shut_bool Try.underlying4 _), (trodAll_cons_mk (Below.trod laidOut (by kernel_rfl) (of_decide_eq_true (by kernel_rfl)) k0 bel lt0) (trodAll_cons_mk (shut_int Try.underlying3 w1) trodAll_mk0)), rfl, bel.frame _, fun h => by cases h⟩

theorem seePart_holds : Rows.SeePartSaid :=
  OpenClaim.holds_of_wide 4 Try.f4 rfl rfl rfl rfl rfl rfl rfl ⟨rfl, rfl, rfl, rfl, rfl⟩ rfl rfl rfl rfl rfl (by kernel_rfl) Try.func4 (by kernel_rfl)
    (of_decide_eq_true (by kernel_rfl)) (by unfold Func.isWrapper; rw [if_neg (by decide +kernel)]; exact ⟨rfl, rfl⟩)
    (fun os started H enc _ => seePart_lifted os started H enc)
end Go.Proofs.Ytphpbeapibohiaa
