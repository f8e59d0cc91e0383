/-
  What towncrierref04.Name, Want and Tie do.
-/
import Derived.Test.YtkafaceanlkjjaaFo
namespace Go.Proofs.Ytkafaceanlkjjaa
open Go Go.RowKit
variable {G : Nat → Prop}

section
variable {w : World} {B g c m f : Nat} {l : List Nd} {u : Value} {F : Nd → Nd}
theorem nd_at {l : List Nd} {m : Nat} (hm : m < l.length) : nd l ((m : Int) + 1) = l[m] := by
  rw [nd, show ((m : Int) + 1 - 1).toNat = m by omega, List.getD_eq_getElem?_getD, List.getElem?_eq_getElem hm]
  rfl
theorem modN_at {l : List Nd} {m : Nat} (hm : m < l.length) (F : Nd → Nd) : modN l ((m : Int) + 1) F = l.set m (F l[m]) := by
  rw [modN, nd_at hm, show ((m : Int) + 1 - 1).toNat = m by omega]
theorem there_at {l : List Nd} {id : Int} (h : thereB l id = true) : ∃ m : Nat, id = (m : Int) + 1 ∧ m < l.length := by
  have := thereB_iff.1 h
  exact ⟨(id - 1).toNat, by omega, by omega⟩
/-- One field of one node is written. -/
theorem Nodes.turn (h : Nodes G w B (some ⟨g, 0, none⟩) c l) (hm : m < l.length) (hf : f < 9) (hF : ∀ d k, (F d).cells k = (d.cells k).set f u) (hk : ∀ d, (F d).kids = d.kids) :
    (∃ x, w.cell? ⟨g, m * 9 + f, none⟩ = some x) ∧ w.frozen? ⟨g, m * 9 + f, none⟩ = false ∧ Nodes G (w.setCell ⟨g, m * 9 + f, none⟩ u) B (some ⟨g, 0, none⟩) c (modN l ((m : Int) + 1) F) := by
  obtain ⟨g', k', e, _, _, hz, hc⟩ := h.at_ hm
  obtain rfl : g = g' := by simpa using e
  refine ⟨⟨(l[m].cells k')[f]'(by rw [Nd.cells_length]; exact hf), by rw [hc f hf, List.getElem?_eq_getElem]⟩, hz _, ?_⟩
  rw [modN_at hm]
  exact h.store hm hf fun k => ⟨k, hF _ k, fun h => by rw [hk]; exact h⟩
theorem Nodes.some_ {A : Option Addr} (h : Nodes G w B A c l) (hm : m < l.length) : ∃ g, A = some ⟨g, 0, none⟩ ∧ B ≤ g := by
  obtain ⟨g, k, e, hg, _⟩ := h.at_ hm
  exact ⟨g, e, hg⟩
end

/-- The nodes then, and an error's number. -/
def Gave (G : Nat → Prop) (w : World) (l' : List Nd) (err : Int) (e : Ending) (w' : World) : Prop := ∃ A' c', e = .returned (.tuple #[.slice A' l'.length c', .int .i64 err]) ∧ Nodes G w' 0 A' c' l' ∧ Below w.heap.size w w'

set_option maxHeartbeats 2000000 in
theorem name_any (l : List Nd) (A : Option Addr) (c : Nat) (id : Int) (s : ByteArray) (w : World) (hs : s.size ≤ 9223372036854775807) (hl : l.length ≤ 1000) (hk : ∀ d ∈ l, d.kids.length ≤ 100000) (hG : Fut G w.heap.size) (h : Nodes G w 0 A c l) :
    Calls Try.prog 50 #[.slice A l.length c, .int .i64 id, .string s] w (Gave G w (nameL l id s) (nameErr l id s)) := by
  have H := Lib.hid h
  have Hk := Lib.hid hk
  clear h hk
  have hnot : ∀ (x : Bool) (w : World), (Op.unary .not (.bool x)).run Try.prog w = .ok (.bool (!x)) w := fun _ _ => rfl
  cases hth : thereB l id with
  | false =>
    have e1 : nameErr l id s = 1 := by unfold nameErr; rw [if_pos (.inl hth)]
    have e2 : nameL l id s = l := by unfold nameL; rw [e1]; rfl
    rw [e1, e2]
    have Hth := Lib.hid hth
    clear hth e1 e2
    go_enter Try.func50, Try.ntmps50
    go_wp2_with fail
    refine (there_any l A c id w).mono ?_
    rintro e w1 ⟨rfl, rfl⟩
    rw [Hth.out]
    go_wp2
    go_ret2
    exact ⟨_, _, rfl, H.out, Below.refl _ _⟩
  | true =>
    have Hth := Lib.hid hth
    cases hok : okName s with
    | false =>
      have e1 : nameErr l id s = 1 := by unfold nameErr; rw [if_pos (.inr hok)]
      have e2 : nameL l id s = l := by unfold nameL; rw [e1]; rfl
      rw [e1, e2]
      have Hok := Lib.hid hok
      clear hth hok e1 e2
      go_enter Try.func50, Try.ntmps50
      go_wp2_with fail
      refine (there_any l A c id w).mono ?_
      rintro e w1 ⟨rfl, rfl⟩
      rw [Hth.out]
      go_wp2_with fail
      refine (named_any s w hs).mono ?_
      rintro e w1 ⟨rfl, rfl⟩
      rw [Hok.out]
      go_wp2
      go_ret2
      exact ⟨_, _, rfl, H.out, Below.refl _ _⟩
    | true =>
      obtain ⟨m, rfl, hm⟩ := there_at hth
      obtain ⟨g, k, rfl, -, -, -, hcell⟩ := H.out.at_ hm
      have c5 : w.cell? ⟨g, m * 9 + 5, none⟩ = some (.bool (nd l ((m : Int) + 1)).slot) := by rw [nd_at hm]; exact hcell 5 (by omega)
      have Hok := Lib.hid hok
      have he : nameErr l ((m : Int) + 1) s = if (nd l ((m : Int) + 1)).slot = false then 2 else 0 := by unfold nameErr; rw [if_neg (by rw [hth, hok]; simp)]
      have hL : nameL l ((m : Int) + 1) s = if nameErr l ((m : Int) + 1) s = 0 then modN l ((m : Int) + 1) (fun d => { d with name := s }) else l := rfl
      clear hcell hth hok
      cases hsl : (nd l ((m : Int) + 1)).slot with
      | false =>
        rw [hsl, if_pos rfl] at he
        rw [he, if_neg (by decide)] at hL
        rw [hsl] at c5
        rw [he, hL]
        clear he hL hsl
        go_enter Try.func50, Try.ntmps50
        go_wp2_with fail
        refine (there_any l _ c _ w).mono ?_
        rintro e w1 ⟨rfl, rfl⟩
        rw [Hth.out]
        go_wp2_with fail
        refine (named_any s w hs).mono ?_
        rintro e w1 ⟨rfl, rfl⟩
        rw [Hok.out]
        go_wp2
        go_ret2
        exact ⟨_, _, rfl, H.out, Below.refl _ _⟩
      | true =>
        rw [hsl, if_neg (by decide)] at he
        rw [he, if_pos rfl] at hL
        rw [hsl] at c5
        rw [he, hL]
        clear he hL hsl
        go_enter Try.func50, Try.ntmps50
        go_wp2_with fail
        refine (there_any l _ c _ w).mono ?_
        rintro e w1 ⟨rfl, rfl⟩
        rw [Hth.out]
        go_wp2_with fail
        refine (named_any s w hs).mono ?_
        rintro e w1 ⟨rfl, rfl⟩
        rw [Hok.out]
        go_wp2_with fail
        refine (copy_any l _ c w hl Hk.out hG H.out).mono ?_
        rintro e w1 ⟨A', c', rfl, hN, hb⟩
        obtain ⟨g', rfl, hg'⟩ := hN.some_ hm
        obtain ⟨⟨x, hx⟩, hz, hN2⟩ := hN.turn (F := fun d => { d with name := s }) (u := .string s) (f := 6) hm (by omega) (fun _ _ => rfl) (fun _ => rfl)
        have HN2 := Lib.hid hN2
        have hlen := modN_length l ((m : Int) + 1) (fun d => { d with name := s })
        have Hlen := Lib.hid hlen
        clear hN2 hlen
        go_wp2
        go_ret2
        refine ⟨_, _, ?_, HN2.out.from_ (Nat.zero_le _), hb.setCell hg' _⟩
        rw [Hlen.out]
        rfl
set_option maxHeartbeats 2000000 in
theorem want_any (l : List Nd) (A : Option Addr) (c : Nat) (id : Int) (s : ByteArray) (w : World) (hs : s.size ≤ 9223372036854775807) (hl : l.length ≤ 1000) (hk : ∀ d ∈ l, d.kids.length ≤ 100000) (hG : Fut G w.heap.size) (h : Nodes G w 0 A c l) :
    Calls Try.prog 51 #[.slice A l.length c, .int .i64 id, .string s] w (Gave G w (wantL l id s) (wantErr l id s)) := by
  have H := Lib.hid h
  have Hk := Lib.hid hk
  clear h hk
  have hnot : ∀ (x : Bool) (w : World), (Op.unary .not (.bool x)).run Try.prog w = .ok (.bool (!x)) w := fun _ _ => rfl
  cases hth : thereB l id with
  | false =>
    have e1 : wantErr l id s = 1 := by unfold wantErr; rw [if_pos (.inl hth)]
    have e2 : wantL l id s = l := by unfold wantL; rw [e1]; rfl
    rw [e1, e2]
    have Hth := Lib.hid hth
    clear hth e1 e2
    go_enter Try.func51, Try.ntmps51
    go_wp2_with fail
    refine (there_any l A c id w).mono ?_
    rintro e w1 ⟨rfl, rfl⟩
    rw [Hth.out]
    go_wp2
    go_ret2
    exact ⟨_, _, rfl, H.out, Below.refl _ _⟩
  | true =>
    have Hth := Lib.hid hth
    cases hok : okName s with
    | false =>
      have e1 : wantErr l id s = 1 := by unfold wantErr; rw [if_pos (.inr hok)]
      have e2 : wantL l id s = l := by unfold wantL; rw [e1]; rfl
      rw [e1, e2]
      have Hok := Lib.hid hok
      clear hth hok e1 e2
      go_enter Try.func51, Try.ntmps51
      go_wp2_with fail
      refine (there_any l A c id w).mono ?_
      rintro e w1 ⟨rfl, rfl⟩
      rw [Hth.out]
      go_wp2_with fail
      refine (named_any s w hs).mono ?_
      rintro e w1 ⟨rfl, rfl⟩
      rw [Hok.out]
      go_wp2
      go_ret2
      exact ⟨_, _, rfl, H.out, Below.refl _ _⟩
    | true =>
      obtain ⟨m, rfl, hm⟩ := there_at hth
      obtain ⟨g, k, rfl, -, -, -, hcell⟩ := H.out.at_ hm
      have c5 : w.cell? ⟨g, m * 9, none⟩ = some (.int .i64 (nd l ((m : Int) + 1)).kind) := by rw [nd_at hm]; exact hcell 0 (by omega)
      have Hok := Lib.hid hok
      have he : wantErr l ((m : Int) + 1) s = if (nd l ((m : Int) + 1)).kind ≠ 2 then 2 else 0 := by unfold wantErr; rw [if_neg (by rw [hth, hok]; simp)]
      have hL : wantL l ((m : Int) + 1) s = if wantErr l ((m : Int) + 1) s = 0 then modN l ((m : Int) + 1) (fun d => { d with want := s }) else l := rfl
      clear hcell hth hok
      obtain ⟨kk, hkk⟩ : ∃ kk, kk = (nd l ((m : Int) + 1)).kind := ⟨_, rfl⟩
      rw [← hkk] at he c5
      clear hkk
      by_cases hsl : kk ≠ 2
      · rw [if_pos hsl] at he
        rw [he, if_neg (by decide)] at hL
        rw [he, hL]
        clear he hL
        have hb2 : (kk == 2) = false := by simpa using hsl
        go_enter Try.func51, Try.ntmps51
        go_wp2_with fail
        refine (there_any l _ c _ w).mono ?_
        rintro e w1 ⟨rfl, rfl⟩
        rw [Hth.out]
        go_wp2_with fail
        refine (named_any s w hs).mono ?_
        rintro e w1 ⟨rfl, rfl⟩
        rw [Hok.out]
        go_wp2
        go_ret2
        exact ⟨_, _, rfl, H.out, Below.refl _ _⟩
      · rw [if_neg hsl] at he
        rw [he, if_pos rfl] at hL
        rw [he, hL]
        clear he hL
        obtain rfl : kk = 2 := by omega
        go_enter Try.func51, Try.ntmps51
        go_wp2_with fail
        refine (there_any l _ c _ w).mono ?_
        rintro e w1 ⟨rfl, rfl⟩
        rw [Hth.out]
        go_wp2_with fail
        refine (named_any s w hs).mono ?_
        rintro e w1 ⟨rfl, rfl⟩
        rw [Hok.out]
        go_wp2_with fail
        refine (copy_any l _ c w hl Hk.out hG H.out).mono ?_
        rintro e w1 ⟨A', c', rfl, hN, hb⟩
        obtain ⟨g', rfl, hg'⟩ := hN.some_ hm
        obtain ⟨⟨x, hx⟩, hz, hN2⟩ := hN.turn (F := fun d => { d with want := s }) (u := .string s) (f := 7) hm (by omega) (fun _ _ => rfl) (fun _ => rfl)
        have HN2 := Lib.hid hN2
        have hlen := modN_length l ((m : Int) + 1) (fun d => { d with want := s })
        have Hlen := Lib.hid hlen
        clear hN2 hlen
        go_wp2
        go_ret2
        refine ⟨_, _, ?_, HN2.out.from_ (Nat.zero_le _), hb.setCell hg' _⟩
        rw [Hlen.out]
        rfl
end Go.Proofs.Ytkafaceanlkjjaa
