/-
  What towncrierref04.Tie does.
-/
import Derived.Test.YtkafaceanlkjjaaFn
namespace Go.Proofs.Ytkafaceanlkjjaa
open Go Go.RowKit
variable {G : Nat → Prop}

theorem tie_same {l : List Nd} {h r e : Int} (he : tieErr l h r = e) (h0 : e ≠ 0) : tieL l h r = l := by unfold tieL; rw [he, if_neg h0]
theorem Gave.same {w : World} {l l' : List Nd} {A : Option Addr} {c : Nat} {err e : Int} (he : err = e) (hl : l' = l) (h : Nodes G w 0 A c l) : Gave G w l' err (.returned (.tuple #[.slice A l.length c, .int .i64 e])) w := by
  subst he
  subst hl
  exact ⟨_, _, rfl, h, Below.refl _ _⟩
theorem Gave.later {w w' : World} {l l' : List Nd} {A : Option Addr} {c : Nat} {err e : Int} (he : err = e) (hl : l' = l) (h : Nodes G w 0 A c l) (hb : Below w.heap.size w w') : Gave G w l' err (.returned (.tuple #[.slice A l.length c, .int .i64 e])) w' := by
  subst he
  subst hl
  exact ⟨_, _, rfl, h.below hb, hb⟩

set_option maxHeartbeats 4000000 in
theorem tie_any (l : List Nd) (A : Option Addr) (c : Nat) (h r : Int) (w : World) (hl : l.length ≤ 1000) (hk : ∀ d ∈ l, d.kids.length ≤ 100000) (hG : Fut G w.heap.size) (hN : Nodes G w 0 A c l) :
    Calls Try.prog 49 #[.slice A l.length c, .int .i64 h, .int .i64 r] w (Gave G w (tieL l h r) (tieErr l h r)) := by
  have H := Lib.hid hN
  have Hk := Lib.hid hk
  clear hN hk
  have hnot : ∀ (x : Bool) (w : World), (Op.unary .not (.bool x)).run Try.prog w = .ok (.bool (!x)) w := fun _ _ => rfl
  go_enter Try.func49, Try.ntmps49
  go_wp2_with fail
  refine (there_any l A c h w).mono ?_
  rintro e w1 ⟨rfl, rfl⟩
  cases hth : thereB l h with
  | false =>
    have e1 : tieErr l h r = 1 := by unfold tieErr; rw [if_pos (.inl hth)]
    have E1 := Lib.hid e1
    clear e1 hth
    go_wp2
    go_ret2
    exact Gave.same E1.out (tie_same E1.out (by decide)) H.out
  | true =>
    go_wp2_with fail
    refine (there_any l A c r w).mono ?_
    rintro e w1 ⟨rfl, rfl⟩
    cases htr : thereB l r with
    | false =>
      have e1 : tieErr l h r = 1 := by unfold tieErr; rw [if_pos (.inr htr)]
      have E1 := Lib.hid e1
      clear e1 hth htr
      go_wp2
      go_ret2
      exact Gave.same E1.out (tie_same E1.out (by decide)) H.out
    | true =>
      obtain ⟨m, rfl, hm⟩ := there_at hth
      obtain ⟨q, rfl, hq⟩ := there_at htr
      obtain ⟨g, k, rfl, -, -, -, hcm⟩ := H.out.at_ hm
      obtain ⟨g', k', e', -, -, -, hcq⟩ := H.out.at_ hq
      obtain rfl : g = g' := by simpa using e'
      have e0 : tieErr l ((m : Int) + 1) ((q : Int) + 1) = if (nd l ((m : Int) + 1)).kind ≠ 2 ∨ (nd l ((q : Int) + 1)).kind ≠ 3 then 2 else if (nd l ((m : Int) + 1)).shadow ≠ 0 ∨ (nd l ((q : Int) + 1)).host ≠ 0 then 6 else if hasB (over l ((m : Int) + 1)) ((q : Int) + 1) = true then 3 else 0 := by
        unfold tieErr
        rw [if_neg (by rw [hth, htr]; simp)]
      have c1 : w.cell? ⟨g, m * 9, none⟩ = some (.int .i64 (nd l ((m : Int) + 1)).kind) := by rw [nd_at hm]; exact hcm 0 (by omega)
      have c2 : w.cell? ⟨g, m * 9 + 3, none⟩ = some (.int .i64 (nd l ((m : Int) + 1)).shadow) := by rw [nd_at hm]; exact hcm 3 (by omega)
      have c3 : w.cell? ⟨g, q * 9, none⟩ = some (.int .i64 (nd l ((q : Int) + 1)).kind) := by rw [nd_at hq]; exact hcq 0 (by omega)
      have c4 : w.cell? ⟨g, q * 9 + 2, none⟩ = some (.int .i64 (nd l ((q : Int) + 1)).host) := by rw [nd_at hq]; exact hcq 2 (by omega)
      obtain ⟨k1, hk1⟩ : ∃ x, x = (nd l ((m : Int) + 1)).kind := ⟨_, rfl⟩
      obtain ⟨k2, hk2⟩ : ∃ x, x = (nd l ((m : Int) + 1)).shadow := ⟨_, rfl⟩
      obtain ⟨k3, hk3⟩ : ∃ x, x = (nd l ((q : Int) + 1)).kind := ⟨_, rfl⟩
      obtain ⟨k4, hk4⟩ : ∃ x, x = (nd l ((q : Int) + 1)).host := ⟨_, rfl⟩
      rw [← hk1] at c1 e0
      rw [← hk2] at c2 e0
      rw [← hk3] at c3 e0
      rw [← hk4] at c4 e0
      have E0 := Lib.hid e0
      clear hcm hcq e0 hk1 hk2 hk3 hk4 hth htr e'
      by_cases h1 : k1 = 2
      · subst h1
        by_cases h3 : k3 = 3
        · subst h3
          by_cases h2 : k2 = 0
          · subst h2
            by_cases h4 : k4 = 0
            · subst h4
              go_wp2_with fail
              refine (over_any l _ c _ w hl H.out).mono ?_
              rintro e w1 ⟨v, rfl, hK, hb⟩
              obtain ⟨Av, cv, rfl, hcv, hnum⟩ := hK.form
              go_wp2_with fail
              refine (has_any (over l ((m : Int) + 1)) Av _ cv _ w1 rfl (Nat.le_trans (over_len l (l.length + 1) _) (by omega)) hnum).mono ?_
              rintro e w2 ⟨rfl, rfl⟩
              cases hh : hasB (over l ((m : Int) + 1)) ((q : Int) + 1) with
              | true =>
                have e1 : tieErr l ((m : Int) + 1) ((q : Int) + 1) = 3 := by rw [E0.out, if_neg (by simp), if_neg (by simp), if_pos hh]
                have E1 := Lib.hid e1
                clear e1 hh
                go_wp2
                go_ret2
                exact Gave.later E1.out (tie_same E1.out (by decide)) H.out hb
              | false =>
                have e1 : tieErr l ((m : Int) + 1) ((q : Int) + 1) = 0 := by rw [E0.out, if_neg (by simp), if_neg (by simp), if_neg (by rw [hh]; decide)]
                have e2 : tieL l ((m : Int) + 1) ((q : Int) + 1) = modN (modN l ((m : Int) + 1) fun d => { d with shadow := (q : Int) + 1 }) ((q : Int) + 1) fun d => { d with host := (m : Int) + 1 } := by unfold tieL; rw [if_pos e1]
                have E1 := Lib.hid e1
                have E2 := Lib.hid e2
                have hN1 := H.out.below hb
                clear e1 e2 hh hnum hK
                go_wp2_with fail
                refine (copy_any l _ c w1 hl Hk.out (hG.mono hb.size) hN1).mono ?_
                rintro e w2 ⟨A', c', rfl, hN2, hb2⟩
                obtain ⟨g', rfl, hg'⟩ := hN2.some_ hm
                obtain ⟨⟨x, hx⟩, hz, hN3⟩ := hN2.turn (F := fun d => { d with shadow := (q : Int) + 1 }) (u := .int .i64 ((q : Int) + 1)) (f := 3) hm (by omega) (fun _ _ => rfl) (fun _ => rfl)
                have hq' : q < (modN l ((m : Int) + 1) fun d => { d with shadow := (q : Int) + 1 }).length := by rw [modN_length]; exact hq
                obtain ⟨⟨y, hy⟩, hz', hN4⟩ := hN3.turn (F := fun d => { d with host := (m : Int) + 1 }) (u := .int .i64 ((m : Int) + 1)) (f := 2) hq' (by omega) (fun _ _ => rfl) (fun _ => rfl)
                have hB2 : Below w.heap.size w w2 := hb.trans (hb2.mono hb.size)
                have hgw : w.heap.size ≤ g' := Nat.le_trans hb.size hg'
                have HN4 := Lib.hid hN4
                have hlen : (modN (modN l ((m : Int) + 1) fun d => { d with shadow := (q : Int) + 1 }) ((q : Int) + 1) fun d => { d with host := (m : Int) + 1 }).length = l.length := by rw [modN_length, modN_length]
                have Hlen := Lib.hid hlen
                clear hN4 hN3 hlen hN2 hN1
                go_wp2
                go_ret2
                rw [Gave, E1.out, E2.out]
                refine ⟨_, _, ?_, HN4.out.from_ (Nat.zero_le _), (hB2.setCell hgw _).setCell hgw _⟩
                rw [Hlen.out]
                rfl
            · have h4' : (k4 == 0) = false := by simpa using h4
              have e1 : tieErr l ((m : Int) + 1) ((q : Int) + 1) = 6 := by rw [E0.out, if_neg (by simp), if_pos (.inr h4)]
              have E1 := Lib.hid e1
              clear e1
              go_wp2
              go_ret2
              exact Gave.same E1.out (tie_same E1.out (by decide)) H.out
          · have h2' : (k2 == 0) = false := by simpa using h2
            have e1 : tieErr l ((m : Int) + 1) ((q : Int) + 1) = 6 := by rw [E0.out, if_neg (by simp), if_pos (.inl h2)]
            have E1 := Lib.hid e1
            clear e1
            go_wp2
            go_ret2
            exact Gave.same E1.out (tie_same E1.out (by decide)) H.out
        · have h3' : (k3 == 3) = false := by simpa using h3
          have e1 : tieErr l ((m : Int) + 1) ((q : Int) + 1) = 2 := by rw [E0.out, if_pos (.inr h3)]
          have E1 := Lib.hid e1
          clear e1
          go_wp2
          go_ret2
          exact Gave.same E1.out (tie_same E1.out (by decide)) H.out
      · have h1' : (k1 == 2) = false := by simpa using h1
        have e1 : tieErr l ((m : Int) + 1) ((q : Int) + 1) = 2 := by rw [E0.out, if_pos (.inl h1)]
        have E1 := Lib.hid e1
        clear e1
        go_wp2
        go_ret2
        exact Gave.same E1.out (tie_same E1.out (by decide)) H.out
end Go.Proofs.Ytkafaceanlkjjaa
