/-
  What Tie of package arena does.
-/
import Derived.Test.YtkafaceanlkjjaaArb
namespace Go.Proofs.Ytkafaceanlkjjaa
open Go Go.RowKit

section
variable {l : List Nd} {h r : Int}
theorem tie_kind (h1 : thereB l h = true) (h2 : thereB l r = true) (hk : (nd l h).kind ≠ 2 ∨ (nd l r).kind ≠ 3) : tieErr l h r = 2 := by unfold tieErr; rw [if_neg (by rw [h1, h2]; simp), if_pos hk]
theorem tie_has (h1 : thereB l h = true) (h2 : thereB l r = true) (hk : (nd l h).kind = 2) (hk' : (nd l r).kind = 3) (hs : (nd l h).shadow ≠ 0 ∨ (nd l r).host ≠ 0) : tieErr l h r = 6 := by
  unfold tieErr; rw [if_neg (by rw [h1, h2]; simp), if_neg (by rw [hk, hk']; simp), if_pos hs]
theorem tie_rest (T : Tree l) (h1 : thereB l h = true) (h2 : thereB l r = true) (hk : (nd l h).kind = 2) (hk' : (nd l r).kind = 3) (hs : (nd l h).shadow = 0) (hs' : (nd l r).host = 0) : tieErr l h r = if hasB (over l (upOf l h)) r = true then 3 else 0 := by
  have hne : ¬ r = h := fun e => by rw [e, hk] at hk'; exact absurd hk' (by decide)
  unfold tieErr
  rw [if_neg (by rw [h1, h2]; simp), if_neg (by rw [hk, hk']; simp), if_neg (by rw [hs, hs']; simp), has_over_step T h1, decide_eq_false hne, Bool.false_or]
theorem tie_no (e : Int) (he : tieErr l h r = e) (h0 : e ≠ 0) : tieL l h r = l := by unfold tieL; rw [he, if_neg h0]
end

section
variable {S : Nat → Prop} {w : World} {b : Nat} {l : List Nd}
set_option maxHeartbeats 4000000 in
theorem arTie (h r : Int) (hF : Frst S w b l) (hl : l.length ≤ 128) (T : Tree l) :
    Calls Try.prog 29 #[.pointer (some ⟨b, 0, none⟩), .int .i64 h, .int .i64 r] w (Told S w b (tieL l h r) (tieErr l h r)) := by
  have H := Lib.hid hF
  have HT := Lib.hid T
  clear hF T
  have hnot : ∀ (x : Bool) (w : World), (Op.unary .not (.bool x)).run Try.prog w = .ok (.bool (!x)) w := fun _ _ => rfl
  cases hth : thereB l h with
  | false =>
    have e1 : tieErr l h r = 1 := by unfold tieErr; rw [if_pos (.inl hth)]
    rw [tie_no _ e1 (by decide), e1]
    have Hth := Lib.hid hth
    clear hth e1
    go_enter Try.func29, Try.ntmps29
    go_wp2_with fail
    refine (arHas_is H.out Hth.out).mono ?_
    rintro e w1 ⟨rfl, rfl⟩
    go_wp2
    go_ret
    exact ⟨rfl, H.out, Keeps.refl _ _⟩
  | true =>
    cases htr : thereB l r with
    | false =>
      have e1 : tieErr l h r = 1 := by unfold tieErr; rw [if_pos (.inr htr)]
      rw [tie_no _ e1 (by decide), e1]
      have Hth := Lib.hid hth
      have Htr := Lib.hid htr
      clear hth htr e1
      go_enter Try.func29, Try.ntmps29
      go_wp2_with fail
      refine (arHas_is H.out Hth.out).mono ?_
      rintro e w1 ⟨rfl, rfl⟩
      go_wp2_with fail
      refine (arHas_is H.out Htr.out).mono ?_
      rintro e w1 ⟨rfl, rfl⟩
      go_wp2
      go_ret
      exact ⟨rfl, H.out, Keeps.refl _ _⟩
    | true =>
      obtain ⟨m, rfl, hm⟩ := there_at hth
      obtain ⟨n, rfl, hn⟩ := there_at htr
      obtain ⟨g, c, hR⟩ := H.out.at_ hm
      have q0 := hR.there_
      obtain ⟨_, k, e', -, -, -, -, c0, -, -, c3, -, -, -, -, -⟩ := hR.nodes.nine hm
      cases e'
      obtain ⟨_, k', e', -, -, -, -, d0, -, d2, -, -, -, -, -, -⟩ := hR.nodes.nine hn
      cases e'
      have Ekind := Lib.hid (tie_kind hth htr)
      have Ehas := Lib.hid (tie_has hth htr)
      have Erest := Lib.hid (tie_rest HT.out hth htr)
      have Hth := Lib.hid hth
      have Htr := Lib.hid htr
      have HR := Lib.hid hR
      obtain ⟨kh, hkh⟩ : ∃ x, (nd l ((m : Int) + 1)).kind = x := ⟨_, rfl⟩
      obtain ⟨kr, hkr⟩ : ∃ x, (nd l ((n : Int) + 1)).kind = x := ⟨_, rfl⟩
      obtain ⟨sh, hsh⟩ : ∃ x, (nd l ((m : Int) + 1)).shadow = x := ⟨_, rfl⟩
      obtain ⟨ho, hho⟩ : ∃ x, (nd l ((n : Int) + 1)).host = x := ⟨_, rfl⟩
      rw [hkh] at c0
      rw [hkr] at d0
      rw [hsh] at c3
      rw [hho] at d2
      rw [hkh, hkr] at Ekind
      rw [hkh, hkr, hsh, hho] at Ehas Erest
      clear hkh hkr hsh hho hth htr hR
      go_enter Try.func29, Try.ntmps29
      go_wp2_with fail
      refine (arHas_is H.out Hth.out).mono ?_
      rintro e w1 ⟨rfl, rfl⟩
      go_wp2_with fail
      refine (arHas_is H.out Htr.out).mono ?_
      rintro e w1 ⟨rfl, rfl⟩
      go_wp2_with fail
      go_quiet (fail)
      have HF : Frst S (w.drewN nq) b l := H.out
      have HK0 : Keeps S w (w.drewN nq) := (Keeps.refl _ _).drewN nq
      by_cases k2 : kh = 2
      · by_cases k3 : kr = 3
        · by_cases s0 : sh = 0
          · by_cases h0 : ho = 0
            · have e1 := Erest.out k2 k3 s0 h0
              subst k2 k3 s0 h0
              cases hab : hasB (over l (upOf l ((m : Int) + 1))) ((n : Int) + 1) with
              | true =>
                rw [hab, if_pos rfl] at e1
                have E1 := Lib.hid e1
                have Hab := Lib.hid hab
                clear e1 hab Ekind Ehas Erest
                go_wp2_with fail
                refine (arAbove HF hl HT.out _ Hth.out Hab.out).mono ?_
                rintro e w1 ⟨rfl, hb⟩
                go_wp2
                go_ret
                rw [Told, tie_no _ E1.out (by decide), E1.out]
                exact ⟨rfl, HF.below hb, HK0.also (Keeps.ofBelow hb)⟩
              | false =>
                rw [hab, if_neg (by decide)] at e1
                have e2 : tieL l ((m : Int) + 1) ((n : Int) + 1) = modN (modN l ((m : Int) + 1) fun d => { d with shadow := (n : Int) + 1 }) ((n : Int) + 1) fun d => { d with host := (m : Int) + 1 } := by unfold tieL; rw [if_pos e1]
                have E1 := Lib.hid e1
                have E2 := Lib.hid e2
                have Hab := Lib.hid hab
                clear e1 e2 hab Ekind Ehas Erest
                go_wp2_with fail
                refine (arAbove HF hl HT.out _ Hth.out Hab.out).mono ?_
                rintro e w1 ⟨rfl, hb⟩
                have hR1 : FrstAt S w1 b g c l := FrstAt.below (w := w.drewN nq) (HR.out.drewN nq) hb
                obtain ⟨⟨x, hx⟩, hz, -⟩ := hR1.nodes.turn (F := fun d => { d with shadow := (n : Int) + 1 }) (u := .int .i64 ((n : Int) + 1)) (f := 3) hm (by omega) (fun _ _ => rfl) (fun _ => rfl)
                have hR2 := hR1.turn (N := fun d => { d with shadow := (n : Int) + 1 }) (u := .int .i64 ((n : Int) + 1)) (f := 3) hm (by omega) (fun _ _ => rfl) (fun _ => rfl)
                have hn' : n < (modN l ((m : Int) + 1) fun d => { d with shadow := (n : Int) + 1 }).length := by rw [modN_length]; exact hn
                obtain ⟨⟨y, hy⟩, hz', -⟩ := hR2.nodes.turn (F := fun d => { d with host := (m : Int) + 1 }) (u := .int .i64 ((m : Int) + 1)) (f := 2) hn' (by omega) (fun _ _ => rfl) (fun _ => rfl)
                have hR3 := hR2.turn (N := fun d => { d with host := (m : Int) + 1 }) (u := .int .i64 ((m : Int) + 1)) (f := 2) hn' (by omega) (fun _ _ => rfl) (fun _ => rfl)
                have HR3 := Lib.hid hR3.frst
                have HK := Lib.hid (((HK0.also (Keeps.ofBelow hb)).store (p := ⟨g, m * 9 + 3, none⟩) (.inl HR.out.row.1) (.int .i64 ((n : Int) + 1))).store (p := ⟨g, n * 9 + 2, none⟩) (.inl HR.out.row.1) (.int .i64 ((m : Int) + 1)))
                clear hR1 hR2 hR3 hn'
                go_wp2
                go_ret
                rw [Told, E1.out, E2.out]
                exact ⟨rfl, HR3.out, HK.out⟩
            · have z1 : (ho != 0) = true := by simpa using h0
              have z2 : (ho == 0) = false := by simpa using h0
              have E1 := Lib.hid (Ehas.out k2 k3 (.inr h0))
              subst k2 k3 s0
              go_wp2
              go_ret
              rw [Told, tie_no _ E1.out (by decide), E1.out]
              exact ⟨rfl, HF, HK0⟩
          · have z1 : (sh != 0) = true := by simpa using s0
            have z2 : (sh == 0) = false := by simpa using s0
            have E1 := Lib.hid (Ehas.out k2 k3 (.inl s0))
            subst k2 k3
            go_wp2
            go_ret
            rw [Told, tie_no _ E1.out (by decide), E1.out]
            exact ⟨rfl, HF, HK0⟩
        · have z1 : (kr != 3) = true := by simpa using k3
          have z2 : (kr == 3) = false := by simpa using k3
          have E1 := Lib.hid (Ekind.out (.inr k3))
          subst k2
          go_wp2
          go_ret
          rw [Told, tie_no _ E1.out (by decide), E1.out]
          exact ⟨rfl, HF, HK0⟩
      · have z1 : (kh != 2) = true := by simpa using k2
        have z2 : (kh == 2) = false := by simpa using k2
        have E1 := Lib.hid (Ekind.out (.inl k2))
        go_wp2
        go_ret
        rw [Told, tie_no _ E1.out (by decide), E1.out]
        exact ⟨rfl, HF, HK0⟩
end
end Go.Proofs.Ytkafaceanlkjjaa
