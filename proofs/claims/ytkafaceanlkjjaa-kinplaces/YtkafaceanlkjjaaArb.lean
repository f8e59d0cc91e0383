/-
  What Name, Want and Tie of package arena do.
-/
import Derived.Test.YtkafaceanlkjjaaAra
namespace Go.Proofs.Ytkafaceanlkjjaa
open Go Go.RowKit

/-- The forest at block b, its nodes at block g. -/
structure FrstAt (S : Nat → Prop) (w : World) (b g c : Nat) (l : List Nd) : Prop where
  mine : S b
  head : Has w b (.cells #[.slice (some ⟨g, 0, none⟩) l.length c] 62 (0, 0))
  nodes : Nodes S w 0 (some ⟨g, 0, none⟩) c l
section
variable {S F : Nat → Prop} {w w' : World} {b g c m f : Nat} {l : List Nd} {u : Value} {N : Nd → Nd}
theorem Frst.at_ (h : Frst S w b l) (hm : m < l.length) : ∃ g c, FrstAt S w b g c l := by
  obtain ⟨hS, A, c, h1, h2⟩ := h
  obtain ⟨g, rfl, -⟩ := h2.some_ hm
  exact ⟨g, c, hS, h1, h2⟩
theorem FrstAt.frst (h : FrstAt S w b g c l) : Frst S w b l := ⟨h.mine, _, _, h.head, h.nodes⟩
theorem FrstAt.row (h : FrstAt S w b g c l) : S g ∧ g < w.heap.size ∧ ∃ cur, Has w g (.cells cur 41 (0, 0)) := by
  obtain ⟨rows, rfl, h2, h3, h4⟩ := h.nodes
  refine ⟨h4 _ _ _ rfl, h.nodes.inside _ _ _ rfl, ?_⟩
  rcases h2.2 with ⟨hv, _⟩ | ⟨g', cap, cur, hv, _, hh, _⟩
  · cases hv
  · obtain rfl : g = g' := by injection hv with e1; simpa using e1
    exact ⟨cur, hh⟩
theorem FrstAt.ne (h : FrstAt S w b g c l) : b ≠ g := by
  obtain ⟨-, -, cur, hg⟩ := h.row
  exact Has.apart h.head hg (by simp)
theorem FrstAt.below (h : FrstAt S w b g c l) (k : Below w.heap.size w w') : FrstAt S w' b g c l := ⟨h.mine, h.head.below k h.head.inside, h.nodes.below k⟩
theorem FrstAt.keep (h : FrstAt S w b g c l) (k : Keeps F w w') (hF : ∀ i, S i → i < w.heap.size → ¬ F i) : FrstAt S w' b g c l := ⟨h.mine, h.head.kept k (hF b h.mine h.head.inside), h.nodes.keptG k hF⟩
theorem FrstAt.there_ (h : FrstAt S w b g c l) : w.cell? ⟨b, 0, none⟩ = some (.slice (some ⟨g, 0, none⟩) l.length c) := h.head.cell 0
theorem FrstAt.drewN (h : FrstAt S w b g c l) (n : Nat) : FrstAt S (w.drewN n) b g c l := ⟨h.mine, h.head, h.nodes⟩
/-- One field of one node is written. -/
theorem FrstAt.turn (h : FrstAt S w b g c l) (hm : m < l.length) (hf : f < 9) (hN : ∀ d k, (N d).cells k = (d.cells k).set f u) (hk : ∀ d, (N d).kids = d.kids) :
    FrstAt S (w.setCell ⟨g, m * 9 + f, none⟩ u) b g c (modN l ((m : Int) + 1) N) := by
  obtain ⟨-, -, h3⟩ := h.nodes.turn hm hf hN hk
  refine ⟨h.mine, ?_, h3⟩
  rw [modN_length]
  exact h.head.aside h.ne u
theorem Keeps.ofBelow (k : Below w.heap.size w w') : Keeps S w w' := Keeps.of_below k fun _ hi h => absurd hi (Nat.not_lt.2 h)
end

/-- An error's number, and the forest then. -/
def Told (S : Nat → Prop) (w : World) (b : Nat) (l' : List Nd) (err : Int) (e : Ending) (w' : World) : Prop := e = .returned (.int .i64 err) ∧ Frst S w' b l' ∧ Keeps S w w'

section
variable {S : Nat → Prop} {w : World} {b : Nat} {l : List Nd}
set_option maxHeartbeats 2000000 in
theorem arName (id : Int) (s : ByteArray) (h : Frst S w b l) (hl : l.length ≤ 128) (hs : s.size ≤ 9223372036854775807) :
    Calls Try.prog 30 #[.pointer (some ⟨b, 0, none⟩), .int .i64 id, .string s] w (Told S w b (nameL l id s) (nameErr l id s)) := by
  have H := Lib.hid h
  clear h
  have hnot : ∀ (x : Bool) (w : World), (Op.unary .not (.bool x)).run Try.prog w = .ok (.bool (!x)) w := fun _ _ => rfl
  cases hth : thereB l id with
  | false =>
    have e1 : nameErr l id s = 1 := by unfold nameErr; rw [if_pos (.inl hth)]
    have e2 : nameL l id s = l := by unfold nameL; rw [e1]; rfl
    rw [e1, e2]
    have Hth := Lib.hid hth
    clear hth e1 e2
    go_enter Try.func30, Try.ntmps30
    go_wp2_with fail
    refine (arHas_is H.out Hth.out).mono ?_
    rintro e w1 ⟨rfl, rfl⟩
    go_wp2
    go_ret
    exact ⟨rfl, H.out, Keeps.refl _ _⟩
  | true =>
    have Hth := Lib.hid hth
    cases hok : okName s with
    | false =>
      have e1 : nameErr l id s = 1 := by unfold nameErr; rw [if_pos (.inr hok)]
      have e2 : nameL l id s = l := by unfold nameL; rw [e1]; rfl
      rw [e1, e2]
      have Hok := Lib.hid hok
      clear hth hok e1 e2
      go_enter Try.func30, Try.ntmps30
      go_wp2_with fail
      refine (arHas_is H.out Hth.out).mono ?_
      rintro e w1 ⟨rfl, rfl⟩
      go_wp2_with fail
      refine (arFits s w hs Hok.out).mono ?_
      rintro e w1 ⟨rfl, hb⟩
      go_wp2
      go_ret
      exact ⟨rfl, H.out.below hb, Keeps.ofBelow hb⟩
    | true =>
      obtain ⟨m, rfl, hm⟩ := there_at hth
      obtain ⟨g, c, hR⟩ := H.out.at_ hm
      have HR := Lib.hid hR
      have Hok := Lib.hid hok
      have he : nameErr l ((m : Int) + 1) s = if (nd l ((m : Int) + 1)).slot = false then 2 else 0 := by unfold nameErr; rw [if_neg (by rw [hth, hok]; simp)]
      have hL : nameL l ((m : Int) + 1) s = if nameErr l ((m : Int) + 1) s = 0 then modN l ((m : Int) + 1) (fun d => { d with name := s }) else l := rfl
      clear hth hok hR
      cases hsl : (nd l ((m : Int) + 1)).slot with
      | false =>
        rw [hsl, if_pos rfl] at he
        rw [he, if_neg (by decide)] at hL
        rw [he, hL]
        have Hsl := Lib.hid hsl
        clear he hL hsl
        go_enter Try.func30, Try.ntmps30
        go_wp2_with fail
        refine (arHas_is H.out Hth.out).mono ?_
        rintro e w1 ⟨rfl, rfl⟩
        go_wp2_with fail
        refine (arFits s w hs Hok.out).mono ?_
        rintro e w1 ⟨rfl, hb⟩
        have hR1 := HR.out.below hb
        have q0 := hR1.there_
        obtain ⟨_, k, e', -, -, -, -, -, -, -, -, -, c5, -, -, -⟩ := hR1.nodes.nine hm
        cases e'
        rw [Hsl.out] at c5
        clear hR1
        go_wp2
        go_ret
        exact ⟨rfl, H.out.below hb, Keeps.ofBelow hb⟩
      | true =>
        rw [hsl, if_neg (by decide)] at he
        rw [he, if_pos rfl] at hL
        rw [he, hL]
        have Hsl := Lib.hid hsl
        clear he hL hsl
        go_enter Try.func30, Try.ntmps30
        go_wp2_with fail
        refine (arHas_is H.out Hth.out).mono ?_
        rintro e w1 ⟨rfl, rfl⟩
        go_wp2_with fail
        refine (arFits s w hs Hok.out).mono ?_
        rintro e w1 ⟨rfl, hb⟩
        have hR1 := HR.out.below hb
        have q0 := hR1.there_
        obtain ⟨_, k, e', -, -, -, hz, -, -, -, -, -, c5, c6, -, -⟩ := hR1.nodes.nine hm
        cases e'
        rw [Hsl.out] at c5
        have hz6 := hz (m * 9 + 6)
        have hR2 := hR1.turn (N := fun d => { d with name := s }) (u := .string s) (f := 6) hm (by omega) (fun _ _ => rfl) (fun _ => rfl)
        have HR2 := Lib.hid hR2.frst
        have HK := Lib.hid ((Keeps.ofBelow (S := S) hb).store (p := ⟨g, m * 9 + 6, none⟩) (.inl HR.out.row.1) (.string s))
        clear hR1 hR2 hz
        go_wp2
        go_ret
        exact ⟨rfl, HR2.out, HK.out⟩
set_option maxHeartbeats 2000000 in
theorem arWant (id : Int) (s : ByteArray) (h : Frst S w b l) (hl : l.length ≤ 128) (hs : s.size ≤ 9223372036854775807) :
    Calls Try.prog 31 #[.pointer (some ⟨b, 0, none⟩), .int .i64 id, .string s] w (Told S w b (wantL l id s) (wantErr l id s)) := by
  have H := Lib.hid h
  clear h
  have hnot : ∀ (x : Bool) (w : World), (Op.unary .not (.bool x)).run Try.prog w = .ok (.bool (!x)) w := fun _ _ => rfl
  cases hth : thereB l id with
  | false =>
    have e1 : wantErr l id s = 1 := by unfold wantErr; rw [if_pos (.inl hth)]
    have e2 : wantL l id s = l := by unfold wantL; rw [e1]; rfl
    rw [e1, e2]
    have Hth := Lib.hid hth
    clear hth e1 e2
    go_enter Try.func31, Try.ntmps31
    go_wp2_with fail
    refine (arHas_is H.out Hth.out).mono ?_
    rintro e w1 ⟨rfl, rfl⟩
    go_wp2
    go_ret
    exact ⟨rfl, H.out, Keeps.refl _ _⟩
  | true =>
    have Hth := Lib.hid hth
    cases hok : okName s with
    | false =>
      have e1 : wantErr l id s = 1 := by unfold wantErr; rw [if_pos (.inr hok)]
      have e2 : wantL l id s = l := by unfold wantL; rw [e1]; rfl
      rw [e1, e2]
      have Hok := Lib.hid hok
      clear hth hok e1 e2
      go_enter Try.func31, Try.ntmps31
      go_wp2_with fail
      refine (arHas_is H.out Hth.out).mono ?_
      rintro e w1 ⟨rfl, rfl⟩
      go_wp2_with fail
      refine (arFits s w hs Hok.out).mono ?_
      rintro e w1 ⟨rfl, hb⟩
      go_wp2
      go_ret
      exact ⟨rfl, H.out.below hb, Keeps.ofBelow hb⟩
    | true =>
      obtain ⟨m, rfl, hm⟩ := there_at hth
      obtain ⟨g, c, hR⟩ := H.out.at_ hm
      have HR := Lib.hid hR
      have Hok := Lib.hid hok
      have he : wantErr l ((m : Int) + 1) s = if (nd l ((m : Int) + 1)).kind ≠ 2 then 2 else 0 := by unfold wantErr; rw [if_neg (by rw [hth, hok]; simp)]
      have hL : wantL l ((m : Int) + 1) s = if wantErr l ((m : Int) + 1) s = 0 then modN l ((m : Int) + 1) (fun d => { d with want := s }) else l := rfl
      clear hth hok hR
      obtain ⟨kd, hkd⟩ : ∃ kd, (nd l ((m : Int) + 1)).kind = kd := ⟨_, rfl⟩
      rw [hkd] at he
      have Hkd := Lib.hid hkd
      clear hkd
      by_cases hk2 : kd = 2
      · rw [if_neg (fun h => h hk2)] at he
        rw [he, if_pos rfl] at hL
        rw [he, hL]
        subst hk2
        clear he hL
        go_enter Try.func31, Try.ntmps31
        go_wp2_with fail
        refine (arHas_is H.out Hth.out).mono ?_
        rintro e w1 ⟨rfl, rfl⟩
        go_wp2_with fail
        refine (arFits s w hs Hok.out).mono ?_
        rintro e w1 ⟨rfl, hb⟩
        have hR1 := HR.out.below hb
        have q0 := hR1.there_
        obtain ⟨_, k, e', -, -, -, hz, c0, -, -, -, -, -, -, c7, -⟩ := hR1.nodes.nine hm
        cases e'
        rw [Hkd.out] at c0
        have hz7 := hz (m * 9 + 7)
        have hR2 := hR1.turn (N := fun d => { d with want := s }) (u := .string s) (f := 7) hm (by omega) (fun _ _ => rfl) (fun _ => rfl)
        have HR2 := Lib.hid hR2.frst
        have HK := Lib.hid ((Keeps.ofBelow (S := S) hb).store (p := ⟨g, m * 9 + 7, none⟩) (.inl HR.out.row.1) (.string s))
        clear hR1 hR2 hz
        go_wp2
        go_ret
        exact ⟨rfl, HR2.out, HK.out⟩
      · rw [if_pos hk2] at he
        rw [he, if_neg (by decide)] at hL
        rw [he, hL]
        have z1 : (kd != 2) = true := by simpa using hk2
        have z2 : (kd == 2) = false := by simpa using hk2
        clear he hL
        go_enter Try.func31, Try.ntmps31
        go_wp2_with fail
        refine (arHas_is H.out Hth.out).mono ?_
        rintro e w1 ⟨rfl, rfl⟩
        go_wp2_with fail
        refine (arFits s w hs Hok.out).mono ?_
        rintro e w1 ⟨rfl, hb⟩
        have hR1 := HR.out.below hb
        have q0 := hR1.there_
        obtain ⟨_, k, e', -, -, -, -, c0, -, -, -, -, -, -, -, -⟩ := hR1.nodes.nine hm
        cases e'
        rw [Hkd.out] at c0
        clear hR1
        go_wp2
        go_ret
        exact ⟨rfl, H.out.below hb, Keeps.ofBelow hb⟩
end
end Go.Proofs.Ytkafaceanlkjjaa
