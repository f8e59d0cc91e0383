/-
  What towncrierref14's Parent, ClosedRoot and Up do.
  What towncrierref14.Make does.
  What towncrierlaw14.PathTells does with an arena that keeps its promises: it answers true.
  What towncrierlaw14.PathHides does with an arena that keeps its promises: it answers true.
  What towncrierlaw14.PathUp does with an arena that keeps its promises: it answers true.
  What towncrierlaw14.PathEnds does with an arena that keeps its promises: it answers true.
  What stage 14's laws do with this arena.
  Arguments that came in, opened: lists of texts and of numbers. Facts of the program that every row's proof wants.
  Proved: the law answers true for every input, and each argument reads afterwards as it read before. No condition.
-/
import Derived.Test.YtciajmaejpapfaaPartG
import Derived.Deep.DeepCutAuto
import Derived.Test.YtciajmaejpapfaaProg
import Derived.Test.YtciajmaejpapfaaChecked
import Derived.ProofKit
import Derived.OpenShut
import Derived.Test.YtciajmaejpapfaaRows
import Derived.ChangeOld

namespace Go.Proofs.Ytciajmaejpapfaa
open Go Go.RowKit

section
variable {G : Nat → Prop} {w : World} {A : Option Addr} {c : Nat} {l : List Nd}
set_option maxHeartbeats 2000000 in
theorem rpClosed (i : Int) (h : Nodes G w 0 A c l) (hl : l.length ≤ 128) (ht : thereB l i = true) :
    Calls Try.prog 36 #[.slice A l.length c, .int .i64 i] w fun e w' => e = .returned (.bool (crB l i)) ∧ Below w.heap.size w w' := by
  obtain ⟨R, hR⟩ : ∃ R, R = crB l i := ⟨_, rfl⟩
  rw [← hR]
  unfold crB at hR
  obtain ⟨m, rfl, hm⟩ := there_at ht
  obtain ⟨g, k, rfl, -, hgw, -, -, c0, -, -, -, c4, -⟩ := h.nine hm
  obtain ⟨dk, hdk⟩ : ∃ dk, dk = (nd l ((m : Int) + 1)).kind := ⟨_, rfl⟩
  obtain ⟨dm, hdm⟩ : ∃ dm, dm = (nd l ((m : Int) + 1)).mode := ⟨_, rfl⟩
  rw [← hdk] at c0 hR
  rw [← hdm] at c4 hR
  have HR := Lib.hid hR
  clear hR hdk hdm ht h
  by_cases h3 : dk = 3
  · have z1 : (dk == 3) = true := by simpa using h3
    have e1 : R = decide (dm = 2) := by rw [HR.out, decide_eq_true h3, Bool.true_and]
    by_cases h2 : dm = 2
    · have z2 : (dm == 2) = true := by simpa using h2
      have e2 : R = true := by rw [e1, decide_eq_true h2]
      subst e2
      clear h3 h2 e1 HR
      go_enter Try.func36, Try.ntmps36
      go_wp2
      go_ret
      exact ⟨rfl, Below.refl _ _⟩
    · have z2 : (dm == 2) = false := by simpa using h2
      have e2 : R = false := by rw [e1, decide_eq_false h2]
      subst e2
      clear h3 h2 e1 HR
      go_enter Try.func36, Try.ntmps36
      go_wp2
      go_ret
      exact ⟨rfl, Below.refl _ _⟩
  · have z1 : (dk == 3) = false := by simpa using h3
    have e1 : R = false := by rw [HR.out, decide_eq_false h3, Bool.false_and]
    subst e1
    clear h3 HR
    go_enter Try.func36, Try.ntmps36
    go_wp2
    go_ret
    exact ⟨rfl, Below.refl _ _⟩
set_option maxHeartbeats 4000000 in
set_option maxRecDepth 100000 in
theorem rpParent (i first : Int) (comp : Bool) (hg : Good l) (h : Nodes G w 0 A c l) :
    Calls Try.prog 12 #[.slice A l.length c, .int .i64 i, .int .i64 first, .bool comp] w fun e w' => e = .returned (.int .i64 (parE l first comp i)) ∧ Below w.heap.size w w' := by
  have hnot : ∀ (x : Bool) (w : World), (Op.unary .not (.bool x)).run Try.prog w = .ok (.bool (!x)) w := fun _ _ => rfl
  have hll := hg.len
  have H := Lib.hid h
  have Hg := Lib.hid hg
  obtain ⟨R, hR⟩ : ∃ R, R = parE l first comp i := ⟨_, rfl⟩
  rw [← hR]
  have HR := Lib.hid hR
  clear h hg hR
  go_enter Try.func12, Try.ntmps12
  go_wp2_with fail
  refine (there_any l A c i w).mono ?_
  rintro e w0 ⟨rfl, rfl⟩
  cases ht : thereB l i with
  | false =>
    have e0 : R = 0 := by rw [HR.out, parE_no ht]
    subst e0
    clear ht HR
    go_wp2
    go_ret
    exact ⟨rfl, Below.refl _ _⟩
  | true =>
    have Ht := Lib.hid ht
    clear ht
    go_wp2_with fail
    refine (rsOf i Hg.out H.out).mono ?_
    rintro e w1 ⟨rfl, hb1⟩
    have Hb1 := Lib.hid hb1
    have HN1 := Lib.hid (H.out.below hb1)
    clear hb1 H
    by_cases ho : ofL l i = 0
    · have e2 : (nd l i).kind ≠ 3 → R = (nd l i).parent := fun h3 => by rw [HR.out, parE_par Ht.out ho h3]
      have e3 : (nd l i).kind = 3 → comp = false → rootL l first = i → R = 0 := fun h3 hc hr => by rw [HR.out, hc, parE_end Ht.out ho h3 hr]
      have e4 : (nd l i).kind = 3 → (comp = true ∨ rootL l first ≠ i) → R = (nd l i).host := fun h3 hr => by rw [HR.out, parE_host Ht.out ho h3 hr]
      rw [ho]
      obtain ⟨m, rfl, hm⟩ := there_at Ht.out
      obtain ⟨g, k, rfl, -, hgw, -, -, c0, c1, c2, -⟩ := HN1.out.nine hm
      obtain ⟨dk, hdk⟩ : ∃ dk, dk = (nd l ((m : Int) + 1)).kind := ⟨_, rfl⟩
      obtain ⟨dp, hdp⟩ : ∃ dp, dp = (nd l ((m : Int) + 1)).parent := ⟨_, rfl⟩
      obtain ⟨dh, hdh⟩ : ∃ dh, dh = (nd l ((m : Int) + 1)).host := ⟨_, rfl⟩
      rw [← hdk] at c0 e2 e3 e4
      rw [← hdp] at c1 e2
      rw [← hdh] at c2 e4
      have E2 := Lib.hid e2
      have E3 := Lib.hid e3
      have E4 := Lib.hid e4
      clear ho HR e2 e3 e4 hdk hdp hdh
      by_cases h3 : dk = 3
      · have z1 : (dk == 3) = true := by simpa using h3
        have F3 := Lib.hid (E3.out h3)
        have F4 := Lib.hid (E4.out h3)
        clear h3 E2 E3 E4
        cases comp with
        | true =>
          have E5 := Lib.hid (F4.out (.inl rfl))
          clear F3 F4
          go_wp2
          go_ret
          rw [E5.out]
          exact ⟨rfl, Hb1.out⟩
        | false =>
          go_wp2_with fail
          refine (refRoot l _ c first w1 Hg.out HN1.out).mono ?_
          rintro e w2 ⟨rfl, hb2⟩
          have HB2 := Lib.hid (Hb1.out.trans (hb2.mono Hb1.out.size))
          have x2 : w2.cell? ⟨g, m * 9 + 2, none⟩ = some (.int .i64 dh) := (hb2.cell (p := ⟨g, m * 9 + 2, none⟩) hgw).trans c2
          clear hb2 c0 c1 c2
          by_cases hr : rootL l first = (m : Int) + 1
          · have E5 := Lib.hid (F3.out (by simp) hr)
            have z2 : (rootL l first == (m : Int) + 1) = true := by simpa using hr
            obtain ⟨r, hrr⟩ : ∃ r, r = rootL l first := ⟨_, rfl⟩
            rw [← hrr] at z2
            rw [← hrr]
            clear F3 F4 hr hrr
            go_wp2
            go_ret
            rw [E5.out]
            exact ⟨rfl, HB2.out⟩
          · have E5 := Lib.hid (F4.out (.inr hr))
            have z2 : (rootL l first == (m : Int) + 1) = false := by simpa using hr
            obtain ⟨r, hrr⟩ : ∃ r, r = rootL l first := ⟨_, rfl⟩
            rw [← hrr] at z2
            rw [← hrr]
            clear F3 F4 hr hrr
            go_wp2
            go_ret
            rw [E5.out]
            exact ⟨rfl, HB2.out⟩
      · have z1 : (dk == 3) = false := by simpa using h3
        have F2 := Lib.hid (E2.out h3)
        clear h3 E2 E3 E4
        go_wp2
        go_ret
        rw [F2.out]
        exact ⟨rfl, Hb1.out⟩
    · have e1 : R = ofL l i := by rw [HR.out, parE_slot Ht.out ho]
      have z1 : (ofL l i != 0) = true := by simpa using ho
      obtain ⟨o, hoo⟩ : ∃ o, o = ofL l i := ⟨_, rfl⟩
      rw [← hoo] at z1 e1
      rw [← hoo]
      have E1 := Lib.hid e1
      clear ho hoo HR e1
      go_wp2
      go_ret
      rw [E1.out]
      exact ⟨rfl, Hb1.out⟩
set_option maxHeartbeats 4000000 in
set_option maxRecDepth 100000 in
theorem rpUp (first : Int) (comp : Bool) (hg : Good l) (h : Nodes G w 0 A c l) :
    Calls Try.prog 34 #[.slice A l.length c, .int .i64 first, .bool comp] w fun e w' => ∃ v, e = .returned v ∧ Pile w.heap.size w' v (wayE l first comp) ∧ Below w.heap.size w w' := by
  have hll := hg.len
  have H := Lib.hid h
  have Hg := Lib.hid hg
  have hRl : (wayE l first comp).length ≤ 128 := Nat.le_trans (upE_len hg.tree _ _) hg.len
  obtain ⟨R, hR⟩ : ∃ R, R = wayE l first comp := ⟨_, rfl⟩
  rw [← hR] at hRl
  rw [← hR]
  have hR0 : ([] : List Int) ++ upE l first comp (l.length + 1 - 0) first = R := by rw [hR]; rfl
  have HR0 := Lib.hid hR0
  clear h hg hR hR0
  go_enter Try.func34, Try.ntmps34
  go_wp2_with fail
  go_loopw [7, 8, 9] (fun o a k wr => ∃ (i : Int) (xs : List Int) (j : Nat), a = .int .i64 i ∧ k = .int .i64 j ∧ j ≤ l.length + 1 ∧ xs ++ upE l first comp (l.length + 1 - j) i = R ∧ Pile w.heap.size wr o xs ∧ Below w.heap.size w wr) (fun _ _ k _ => l.length + 1 - (intOf k).toNat)
  case atStart => exact ⟨first, [], 0, rfl, rfl, Nat.zero_le _, HR0.out, Pile.nil _ _, Below.refl _ _⟩
  case round =>
    obtain ⟨i, xs, j, rfl, rfl, hj, hxs, hP, hb⟩ := hrel
    have Hn := Lib.hid (H.out.below hb)
    have Hxs := Lib.hid hxs
    have hxl : xs.length ≤ 1000000 := by have := app_len hxs; omega
    clear HR0 hxs
    obtain ⟨Ao, co, rfl, -⟩ := hP.form
    by_cases hjl : (j : Int) ≤ l.length
    · have z1 : decide ((j : Int) ≤ (l.length : Int)) = true := decide_eq_true hjl
      go_wp2_with fail
      refine (there_any l A c i wr).mono ?_
      rintro e w0 ⟨rfl, rfl⟩
      cases ht : thereB l i with
      | false =>
        have e0 : xs = R := by rw [← Hxs.out, upE_no ht, List.append_nil]
        have HP := Lib.hid hP
        have Hb := Lib.hid hb
        have E0 := Lib.hid e0
        clear ht e0 hP hb
        go_wp2
        go_ret
        rw [← E0.out]
        exact ⟨_, rfl, HP.out, Hb.out⟩
      | true =>
        have hst : (xs ++ [i]) ++ upE l first comp (l.length + 1 - (j + 1)) (parE l first comp i) = R := by
          rw [← Hxs.out, show l.length + 1 - j = (l.length + 1 - (j + 1)) + 1 by omega, upE_go ht, List.append_assoc]
          rfl
        have Hst := Lib.hid hst
        have hlt := hP.lt
        have HP2 : Hid (Pile w.heap.size (wr.alloc (.cells #[.int .i64 i] 3)) (.slice Ao xs.length co) xs) := Lib.hid (hP.alloc _)
        have HB2 : Hid (Has (wr.alloc (.cells #[.int .i64 i] 3)) wr.heap.size (.cells #[.int .i64 i] 3 (0, 0))) := Lib.hid (Has.fresh _ _)
        have HS2 : Hid (w.heap.size ≤ (wr.alloc (.cells #[.int .i64 i] 3)).heap.size) := Lib.hid (by have := hb.size; simp; omega)
        have HE : Hid (∀ w5, Keeps (fun i => (Value.slice Ao xs.length co).ownBlock = some i) (wr.alloc (.cells #[.int .i64 i] 3)) w5 → Below w.heap.size w w5) := Lib.hid fun w5 hk5 =>
          below_then (hb.alloc hb.size _) hk5 (by have := hb.size; simp; omega) fun i hi e => by have := (hlt _ e).1; omega
        clear hst hlt ht hP hb
        go_wp2_with (at_builtin; refine wpList_push rfl (.tmp 22) (.tmp 24) rfl rfl HP2.out rfl HB2.out hxl HS2.out ?_; intro g' cap w5 hp5 hk5 _ _)
        have HB5 := Lib.hid (HE.out w5 hk5)
        have HP5 := Lib.hid hp5
        have HN5 := Lib.hid (H.out.below HB5.out)
        clear hp5 hk5 HE HP2 HB2 HS2
        go_wp2_with fail
        refine (rpParent i first comp Hg.out HN5.out).mono ?_
        rintro e w6 ⟨rfl, hb6⟩
        have HF := Lib.hid (And.intro (HP5.out.below hb6) (HB5.out.trans (hb6.mono HB5.out.size)))
        clear hb6
        go_wp2
        go_roundw
        case rel => exact ⟨_, xs ++ [i], j + 1, rfl, by go_num, by omega, Hst.out, by simpa using HF.out.1, HF.out.2⟩
        case measure => simp [intOf]; omega
    · have z1 : decide ((j : Int) ≤ (l.length : Int)) = false := decide_eq_false hjl
      have e0 : xs = R := by
        have hq := Hxs.out
        rw [show l.length + 1 - j = 0 by omega] at hq
        rw [← hq]
        exact (List.append_nil _).symm
      have HP := Lib.hid hP
      have Hb := Lib.hid hb
      have E0 := Lib.hid e0
      clear e0 hP hb
      go_wp2
      go_ret
      rw [← E0.out]
      exact ⟨_, rfl, HP.out, Hb.out⟩
end
end Go.Proofs.Ytciajmaejpapfaa

namespace Go.Proofs.Ytciajmaejpapfaa
open Go Go.RowKit

section
variable {G : Nat → Prop} {w : World} {A : Option Addr} {c : Nat} {l : List Nd}
set_option maxHeartbeats 8000000 in
set_option maxRecDepth 100000 in
theorem rpMake (tgt rel : Int) (comp : Bool) (hg : Good l) (h : Nodes G w 0 A c l) :
    Calls Try.prog 15 #[.slice A l.length c, .int .i64 tgt, .int .i64 rel, .bool comp] w fun e w' => ∃ v, e = .returned v ∧ Recs RS 38 w.heap.size w' v (makeP l tgt rel comp) ∧ Below w.heap.size w w' := by
  obtain ⟨j0, qi, qz0, qz1, qz2⟩ := info_parts Try.infoStep
  have Qi := Lib.hid qi
  have Qz0 := Lib.hid qz0
  have Qz1 := Lib.hid qz1
  have Qz2 := Lib.hid qz2
  clear qi qz0 qz1 qz2
  have hnot : ∀ (x : Bool) (w : World), (Op.unary .not (.bool x)).run Try.prog w = .ok (.bool (!x)) w := fun _ _ => rfl
  have hll := hg.len
  have H := Lib.hid h
  have Hg := Lib.hid hg
  have hRl : (makeP l tgt rel comp).length ≤ 128 := Nat.le_trans (makeP_len hg.tree) hg.len
  have hUl : (wayE l tgt comp).length ≤ 128 := Nat.le_trans (upE_len hg.tree _ _) hg.len
  have hUt : ∀ x ∈ wayE l tgt comp, thereB l x = true := way_there
  obtain ⟨R, hR⟩ : ∃ R, R = makeP l tgt rel comp := ⟨_, rfl⟩
  rw [← hR] at hRl
  rw [← hR]
  have HR := Lib.hid hR
  have HUt := Lib.hid hUt
  clear h hg hR hUt
  go_enter Try.func15, Try.ntmps15
  go_wp2_with fail
  refine (rpUp tgt comp Hg.out H.out).mono ?_
  rintro e w1 ⟨v1, rfl, hP1, hb1⟩
  obtain ⟨A1, c1, rfl, hL1⟩ := hP1.form
  obtain ⟨U, hU⟩ : ∃ U, U = wayE l tgt comp := ⟨_, rfl⟩
  rw [← hU] at hL1 hUl HUt
  rw [← hU]
  obtain ⟨n, hn⟩ : ∃ n, n = U.length := ⟨_, rfl⟩
  rw [← hn] at hUl
  rw [← hn]
  have HU := Lib.hid hU
  have Hn := Lib.hid hn
  have HL := Lib.hid hL1
  have Hb1 := Lib.hid hb1
  have HN1 := Lib.hid (H.out.below hb1)
  clear hP1 hU hn hL1 hb1 H
  go_wp2_with fail
  go_loopw [9, 11, 12] (fun o t k wr => ∃ (tt : Int) (j : Nat) (xs : List Stp), t = .int .i64 tt ∧ k = .int .i64 j ∧ j ≤ n ∧ Recs RS 38 w1.heap.size wr o xs ∧ Below w1.heap.size w1 wr ∧ farP l rel tgt U R xs j tt) (fun _ _ k _ => n - (intOf k).toNat)
  case atStart => exact ⟨tgt, 0, [], rfl, rfl, Nat.zero_le _, Recs.nil _ _ _ _, Below.refl _ _, .inl ⟨rfl, rfl, rfl⟩⟩
  case round =>
    obtain ⟨tt, j, xs, rfl, rfl, hj, hO, hb, hfar⟩ := hrel
    obtain ⟨Ao, co, rfl, -⟩ := hO.form
    have hxl : xs.length ≤ 1000000 := by have := far_len hfar; omega
    by_cases hjn : (j : Int) < n
    · have hjl : j < U.length := by rw [← Hn.out]; omega
      obtain ⟨b', off, rfl, hB, hc0⟩ := HL.out.nums j hjl
      have hc : wr.cell? ⟨b', off + j, none⟩ = some (.int .i64 U[j]) := (hb.cell (p := ⟨b', off + j, none⟩) hB).trans hc0
      have hit := HUt.out _ (List.getElem_mem hjl)
      have HNr := Lib.hid (HN1.out.below hb)
      have HO := Lib.hid hO
      have Hb := Lib.hid hb
      have F1 : Hid (j = 0 → xs = [] ∧ tt = tgt ∧ (aimL l rel U[j] = tgt → rel ≠ tgt → R = []) ∧ (¬ (aimL l rel U[j] = tgt ∧ rel ≠ tgt) → farP l rel tgt U R [⟨U[j], tgt, aimL l rel U[j], crB l U[j], false⟩] 1 tgt)) := Lib.hid fun e => by
        subst e
        exact far_first HU.out HR.out hjl hfar
      have F2 : Hid (0 < j → _) := Lib.hid fun h0 => far_next h0 hjl hfar
      obtain ⟨i, hi⟩ : ∃ i, i = U[j] := ⟨_, rfl⟩
      rw [← hi] at hc hit F1 F2
      have Hit := Lib.hid hit
      have HU1 : Hid (∀ prev, U[j - 1]? = some prev → ∀ W, Below w1.heap.size w1 W → W.cell? ⟨b', off + (j - 1), none⟩ = some (.int .i64 prev)) := Lib.hid fun prev hp W hW => by
        obtain ⟨hq, rfl⟩ := List.getElem?_eq_some_iff.1 hp
        obtain ⟨b'', off', e', hB', hc'⟩ := HL.out.nums (j - 1) hq
        obtain ⟨rfl, rfl⟩ : b' = b'' ∧ off = off' := by simpa using e'
        exact (hW.cell (p := ⟨b', off + (j - 1), none⟩) hB').trans hc'
      clear hc0 hit hB hO hb hfar hi hjl
      go_wp2_with fail
      refine (raAim rel i Hg.out HNr.out).mono ?_
      rintro e w2 ⟨rfl, hb2⟩
      have Hb2 := Lib.hid (Hb.out.trans (hb2.mono Hb.out.size))
      have HN2 := Lib.hid (HNr.out.below hb2)
      have HO2 := Lib.hid (HO.out.below hb2)
      clear hb2 Hb HNr HO hc
      obtain ⟨X, hX⟩ : ∃ X, X = aimL l rel i := ⟨_, rfl⟩
      rw [← hX] at F1 F2
      rw [← hX]
      clear hX
      go_wp2_with fail
      refine (rpClosed i HN2.out hll Hit.out).mono ?_
      rintro e w3 ⟨rfl, hb3⟩
      obtain ⟨C, hC⟩ : ∃ C, C = crB l i := ⟨_, rfl⟩
      rw [← hC] at F1 F2
      rw [← hC]
      have hW4 : Below w3.heap.size w3 (w3.alloc (.cells #[.int .i64 i, .int .i64 0, .int .i64 X, .bool C, .bool false] 38)) := (Below.refl _ _).alloc (Nat.le_refl _) _
      have hb34 : Below w2.heap.size w2 (w3.alloc (.cells #[.int .i64 i, .int .i64 0, .int .i64 X, .bool C, .bool false] 38)) := hb3.trans (hW4.mono hb3.size)
      have Hb4 := Lib.hid (Hb2.out.trans (hb34.mono Hb2.out.size))
      have HN4 := Lib.hid (HN2.out.below hb34)
      have HO4 := Lib.hid (HO2.out.below hb34)
      have HX4 : Hid (Has (w3.alloc (.cells #[.int .i64 i, .int .i64 0, .int .i64 X, .bool C, .bool false] 38)) w3.heap.size (.cells #[.int .i64 i, .int .i64 0, .int .i64 X, .bool C, .bool false] 38 (0, 0))) := Lib.hid (Has.fresh w3 (.cells #[.int .i64 i, .int .i64 0, .int .i64 X, .bool C, .bool false] 38))
      have Hw13 : Hid (w1.heap.size ≤ w3.heap.size) := Lib.hid (by have := Hb2.out.size; have := hb3.size; omega)
      have HwS : Hid (w2.heap.size ≤ w3.heap.size) := Lib.hid hb3.size
      clear hb3 hW4 hb34 Hb2 HN2 hC
      by_cases h0 : j = 0
      · obtain ⟨rfl, e2, G1, G2⟩ := F1.out h0
        obtain rfl := e2.symm
        subst h0
        obtain ⟨W4, hW4⟩ : ∃ W4, W4 = w3.alloc (.cells #[.int .i64 i, .int .i64 0, .int .i64 X, .bool C, .bool false] 38) := ⟨_, rfl⟩
        rw [← hW4] at Hb4 HN4 HO4 HX4
        obtain ⟨sk, hsk⟩ : ∃ sk, sk = (decide (X = tgt) && decide (rel ≠ tgt)) := ⟨_, rfl⟩
        have HSK := Lib.hid hsk
        have HG1 := Lib.hid G1
        have HG2 := Lib.hid G2
        have HW4 := Lib.hid hW4
        have y2 := HX4.out.cell 2
        rw [hW4] at y2
        have z0 : (((0 : Nat) : Int) == 0) = true := rfl
        clear e2 G1 G2 F1 F2 HU1 hsk hW4
        go_upto_region 10 with (fail)
        rw [← HW4.out] at y2 ⊢
        go_cut [49] (fun v wc => v = .bool sk ∧ W4 = wc)
        case first =>
          by_cases hx : X = tgt
          · have z1 : (X == tgt) = true := by simpa using hx
            by_cases hrt : rel = tgt
            · have z2 : (rel != tgt) = false := by simpa using hrt
              have e1 : sk = false := by rw [HSK.out, decide_eq_true hx, decide_eq_false (fun e => e hrt)]; rfl
              subst e1
              clear HSK hrt hx
              go_wp2
              go_meet
              exact ⟨rfl, rfl⟩
            · have z2 : (rel != tgt) = true := by simpa using hrt
              have e1 : sk = true := by rw [HSK.out, decide_eq_true hx, decide_eq_true hrt]; rfl
              subst e1
              clear HSK hrt hx
              go_wp2
              go_meet
              exact ⟨rfl, rfl⟩
          · have z1 : (X == tgt) = false := by simpa using hx
            have e1 : sk = false := by rw [HSK.out, decide_eq_false hx]; rfl
            subst e1
            clear HSK hx
            go_wp2
            go_meet
            exact ⟨rfl, rfl⟩
        case rest =>
          obtain ⟨rfl, rfl⟩ := hcut
          cases hk : sk with
          | true =>
            rw [hk] at HSK
            have h2 := HSK.out.symm
            rw [Bool.and_eq_true, decide_eq_true_eq, decide_eq_true_eq] at h2
            have e0 := HG1.out h2.1 h2.2
            have HF := Lib.hid (And.intro (own_base HO4.out Hb1.out.size) (Hb1.out.trans (Hb4.out.mono Hb1.out.size)))
            have E0 := Lib.hid e0
            clear h2 e0 hk HSK
            go_wp2
            go_ret
            rw [E0.out]
            exact ⟨_, rfl, HF.out⟩
          | false =>
            rw [hk] at HSK
            have h2 := HSK.out.symm
            have hfar := HG2.out fun h3 => by
              rw [decide_eq_true h3.1, decide_eq_true h3.2] at h2
              cases h2
            have HFar := Lib.hid hfar
            have y1 := HX4.out.cell 1
            have y3 := HX4.out.free 1
            obtain ⟨WB, hWB⟩ : ∃ WB, WB = W4.setCell ⟨w3.heap.size, 1, none⟩ (.int .i64 tgt) := ⟨_, rfl⟩
            have hk5 : Keeps (fun i => i = w3.heap.size) W4 WB := by
              rw [hWB]
              exact Keeps.store (F := fun i => i = w3.heap.size) (p := ⟨w3.heap.size, 1, none⟩) (Keeps.refl _ _) (.inl rfl) _
            have HBx := Lib.hid (below_then Hb4.out hk5 Hb4.out.size fun i hi e => by have := Hw13.out; omega)
            have HOx : Hid (Recs RS 38 w1.heap.size WB (.slice Ao ([] : List Stp).length co) []) := Lib.hid (HO4.out.kept hk5 fun g hg e => by
              have := (HO2.out.in_ g hg).2
              have := HwS.out
              omega)
            have HXx : Hid (Has WB w3.heap.size (.cells #[.int .i64 i, .int .i64 tgt, .int .i64 X, .bool C, .bool false] 38 (0, 0))) := Lib.hid (by
              have := HX4.out.stored 1 (.int .i64 tgt)
              rw [hWB]
              simpa using this)
            have HWB := Lib.hid hWB
            clear h2 hk HSK hfar hWB hk5 y2
            go_upto_region 19 with (fail)
            rw [← HWB.out]
            clear y1 y3
            have x0 := HXx.out.cell 0
            have x1 := HXx.out.cell 1
            have x2 := HXx.out.cell 2
            have x3 := HXx.out.cell 3
            have x4 := HXx.out.cell 4
            have HR6 := Lib.hid (HOx.out.below ((Below.refl _ WB).alloc (Nat.le_refl _) (.cells #[.int .i64 i, .int .i64 tgt, .int .i64 X, .bool C, .bool false] 38)))
            have HL6 : Hid (Has (WB.alloc (.cells #[.int .i64 i, .int .i64 tgt, .int .i64 X, .bool C, .bool false] 38)) WB.heap.size (.cells #[.int .i64 i, .int .i64 tgt, .int .i64 X, .bool C, .bool false] 38 (0, 0))) := Lib.hid (Has.fresh WB (.cells #[.int .i64 i, .int .i64 tgt, .int .i64 X, .bool C, .bool false] 38))
            have HS6 : Hid (w1.heap.size ≤ (WB.alloc (.cells #[.int .i64 i, .int .i64 tgt, .int .i64 X, .bool C, .bool false] 38)).heap.size) := Lib.hid (by have := HBx.out.size; simp; omega)
            have HE : Hid (∀ w5, Keeps (fun i => (Value.slice Ao ([] : List Stp).length co).ownBlock = some i) (WB.alloc (.cells #[.int .i64 i, .int .i64 tgt, .int .i64 X, .bool C, .bool false] 38)) w5 → Below w1.heap.size w1 w5) := Lib.hid fun w5 hk5 =>
              below_then (HBx.out.alloc HBx.out.size (.cells #[.int .i64 i, .int .i64 tgt, .int .i64 X, .bool C, .bool false] 38)) hk5 HS6.out fun i hi e => by have := (HOx.out.in_ _ e).1; omega
            clear HXx HOx HBx
            go_wp2_with (at_builtin; refine wpList_pushR (R := RS) (x := ⟨i, tgt, X, C, false⟩) (v := .slice Ao ([] : List Stp).length co) (xs := ([] : List Stp)) (base := w1.heap.size) rfl (.tmp 84) (.tmp 86) 32 rfl j0 _ 32 Try.underlying32 Qi.out Qz0.out Qz1.out Qz2.out rfl rfl HR6.out rfl HL6.out hxl (by omega) HS6.out ?_; intro g' cap w5 hp5 hk5 _ _)
            go_roundw
            case rel => exact ⟨tgt, 0 + 1, _, rfl, by go_num, by omega, hp5, HE.out w5 hk5, HFar.out⟩
            case measure => simp [intOf]; omega
      · have hj0 : 0 < j := by omega
        obtain ⟨prev, hp, G1, G2, G3⟩ := F2.out hj0
        have HG1 := Lib.hid G1
        have HG2 := Lib.hid G2
        have HG3 := Lib.hid G3
        obtain ⟨m, hm⟩ : ∃ m, m = j - 1 := ⟨_, rfl⟩
        have HU2 := HU1.out prev hp
        rw [← hm] at HU2
        have HU3 := Lib.hid HU2
        have z0 : ((j : Int) == 0) = false := by rw [beq_eq_false_iff_ne]; omega
        have z1 : IntKind.i64.wrap ((j : Int) - 1) = (m : Int) := by rw [wrap_small] <;> omega
        have z2 : (m : Int) < n := by omega
        obtain ⟨W4, hW4⟩ : ∃ W4, W4 = w3.alloc (.cells #[.int .i64 i, .int .i64 0, .int .i64 X, .bool C, .bool false] 38) := ⟨_, rfl⟩
        rw [← hW4] at Hb4 HN4 HO4 HX4
        have HW4 := Lib.hid hW4
        clear F1 F2 HU1 HU2 G1 G2 G3 hp hm hW4 h0
        go_upto_region 13 with (fail)
        rw [← HW4.out]
        obtain ⟨D, hD⟩ : ∃ D, D = csB l prev i := ⟨_, rfl⟩
        rw [← hD] at HG1 HG3
        have HD := Lib.hid hD
        have HAFT : Hid (∀ W, Below W4.heap.size W4 W → W.cell? ⟨w3.heap.size, 4, none⟩ = some (.bool false) ∧ W.frozen? ⟨w3.heap.size, 4, none⟩ = false ∧ Hid (Has (W.setCell ⟨w3.heap.size, 4, none⟩ (.bool D)) w3.heap.size (.cells #[.int .i64 i, .int .i64 0, .int .i64 X, .bool C, .bool D] 38 (0, 0)) ∧ Below w1.heap.size w1 (W.setCell ⟨w3.heap.size, 4, none⟩ (.bool D)) ∧ Recs RS 38 w1.heap.size (W.setCell ⟨w3.heap.size, 4, none⟩ (.bool D)) (.slice Ao xs.length co) xs)) := Lib.hid fun W hW => by
          have hX := HX4.out.below hW HX4.out.inside
          have hk5 : Keeps (fun i => i = w3.heap.size) W (W.setCell ⟨w3.heap.size, 4, none⟩ (.bool D)) := Keeps.store (F := fun i => i = w3.heap.size) (p := ⟨w3.heap.size, 4, none⟩) (Keeps.refl _ _) (.inl rfl) _
          refine ⟨hX.cell 4, hX.free 4, Lib.hid ⟨?_, below_then (Hb4.out.trans (hW.mono Hb4.out.size)) hk5 (Nat.le_trans Hb4.out.size hW.size) fun i hi e => by have := Hw13.out; omega, (HO4.out.below hW).kept hk5 fun g hg e => ?_⟩⟩
          · have := hX.stored 4 (.bool D)
            simpa using this
          · have := (HO2.out.in_ g hg).2
            have := HwS.out
            omega
        clear hD
        go_cut [] (fun wc => Has wc w3.heap.size (.cells #[.int .i64 i, .int .i64 0, .int .i64 X, .bool C, .bool D] 38 (0, 0)) ∧ Below w1.heap.size w1 wc ∧ Recs RS 38 w1.heap.size wc (.slice Ao xs.length co) xs)
        case first =>
          have hc := HU3.out W4 Hb4.out
          go_wp2_with fail
          refine (rsOf prev Hg.out HN4.out).mono ?_
          rintro e w5 ⟨rfl, hb5⟩
          have Hb5 := Lib.hid hb5
          have HN5 := Lib.hid (HN4.out.below hb5)
          clear hb5 hc
          by_cases ho : ofL l prev = 0
          · have eD : D = false := by
              rw [HD.out]
              unfold csB
              rw [decide_eq_false fun h => h ho]
              rfl
            rw [ho]
            subst eD
            obtain ⟨y1, y2, HF⟩ := HAFT.out w5 Hb5.out
            clear HD ho HAFT
            go_wp2
            go_meet
            exact HF.out
          · have eD : D = crB l (rootL l i) := by
              rw [HD.out]
              unfold csB
              rw [decide_eq_true ho]
              rfl
            have ED := Lib.hid eD
            have z3 : (ofL l prev != 0) = true := by simpa using ho
            obtain ⟨o, hoo⟩ : ∃ o, o = ofL l prev := ⟨_, rfl⟩
            rw [← hoo] at z3
            rw [← hoo]
            clear HD ho hoo eD
            go_wp2_with fail
            refine (refRoot l A c i w5 Hg.out HN5.out).mono ?_
            rintro e w6 ⟨rfl, hb6⟩
            have Hb6 := Lib.hid (Hb5.out.trans (hb6.mono Hb5.out.size))
            have HN6 := Lib.hid (HN5.out.below hb6)
            clear hb6 Hb5 HN5
            go_wp2_with fail
            refine (rpClosed (rootL l i) HN6.out hll (rootL_there Hg.out.tree Hit.out)).mono ?_
            rintro e w7 ⟨rfl, hb7⟩
            rw [← ED.out]
            obtain ⟨y1, y2, HF⟩ := HAFT.out w7 (Hb6.out.trans (hb7.mono Hb6.out.size))
            clear hb7 Hb6 HN6 ED HAFT
            go_wp2
            go_meet
            exact HF.out
        case rest =>
          obtain ⟨hXc, hBc, hOc⟩ := hcut
          have HXc := Lib.hid hXc
          have HBc := Lib.hid hBc
          have HOc := Lib.hid hOc
          have HNc := Lib.hid (HN1.out.below hBc)
          have hwx := hXc.inside
          clear hXc hBc hOc HAFT HD HU3 HX4 HO4 HN4 Hb4 HW4 z1 z2
          go_wp2_with fail
          refine (refRoot l A c tt wc Hg.out HNc.out).mono ?_
          rintro e w6 ⟨rfl, hb6⟩
          have HN6 := Lib.hid (HNc.out.below hb6)
          have HX6 := Lib.hid (HXc.out.below hb6 HXc.out.inside)
          have HB6 := Lib.hid (HBc.out.trans (hb6.mono HBc.out.size))
          have HO6 := Lib.hid (HOc.out.below hb6)
          clear hb6 HNc HXc HBc HOc hwx
          go_wp2_with fail
          refine (rsHolds (rootL l tt) i Hg.out HN6.out).mono ?_
          rintro e w7 ⟨rfl, hb7⟩
          have HXx := Lib.hid (HX6.out.below hb7 HX6.out.inside)
          have HBx := Lib.hid (HB6.out.trans (hb7.mono HB6.out.size))
          have HOx := Lib.hid (HO6.out.below hb7)
          clear hb7 HN6 HX6 HB6 HO6
          cases hh : hasB (over l i) (rootL l tt) with
          | true =>
            have HFar := Lib.hid (HG1.out hh)
            clear hh HG1 HG2 HG3
            have x0 := HXx.out.cell 0
            have x1 := HXx.out.cell 1
            have x2 := HXx.out.cell 2
            have x3 := HXx.out.cell 3
            have x4 := HXx.out.cell 4
            have HR6 := Lib.hid (HOx.out.below ((Below.refl _ w7).alloc (Nat.le_refl _) (.cells #[.int .i64 i, .int .i64 0, .int .i64 X, .bool C, .bool D] 38)))
            have HL6 : Hid (Has (w7.alloc (.cells #[.int .i64 i, .int .i64 0, .int .i64 X, .bool C, .bool D] 38)) w7.heap.size (.cells #[.int .i64 i, .int .i64 0, .int .i64 X, .bool C, .bool D] 38 (0, 0))) := Lib.hid (Has.fresh w7 (.cells #[.int .i64 i, .int .i64 0, .int .i64 X, .bool C, .bool D] 38))
            have HS6 : Hid (w1.heap.size ≤ (w7.alloc (.cells #[.int .i64 i, .int .i64 0, .int .i64 X, .bool C, .bool D] 38)).heap.size) := Lib.hid (by have := HBx.out.size; simp; omega)
            have HE : Hid (∀ w5, Keeps (fun i => (Value.slice Ao xs.length co).ownBlock = some i) (w7.alloc (.cells #[.int .i64 i, .int .i64 0, .int .i64 X, .bool C, .bool D] 38)) w5 → Below w1.heap.size w1 w5) := Lib.hid fun w5 hk5 =>
              below_then (HBx.out.alloc HBx.out.size (.cells #[.int .i64 i, .int .i64 0, .int .i64 X, .bool C, .bool D] 38)) hk5 HS6.out fun i hi e => by have := (HOx.out.in_ _ e).1; omega
            clear HXx HOx HBx
            go_wp2_with (at_builtin; refine wpList_pushR (R := RS) (x := ⟨i, 0, X, C, D⟩) (v := .slice Ao xs.length co) (xs := xs) (base := w1.heap.size) rfl (.tmp 84) (.tmp 86) 32 rfl j0 _ 32 Try.underlying32 Qi.out Qz0.out Qz1.out Qz2.out rfl rfl HR6.out rfl HL6.out hxl (by omega) HS6.out ?_; intro g' cap w5 hp5 hk5 _ _)
            go_roundw
            case rel => exact ⟨tt, j + 1, _, rfl, by go_num, by omega, hp5, HE.out w5 hk5, HFar.out⟩
            case measure => simp [intOf]; omega
          | false =>
            have F2 := Lib.hid (HG2.out hh)
            have F3 := Lib.hid (HG3.out hh)
            have y2 := HXx.out.cell 2
            clear hh HG1 HG2 HG3
            by_cases hx : i = X
            · have z3 : (i == X) = true := by simpa using hx
              have e0 := F2.out hx
              have HF := Lib.hid (And.intro (own_base HOx.out Hb1.out.size) (Hb1.out.trans (HBx.out.mono Hb1.out.size)))
              have E0 := Lib.hid e0
              clear hx e0 F2 F3 HOx HBx HXx
              go_wp2
              go_ret
              rw [← E0.out]
              exact ⟨_, rfl, HF.out⟩
            · have z3 : (i == X) = false := by simpa using hx
              have HFar := Lib.hid (F3.out hx)
              have y1 := HXx.out.cell 1
              have y3 := HXx.out.free 1
              obtain ⟨WB, hWB⟩ : ∃ WB, WB = w7.setCell ⟨w3.heap.size, 1, none⟩ (.int .i64 i) := ⟨_, rfl⟩
              have hk5 : Keeps (fun i => i = w3.heap.size) w7 WB := by
                rw [hWB]
                exact Keeps.store (F := fun i => i = w3.heap.size) (p := ⟨w3.heap.size, 1, none⟩) (Keeps.refl _ _) (.inl rfl) _
              have hBx := below_then HBx.out hk5 HBx.out.size fun i hi e => by have := Hw13.out; omega
              have hOx : Recs RS 38 w1.heap.size WB (.slice Ao xs.length co) xs := HOx.out.kept hk5 fun g hg e => by
                have := (HO2.out.in_ g hg).2
                have := HwS.out
                omega
              have hXx : Has WB w3.heap.size (.cells #[.int .i64 i, .int .i64 i, .int .i64 X, .bool C, .bool D] 38 (0, 0)) := by
                have := HXx.out.stored 1 (.int .i64 i)
                rw [hWB]
                simpa using this
              have HWB := Lib.hid hWB
              clear hx F2 F3 hWB hk5 HXx HOx HBx
              have HXx := Lib.hid hXx
              have HBx := Lib.hid hBx
              have HOx := Lib.hid hOx
              clear hXx hBx hOx
              go_upto_region 19 with (fail)
              rw [← HWB.out]
              clear y1 y2 y3
              have x0 := HXx.out.cell 0
              have x1 := HXx.out.cell 1
              have x2 := HXx.out.cell 2
              have x3 := HXx.out.cell 3
              have x4 := HXx.out.cell 4
              have HR6 := Lib.hid (HOx.out.below ((Below.refl _ WB).alloc (Nat.le_refl _) (.cells #[.int .i64 i, .int .i64 i, .int .i64 X, .bool C, .bool D] 38)))
              have HL6 : Hid (Has (WB.alloc (.cells #[.int .i64 i, .int .i64 i, .int .i64 X, .bool C, .bool D] 38)) WB.heap.size (.cells #[.int .i64 i, .int .i64 i, .int .i64 X, .bool C, .bool D] 38 (0, 0))) := Lib.hid (Has.fresh WB (.cells #[.int .i64 i, .int .i64 i, .int .i64 X, .bool C, .bool D] 38))
              have HS6 : Hid (w1.heap.size ≤ (WB.alloc (.cells #[.int .i64 i, .int .i64 i, .int .i64 X, .bool C, .bool D] 38)).heap.size) := Lib.hid (by have := HBx.out.size; simp; omega)
              have HE : Hid (∀ w5, Keeps (fun i => (Value.slice Ao xs.length co).ownBlock = some i) (WB.alloc (.cells #[.int .i64 i, .int .i64 i, .int .i64 X, .bool C, .bool D] 38)) w5 → Below w1.heap.size w1 w5) := Lib.hid fun w5 hk5 =>
                below_then (HBx.out.alloc HBx.out.size (.cells #[.int .i64 i, .int .i64 i, .int .i64 X, .bool C, .bool D] 38)) hk5 HS6.out fun i hi e => by have := (HOx.out.in_ _ e).1; omega
              clear HXx HOx HBx
              go_wp2_with (at_builtin; refine wpList_pushR (R := RS) (x := ⟨i, i, X, C, D⟩) (v := .slice Ao xs.length co) (xs := xs) (base := w1.heap.size) rfl (.tmp 84) (.tmp 86) 32 rfl j0 _ 32 Try.underlying32 Qi.out Qz0.out Qz1.out Qz2.out rfl rfl HR6.out rfl HL6.out hxl (by omega) HS6.out ?_; intro g' cap w5 hp5 hk5 _ _)
              go_roundw
              case rel => exact ⟨i, j + 1, _, rfl, by go_num, by omega, hp5, HE.out w5 hk5, HFar.out⟩
              case measure => simp [intOf]; omega
    · have hend : j = U.length := by rw [← Hn.out]; omega
      subst hend
      have e0 := far_end HU.out HR.out hfar
      have HF := Lib.hid (And.intro (own_base hO Hb1.out.size) (Hb1.out.trans (hb.mono Hb1.out.size)))
      have E0 := Lib.hid e0
      clear e0 hO hb hfar
      go_wp2
      go_ret
      rw [← E0.out]
      exact ⟨_, rfl, HF.out⟩
end
end Go.Proofs.Ytciajmaejpapfaa

namespace Go.Proofs.Ytciajmaejpapfaa
open Go Go.RowKit

section
variable {Rep : (Nat → Prop) → World → Nat → List Nd → Prop}
set_option maxHeartbeats 8000000 in
set_option maxRecDepth 100000 in
theorem pathTells_any (O : ForestOk Rep) (M : ForestMore Rep) (A : Option Addr) (n c : Nat) (xs : List Ac) (tgt rel id : Int) (comp : Bool) (w : World) (hn : xs.length = n) (hm : n ≤ maxLen) (h : Acts w A xs) :
    Calls Try.prog 3 #[.slice A n c, .int .i64 tgt, .int .i64 rel, .int .i64 id, .bool comp] w fun e w' => e = .returned (.bool true) ∧ Below w.heap.size w w' := by
  have hnot : ∀ (x : Bool) (w : World), (Op.unary .not (.bool x)).run Try.prog w = .ok (.bool (!x)) w := fun _ _ => rfl
  have H := Lib.hid h
  have Hn := Lib.hid hn
  have Hm := Lib.hid hm
  clear h hn hm
  go_enter Try.func3, Try.ntmps3
  go_wp2_with fail
  refine (awake14_any O M w).mono ?_
  rintro e w0 ⟨rfl, hb0⟩
  go_wp2_with fail
  refine (great_any A n c xs w0 Hn.out Hm.out (H.out.below hb0)).mono ?_
  rintro e w1 ⟨⟨gr, rfl, hgr⟩, rfl⟩
  cases gr with
  | true =>
    go_wp2
    go_ret
    exact ⟨rfl, hb0⟩
  | false =>
    have Hs := Lib.hid (hgr rfl)
    have Hb0 := Lib.hid hb0
    clear hgr hb0
    go_wp2_with fail
    refine (built_any O A n c xs w0 Hn.out (H.out.below Hb0.out) Hs.out).mono ?_
    rintro e w1 ⟨b, rfl, hR, hb1⟩
    have hB1 := Hb0.out.trans (hb1.mono Hb0.out.size)
    have HB1 := Lib.hid hB1
    have HR := Lib.hid (O.wide hR (S' := fun _ => True) fun _ _ _ => trivial)
    clear hR hb1 hB1 Hb0
    go_wp2_with fail
    refine (refNodes A n c xs w1 Hn.out (H.out.below HB1.out) Hs.out).mono ?_
    rintro e w2 ⟨A2, c2, rfl, hN, hb2⟩
    have Hg := Lib.hid (good_forest Hs.out)
    have HM := Lib.hid (moded_forest xs)
    obtain ⟨l, hl⟩ : ∃ l, l = forest xs := ⟨_, rfl⟩
    rw [← hl] at hN HR Hg HM
    rw [← hl]
    have hT2 : Two Rep w b A2 c2 l w2 := ⟨O.since HR.out hb2, hN.wide fun _ _ _ => trivial, HB1.out.trans (hb2.mono HB1.out.size)⟩
    have T2 := Lib.hid hT2
    clear hN hb2 HR HB1 Hs H Hn hl hT2
    go_wp2_with fail
    refine (ptParent O M id tgt comp T2.out.rep Hg.out).mono ?_
    rintro e w3 ⟨rfl, hb3⟩
    have T3 := Lib.hid (T2.out.next O hb3)
    clear hb3 T2
    go_wp2_with fail
    refine (rpParent id tgt comp Hg.out T3.out.nodes).mono ?_
    rintro e w4 ⟨rfl, hb4⟩
    have T4 := Lib.hid (T3.out.next O hb4)
    clear hb4 T3
    go_wp2_with fail
    refine (ptMake O M HM.out tgt rel comp T4.out.rep Hg.out).mono ?_
    rintro e w5 ⟨v5, rfl, hv5, hb5⟩
    have T5 := Lib.hid (T4.out.next O hb5)
    have hl5 : (makeP l tgt rel comp).length ≤ 1000000 := by
      have h1 := makeP_len (rel := rel) (tgt := tgt) (comp := comp) Hg.out.tree
      have h2 := Hg.out.len
      omega
    obtain ⟨P, hP⟩ : ∃ P, P = makeP l tgt rel comp := ⟨_, rfl⟩
    rw [← hP] at hv5 hl5
    have HP := Lib.hid hP
    obtain ⟨A5, c5, rfl, -⟩ := hv5.form
    have Hv5 := Lib.hid hv5
    have Hl5 := Lib.hid hl5
    clear hb5 T4 hP hv5 hl5
    go_wp2_with fail
    refine (rpMake tgt rel comp Hg.out T5.out.nodes).mono ?_
    rintro e w6 ⟨v6, rfl, hv6, hb6⟩
    rw [← HP.out] at hv6
    have T6 := Lib.hid (T5.out.next O hb6)
    obtain ⟨A6, c6, rfl, hr6⟩ := hv6.form
    have hv5' := Hv5.out.below hb6
    obtain ⟨A5', c5', e5, hr5⟩ := hv5'.form
    obtain ⟨rfl, rfl⟩ : A5 = A5' ∧ c5 = c5' := by injection e5 with e1 _ e3; exact ⟨e1, e3⟩
    obtain ⟨N, hN⟩ : ∃ N, N = P.length := ⟨_, rfl⟩
    have CP := Lib.hid (pathSame P N A5 A6 c5 c6 w6 hN.symm (by rw [hN]; exact Hl5.out) hr5 hr6)
    rw [← hN]
    clear hb6 T5 hv6 hr6 hv5' e5 hr5 hN Hv5 Hl5
    go_wp2_with fail
    refine CP.out.mono ?_
    rintro e w7 ⟨rfl, m, rfl⟩
    have HF := Lib.hid (below_draws T6.out.below m)
    clear CP T6
    go_wp2
    go_ret
    exact ⟨rfl, HF.out⟩
end
end Go.Proofs.Ytciajmaejpapfaa

namespace Go.Proofs.Ytciajmaejpapfaa
open Go Go.RowKit

section
variable {Rep : (Nat → Prop) → World → Nat → List Nd → Prop}
set_option maxHeartbeats 8000000 in
set_option maxRecDepth 100000 in
theorem pathHides_any (O : ForestOk Rep) (M : ForestMore Rep) (A : Option Addr) (n c : Nat) (xs : List Ac) (tgt rel : Int) (comp : Bool) (w : World) (hn : xs.length = n) (hm : n ≤ maxLen) (h : Acts w A xs) :
    Calls Try.prog 5 #[.slice A n c, .int .i64 tgt, .int .i64 rel, .bool comp] w fun e w' => e = .returned (.bool true) ∧ Below w.heap.size w w' := by
  have hnot : ∀ (x : Bool) (w : World), (Op.unary .not (.bool x)).run Try.prog w = .ok (.bool (!x)) w := fun _ _ => rfl
  have H := Lib.hid h
  have Hn := Lib.hid hn
  have Hm := Lib.hid hm
  clear h hn hm
  go_enter Try.func5, Try.ntmps5
  go_wp2_with fail
  refine (awake14_any O M w).mono ?_
  rintro e w0 ⟨rfl, hb0⟩
  go_wp2_with fail
  refine (great_any A n c xs w0 Hn.out Hm.out (H.out.below hb0)).mono ?_
  rintro e w1 ⟨⟨gr, rfl, hgr⟩, rfl⟩
  cases gr with
  | true =>
    go_wp2
    go_ret
    exact ⟨rfl, hb0⟩
  | false =>
    have Hs := Lib.hid (hgr rfl)
    have Hb0 := Lib.hid hb0
    clear hgr hb0
    go_wp2_with fail
    refine (built_any O A n c xs w0 Hn.out (H.out.below Hb0.out) Hs.out).mono ?_
    rintro e w1 ⟨b, rfl, hR, hb1⟩
    have Hg := Lib.hid (good_forest Hs.out)
    have HM := Lib.hid (moded_forest xs)
    obtain ⟨l, hl⟩ : ∃ l, l = forest xs := ⟨_, rfl⟩
    rw [← hl] at hR Hg HM
    have hO1 : One Rep w b l w1 := ⟨O.wide hR (S' := fun _ => True) fun _ _ _ => trivial, Hb0.out.trans (hb1.mono Hb0.out.size)⟩
    have T1 := Lib.hid hO1
    clear hR hb1 hO1 Hb0 hl Hs H Hn
    go_wp2_with fail
    refine (ptMake O M HM.out tgt rel comp T1.out.rep Hg.out).mono ?_
    rintro e w2 ⟨v2, rfl, hv2, hb2⟩
    have T2 := Lib.hid (T1.out.next O hb2)
    have hl2 : (makeP l tgt rel comp).length ≤ 1000000 := by
      have h1 := makeP_len (rel := rel) (tgt := tgt) (comp := comp) Hg.out.tree
      have h2 := Hg.out.len
      omega
    have hh := makeP_hides (target := tgt) (rel := rel) (comp := comp) Hg.out.tree 0
    obtain ⟨P, hP⟩ : ∃ P, P = makeP l tgt rel comp := ⟨_, rfl⟩
    rw [← hP] at hv2 hl2 hh
    obtain ⟨A2, c2, rfl, hr2⟩ := hv2.form
    obtain ⟨N, hN⟩ : ∃ N, N = P.length := ⟨_, rfl⟩
    rw [← hN] at hl2
    rw [← hN]
    have HN := Lib.hid hN
    have HR2 := Lib.hid hr2
    have HH := Lib.hid hh
    clear hb2 T1 hP hv2 hr2 hN hh
    go_wp2_with fail
    go_loopw [11, 12] (fun t i wr => ∃ (k : Nat) (tt : Int), t = .int .i64 tt ∧ i = .int .i64 k ∧ k ≤ N ∧ HidesP l tt (P.drop k) ∧ Below w2.heap.size w2 wr) (fun _ i _ => N - (intOf i).toNat)
    case atStart => exact ⟨0, 0, rfl, rfl, Nat.zero_le _, HH.out, Below.refl _ _⟩
    case round =>
      obtain ⟨k, tt, rfl, rfl, hk, hd, hb⟩ := hrel
      by_cases hkn : (k : Int) < N
      · have hkl : k < P.length := by rw [← HN.out]; omega
        obtain ⟨h1, h2, h3⟩ := hides_at hkl hd
        have hrr := HR2.out.below hb
        have HRR := Lib.hid hrr
        obtain ⟨b2, o2, rfl, x0, x1, x2, -⟩ := five_of hrr hkl
        obtain ⟨s, hs⟩ : ∃ s, s = P[k] := ⟨_, rfl⟩
        rw [← hs] at h1 h2 h3 x0 x1 x2
        have Tr := Lib.hid (T2.out.next O hb)
        have Hb := Lib.hid hb
        have HX : Hid (∀ W, Below wr.heap.size wr W → W.cell? ⟨b2, o2 + k * 5, none⟩ = some (.int .i64 s.node) ∧ W.cell? ⟨b2, o2 + k * 5 + 2, none⟩ = some (.int .i64 s.related)) := Lib.hid fun W hW => by
          obtain ⟨b3, o3, e3, y0, _, y2, _⟩ := five_of (hrr.below hW) hkl
          obtain ⟨rfl, rfl⟩ : b2 = b3 ∧ o2 = o3 := by simpa using e3
          rw [← hs] at y0 y2
          exact ⟨y0, y2⟩
        obtain ⟨u, hu⟩ : ∃ u, u = (if s.target ≠ 0 then s.target else tt) := ⟨_, rfl⟩
        rw [← hu] at h1 h3
        have HU := Lib.hid hu
        have H1 := Lib.hid h1
        have H2 := Lib.hid h2
        have H3 := Lib.hid h3
        obtain ⟨sn, st, sr, s3, s4⟩ := s
        simp only at x0 x1 x2 HX H1 H2 HU
        clear hrr hd hb hkl hs h1 h2 h3 hu x0 x2 HH
        go_upto_if 35 with (fail)
        go_cut [11] (fun v wc => v = .int .i64 u ∧ wr = wc)
        case first =>
          by_cases hst : st = 0
          · have z1 : (st != 0) = false := by simpa using hst
            have e1 : tt = u := by rw [HU.out, if_neg fun h => h hst]
            have E1 := Lib.hid e1
            clear e1 hst
            go_wp2
            go_meet
            exact ⟨by rw [E1.out], rfl⟩
          · have z1 : (st != 0) = true := by simpa using hst
            have e1 : st = u := by rw [HU.out, if_pos hst]
            have E1 := Lib.hid e1
            clear e1 hst
            go_wp2
            go_meet
            exact ⟨by rw [E1.out], rfl⟩
        case rest =>
          obtain ⟨rfl, rfl⟩ := hcut
          have hd0 := HX.out _ (Below.refl _ _).drew
          clear HU x1
          go_wp2_with fail
          refine wp_region_way (late := []) (S := fun W => W.cell? ⟨b2, o2 + k * 5, none⟩ = some (.int .i64 sn) ∧ W.cell? ⟨b2, o2 + k * 5 + 2, none⟩ = some (.int .i64 sr)) (y := Way.takes [0, 1, 2, 3, 4, 5, 6] (.run 7 (Way.takes [8, 9, 10, 11, 12, 13, 14, 15, 16, 17, 18, 19, 20, 21, 22, 23, 24, 25, 26] (.run 27 (Way.takes [28, 29] .fin))))) (by kernel_rfl) (by kernel_rfl) rfl (by kernel_rfl) hd0 (fun hHeld => ?_)
          simp only [Way.takes]
          (repeat (first | (refine way_skip (by simp only [List.getElem?_toArray, List.getElem?_cons_succ, List.getElem?_cons_zero]; rfl) (by rfl) hHeld ?_; (try simp only [Act.put, List.setIfInBounds_toArray, List.set_cons_zero, List.set_cons_succ])) | (refine way_pass (by simp only [List.getElem?_toArray, List.getElem?_cons_succ, List.getElem?_cons_zero]; rfl) (by rfl) hHeld ?_; (try simp only [Act.put, List.setIfInBounds_toArray, List.set_cons_zero, List.set_cons_succ])) | (refine way_take (v := ?_) (by simp only [List.getElem?_toArray, List.getElem?_cons_succ, List.getElem?_cons_zero]; rfl) (by rfl) ?_ hHeld ?_; rotate_left; (focus (intro w hSw; (try dsimp only at hSw); go_simp; (try with_reducible rfl); done)); (try simp only [Act.put, List.setIfInBounds_toArray, List.set_cons_zero, List.set_cons_succ]))))
          refine way_run (by simp only [List.getElem?_toArray, List.getElem?_cons_succ, List.getElem?_cons_zero]; rfl) (by rfl) (fun K hK => ?_)
          go_simp
          have Td := Lib.hid (Tr.out.next O (Below.refl _ _).drew)
          refine (shHidden O M u sn Td.out.rep Hg.out).mono ?_
          rintro e w3 ⟨rfl, hb3⟩
          rw [H1.out]
          have hbr3 : Below wr.heap.size wr w3 := (Below.refl _ wr).drew.trans hb3
          have T3 := Lib.hid (Td.out.next O hb3)
          have HB3 := Lib.hid (Hb.out.trans (hbr3.mono Hb.out.size))
          have hS3 := HX.out _ hbr3
          have HX3 := Lib.hid fun W (hW : Below w3.heap.size w3 W) => HX.out W (hbr3.trans (hW.mono hbr3.size))
          go_simp
          refine hK.out _ _ hS3 (fun hHeld => ?_)
          clear hK K hb3 hbr3 Td Tr Hb HX hS3 hd0
          (try simp only [Act.put, List.setIfInBounds_toArray, List.set_cons_zero, List.set_cons_succ])
          by_cases hsr : sr = 0
          · subst hsr
            (repeat (first | (refine way_skip (by simp only [List.getElem?_toArray, List.getElem?_cons_succ, List.getElem?_cons_zero]; rfl) (by rfl) hHeld ?_; (try simp only [Act.put, List.setIfInBounds_toArray, List.set_cons_zero, List.set_cons_succ])) | (refine way_pass (by simp only [List.getElem?_toArray, List.getElem?_cons_succ, List.getElem?_cons_zero]; rfl) (by rfl) hHeld ?_; (try simp only [Act.put, List.setIfInBounds_toArray, List.set_cons_zero, List.set_cons_succ])) | (refine way_take (v := ?_) (by simp only [List.getElem?_toArray, List.getElem?_cons_succ, List.getElem?_cons_zero]; rfl) (by rfl) ?_ hHeld ?_; rotate_left; (focus (intro w hSw; (try dsimp only at hSw); go_simp; (try with_reducible rfl); done)); (try simp only [Act.put, List.setIfInBounds_toArray, List.set_cons_zero, List.set_cons_succ]))))
            refine way_done ?_
            clear hHeld HX3
            go_wp2
            go_roundw
            case rel => exact ⟨k + 1, u, rfl, by go_num, by omega, H3.out, HB3.out⟩
            case measure => simp [intOf]; omega
          · have z1 : (sr != 0) = true := by simpa using hsr
            have H4 := Lib.hid (H2.out hsr)
            clear hsr
            (repeat (first | (refine way_skip (by simp only [List.getElem?_toArray, List.getElem?_cons_succ, List.getElem?_cons_zero]; rfl) (by rfl) hHeld ?_; (try simp only [Act.put, List.setIfInBounds_toArray, List.set_cons_zero, List.set_cons_succ])) | (refine way_pass (by simp only [List.getElem?_toArray, List.getElem?_cons_succ, List.getElem?_cons_zero]; rfl) (by rfl) hHeld ?_; (try simp only [Act.put, List.setIfInBounds_toArray, List.set_cons_zero, List.set_cons_succ])) | (refine way_take (v := ?_) (by simp only [List.getElem?_toArray, List.getElem?_cons_succ, List.getElem?_cons_zero]; rfl) (by rfl) ?_ hHeld ?_; rotate_left; (focus (intro w hSw; (try dsimp only at hSw); go_simp; (try with_reducible rfl); done)); (try simp only [Act.put, List.setIfInBounds_toArray, List.set_cons_zero, List.set_cons_succ]))))
            refine way_run (by simp only [List.getElem?_toArray, List.getElem?_cons_succ, List.getElem?_cons_zero]; rfl) (by rfl) (fun K hK => ?_)
            go_simp
            refine (shHidden O M sr sn T3.out.rep Hg.out).mono ?_
            rintro e w4 ⟨rfl, hb4⟩
            rw [H4.out]
            have T4 := Lib.hid (T3.out.next O hb4)
            have HB4 := Lib.hid (HB3.out.trans (hb4.mono HB3.out.size))
            have hS4 := HX3.out _ hb4
            go_simp
            refine hK.out _ _ hS4 (fun hHeld => ?_)
            clear hK K hb4 HX3 hS4 T3 HB3
            (try simp only [Act.put, List.setIfInBounds_toArray, List.set_cons_zero, List.set_cons_succ])
            (repeat (first | (refine way_skip (by simp only [List.getElem?_toArray, List.getElem?_cons_succ, List.getElem?_cons_zero]; rfl) (by rfl) hHeld ?_; (try simp only [Act.put, List.setIfInBounds_toArray, List.set_cons_zero, List.set_cons_succ])) | (refine way_pass (by simp only [List.getElem?_toArray, List.getElem?_cons_succ, List.getElem?_cons_zero]; rfl) (by rfl) hHeld ?_; (try simp only [Act.put, List.setIfInBounds_toArray, List.set_cons_zero, List.set_cons_succ])) | (refine way_take (v := ?_) (by simp only [List.getElem?_toArray, List.getElem?_cons_succ, List.getElem?_cons_zero]; rfl) (by rfl) ?_ hHeld ?_; rotate_left; (focus (intro w hSw; (try dsimp only at hSw); go_simp; (try with_reducible rfl); done)); (try simp only [Act.put, List.setIfInBounds_toArray, List.set_cons_zero, List.set_cons_succ]))))
            refine way_done ?_
            clear hHeld
            go_wp2
            go_roundw
            case rel => exact ⟨k + 1, u, rfl, by go_num, by omega, H3.out, HB4.out⟩
            case measure => simp [intOf]; omega
      · go_wp2
        go_ret
        exact ⟨rfl, T2.out.below.trans (hb.mono T2.out.below.size)⟩
end
end Go.Proofs.Ytciajmaejpapfaa

namespace Go.Proofs.Ytciajmaejpapfaa
open Go Go.RowKit

section
variable {Rep : (Nat → Prop) → World → Nat → List Nd → Prop}
set_option maxHeartbeats 8000000 in
set_option maxRecDepth 100000 in
theorem pathUp_any (O : ForestOk Rep) (M : ForestMore Rep) (A : Option Addr) (n c : Nat) (xs : List Ac) (tgt rel : Int) (comp : Bool) (w : World) (hn : xs.length = n) (hm : n ≤ maxLen) (h : Acts w A xs) :
    Calls Try.prog 4 #[.slice A n c, .int .i64 tgt, .int .i64 rel, .bool comp] w fun e w' => e = .returned (.bool true) ∧ Below w.heap.size w w' := by
  have hnot : ∀ (x : Bool) (w : World), (Op.unary .not (.bool x)).run Try.prog w = .ok (.bool (!x)) w := fun _ _ => rfl
  have H := Lib.hid h
  have Hn := Lib.hid hn
  have Hm := Lib.hid hm
  clear h hn hm
  go_enter Try.func4, Try.ntmps4
  go_wp2_with fail
  refine (awake14_any O M w).mono ?_
  rintro e w0 ⟨rfl, hb0⟩
  go_wp2_with fail
  refine (great_any A n c xs w0 Hn.out Hm.out (H.out.below hb0)).mono ?_
  rintro e w1 ⟨⟨gr, rfl, hgr⟩, rfl⟩
  cases gr with
  | true =>
    go_wp2
    go_ret
    exact ⟨rfl, hb0⟩
  | false =>
    have Hs := Lib.hid (hgr rfl)
    have Hb0 := Lib.hid hb0
    clear hgr hb0
    go_wp2_with fail
    refine (built_any O A n c xs w0 Hn.out (H.out.below Hb0.out) Hs.out).mono ?_
    rintro e w1 ⟨b, rfl, hR, hb1⟩
    have Hg := Lib.hid (good_forest Hs.out)
    have HM := Lib.hid (moded_forest xs)
    obtain ⟨l, hl⟩ : ∃ l, l = forest xs := ⟨_, rfl⟩
    rw [← hl] at hR Hg HM
    have hO1 : One Rep w b l w1 := ⟨O.wide hR (S' := fun _ => True) fun _ _ _ => trivial, Hb0.out.trans (hb1.mono Hb0.out.size)⟩
    have T1 := Lib.hid hO1
    clear hR hb1 hO1 Hb0 hl Hs H Hn
    go_wp2_with fail
    refine (ptMake O M HM.out tgt rel comp T1.out.rep Hg.out).mono ?_
    rintro e w2 ⟨v2, rfl, hv2, hb2⟩
    have T2 := Lib.hid (T1.out.next O hb2)
    have hl2 : (makeP l tgt rel comp).length ≤ 1000000 := by
      have h1 := makeP_len (rel := rel) (tgt := tgt) (comp := comp) Hg.out.tree
      have h2 := Hg.out.len
      omega
    have F0 : Hid (∀ x, (makeP l tgt rel comp)[0]? = some x → x.node = tgt ∧ x.target = tgt ∧ x.cs = false) := Lib.hid fun x h => path_first Hg.out.tree h
    have F1 : Hid (∀ (k : Nat) x y, (makeP l tgt rel comp)[k]? = some x → (makeP l tgt rel comp)[k + 1]? = some y → parE l tgt comp x.node = y.node) := Lib.hid fun k x y h h' => path_next h h'
    have F2 : Hid (∀ (k i : Nat) x y, (makeP l tgt rel comp)[k]? = some x → (makeP l tgt rel comp)[i]? = some y → k < i → x.node ≠ y.node) := Lib.hid fun k i x y h h' hk => path_apart Hg.out.tree h h' hk
    have F3 : Hid (comp = false → ∀ (k : Nat) x, (makeP l tgt rel comp)[k]? = some x → hasB (over l x.node) (rootL l tgt) = true) := Lib.hid fun hc k x h => by
      subst hc
      exact path_held Hg.out.tree h
    have F4 : Hid (∀ (k : Nat) x, (makeP l tgt rel comp)[k]? = some x → x.target = 0 ∨ x.target = x.node) := Lib.hid fun k x h => path_target Hg.out.tree h
    obtain ⟨P, hP⟩ : ∃ P, P = makeP l tgt rel comp := ⟨_, rfl⟩
    rw [← hP] at hv2 hl2 F0 F1 F2 F3 F4
    obtain ⟨A2, c2, rfl, hr2⟩ := hv2.form
    obtain ⟨N, hN⟩ : ∃ N, N = P.length := ⟨_, rfl⟩
    rw [← hN] at hl2
    rw [← hN]
    have HN := Lib.hid hN
    have HR2 := Lib.hid hr2
    clear hb2 T1 hP hv2 hr2 hN
    go_wp2_with fail
    refine (kinRoot O M tgt T2.out.rep Hg.out).mono ?_
    rintro e w3 ⟨rfl, hb3⟩
    have T3 := Lib.hid (T2.out.next O hb3)
    have HR3 := Lib.hid (HR2.out.below hb3)
    clear hb3 T2 HR2
    obtain ⟨rt, hrt⟩ : ∃ rt, rt = rootL l tgt := ⟨_, rfl⟩
    rw [← hrt] at F3
    rw [← hrt]
    clear hrt
    go_wp2_with fail
    go_loopw [12] (fun i wr => ∃ k : Nat, i = .int .i64 k ∧ k ≤ N ∧ Below w3.heap.size w3 wr) (fun i _ => N - (intOf i).toNat)
    case atStart => exact ⟨0, rfl, Nat.zero_le _, Below.refl _ _⟩
    case round =>
      obtain ⟨k, rfl, hk, hb⟩ := hrel
      by_cases hkn : (k : Int) < N
      · have hkl : k < P.length := by rw [← HN.out]; omega
        obtain ⟨b2, o2, rfl, -⟩ := five_of HR3.out hkl
        have HC : Hid (∀ W, Below w3.heap.size w3 W → ∀ (j : Nat) x, P[j]? = some x → W.cell? ⟨b2, o2 + j * 5, none⟩ = some (.int .i64 x.node) ∧ W.cell? ⟨b2, o2 + j * 5 + 1, none⟩ = some (.int .i64 x.target) ∧ W.cell? ⟨b2, o2 + j * 5 + 4, none⟩ = some (.bool x.cs)) := Lib.hid fun W hW j x hj => by
          obtain ⟨hjl, rfl⟩ := List.getElem?_eq_some_iff.1 hj
          obtain ⟨b3, o3, e3, y0, y1, _, _, y4⟩ := five_of (HR3.out.below hW) hjl
          obtain ⟨rfl, rfl⟩ : b2 = b3 ∧ o2 = o3 := by simpa using e3
          exact ⟨y0, y1, y4⟩
        obtain ⟨s, hs⟩ : ∃ s, P[k]? = some s := ⟨_, List.getElem?_eq_getElem hkl⟩
        have Hs := Lib.hid hs
        have Hb := Lib.hid hb
        have Hkl := Lib.hid hkl
        clear hs hb hkl
        -- the first entry
        go_upto_region 11 with (fail)
        go_cut [57] (fun v wc => v = .bool false ∧ wr = wc)
        case first =>
          by_cases h0 : k = 0
          · subst h0
            obtain ⟨e1, e2, e3⟩ := F0.out s Hs.out
            obtain ⟨y0, y1, y4⟩ := HC.out wr Hb.out 0 s Hs.out
            rw [e1] at y0
            rw [e2] at y1
            rw [e3] at y4
            have y0 : wr.cell? ⟨b2, o2, none⟩ = some (.int .i64 tgt) := by simpa using y0
            have y1 : wr.cell? ⟨b2, o2 + 1, none⟩ = some (.int .i64 tgt) := by simpa using y1
            have y4 : wr.cell? ⟨b2, o2 + 4, none⟩ = some (.bool false) := by simpa using y4
            have z0 : (((0 : Nat) : Int) == 0) = true := rfl
            clear e1 e2 e3
            go_wp2
            go_meet
            exact ⟨rfl, rfl⟩
          · have z0 : ((k : Int) == 0) = false := by rw [beq_eq_false_iff_ne]; omega
            clear h0
            go_wp2
            go_meet
            exact ⟨rfl, rfl⟩
        case rest =>
          obtain ⟨rfl, rfl⟩ := hcut
          -- the one ahead
          go_upto_region 13 with (fail)
          go_cut [77] (fun v wc => v = .bool false ∧ Below wr.heap.size wr wc)
          case first =>
            by_cases h0 : k = 0
            · have z0 : decide ((k : Int) > 0) = false := by rw [decide_eq_false_iff_not]; omega
              have z5 : decide (0 < k) = false := by rw [decide_eq_false_iff_not]; omega
              have z6 : decide ((0 : Int) < (k : Int)) = false := z0
              refine wp_region_way (late := []) (S := fun _ => True) (y := Way.takes [0, 1, 2, 3, 4, 5, 6, 7, 8, 9, 10, 11, 12, 13, 14, 15, 16] (.run 17 (Way.takes [18, 19] .fin))) (by kernel_rfl) (by kernel_rfl) rfl (by kernel_rfl) trivial (fun hHeld => ?_)
              clear h0
              simp only [Way.takes]
              (repeat (first | (refine way_skip (by simp only [List.getElem?_toArray, List.getElem?_cons_succ, List.getElem?_cons_zero]; rfl) (by rfl) hHeld ?_; (try simp only [Act.put, List.setIfInBounds_toArray, List.set_cons_zero, List.set_cons_succ])) | (refine way_pass (by simp only [List.getElem?_toArray, List.getElem?_cons_succ, List.getElem?_cons_zero]; rfl) (by rfl) hHeld ?_; (try simp only [Act.put, List.setIfInBounds_toArray, List.set_cons_zero, List.set_cons_succ])) | (refine way_take (v := ?_) (by simp only [List.getElem?_toArray, List.getElem?_cons_succ, List.getElem?_cons_zero]; rfl) (by rfl) ?_ hHeld ?_; rotate_left; (focus (intro w hSw; (try dsimp only at hSw); go_simp; (try with_reducible rfl); done)); (try simp only [Act.put, List.setIfInBounds_toArray, List.set_cons_zero, List.set_cons_succ]))))
              refine way_done ?_
              go_wp2
              go_meet
              exact ⟨rfl, (Below.refl _ _).drew⟩
            · have z0 : decide ((k : Int) > 0) = true := by rw [decide_eq_true_iff]; omega
              have z5 : decide (0 < k) = true := by rw [decide_eq_true_iff]; omega
              have z6 : decide ((0 : Int) < (k : Int)) = true := z0
              obtain ⟨m, hm⟩ : ∃ m, k = m + 1 := ⟨k - 1, by omega⟩
              have hml : m < P.length := by have := Hkl.out; omega
              obtain ⟨s', hs'⟩ : ∃ s', P[m]? = some s' := ⟨_, List.getElem?_eq_getElem hml⟩
              have e1 := F1.out m s' s hs' (by rw [← hm]; exact Hs.out)
              have HQ : Hid (∀ W, Below wr.heap.size wr W → W.cell? ⟨b2, o2 + k * 5, none⟩ = some (.int .i64 s.node) ∧ W.cell? ⟨b2, o2 + m * 5, none⟩ = some (.int .i64 s'.node)) := Lib.hid fun W hW => by
                have hW3 := Hb.out.trans (hW.mono Hb.out.size)
                exact ⟨(HC.out W hW3 k s Hs.out).1, (HC.out W hW3 m s' hs').1⟩
              have z1 : IntKind.i64.wrap ((k : Int) - 1) = (m : Int) := by rw [wrap_small] <;> omega
              have z2 : (m : Int) < N := by omega
              have E1 := Lib.hid e1
              have Td := Lib.hid ((T3.out.next O Hb.out).next O (Below.refl _ wr).drew)
              clear h0 hm hml hs' e1
              refine wp_region_way (late := []) (S := fun W => W.cell? ⟨b2, o2 + k * 5, none⟩ = some (.int .i64 s.node) ∧ W.cell? ⟨b2, o2 + m * 5, none⟩ = some (.int .i64 s'.node)) (y := Way.takes [0, 1, 2, 3, 4, 5, 6, 7, 8, 9, 10, 11, 12, 13, 14, 15, 16] (.run 17 (Way.takes [18, 19] .fin))) (by kernel_rfl) (by kernel_rfl) rfl (by kernel_rfl) (HQ.out _ (Below.refl _ _).drew) (fun hHeld => ?_)
              simp only [Way.takes]
              (repeat (first | (refine way_skip (by simp only [List.getElem?_toArray, List.getElem?_cons_succ, List.getElem?_cons_zero]; rfl) (by rfl) hHeld ?_; (try simp only [Act.put, List.setIfInBounds_toArray, List.set_cons_zero, List.set_cons_succ])) | (refine way_pass (by simp only [List.getElem?_toArray, List.getElem?_cons_succ, List.getElem?_cons_zero]; rfl) (by rfl) hHeld ?_; (try simp only [Act.put, List.setIfInBounds_toArray, List.set_cons_zero, List.set_cons_succ])) | (refine way_take (v := ?_) (by simp only [List.getElem?_toArray, List.getElem?_cons_succ, List.getElem?_cons_zero]; rfl) (by rfl) ?_ hHeld ?_; rotate_left; (focus (intro w hSw; (try dsimp only at hSw); go_simp; (try with_reducible rfl); done)); (try simp only [Act.put, List.setIfInBounds_toArray, List.set_cons_zero, List.set_cons_succ]))))
              refine way_run (by simp only [List.getElem?_toArray, List.getElem?_cons_succ, List.getElem?_cons_zero]; rfl) (by rfl) (fun K hK => ?_)
              go_simp
              refine (ptParent O M s'.node tgt comp Td.out.rep Hg.out).mono ?_
              rintro e w4 ⟨rfl, hb4⟩
              rw [E1.out]
              have hb4' : Below wr.heap.size wr w4 := (Below.refl _ wr).drew.trans hb4
              have HB4 := Lib.hid hb4'
              have hS4 := HQ.out _ hb4'
              go_simp
              refine hK.out _ _ hS4 (fun hHeld => ?_)
              clear hK K hb4 hb4' hS4 HQ
              (try simp only [Act.put, List.setIfInBounds_toArray, List.set_cons_zero, List.set_cons_succ])
              (repeat (first | (refine way_skip (by simp only [List.getElem?_toArray, List.getElem?_cons_succ, List.getElem?_cons_zero]; rfl) (by rfl) hHeld ?_; (try simp only [Act.put, List.setIfInBounds_toArray, List.set_cons_zero, List.set_cons_succ])) | (refine way_pass (by simp only [List.getElem?_toArray, List.getElem?_cons_succ, List.getElem?_cons_zero]; rfl) (by rfl) hHeld ?_; (try simp only [Act.put, List.setIfInBounds_toArray, List.set_cons_zero, List.set_cons_succ])) | (refine way_take (v := ?_) (by simp only [List.getElem?_toArray, List.getElem?_cons_succ, List.getElem?_cons_zero]; rfl) (by rfl) ?_ hHeld ?_; rotate_left; (focus (intro w hSw; (try dsimp only at hSw); go_simp; (try with_reducible rfl); done)); (try simp only [Act.put, List.setIfInBounds_toArray, List.set_cons_zero, List.set_cons_succ]))))
              refine way_done ?_
              go_wp2
              go_meet
              exact ⟨rfl, HB4.out⟩
          case rest =>
            obtain ⟨rfl, hbc⟩ := hcut
            have HBc := Lib.hid (Hb.out.trans (hbc.mono Hb.out.size))
            clear hbc Hb
            obtain ⟨wo, hwo⟩ : ∃ wo : World, wo = wc := ⟨_, rfl⟩
            subst hwo
            -- none comes twice
            go_wp2_with fail
            go_loopw [13] (fun i wr => ∃ j m : Nat, i = .int .i64 j ∧ j ≤ k ∧ wr = wo.drewN m) (fun i _ => k - (intOf i).toNat)
            case atStart => exact ⟨0, 0, rfl, Nat.zero_le _, rfl⟩
            case round =>
              obtain ⟨j, m, rfl, hj, rfl⟩ := hrel
              by_cases hjk : (j : Int) < k
              · have hjl : j < P.length := by have := Hkl.out; omega
                obtain ⟨s', hs'⟩ : ∃ s', P[j]? = some s' := ⟨_, List.getElem?_eq_getElem hjl⟩
                have e1 := F2.out j k s' s hs' Hs.out (by omega)
                have z1 : (s'.node == s.node) = false := by simpa using e1
                have y0 := (HC.out wo HBc.out j s' hs').1
                have y1 := (HC.out wo HBc.out k s Hs.out).1
                have z2 : (j : Int) < N := by omega
                obtain ⟨sn, hsn⟩ : ∃ sn, sn = s.node := ⟨_, rfl⟩
                obtain ⟨sm, hsm⟩ : ∃ sm, sm = s'.node := ⟨_, rfl⟩
                rw [← hsn] at z1 y1
                rw [← hsm] at z1 y0
                clear hjl hs' e1 hsn hsm
                go_wp2
                go_quiet (fail)
                go_wp2
                go_roundw
                case rel => exact ⟨j + 1, m + nq, by go_num, by omega, rfl⟩
                case measure => simp [intOf]; omega
              · have HBm := Lib.hid (below_draws HBc.out m)
                obtain ⟨wm, hwm⟩ : ∃ wm, wm = wo.drewN m := ⟨_, rfl⟩
                rw [← hwm] at HBm
                rw [← hwm]
                clear hwm HBc
                -- none lies outside
                go_upto_region 20 with (fail)
                clear hjk
                go_cut [106] (fun v wc => v = .bool false ∧ Below w3.heap.size w3 wc)
                case first =>
                  have y0 := (HC.out wm HBm.out k s Hs.out).1
                  cases comp with
                  | true =>
                    go_wp2
                    go_meet
                    exact ⟨rfl, HBm.out⟩
                  | false =>
                    have e1 := F3.out rfl k s Hs.out
                    have E1 := Lib.hid e1
                    have Tm := Lib.hid (T3.out.next O HBm.out)
                    clear e1
                    go_wp2_with fail
                    refine (shHolds O M rt s.node Tm.out.rep Hg.out).mono ?_
                    rintro e w5 ⟨rfl, hb5⟩
                    rw [E1.out]
                    have HB5 := Lib.hid (HBm.out.trans (hb5.mono HBm.out.size))
                    clear hb5
                    go_wp2
                    go_meet
                    exact ⟨rfl, HB5.out⟩
                case rest =>
                  obtain ⟨rfl, hbc⟩ := hcut
                  have HBc := Lib.hid hbc
                  obtain ⟨y0, y1, -⟩ := HC.out wc hbc k s Hs.out
                  have e4 := F4.out k s Hs.out
                  obtain ⟨sn, hsn⟩ : ∃ sn, sn = s.node := ⟨_, rfl⟩
                  obtain ⟨st, hst⟩ : ∃ st, st = s.target := ⟨_, rfl⟩
                  rw [← hsn] at y0 e4
                  rw [← hst] at y1 e4
                  clear hbc hsn hst HBm
                  by_cases h0 : st = 0
                  · have z0 : (st != 0) = false := by simpa using h0
                    clear h0 e4
                    go_wp2_with fail
                    go_quiet (fail)
                    go_wp2
                    go_roundw
                    case rel => exact ⟨k + 1, by go_num, by omega, below_draws HBc.out _⟩
                    case measure => simp [intOf]; omega
                  · have e5 : st = sn := e4.resolve_left h0
                    subst e5
                    have z0 : (st != 0) = true := by simpa using h0
                    clear h0 e4
                    go_wp2_with fail
                    go_quiet (fail)
                    go_wp2
                    go_roundw
                    case rel => exact ⟨k + 1, by go_num, by omega, below_draws HBc.out _⟩
                    case measure => simp [intOf]; omega
      · go_wp2
        go_ret
        exact ⟨rfl, T3.out.below.trans (hb.mono T3.out.below.size)⟩
end
end Go.Proofs.Ytciajmaejpapfaa

namespace Go.Proofs.Ytciajmaejpapfaa
open Go Go.RowKit

section
variable {Rep : (Nat → Prop) → World → Nat → List Nd → Prop}
set_option maxHeartbeats 8000000 in
set_option maxRecDepth 100000 in
theorem pathEnds_any (O : ForestOk Rep) (M : ForestMore Rep) (A : Option Addr) (n c : Nat) (xs : List Ac) (tgt rel : Int) (comp : Bool) (w : World) (hn : xs.length = n) (hm : n ≤ maxLen) (h : Acts w A xs) :
    Calls Try.prog 6 #[.slice A n c, .int .i64 tgt, .int .i64 rel, .bool comp] w fun e w' => e = .returned (.bool true) ∧ Below w.heap.size w w' := by
  have hnot : ∀ (x : Bool) (w : World), (Op.unary .not (.bool x)).run Try.prog w = .ok (.bool (!x)) w := fun _ _ => rfl
  have H := Lib.hid h
  have Hn := Lib.hid hn
  have Hm := Lib.hid hm
  clear h hn hm
  go_enter Try.func6, Try.ntmps6
  go_wp2_with fail
  refine (awake14_any O M w).mono ?_
  rintro e w0 ⟨rfl, hb0⟩
  go_wp2_with fail
  refine (great_any A n c xs w0 Hn.out Hm.out (H.out.below hb0)).mono ?_
  rintro e w1 ⟨⟨gr, rfl, hgr⟩, rfl⟩
  cases gr with
  | true =>
    go_wp2
    go_ret
    exact ⟨rfl, hb0⟩
  | false =>
    have Hs := Lib.hid (hgr rfl)
    have Hb0 := Lib.hid hb0
    clear hgr hb0
    go_wp2_with fail
    refine (built_any O A n c xs w0 Hn.out (H.out.below Hb0.out) Hs.out).mono ?_
    rintro e w1 ⟨b, rfl, hR, hb1⟩
    have Hg := Lib.hid (good_forest Hs.out)
    have HM := Lib.hid (moded_forest xs)
    obtain ⟨l, hl⟩ : ∃ l, l = forest xs := ⟨_, rfl⟩
    rw [← hl] at hR Hg HM
    have hO1 : One Rep w b l w1 := ⟨O.wide hR (S' := fun _ => True) fun _ _ _ => trivial, Hb0.out.trans (hb1.mono Hb0.out.size)⟩
    have T1 := Lib.hid hO1
    clear hR hb1 hO1 Hb0 hl Hs H Hn
    go_wp2_with fail
    refine (ptMake O M HM.out tgt 0 comp T1.out.rep Hg.out).mono ?_
    rintro e w2 ⟨v2, rfl, hv2, hb2⟩
    have T2 := Lib.hid (T1.out.next O hb2)
    have HV2 := Lib.hid hv2
    have hl2 : (makeP l tgt 0 comp).length ≤ 1000000 := by
      have h1 := makeP_len (rel := 0) (tgt := tgt) (comp := comp) Hg.out.tree
      have h2 := Hg.out.len
      omega
    have hl3 : (makeP l tgt rel comp).length ≤ (makeP l tgt 0 comp).length := ends_le
    have F0 : Hid (thereB l tgt = false → makeP l tgt 0 comp = [] ∧ makeP l tgt rel comp = []) := Lib.hid fun h => ⟨makeP_no h, makeP_no h⟩
    have F1 : Hid (thereB l tgt = true → 0 < (makeP l tgt 0 comp).length ∧ (∀ x, (makeP l tgt 0 comp)[(makeP l tgt 0 comp).length - 1]? = some x → parE l tgt comp x.node = 0) ∧ ∀ (k : Nat) x, (makeP l tgt 0 comp)[k]? = some x → x.related = 0) := Lib.hid fun h => ⟨ends_pos h, fun x hx => ends_last Hg.out.tree h hx, fun k x hx => ends_none h hx⟩
    have F2 : Hid (∀ (k : Nat) x, (makeP l tgt rel comp)[k]? = some x → (makeP l tgt 0 comp)[k]? = some (bareP x)) := Lib.hid fun k x h => ends_part h
    obtain ⟨P, hP⟩ : ∃ P, P = makeP l tgt 0 comp := ⟨_, rfl⟩
    rw [← hP] at HV2 hl2 hl3 F0 F1 F2
    obtain ⟨A2, c2, rfl, -⟩ := HV2.out.form
    have HP := Lib.hid hP
    clear hb2 T1 hP hv2
    go_wp2_with fail
    refine (ptMake O M HM.out tgt rel comp T2.out.rep Hg.out).mono ?_
    rintro e w3 ⟨v3, rfl, hv3, hb3⟩
    have T3 := Lib.hid (T2.out.next O hb3)
    have hv2' := HV2.out.below hb3
    obtain ⟨Q, hQ⟩ : ∃ Q, Q = makeP l tgt rel comp := ⟨_, rfl⟩
    rw [← hQ] at hv3 hl3 F0 F2
    obtain ⟨A3, c3, rfl, hr3⟩ := hv3.form
    obtain ⟨A2', c2', e2, hr2⟩ := hv2'.form
    obtain ⟨rfl, rfl⟩ : A2 = A2' ∧ c2 = c2' := by injection e2 with e1 _ e3; exact ⟨e1, e3⟩
    obtain ⟨N, hN⟩ : ∃ N, N = P.length := ⟨_, rfl⟩
    obtain ⟨N', hN'⟩ : ∃ N', N' = Q.length := ⟨_, rfl⟩
    rw [← hN] at hl2 hl3
    rw [← hN'] at hl3
    rw [← hN, ← hN']
    have HN := Lib.hid hN
    have HN' := Lib.hid hN'
    have HR2 := Lib.hid hr2
    have HR3 := Lib.hid hr3
    clear hb3 T2 HV2 hv2' hQ hv3 hr3 e2 hr2 hN hN' HP
    go_wp2_with fail
    cases ht : thereB l tgt with
    | false =>
      obtain ⟨e1, e2⟩ := F0.out ht
      have e1 : N = 0 := by rw [HN.out, e1]; rfl
      have e2 : N' = 0 := by rw [HN'.out, e2]; rfl
      subst e1 e2
      have Ht := Lib.hid ht
      clear ht
      refine (nodeNo M T3.out.rep Hg.out Ht.out).mono ?_
      rintro e w4 ⟨A4, c4, rfl, -, hb4⟩
      have T4 := Lib.hid (T3.out.next O (hb4.alloc hb4.size (.cells #[.int .i64 0, .int .i64 0, .int .i64 0, .int .i64 0, .int .i64 0, .bool false, .string ⟨#[]⟩, .string ⟨#[]⟩, .slice A4 0 c4] 43)))
      clear hb4 T3
      go_wp2
      go_ret
      exact ⟨rfl, T4.out.below⟩
    | true =>
      obtain ⟨hpos, e1, e2⟩ := F1.out ht
      rw [← HN.out] at hpos e1
      have Ht := Lib.hid ht
      have E1 := Lib.hid e1
      have E2 := Lib.hid e2
      clear ht e1 e2 F0 F1
      refine (nodeYes M T3.out.rep Hg.out Ht.out).mono ?_
      rintro e w4 ⟨A4, c4, rfl, -, hb4⟩
      obtain ⟨d, hd⟩ : ∃ d, d = nd l tgt := ⟨_, rfl⟩
      rw [← hd]
      obtain ⟨W5, hW5⟩ : ∃ W5, W5 = w4.alloc (.cells #[.int .i64 d.kind, .int .i64 d.parent, .int .i64 d.host, .int .i64 d.shadow, .int .i64 d.mode, .bool d.slot, .string d.name, .string d.want, .slice A4 d.kids.length c4] 43) := ⟨_, rfl⟩
      have hb5 : Below w3.heap.size w3 W5 := by rw [hW5]; exact hb4.alloc hb4.size _
      have T5 := Lib.hid (T3.out.next O hb5)
      have HR5 := Lib.hid (HR2.out.below hb5)
      have HQ5 := Lib.hid (HR3.out.below hb5)
      obtain ⟨m, hm⟩ : ∃ m, N = m + 1 := ⟨N - 1, by omega⟩
      have hmP : m < P.length := by rw [← HN.out]; omega
      obtain ⟨b2, o2, rfl, x0, -⟩ := five_of HR5.out hmP
      obtain ⟨x, hx⟩ : ∃ x, x = P[m] := ⟨_, rfl⟩
      have e3 := E1.out x (by rw [hm, Nat.add_sub_cancel, hx]; exact List.getElem?_eq_getElem hmP)
      rw [← hx] at x0
      have E3 := Lib.hid e3
      have z1 : IntKind.i64.wrap ((N : Int) - 1) = (m : Int) := by rw [wrap_small] <;> omega
      have z2 : (m : Int) < N := by omega
      have z3 : ((N : Int) == 0) = false := by rw [beq_eq_false_iff_ne]; omega
      have z4 : decide ((N' : Int) > (N : Int)) = false := by rw [decide_eq_false_iff_not]; omega
      have HW5 := Lib.hid hW5
      have x0' := x0
      rw [hW5] at x0'
      clear hb4 hb5 hd hW5 HR2 HR3 T3 hmP hx e3 E1 x0 hm
      go_wp2_with fail
      rw [← HW5.out]
      refine (ptParent O M x.node tgt comp T5.out.rep Hg.out).mono ?_
      rintro e w6 ⟨rfl, hb6⟩
      rw [E3.out]
      have T6 := Lib.hid (T5.out.next O hb6)
      have HR6 := Lib.hid (HR5.out.below hb6)
      have HQ6 := Lib.hid (HQ5.out.below hb6)
      clear hb6 T5 HR5 HQ5 HW5 x0' E3 z1 z2 z4
      go_wp2_with fail
      go_loopw [14] (fun i wr => ∃ k : Nat, i = .int .i64 k ∧ k ≤ N ∧ w6 = wr) (fun i _ => N - (intOf i).toNat)
      case atStart => exact ⟨0, rfl, Nat.zero_le _, rfl⟩
      case round =>
        obtain ⟨k, rfl, hk, rfl⟩ := hrel
        by_cases hkn : (k : Int) < N
        · have hkl : k < P.length := by rw [← HN.out]; omega
          obtain ⟨b3, o3, e3, -, -, x2, -⟩ := five_of HR6.out hkl
          obtain ⟨rfl, rfl⟩ : b2 = b3 ∧ o2 = o3 := by simpa using e3
          rw [E2.out k _ (List.getElem?_eq_getElem hkl)] at x2
          clear hkl e3
          go_wp2
          go_roundw
          case rel => exact ⟨k + 1, by go_num, by omega, by trivial⟩
          case measure => simp [intOf]; omega
        · obtain ⟨wo, hwo⟩ : ∃ wo : World, wo = w6 := ⟨_, rfl⟩
          subst hwo
          go_wp2_with fail
          clear hkn
          go_loopw [15] (fun i wr => ∃ k : Nat, i = .int .i64 k ∧ k ≤ N' ∧ Below wo.heap.size wo wr) (fun i _ => N' - (intOf i).toNat)
          case atStart => exact ⟨0, rfl, Nat.zero_le _, Below.refl _ _⟩
          case round =>
            obtain ⟨k, rfl, hk, hb⟩ := hrel
            by_cases hkn : (k : Int) < N'
            · have hkl : k < Q.length := by rw [← HN'.out]; omega
              have hkN : (k : Int) < N := by omega
              have hkP : k < P.length := by rw [← HN.out]; omega
              have e5 := F2.out k _ (List.getElem?_eq_getElem hkl)
              rw [List.getElem?_eq_getElem hkP] at e5
              have e6 : P[k] = bareP Q[k] := by simpa using e5
              have hrP := HR6.out.below hb
              obtain ⟨b4, o4, e4, -⟩ := five_of hrP hkP
              obtain ⟨rfl, rfl⟩ : b2 = b4 ∧ o2 = o4 := by simpa using e4
              have HXP : Hid (∀ W, Below wr.heap.size wr W → _) := Lib.hid fun W (hW : Below wr.heap.size wr W) => five_of (hrP.below hW) hkP
              rw [e6] at HXP
              obtain ⟨b5, o5, rfl, y0, y1, y2, y3, y4⟩ := five_of (HQ6.out.below hb) hkl
              obtain ⟨x, hx⟩ : ∃ x, x = Q[k] := ⟨_, rfl⟩
              rw [← hx] at y0 y1 y2 y3 y4 HXP
              obtain ⟨xn, xt, xr, xc, xs'⟩ := x
              simp only [bareP] at y0 y1 y2 y3 y4 HXP
              obtain ⟨W7, hW7⟩ : ∃ W7, W7 = wr.alloc (.cells #[.int .i64 xn, .int .i64 xt, .int .i64 0, .bool xc, .bool xs'] 38) := ⟨_, rfl⟩
              have hk7 : Below wr.heap.size wr W7 := by
                rw [hW7]
                exact (Below.refl _ wr).alloc (Nat.le_refl _) _
              have hx7 : Has W7 wr.heap.size (.cells #[.int .i64 xn, .int .i64 xt, .int .i64 0, .bool xc, .bool xs'] 38 (0, 0)) := by
                rw [hW7]
                exact Has.fresh wr _
              have c0 := hx7.cell 0
              have c1 := hx7.cell 1
              have c2' := hx7.cell 2
              have c3' := hx7.cell 3
              have c4 := hx7.cell 4
              obtain ⟨b6, o6, e6', p0, p1, p2, p3, p4⟩ := HXP.out W7 hk7
              obtain ⟨rfl, rfl⟩ : b2 = b6 ∧ o2 = o6 := by simpa using e6'
              have HB7 := Lib.hid (hb.trans (hk7.mono hb.size))
              have HW7 := Lib.hid hW7
              clear hb hkl hkP e5 e6 hrP e4 HXP hx hW7 hk7 hx7 e6'
              go_upto_region 22 with (fail)
              rw [← HW7.out]
              go_wp2_with fail
              go_quiet (fail)
              go_wp2
              go_roundw
              case rel => exact ⟨k + 1, by go_num, by omega, below_draws HB7.out _⟩
              case measure => simp [intOf]; omega
            · go_wp2
              go_ret
              exact ⟨rfl, T6.out.below.trans (hb.mono T6.out.below.size)⟩
end
end Go.Proofs.Ytciajmaejpapfaa

namespace Go.Proofs.Ytciajmaejpapfaa
open Go Go.RowKit
theorem pathTells_here (A : Option Addr) (n c : Nat) (xs : List Ac) (tgt rel id : Int) (comp : Bool) (w : World) (hn : xs.length = n) (hm : n ≤ maxLen) (h : Acts w A xs) :
    Calls Try.prog 3 #[.slice A n c, .int .i64 tgt, .int .i64 rel, .int .i64 id, .bool comp] w fun e w' => e = .returned (.bool true) ∧ Below w.heap.size w w' := pathTells_any arOk arMore A n c xs tgt rel id comp w hn hm h
theorem pathUp_here (A : Option Addr) (n c : Nat) (xs : List Ac) (tgt rel : Int) (comp : Bool) (w : World) (hn : xs.length = n) (hm : n ≤ maxLen) (h : Acts w A xs) :
    Calls Try.prog 4 #[.slice A n c, .int .i64 tgt, .int .i64 rel, .bool comp] w fun e w' => e = .returned (.bool true) ∧ Below w.heap.size w w' := pathUp_any arOk arMore A n c xs tgt rel comp w hn hm h
theorem pathHides_here (A : Option Addr) (n c : Nat) (xs : List Ac) (tgt rel : Int) (comp : Bool) (w : World) (hn : xs.length = n) (hm : n ≤ maxLen) (h : Acts w A xs) :
    Calls Try.prog 5 #[.slice A n c, .int .i64 tgt, .int .i64 rel, .bool comp] w fun e w' => e = .returned (.bool true) ∧ Below w.heap.size w w' := pathHides_any arOk arMore A n c xs tgt rel comp w hn hm h
theorem pathEnds_here (A : Option Addr) (n c : Nat) (xs : List Ac) (tgt rel : Int) (comp : Bool) (w : World) (hn : xs.length = n) (hm : n ≤ maxLen) (h : Acts w A xs) :
    Calls Try.prog 6 #[.slice A n c, .int .i64 tgt, .int .i64 rel, .bool comp] w fun e w' => e = .returned (.bool true) ∧ Below w.heap.size w w' := pathEnds_any arOk arMore A n c xs tgt rel comp w hn hm h
end Go.Proofs.Ytciajmaejpapfaa

namespace Go.Proofs.Ytciajmaejpapfaa
open Go.ChangeShapes Go.WideShapes Go.ChangeAt Go.RowKit

theorem own : ownKnob Try.prog.godebug = none := by kernel_rfl
theorem laidOut : laidOutB Try.prog = true := by kernel_rfl
theorem ib {a : Int} (h : (Lit.int .i64 a).wf = true) : -9223372036854775808 ≤ a ∧ a ≤ 9223372036854775807 := by
  have h1 : IntKind.i64.min = -9223372036854775808 := rfl
  have h2 : IntKind.i64.max = 9223372036854775807 := rfl
  simp only [Lit.wf, Bool.and_eq_true, decide_eq_true_eq, h1, h2] at h
  exact h
theorem ib8 {a : Int} (h : (Lit.int .u8 a).wf = true) : 0 ≤ a ∧ a ≤ 255 := by
  have h1 : IntKind.u8.min = 0 := rfl
  have h2 : IntKind.u8.max = 255 := rfl
  simp only [Lit.wf, Bool.and_eq_true, decide_eq_true_eq, h1, h2] at h
  exact h
theorem ib16 {a : Int} (h : (Lit.int .u16 a).wf = true) : 0 ≤ a ∧ a ≤ 65535 := by
  have h1 : IntKind.u16.min = 0 := rfl
  have h2 : IntKind.u16.max = 65535 := rfl
  simp only [Lit.wf, Bool.and_eq_true, decide_eq_true_eq, h1, h2] at h
  exact h
end Go.Proofs.Ytciajmaejpapfaa

namespace Go.Proofs.Ytciajmaejpapfaa
open Go.ChangeShapes Go.WideShapes Go.ChangeAt Go.RowKit
open Go.ChangeMaps (open_string shut_string)

set_option maxRecDepth 100000 in
theorem pathTells_lifted (os : Os) (started : os.Started) (H : Type) (enc : TypeId × Value → H) :
    ReturnsInHanded {} Try.checked os 3 .any (Rows.pathTellsSpec.pre6 enc Try.prog Try.f3 Rows.pathTellsRow.domain false) (Rows.pathTellsSpec.post enc Try.prog Try.f3 false true false false) := by
  refine returnsInHanded_of_change (C := Try.checked) own started (by kernel_rfl) Try.func3
    (ChangeSpec.witness6 (enc := enc) (C := Try.checked) false ⟨#[], #[.slice none 0 0, .int .i64 0, .int .i64 0, .int .i64 0, .bool false], []⟩ 8 (by kernel_rfl) (by kernel_rfl) (by kernel_rfl) (by kernel_rfl)) ?_
  intro W base args ds gs before hval0 hW hcnd _
  have hval : ∀ (j : Nat) t v, Try.f3.params[j]? = some t → args[j]? = some v → Value.okWide Try.prog W .any base t v := hval0
  clear hval0 hcnd
  have hW' := hW
  obtain ⟨p, q, hA0, hV, rfl, hfz, hnd⟩ := hW
  have hA : DataW.TrodAll enc Try.prog W 0 (fun _ => true) true Try.f3.params.toList args.toList ds p := hA0
  rw [Try.params3] at hA hval
  obtain ⟨v0, vs0, d0, ds0, p0, q0, hargs, rfl, rfl, h0, r0⟩ := trodAll_cons hA
  obtain ⟨v1, vs1, d1, ds1, p1, q1, rfl, rfl, rfl, h1, r1⟩ := trodAll_cons r0
  obtain ⟨v2, vs2, d2, ds2, p2, q2, rfl, rfl, rfl, h2, r2⟩ := trodAll_cons r1
  obtain ⟨v3, vs3, d3, ds3, p3, q3, rfl, rfl, rfl, h3, r3⟩ := trodAll_cons r2
  obtain ⟨v4, vs4, d4, ds4, p4, q4, rfl, rfl, rfl, h4, r4⟩ := trodAll_cons r3
  obtain ⟨rfl, rfl, rfl⟩ := trodAll_nil r4
  obtain rfl : args = #[v0, v1, v2, v3, v4] := by cases args; simp_all
  obtain ⟨rfl, rfl⟩ := trodVars_none hV
  obtain ⟨A0, n0, c0, rfl⟩ := okWide_slice Try.underlying22 (hval 0 22 v0 rfl rfl)
  have k0 := h0
  have lt0 : ∀ x ∈ p0, x.block < W.heap.size := by obtain ⟨m, hm⟩ := k0; exact DataW.trod_lt m _ _ _ hm
  obtain ⟨x0, l0, y0, z0, q0x⟩ : ∃ xs : List Ac, xs.length = n0 ∧ Acts W A0 xs ∧ n0 ≤ c0 ∧ n0 ≤ maxLen := by
    obtain ⟨fuel, hf⟩ := h0
    exact acts_in hf
  obtain ⟨a1, rfl, rfl, rfl, w1⟩ := open_int Try.underlying3 (hval 1 3 v1 rfl rfl) h1
  obtain ⟨a2, rfl, rfl, rfl, w2⟩ := open_int Try.underlying3 (hval 2 3 v2 rfl rfl) h2
  obtain ⟨a3, rfl, rfl, rfl, w3⟩ := open_int Try.underlying3 (hval 3 3 v3 rfl rfl) h3
  obtain ⟨b4, rfl, rfl, rfl⟩ := open_bool Try.underlying4 (hval 4 4 v4 rfl rfl) h4
  clear hA0
  refine (pathTells_here A0 n0 c0 x0 a1 a2 a3 b4 W l0 q0x y0).mono fun e W' ⟨he, bel⟩ => ?_
  subst he
  exact ⟨_, rfl, _, _, _, [], _, [], hW', trodAll_mk1 (shut_bool Try.underlying4 _), (trodAll_cons_mk (Below.trod laidOut (by kernel_rfl) (of_decide_eq_true (by kernel_rfl)) k0 bel lt0) (trodAll_cons_mk (shut_int Try.underlying3 w1) (trodAll_cons_mk (shut_int Try.underlying3 w2) (trodAll_cons_mk (shut_int Try.underlying3 w3) (trodAll_cons_mk (shut_bool Try.underlying4 b4) trodAll_mk0))))), rfl, bel.frame _, fun h => by cases h⟩

theorem pathTells_holds : Rows.PathTellsSaid :=
  OpenClaim.holds_of_wide 3 Try.f3 rfl rfl rfl rfl rfl rfl rfl ⟨rfl, rfl, rfl, rfl, rfl⟩ rfl rfl rfl rfl rfl (by kernel_rfl) Try.func3 (by kernel_rfl)
    (of_decide_eq_true (by kernel_rfl)) (by unfold Func.isWrapper; rw [if_neg (by decide +kernel)]; exact ⟨rfl, rfl⟩)
    (fun os started H enc _ => pathTells_lifted os started H enc)
end Go.Proofs.Ytciajmaejpapfaa
