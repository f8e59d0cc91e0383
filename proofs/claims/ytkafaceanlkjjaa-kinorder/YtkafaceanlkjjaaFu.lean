/-
  What towncrierref04.Put does.
-/
import Derived.Test.YtkafaceanlkjjaaFt
namespace Go.Proofs.Ytkafaceanlkjjaa
open Go Go.RowKit
variable {G : Nat → Prop}

theorem put_same {l : List Nd} {p : Int} {kids : List Int} {e : Int} (he : putErr l p kids = e) (h0 : e ≠ 0) : putL l p kids = l := by unfold putL; rw [he, if_neg h0]
theorem put_no {l : List Nd} {p : Int} {kids : List Int} (h : thereB l p = false) : putErr l p kids = 1 := by unfold putErr; rw [if_pos h]
theorem put_bad {l : List Nd} {p : Int} {kids : List Int} (h : thereB l p = true) {i : Nat} (hi : i < kids.length) (hb : kidIn l kids i = false) : putErr l p kids = 1 := by
  unfold putErr
  rw [if_neg (by rw [h]; decide), if_pos]
  intro ha
  rw [ha i hi] at hb
  cases hb
theorem put_up {l : List Nd} {p : Int} {kids : List Int} (h : thereB l p = true) (hk : ∀ i, i < kids.length → kidIn l kids i = true) {k : Int} (hi : k ∈ kids) (hb : kidOk l (over l p) p k = false) : putErr l p kids = 3 := by
  unfold putErr
  rw [if_neg (by rw [h]; decide), if_neg (fun h => h hk), if_pos]
  intro ha
  rw [ha k hi] at hb
  cases hb
theorem put_ok {l : List Nd} {p : Int} {kids : List Int} (h : thereB l p = true) (hk : ∀ i, i < kids.length → kidIn l kids i = true) (hb : ∀ k, k ∈ kids → kidOk l (over l p) p k = true) : putErr l p kids = 0 := by
  unfold putErr
  rw [if_neg (by rw [h]; decide), if_neg (fun h => h hk), if_neg (fun h => h hb)]

/-- The first j of them, no longer the parent's. -/
def clrTo (l : List Nd) (p : Int) (j : Nat) : List Nd := clr (l.take j) p ++ l.drop j
theorem clrTo_zero (l : List Nd) (p : Int) : clrTo l p 0 = l := by simp [clrTo, clr]
theorem clrTo_all (l : List Nd) (p : Int) : clrTo l p l.length = clr l p := by simp [clrTo]
theorem clrTo_length (l : List Nd) (p : Int) (j : Nat) : (clrTo l p j).length = l.length := by simp [clrTo, clr]; omega
theorem clrTo_at {l : List Nd} {p : Int} {j : Nat} (hj : j < l.length) : (clrTo l p j)[j]'(by rw [clrTo_length]; exact hj) = l[j] := by
  unfold clrTo
  rw [List.getElem_append_right (by simp [clr]; omega)]
  simp [clr, Nat.min_eq_left (Nat.le_of_lt hj)]
theorem clrTo_step {l : List Nd} {p : Int} {j : Nat} (hj : j < l.length) : clrTo l p (j + 1) = (clrTo l p j).set j (if l[j].parent = p then { l[j] with parent := 0 } else l[j]) := by
  unfold clrTo clr
  rw [List.take_add_one, List.getElem?_eq_getElem hj, List.map_append, List.set_append_right _ _ (by simp; omega), List.drop_eq_getElem_cons hj]
  simp only [List.length_map, List.length_take, Nat.min_eq_left (Nat.le_of_lt hj), Nat.sub_self, List.set_cons_zero, Option.toList_some, List.map_cons, List.map_nil, List.append_assoc, List.singleton_append]
theorem there_is {l : List Nd} {id : Int} {b : Bool} (h : thereB l id = b) (A : Option Addr) (c : Nat) (w : World) : Calls Try.prog 33 #[.slice A l.length c, .int .i64 id] w fun e w' => e = .returned (.bool b) ∧ w' = w :=
  (there_any l A c id w).mono fun _ _ hh => ⟨by rw [hh.1, h], hh.2.symm⟩
theorem has_is {xs : List Int} {x : Int} {b : Bool} (h : hasB xs x = b) (A : Option Addr) {n : Nat} (c : Nat) (w : World) {B : Nat} (hn : n = xs.length) (hl : n ≤ 1000000) (hN : Nums w B A .i64 xs) : Calls Try.prog 35 #[.slice A n c, .int .i64 x] w fun e w' => e = .returned (.bool b) ∧ w' = w :=
  (has_any xs A n c x w hn hl hN).mono fun _ _ hh => ⟨by rw [hh.1, h], hh.2.symm⟩
theorem toPar_snoc (l : List Nd) (p : Int) (ks : List Int) (k : Int) : toPar l p (ks ++ [k]) = modN (toPar l p ks) k fun d => { d with parent := p } := by simp [toPar]
theorem Nodes.kidsSet {w : World} {B g c m : Nat} {l : List Nd} {v : Value} {ks : List Int} (h : Nodes G w B (some ⟨g, 0, none⟩) c l) (hm : m < l.length) (hk : Kids G w v ks) :
    (∃ x, w.cell? ⟨g, m * 9 + 8, none⟩ = some x) ∧ w.frozen? ⟨g, m * 9 + 8, none⟩ = false ∧ Nodes G (w.setCell ⟨g, m * 9 + 8, none⟩ v) B (some ⟨g, 0, none⟩) c (modN l ((m : Int) + 1) fun d => { d with kids := ks }) := by
  obtain ⟨g', k', e, _, _, hf, hc⟩ := h.at_ hm
  obtain rfl : g = g' := by simpa using e
  refine ⟨⟨k', hc 8 (by omega)⟩, hf _, ?_⟩
  rw [modN_at hm]
  exact h.store hm (f := 8) (by omega) (fun k' => ⟨v, rfl, fun _ => hk⟩)
theorem nums_take {w : World} {B : Nat} {A : Option Addr} {k : IntKind} {xs : List Int} (h : Nums w B A k xs) (j : Nat) : Nums w B A k (xs.take j) := fun i hi => by
  rw [List.length_take] at hi
  rw [List.getElem_take]
  exact h i (by omega)

set_option maxHeartbeats 4000000 in
set_option maxRecDepth 100000 in
theorem put_any (l : List Nd) (A : Option Addr) (c : Nat) (p : Int) (kids : List Int) (A2 : Option Addr) (n c2 : Nat) (w : World) (hl : l.length ≤ 1000) (hk : ∀ d ∈ l, d.kids.length ≤ 100000) (hG : Fut G w.heap.size) (hN : Nodes G w 0 A c l)
    (hn : n = kids.length) (hnb : n ≤ 100000) (hnc : n ≤ c2) (h0 : A2 = none → c2 = 0) (hK : Nums w w.heap.size A2 .i64 kids) :
    Calls Try.prog 48 #[.slice A l.length c, .int .i64 p, .slice A2 n c2] w (Gave G w (putL l p kids) (putErr l p kids)) := by
  have H := Lib.hid hN
  have Hk := Lib.hid hk
  have HK := Lib.hid hK
  have Hn := Lib.hid hn
  have H0 := Lib.hid h0
  clear hN hk hK hn h0
  have hnot : ∀ (x : Bool) (w : World), (Op.unary .not (.bool x)).run Try.prog w = .ok (.bool (!x)) w := fun _ _ => rfl
  go_enter Try.func48, Try.ntmps48
  go_wp2_with fail
  refine (there_any l A c p w).mono ?_
  rintro e w1 ⟨rfl, rfl⟩
  cases hth : thereB l p with
  | false =>
    have E1 := Lib.hid (put_no (kids := kids) hth)
    clear hth
    go_wp2
    go_ret2
    exact Gave.same E1.out (put_same E1.out (by decide)) H.out
  | true =>
    have Hth := Lib.hid hth
    clear hth
    go_wp2_with fail
    go_loopw [8] (fun i wr => ∃ j : Nat, i = .int .i64 j ∧ j ≤ n ∧ (∀ i, i < j → kidIn l kids i = true) ∧ Below w.heap.size w wr) (fun i _ => n - (intOf i).toNat)
    case atStart => exact ⟨0, rfl, Nat.zero_le _, fun i hi => absurd hi (Nat.not_lt_zero i), Below.refl _ _⟩
    case round =>
      obtain ⟨j, rfl, hj, hin, hbr⟩ := hrel
      have Hin := Lib.hid hin
      clear hin
      by_cases hjn : (j : Int) < n
      · have hjk : j < kids.length := by rw [← Hn.out]; omega
        obtain ⟨b, off, rfl, hb, hc⟩ := HK.out.below hbr j hjk
        obtain ⟨x, hx⟩ : ∃ x, x = kids[j] := ⟨_, rfl⟩
        rw [← hx] at hc
        have hgx : kids.getD j 0 = x := by rw [List.getD_eq_getElem?_getD, List.getElem?_eq_getElem hjk, hx]; rfl
        have hki : kidIn l kids j = (thereB l x && !hasB (kids.take j) x) := by unfold kidIn; rw [hgx]
        have Hki := Lib.hid hki
        have Hx := Lib.hid hx
        clear hx hgx hki
        have hnt := nums_take (HK.out.below hbr) j
        have htl : j = (kids.take j).length := by rw [List.length_take]; omega
        have Hnt := Lib.hid hnt
        have Htl := Lib.hid htl
        clear hnt htl
        cases htx : thereB l x with
        | false =>
          have E1 := Lib.hid (put_bad Hth.out hjk (by rw [Hki.out, htx]; rfl))
          have Htx := Lib.hid htx
          clear htx
          go_wp2_with fail
          go_quiet ((go_at_call 33; exact Calls.quiet_of_same (there_is Htx.out _ _ _)))
          go_wp2
          go_ret2
          exact Gave.later E1.out (put_same E1.out (by decide)) H.out (below_draws hbr _)
        | true =>
          have Htx := Lib.hid htx
          cases hhs : hasB (kids.take j) x with
          | true =>
            have E1 := Lib.hid (put_bad Hth.out hjk (by rw [Hki.out, htx, hhs]; rfl))
            have Hhs := Lib.hid hhs
            clear htx hhs
            go_wp2_with fail
            go_quiet (first | (go_at_call 33; exact Calls.quiet_of_same (there_is Htx.out _ _ _)) | (go_at_call 35; exact Calls.quiet_of_same (has_is Hhs.out _ _ _ Htl.out (by omega) Hnt.out)))
            go_wp2
            go_ret2
            exact Gave.later E1.out (put_same E1.out (by decide)) H.out (below_draws hbr _)
          | false =>
            have hnext : ∀ i, i < j + 1 → kidIn l kids i = true := fun i hi => by
              by_cases e : i = j
              · subst e
                rw [Hki.out, htx, hhs]
                rfl
              · exact Hin.out i (by omega)
            have Hnext := Lib.hid hnext
            have Hhs := Lib.hid hhs
            clear htx hhs hnext
            go_wp2_with fail
            go_quiet (first | (go_at_call 33; exact Calls.quiet_of_same (there_is Htx.out _ _ _)) | (go_at_call 35; exact Calls.quiet_of_same (has_is Hhs.out _ _ _ Htl.out (by omega) Hnt.out)))
            go_wp2
            go_roundw
            case rel => exact ⟨j + 1, by go_num, by omega, Hnext.out, below_draws hbr _⟩
            case measure => simp [intOf]; omega
      · have hall : ∀ i, i < kids.length → kidIn l kids i = true := fun i hi => Hin.out i (by rw [← Hn.out] at hi; omega)
        have Hall := Lib.hid hall
        clear hall
        have hNr := H.out.below hbr
        go_wp2_with fail
        refine (over_any l A c p wr hl hNr).mono ?_
        rintro e w1 ⟨v, rfl, hKv, hb1⟩
        obtain ⟨Au, cu, rfl, hcu, hnu⟩ := hKv.form
        have hB1 : Below w.heap.size w w1 := hbr.trans (hb1.mono hbr.size)
        have hul : (over l p).length ≤ 1000000 := Nat.le_trans (over_len l (l.length + 1) p) (by omega)
        obtain ⟨up, hup⟩ : ∃ up, up = over l p := ⟨_, rfl⟩
        rw [← hup] at hnu hul hcu
        rw [← hup]
        have Hnu := Lib.hid hnu
        have Hup := Lib.hid hup
        clear hnu hKv hNr hcu hup hb1 hbr Hin
        go_wp2_with fail
        go_loopw [10] (fun i wr' => ∃ j : Nat, i = .int .i64 j ∧ j ≤ n ∧ (∀ k, k ∈ kids.take j → kidOk l up p k = true) ∧ wr' = w1) (fun i _ => n - (intOf i).toNat)
        case atStart => exact ⟨0, rfl, Nat.zero_le _, fun k hk => absurd hk (by simp), rfl⟩
        case round =>
          obtain ⟨j, rfl, hj, hok, rfl⟩ := hrel
          have Hok := Lib.hid hok
          clear hok
          by_cases hjn : (j : Int) < n
          · have hjk : j < kids.length := by rw [← Hn.out]; omega
            obtain ⟨b, off, rfl, hb, hc⟩ := HK.out.below hB1 j hjk
            obtain ⟨x, hx⟩ : ∃ x, x = kids[j] := ⟨_, rfl⟩
            rw [← hx] at hc
            have hmem : x ∈ kids := hx ▸ List.getElem_mem hjk
            have hgx : kids.getD j 0 = x := by rw [List.getD_eq_getElem?_getD, List.getElem?_eq_getElem hjk, hx]; rfl
            have htx : thereB l x = true := by
              have := Hall.out j hjk
              unfold kidIn at this
              rw [hgx, Bool.and_eq_true] at this
              exact this.1
            have hstep : kidOk l up p x = true → ∀ k, k ∈ kids.take (j + 1) → kidOk l up p k = true := fun h k hk => by
              rw [List.take_add_one, List.getElem?_eq_getElem hjk, ← hx] at hk
              rcases List.mem_append.1 hk with hk | hk
              · exact Hok.out k hk
              · obtain rfl : k = x := by simpa using hk
                exact h
            have hbad : kidOk l up p x = false → putErr l p kids = 3 := fun h => put_up Hth.out Hall.out hmem (by rw [← Hup.out]; exact h)
            obtain ⟨m, rfl, hm⟩ := there_at htx
            obtain ⟨g, k, rfl, -, -, -, hcell⟩ := (H.out.below hB1).at_ hm
            have c1 : wr.cell? ⟨g, m * 9, none⟩ = some (.int .i64 (nd l ((m : Int) + 1)).kind) := by rw [nd_at hm]; exact hcell 0 (by omega)
            have c3 : wr.cell? ⟨g, m * 9 + 1, none⟩ = some (.int .i64 (nd l ((m : Int) + 1)).parent) := by rw [nd_at hm]; exact hcell 1 (by omega)
            have hkd : kidOk l up p ((m : Int) + 1) = !(decide ((nd l ((m : Int) + 1)).kind = 1) || decide ((nd l ((m : Int) + 1)).kind = 3) || hasB up ((m : Int) + 1) || (decide ((nd l ((m : Int) + 1)).parent ≠ 0) && decide ((nd l ((m : Int) + 1)).parent ≠ p))) := rfl
            obtain ⟨kd, hkd'⟩ : ∃ kd, kd = (nd l ((m : Int) + 1)).kind := ⟨_, rfl⟩
            obtain ⟨pa, hpa'⟩ : ∃ pa, pa = (nd l ((m : Int) + 1)).parent := ⟨_, rfl⟩
            rw [← hkd'] at c1 hkd
            rw [← hpa'] at c3 hkd
            have Hkd := Lib.hid hkd
            have Hstep := Lib.hid hstep
            have Hbad := Lib.hid hbad
            clear hx hgx htx hstep hbad hcell hkd hkd' hpa' hmem
            by_cases k1 : kd = 1
            · have E1 := Lib.hid (Hbad.out (by rw [Hkd.out]; simp [k1]))
              subst k1
              go_wp2
              go_ret2
              exact Gave.later E1.out (put_same E1.out (by decide)) H.out hB1
            have k1' : (kd == 1) = false := by simpa using k1
            by_cases k3 : kd = 3
            · have E1 := Lib.hid (Hbad.out (by rw [Hkd.out]; simp [k3]))
              subst k3
              go_wp2
              go_ret2
              exact Gave.later E1.out (put_same E1.out (by decide)) H.out hB1
            have k3' : (kd == 3) = false := by simpa using k3
            cases hh : hasB up ((m : Int) + 1) with
            | true =>
              have E1 := Lib.hid (Hbad.out (by rw [Hkd.out, hh]; simp))
              have Hh := Lib.hid hh
              clear hh
              go_wp2_with fail
              refine (has_is Hh.out Au cu _ rfl hul Hnu.out).mono ?_
              rintro e w2 ⟨rfl, rfl⟩
              go_wp2
              go_ret2
              exact Gave.later E1.out (put_same E1.out (by decide)) H.out hB1
            | false =>
              have Hh := Lib.hid hh
              by_cases hbad2 : pa ≠ 0 ∧ pa ≠ p
              · have E1 := Lib.hid (Hbad.out (by rw [Hkd.out]; simp [hbad2.1, hbad2.2]))
                have z1 : (pa != 0) = true := by simpa using hbad2.1
                have z2 : (pa != p) = true := by simpa using hbad2.2
                have z3 : (pa == 0) = false := by simpa using hbad2.1
                have z4 : (pa == p) = false := by simpa using hbad2.2
                clear hh hbad2
                go_wp2_with fail
                refine (has_is Hh.out Au cu _ rfl hul Hnu.out).mono ?_
                rintro e w2 ⟨rfl, rfl⟩
                go_wp2
                go_ret2
                exact Gave.later E1.out (put_same E1.out (by decide)) H.out hB1
              · have hgood : kidOk l up p ((m : Int) + 1) = true := by
                  rw [Hkd.out, hh, decide_eq_false k1, decide_eq_false k3]
                  by_cases hp0 : pa = 0
                  · simp [hp0]
                  · have : pa = p := by
                      by_cases e : pa = p
                      · exact e
                      · exact absurd ⟨hp0, e⟩ hbad2
                    simp [this]
                have Hn2 := Lib.hid (Hstep.out hgood)
                clear hh hgood
                by_cases hp0 : pa = 0
                · subst hp0
                  clear hbad2
                  go_wp2_with fail
                  refine (has_is Hh.out Au cu _ rfl hul Hnu.out).mono ?_
                  rintro e w2 ⟨rfl, rfl⟩
                  go_wp2
                  go_roundw
                  case rel => exact ⟨j + 1, by go_num, by omega, Hn2.out, trivial⟩
                  case measure => simp [intOf]; omega
                · obtain rfl : pa = p := by
                    by_cases e : pa = p
                    · exact e
                    · exact absurd ⟨hp0, e⟩ hbad2
                  have z1 : (pa != 0) = true := by simpa using hp0
                  have z3 : (pa == 0) = false := by simpa using hp0
                  clear hbad2
                  go_wp2_with fail
                  refine (has_is Hh.out Au cu _ rfl hul Hnu.out).mono ?_
                  rintro e w2 ⟨rfl, rfl⟩
                  go_wp2
                  go_roundw
                  case rel => exact ⟨j + 1, by go_num, by omega, Hn2.out, trivial⟩
                  case measure => simp [intOf]; omega
          · have hE : putErr l p kids = 0 := put_ok Hth.out Hall.out fun k hk => by
              rw [← Hup.out]
              exact Hok.out k (by rw [List.take_of_length_le (by rw [← Hn.out]; omega)]; exact hk)
            have HE := Lib.hid hE
            have hN1 := H.out.below hB1
            clear hE Hok
            go_wp2_with fail
            refine (copy_any l A c wr hl Hk.out (hG.mono hB1.size) hN1).mono ?_
            rintro e w3 ⟨A3, c3, rfl, hN3, hb3⟩
            have hB3 : Below w.heap.size w w3 := hB1.trans (hb3.mono hB1.size)
            have hwB : w.heap.size ≤ wr.heap.size := hB1.size
            obtain ⟨mp, hmp, hmpl⟩ := there_at Hth.out
            obtain ⟨g, rfl, hg⟩ := hN3.some_ hmpl
            obtain ⟨B3, hB3'⟩ : ∃ B3, B3 = wr.heap.size := ⟨_, rfl⟩
            rw [← hB3'] at hN3 hg hwB
            have hgw : w.heap.size ≤ g := Nat.le_trans hwB hg
            have Hmp := Lib.hid hmp
            clear hb3 hN1 hB3' hmp
            go_wp2_with fail
            go_loopw [14] (fun i wr' => ∃ j : Nat, i = .int .i64 j ∧ j ≤ l.length ∧ Nodes G wr' B3 (some ⟨g, 0, none⟩) c3 (clrTo l p j) ∧ Below w.heap.size w wr') (fun i _ => l.length - (intOf i).toNat)
            case atStart => exact ⟨0, rfl, Nat.zero_le _, by rw [clrTo_zero]; exact hN3, hB3⟩
            case round =>
              obtain ⟨j, rfl, hj, hNj, hbj⟩ := hrel
              clear hN3 hB3
              by_cases hjl : (j : Int) < l.length
              · have hjl' : j < l.length := by omega
                have hjc : j < (clrTo l p j).length := by rw [clrTo_length]; exact hjl'
                obtain ⟨g', k, e', -, -, hfz, hcell⟩ := hNj.at_ hjc
                obtain rfl : g = g' := by simpa using e'
                rw [clrTo_at hjl'] at hcell
                have c1 : wr.cell? ⟨g, j * 9 + 1, none⟩ = some (.int .i64 l[j].parent) := hcell 1 (by omega)
                have hst := clrTo_step (p := p) hjl'
                have htn := hNj.turn (F := fun d => { d with parent := 0 }) (u := .int .i64 0) (f := 1) hjc (by omega) (fun _ _ => rfl) (fun _ => rfl)
                rw [modN_at hjc, clrTo_at hjl'] at htn
                obtain ⟨pa, hpa⟩ : ∃ pa, pa = l[j].parent := ⟨_, rfl⟩
                rw [← hpa] at c1 hst
                have Hst := Lib.hid hst
                clear hcell hst hpa e' hfz
                by_cases hpp : pa = p
                · subst hpp
                  obtain ⟨-, hz, hN4⟩ := htn
                  have hs := Hst.out
                  rw [if_pos rfl] at hs
                  rw [← hs] at hN4
                  have HN4 := Lib.hid hN4
                  clear hs hN4 Hst
                  go_wp2
                  go_roundw
                  case rel => exact ⟨j + 1, by go_num, by omega, HN4.out, hbj.setCell hgw _⟩
                  case measure => simp [intOf]; omega
                · have hpp' : (pa == p) = false := by simpa using hpp
                  have hs := Hst.out
                  rw [if_neg hpp] at hs
                  have hN4 : Nodes G wr B3 (some ⟨g, 0, none⟩) c3 (clrTo l p (j + 1)) := by
                    rw [hs]
                    have e : (clrTo l p j).set j l[j] = clrTo l p j := by
                      rw [← clrTo_at (p := p) hjl', List.set_getElem_self]
                    rw [e]
                    exact hNj
                  have HN4 := Lib.hid hN4
                  clear hs hN4 htn Hst
                  go_wp2
                  go_roundw
                  case rel => exact ⟨j + 1, by go_num, by omega, HN4.out, hbj⟩
                  case measure => simp [intOf]; omega
              · obtain rfl : j = l.length := by omega
                rw [clrTo_all] at hNj
                clear hjl hj
                go_wp2_with fail
                go_loopw [15] (fun i wr' => ∃ j : Nat, i = .int .i64 j ∧ j ≤ n ∧ Nodes G wr' B3 (some ⟨g, 0, none⟩) c3 (toPar (clr l p) p (kids.take j)) ∧ Below w.heap.size w wr') (fun i _ => n - (intOf i).toNat)
                case atStart => exact ⟨0, rfl, Nat.zero_le _, hNj, hbj⟩
                case round =>
                  obtain ⟨j, rfl, hj, hNj, hbj⟩ := hrel
                  have hll : (toPar (clr l p) p (kids.take j)).length = l.length := by rw [toPar_length, clr_length]
                  have Hll := Lib.hid hll
                  clear hll
                  by_cases hjn : (j : Int) < n
                  · have hjk : j < kids.length := by rw [← Hn.out]; omega
                    obtain ⟨b, off, rfl, hb, hc⟩ := HK.out.below hbj j hjk
                    obtain ⟨x, hx⟩ : ∃ x, x = kids[j] := ⟨_, rfl⟩
                    rw [← hx] at hc
                    have htx : thereB l x = true := by
                      have := Hall.out j hjk
                      unfold kidIn at this
                      rw [List.getD_eq_getElem?_getD, List.getElem?_eq_getElem hjk, Option.getD_some, ← hx, Bool.and_eq_true] at this
                      exact this.1
                    have hsn : toPar (clr l p) p (kids.take (j + 1)) = modN (toPar (clr l p) p (kids.take j)) x fun d => { d with parent := p } := by
                      rw [List.take_add_one, List.getElem?_eq_getElem hjk, ← hx]
                      exact toPar_snoc _ _ _ _
                    obtain ⟨m, rfl, hm⟩ := there_at htx
                    have hm' : m < (toPar (clr l p) p (kids.take j)).length := by rw [Hll.out]; exact hm
                    obtain ⟨⟨y, hy⟩, hz, hN4⟩ := hNj.turn (F := fun d => { d with parent := p }) (u := .int .i64 p) (f := 1) hm' (by omega) (fun _ _ => rfl) (fun _ => rfl)
                    rw [← hsn] at hN4
                    have HN4 := Lib.hid hN4
                    clear hsn hN4 htx hx
                    go_wp2
                    go_roundw
                    case rel => exact ⟨j + 1, by go_num, by omega, HN4.out, hbj.setCell hgw _⟩
                    case measure => simp [intOf]; omega
                  · rw [List.take_of_length_le (by rw [← Hn.out]; omega)] at hNj Hll
                    have hm' : mp < (toPar (clr l p) p kids).length := by rw [Hll.out]; exact hmpl
                    obtain ⟨i0, hi, hz0, hz1, hz2⟩ := info_parts Try.infoInt
                    have Hi := Lib.hid hi
                    have Hz0 := Lib.hid hz0
                    have Hz1 := Lib.hid hz1
                    have Hz2 := Lib.hid hz2
                    have hown : (wr.alloc (.cells #[] 3)).ownsRow wr.heap.size 3 1 (.slice (some ⟨wr.heap.size, 0, none⟩) 0 0) 0 [] := World.ownsRow_lit wr #[] 0 (Nat.le_refl _) (Nat.zero_le _) rfl
                    have hgv : Gives (wr.alloc (.cells #[] 3)) 1 (.slice A2 n c2) n (kids.map (Value.int .i64)) := nums_gives ((HK.out.below hbj).below ((Below.refl _ _).alloc hbj.size _)) Hn.out H0.out
                    have hL : putL l p kids = modN (toPar (clr l p) p kids) p fun d => { d with kids := kids } := by unfold putL; rw [if_pos HE.out]
                    have hLl : (putL l p kids).length = l.length := putL_length l p kids
                    have Hown := Lib.hid hown
                    have Hgv := Lib.hid hgv
                    have HL := Lib.hid hL
                    have HLl := Lib.hid hLl
                    clear hi hz0 hz1 hz2 hown hgv hL hLl
                    have hpm := Hmp.out
                    subst hpm
                    go_wp2_with (at_builtin; refine wpList_append_gives rfl (.tmp 133) (.tmp 134) 32 rfl wr.heap.size 3 i0 _ 1 8 Try.underlying32 Hi.out Hz0.out Hz1.out Hz2.out rfl (by decide) (.slice (some ⟨wr.heap.size, 0, none⟩) 0 0) 0 [] rfl Hown.out _ n (kids.map (Value.int .i64)) rfl Hgv.out (kids_one kids) (by unfold maxLen; omega) (by omega) (by simp) ?_; intro v2 w2 ho2 hg2; obtain ⟨A5, c5, rfl, hc5⟩ := own_form (by rw [Nat.zero_add] at ho2; exact ho2); obtain ⟨hk2, hb2, hs2⟩ := kids_new (G := G) (by rw [← Hn.out]; exact ho2) hg2 (hG.mono hbj.size); obtain ⟨⟨x8, hx8⟩, hz8, hN5⟩ := (hNj.below hb2).kidsSet hm' hk2; have HN5 := Lib.hid hN5; clear hN5)
                    go_ret2
                    rw [Gave, HE.out]
                    refine ⟨some ⟨g, 0, none⟩, c3, ?_, ?_, (hbj.trans (hb2.mono hbj.size)).setCell hgw _⟩
                    · rw [HLl.out]
                      rfl
                    · rw [HL.out]
                      exact HN5.out.from_ (Nat.zero_le _)
end Go.Proofs.Ytkafaceanlkjjaa
