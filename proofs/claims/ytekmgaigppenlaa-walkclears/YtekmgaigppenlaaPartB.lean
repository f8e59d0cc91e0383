/-
  What towncrierref04.Put does.
  Forests, plain: how many children a node has at most. No program is named here.
  Forests, plain: a forest stays one. No program is named here.
  Forests, plain: whatever is called, a forest stays one. No program is named here.
  A region that leaves its order open, walked once, in an order that is typed out: what yields its value in every world that meets S comes up when it is named; a pinned operation comes up when nothing else can. S may be made narrower on the way. No program is named here.
  A region that leaves its order open and writes what it has read: 'x = append(x, ..)'. As Ord, but of the operations named 'late' (each waits for all that was taken first) nothing is asked behind them: what was read may be written by them. No program is named here.
  A region that leaves its order open, walked by a way that is typed out: what is taken first, what comes up alone, and where two may come up, both ways. As Late, but with forks. No program is named here.
  The forest of package arena in memory; what its small functions do: New, Len, has, fitsName, nextAbove, isAbove.
  What Name, Want and Tie of package arena do.
  What Tie of package arena does.
-/
import Derived.Test.YtekmgaigppenlaaPartA
import Derived.Deep.RegionHeld3

namespace Go.Proofs.Ytekmgaigppenlaa
open Go Go.RowKit
variable {G : Nat → Prop}

theorem put_same {l : List Nd} {p : Int} {kids : List Int} {e : Int} (he : putErr l p kids = e) (h0 : e ≠ 0) : putL l p kids = l := by unfold putL; rw [he, if_neg h0]
theorem put_no {l : List Nd} {p : Int} {kids : List Int} (h : thereB l p = false) : putErr l p kids = 1 := by unfold putErr; rw [if_pos h]
theorem put_bad {l : List Nd} {p : Int} {kids : List Int} (h : thereB l p = true) {i : Nat} (hi : i < kids.length) (hb : kidIn l kids i = false) : putErr l p kids = 1 := by
  unfold putErr
  rw [if_neg (by rw [h]; decide), if_pos]
  intro ha
  rw [ha i hi] at hb
  cases hb
theorem put_up {l : List Nd} {p : Int} {kids : List Int} (h : thereB l p = true) (hk : ∀ i, i < kids.length → kidIn l kids i = true) {k : Int} (hi : k ∈ kids) (hb : kidOk l (over l p) p k = false) : putErr l p kids = 3 := by
  unfold putErr
  rw [if_neg (by rw [h]; decide), if_neg (fun h => h hk), if_pos]
  intro ha
  rw [ha k hi] at hb
  cases hb
theorem put_ok {l : List Nd} {p : Int} {kids : List Int} (h : thereB l p = true) (hk : ∀ i, i < kids.length → kidIn l kids i = true) (hb : ∀ k, k ∈ kids → kidOk l (over l p) p k = true) : putErr l p kids = 0 := by
  unfold putErr
  rw [if_neg (by rw [h]; decide), if_neg (fun h => h hk), if_neg (fun h => h hb)]

/-- The first j of them, no longer the parent's. -/
def clrTo (l : List Nd) (p : Int) (j : Nat) : List Nd := clr (l.take j) p ++ l.drop j
theorem clrTo_zero (l : List Nd) (p : Int) : clrTo l p 0 = l := by simp [clrTo, clr]
theorem clrTo_all (l : List Nd) (p : Int) : clrTo l p l.length = clr l p := by simp [clrTo]
theorem clrTo_length (l : List Nd) (p : Int) (j : Nat) : (clrTo l p j).length = l.length := by simp [clrTo, clr]; omega
theorem clrTo_at {l : List Nd} {p : Int} {j : Nat} (hj : j < l.length) : (clrTo l p j)[j]'(by rw [clrTo_length]; exact hj) = l[j] := by
  unfold clrTo
  rw [List.getElem_append_right (by simp [clr]; omega)]
  simp [clr, Nat.min_eq_left (Nat.le_of_lt hj)]
theorem clrTo_step {l : List Nd} {p : Int} {j : Nat} (hj : j < l.length) : clrTo l p (j + 1) = (clrTo l p j).set j (if l[j].parent = p then { l[j] with parent := 0 } else l[j]) := by
  unfold clrTo clr
  rw [List.take_add_one, List.getElem?_eq_getElem hj, List.map_append, List.set_append_right _ _ (by simp; omega), List.drop_eq_getElem_cons hj]
  simp only [List.length_map, List.length_take, Nat.min_eq_left (Nat.le_of_lt hj), Nat.sub_self, List.set_cons_zero, Option.toList_some, List.map_cons, List.map_nil, List.append_assoc, List.singleton_append]
theorem there_is {l : List Nd} {id : Int} {b : Bool} (h : thereB l id = b) (A : Option Addr) (c : Nat) (w : World) : Calls Try.prog 58 #[.slice A l.length c, .int .i64 id] w fun e w' => e = .returned (.bool b) ∧ w' = w :=
  (there_any l A c id w).mono fun _ _ hh => ⟨by rw [hh.1, h], hh.2.symm⟩
theorem has_is {xs : List Int} {x : Int} {b : Bool} (h : hasB xs x = b) (A : Option Addr) {n : Nat} (c : Nat) (w : World) {B : Nat} (hn : n = xs.length) (hl : n ≤ 1000000) (hN : Nums w B A .i64 xs) : Calls Try.prog 59 #[.slice A n c, .int .i64 x] w fun e w' => e = .returned (.bool b) ∧ w' = w :=
  (has_any xs A n c x w hn hl hN).mono fun _ _ hh => ⟨by rw [hh.1, h], hh.2.symm⟩
theorem toPar_snoc (l : List Nd) (p : Int) (ks : List Int) (k : Int) : toPar l p (ks ++ [k]) = modN (toPar l p ks) k fun d => { d with parent := p } := by simp [toPar]
theorem Nodes.kidsSet {w : World} {B g c m : Nat} {l : List Nd} {v : Value} {ks : List Int} (h : Nodes G w B (some ⟨g, 0, none⟩) c l) (hm : m < l.length) (hk : Kids G w v ks) :
    (∃ x, w.cell? ⟨g, m * 9 + 8, none⟩ = some x) ∧ w.frozen? ⟨g, m * 9 + 8, none⟩ = false ∧ Nodes G (w.setCell ⟨g, m * 9 + 8, none⟩ v) B (some ⟨g, 0, none⟩) c (modN l ((m : Int) + 1) fun d => { d with kids := ks }) := by
  obtain ⟨g', k', e, _, _, hf, hc⟩ := h.at_ hm
  obtain rfl : g = g' := by simpa using e
  refine ⟨⟨k', hc 8 (by omega)⟩, hf _, ?_⟩
  rw [modN_at hm]
  exact h.store hm (f := 8) (by omega) (fun k' => ⟨v, rfl, fun _ => hk⟩)
theorem nums_take {w : World} {B : Nat} {A : Option Addr} {k : IntKind} {xs : List Int} (h : Nums w B A k xs) (j : Nat) : Nums w B A k (xs.take j) := fun i hi => by
  rw [List.length_take] at hi
  rw [List.getElem_take]
  exact h i (by omega)

set_option maxHeartbeats 4000000 in
set_option maxRecDepth 100000 in
theorem put_any (l : List Nd) (A : Option Addr) (c : Nat) (p : Int) (kids : List Int) (A2 : Option Addr) (n c2 : Nat) (w : World) (hl : l.length ≤ 1000) (hk : ∀ d ∈ l, d.kids.length ≤ 100000) (hG : Fut G w.heap.size) (hN : Nodes G w 0 A c l)
    (hn : n = kids.length) (hnb : n ≤ 100000) (hnc : n ≤ c2) (h0 : A2 = none → c2 = 0) (hK : Nums w w.heap.size A2 .i64 kids) :
    Calls Try.prog 47 #[.slice A l.length c, .int .i64 p, .slice A2 n c2] w (Gave G w (putL l p kids) (putErr l p kids)) := by
  have H := Lib.hid hN
  have Hk := Lib.hid hk
  have HK := Lib.hid hK
  have Hn := Lib.hid hn
  have H0 := Lib.hid h0
  clear hN hk hK hn h0
  have hnot : ∀ (x : Bool) (w : World), (Op.unary .not (.bool x)).run Try.prog w = .ok (.bool (!x)) w := fun _ _ => rfl
  go_enter Try.func47, Try.ntmps47
  go_wp2_with fail
  refine (there_any l A c p w).mono ?_
  rintro e w1 ⟨rfl, rfl⟩
  cases hth : thereB l p with
  | false =>
    have E1 := Lib.hid (put_no (kids := kids) hth)
    clear hth
    go_wp2
    go_ret2
    exact Gave.same E1.out (put_same E1.out (by decide)) H.out
  | true =>
    have Hth := Lib.hid hth
    clear hth
    go_wp2_with fail
    go_loopw [8] (fun i wr => ∃ j : Nat, i = .int .i64 j ∧ j ≤ n ∧ (∀ i, i < j → kidIn l kids i = true) ∧ Below w.heap.size w wr) (fun i _ => n - (intOf i).toNat)
    case atStart => exact ⟨0, rfl, Nat.zero_le _, fun i hi => absurd hi (Nat.not_lt_zero i), Below.refl _ _⟩
    case round =>
      obtain ⟨j, rfl, hj, hin, hbr⟩ := hrel
      have Hin := Lib.hid hin
      clear hin
      by_cases hjn : (j : Int) < n
      · have hjk : j < kids.length := by rw [← Hn.out]; omega
        obtain ⟨b, off, rfl, hb, hc⟩ := HK.out.below hbr j hjk
        obtain ⟨x, hx⟩ : ∃ x, x = kids[j] := ⟨_, rfl⟩
        rw [← hx] at hc
        have hgx : kids.getD j 0 = x := by rw [List.getD_eq_getElem?_getD, List.getElem?_eq_getElem hjk, hx]; rfl
        have hki : kidIn l kids j = (thereB l x && !hasB (kids.take j) x) := by unfold kidIn; rw [hgx]
        have Hki := Lib.hid hki
        have Hx := Lib.hid hx
        clear hx hgx hki
        have hnt := nums_take (HK.out.below hbr) j
        have htl : j = (kids.take j).length := by rw [List.length_take]; omega
        have Hnt := Lib.hid hnt
        have Htl := Lib.hid htl
        clear hnt htl
        cases htx : thereB l x with
        | false =>
          have E1 := Lib.hid (put_bad Hth.out hjk (by rw [Hki.out, htx]; rfl))
          have Htx := Lib.hid htx
          clear htx
          go_wp2_with fail
          go_quiet ((go_at_call 58; exact Calls.quiet_of_same (there_is Htx.out _ _ _)))
          go_wp2
          go_ret2
          exact Gave.later E1.out (put_same E1.out (by decide)) H.out (below_draws hbr _)
        | true =>
          have Htx := Lib.hid htx
          cases hhs : hasB (kids.take j) x with
          | true =>
            have E1 := Lib.hid (put_bad Hth.out hjk (by rw [Hki.out, htx, hhs]; rfl))
            have Hhs := Lib.hid hhs
            clear htx hhs
            go_wp2_with fail
            go_quiet (first | (go_at_call 58; exact Calls.quiet_of_same (there_is Htx.out _ _ _)) | (go_at_call 59; exact Calls.quiet_of_same (has_is Hhs.out _ _ _ Htl.out (by omega) Hnt.out)))
            go_wp2
            go_ret2
            exact Gave.later E1.out (put_same E1.out (by decide)) H.out (below_draws hbr _)
          | false =>
            have hnext : ∀ i, i < j + 1 → kidIn l kids i = true := fun i hi => by
              by_cases e : i = j
              · subst e
                rw [Hki.out, htx, hhs]
                rfl
              · exact Hin.out i (by omega)
            have Hnext := Lib.hid hnext
            have Hhs := Lib.hid hhs
            clear htx hhs hnext
            go_wp2_with fail
            go_quiet (first | (go_at_call 58; exact Calls.quiet_of_same (there_is Htx.out _ _ _)) | (go_at_call 59; exact Calls.quiet_of_same (has_is Hhs.out _ _ _ Htl.out (by omega) Hnt.out)))
            go_wp2
            go_roundw
            case rel => exact ⟨j + 1, by go_num, by omega, Hnext.out, below_draws hbr _⟩
            case measure => simp [intOf]; omega
      · have hall : ∀ i, i < kids.length → kidIn l kids i = true := fun i hi => Hin.out i (by rw [← Hn.out] at hi; omega)
        have Hall := Lib.hid hall
        clear hall
        have hNr := H.out.below hbr
        go_wp2_with fail
        refine (over_any l A c p wr hl hNr).mono ?_
        rintro e w1 ⟨v, rfl, hKv, hb1⟩
        obtain ⟨Au, cu, rfl, hcu, hnu⟩ := hKv.form
        have hB1 : Below w.heap.size w w1 := hbr.trans (hb1.mono hbr.size)
        have hul : (over l p).length ≤ 1000000 := Nat.le_trans (over_len l (l.length + 1) p) (by omega)
        obtain ⟨up, hup⟩ : ∃ up, up = over l p := ⟨_, rfl⟩
        rw [← hup] at hnu hul hcu
        rw [← hup]
        have Hnu := Lib.hid hnu
        have Hup := Lib.hid hup
        clear hnu hKv hNr hcu hup hb1 hbr Hin
        go_wp2_with fail
        go_loopw [10] (fun i wr' => ∃ j : Nat, i = .int .i64 j ∧ j ≤ n ∧ (∀ k, k ∈ kids.take j → kidOk l up p k = true) ∧ wr' = w1) (fun i _ => n - (intOf i).toNat)
        case atStart => exact ⟨0, rfl, Nat.zero_le _, fun k hk => absurd hk (by simp), rfl⟩
        case round =>
          obtain ⟨j, rfl, hj, hok, rfl⟩ := hrel
          have Hok := Lib.hid hok
          clear hok
          by_cases hjn : (j : Int) < n
          · have hjk : j < kids.length := by rw [← Hn.out]; omega
            obtain ⟨b, off, rfl, hb, hc⟩ := HK.out.below hB1 j hjk
            obtain ⟨x, hx⟩ : ∃ x, x = kids[j] := ⟨_, rfl⟩
            rw [← hx] at hc
            have hmem : x ∈ kids := hx ▸ List.getElem_mem hjk
            have hgx : kids.getD j 0 = x := by rw [List.getD_eq_getElem?_getD, List.getElem?_eq_getElem hjk, hx]; rfl
            have htx : thereB l x = true := by
              have := Hall.out j hjk
              unfold kidIn at this
              rw [hgx, Bool.and_eq_true] at this
              exact this.1
            have hstep : kidOk l up p x = true → ∀ k, k ∈ kids.take (j + 1) → kidOk l up p k = true := fun h k hk => by
              rw [List.take_add_one, List.getElem?_eq_getElem hjk, ← hx] at hk
              rcases List.mem_append.1 hk with hk | hk
              · exact Hok.out k hk
              · obtain rfl : k = x := by simpa using hk
                exact h
            have hbad : kidOk l up p x = false → putErr l p kids = 3 := fun h => put_up Hth.out Hall.out hmem (by rw [← Hup.out]; exact h)
            obtain ⟨m, rfl, hm⟩ := there_at htx
            obtain ⟨g, k, rfl, -, -, -, hcell⟩ := (H.out.below hB1).at_ hm
            have c1 : wr.cell? ⟨g, m * 9, none⟩ = some (.int .i64 (nd l ((m : Int) + 1)).kind) := by rw [nd_at hm]; exact hcell 0 (by omega)
            have c3 : wr.cell? ⟨g, m * 9 + 1, none⟩ = some (.int .i64 (nd l ((m : Int) + 1)).parent) := by rw [nd_at hm]; exact hcell 1 (by omega)
            have hkd : kidOk l up p ((m : Int) + 1) = !(decide ((nd l ((m : Int) + 1)).kind = 1) || decide ((nd l ((m : Int) + 1)).kind = 3) || hasB up ((m : Int) + 1) || (decide ((nd l ((m : Int) + 1)).parent ≠ 0) && decide ((nd l ((m : Int) + 1)).parent ≠ p))) := rfl
            obtain ⟨kd, hkd'⟩ : ∃ kd, kd = (nd l ((m : Int) + 1)).kind := ⟨_, rfl⟩
            obtain ⟨pa, hpa'⟩ : ∃ pa, pa = (nd l ((m : Int) + 1)).parent := ⟨_, rfl⟩
            rw [← hkd'] at c1 hkd
            rw [← hpa'] at c3 hkd
            have Hkd := Lib.hid hkd
            have Hstep := Lib.hid hstep
            have Hbad := Lib.hid hbad
            clear hx hgx htx hstep hbad hcell hkd hkd' hpa' hmem
            by_cases k1 : kd = 1
            · have E1 := Lib.hid (Hbad.out (by rw [Hkd.out]; simp [k1]))
              subst k1
              go_wp2
              go_ret2
              exact Gave.later E1.out (put_same E1.out (by decide)) H.out hB1
            have k1' : (kd == 1) = false := by simpa using k1
            by_cases k3 : kd = 3
            · have E1 := Lib.hid (Hbad.out (by rw [Hkd.out]; simp [k3]))
              subst k3
              go_wp2
              go_ret2
              exact Gave.later E1.out (put_same E1.out (by decide)) H.out hB1
            have k3' : (kd == 3) = false := by simpa using k3
            cases hh : hasB up ((m : Int) + 1) with
            | true =>
              have E1 := Lib.hid (Hbad.out (by rw [Hkd.out, hh]; simp))
              have Hh := Lib.hid hh
              clear hh
              go_wp2_with fail
              refine (has_is Hh.out Au cu _ rfl hul Hnu.out).mono ?_
              rintro e w2 ⟨rfl, rfl⟩
              go_wp2
              go_ret2
              exact Gave.later E1.out (put_same E1.out (by decide)) H.out hB1
            | false =>
              have Hh := Lib.hid hh
              by_cases hbad2 : pa ≠ 0 ∧ pa ≠ p
              · have E1 := Lib.hid (Hbad.out (by rw [Hkd.out]; simp [hbad2.1, hbad2.2]))
                have z1 : (pa != 0) = true := by simpa using hbad2.1
                have z2 : (pa != p) = true := by simpa using hbad2.2
                have z3 : (pa == 0) = false := by simpa using hbad2.1
                have z4 : (pa == p) = false := by simpa using hbad2.2
                clear hh hbad2
                go_wp2_with fail
                refine (has_is Hh.out Au cu _ rfl hul Hnu.out).mono ?_
                rintro e w2 ⟨rfl, rfl⟩
                go_wp2
                go_ret2
                exact Gave.later E1.out (put_same E1.out (by decide)) H.out hB1
              · have hgood : kidOk l up p ((m : Int) + 1) = true := by
                  rw [Hkd.out, hh, decide_eq_false k1, decide_eq_false k3]
                  by_cases hp0 : pa = 0
                  · simp [hp0]
                  · have : pa = p := by
                      by_cases e : pa = p
                      · exact e
                      · exact absurd ⟨hp0, e⟩ hbad2
                    simp [this]
                have Hn2 := Lib.hid (Hstep.out hgood)
                clear hh hgood
                by_cases hp0 : pa = 0
                · subst hp0
                  clear hbad2
                  go_wp2_with fail
                  refine (has_is Hh.out Au cu _ rfl hul Hnu.out).mono ?_
                  rintro e w2 ⟨rfl, rfl⟩
                  go_wp2
                  go_roundw
                  case rel => exact ⟨j + 1, by go_num, by omega, Hn2.out, trivial⟩
                  case measure => simp [intOf]; omega
                · obtain rfl : pa = p := by
                    by_cases e : pa = p
                    · exact e
                    · exact absurd ⟨hp0, e⟩ hbad2
                  have z1 : (pa != 0) = true := by simpa using hp0
                  have z3 : (pa == 0) = false := by simpa using hp0
                  clear hbad2
                  go_wp2_with fail
                  refine (has_is Hh.out Au cu _ rfl hul Hnu.out).mono ?_
                  rintro e w2 ⟨rfl, rfl⟩
                  go_wp2
                  go_roundw
                  case rel => exact ⟨j + 1, by go_num, by omega, Hn2.out, trivial⟩
                  case measure => simp [intOf]; omega
          · have hE : putErr l p kids = 0 := put_ok Hth.out Hall.out fun k hk => by
              rw [← Hup.out]
              exact Hok.out k (by rw [List.take_of_length_le (by rw [← Hn.out]; omega)]; exact hk)
            have HE := Lib.hid hE
            have hN1 := H.out.below hB1
            clear hE Hok
            go_wp2_with fail
            refine (copy_any l A c wr hl Hk.out (hG.mono hB1.size) hN1).mono ?_
            rintro e w3 ⟨A3, c3, rfl, hN3, hb3⟩
            have hB3 : Below w.heap.size w w3 := hB1.trans (hb3.mono hB1.size)
            have hwB : w.heap.size ≤ wr.heap.size := hB1.size
            obtain ⟨mp, hmp, hmpl⟩ := there_at Hth.out
            obtain ⟨g, rfl, hg⟩ := hN3.some_ hmpl
            obtain ⟨B3, hB3'⟩ : ∃ B3, B3 = wr.heap.size := ⟨_, rfl⟩
            rw [← hB3'] at hN3 hg hwB
            have hgw : w.heap.size ≤ g := Nat.le_trans hwB hg
            have Hmp := Lib.hid hmp
            clear hb3 hN1 hB3' hmp
            go_wp2_with fail
            go_loopw [14] (fun i wr' => ∃ j : Nat, i = .int .i64 j ∧ j ≤ l.length ∧ Nodes G wr' B3 (some ⟨g, 0, none⟩) c3 (clrTo l p j) ∧ Below w.heap.size w wr') (fun i _ => l.length - (intOf i).toNat)
            case atStart => exact ⟨0, rfl, Nat.zero_le _, by rw [clrTo_zero]; exact hN3, hB3⟩
            case round =>
              obtain ⟨j, rfl, hj, hNj, hbj⟩ := hrel
              clear hN3 hB3
              by_cases hjl : (j : Int) < l.length
              · have hjl' : j < l.length := by omega
                have hjc : j < (clrTo l p j).length := by rw [clrTo_length]; exact hjl'
                obtain ⟨g', k, e', -, -, hfz, hcell⟩ := hNj.at_ hjc
                obtain rfl : g = g' := by simpa using e'
                rw [clrTo_at hjl'] at hcell
                have c1 : wr.cell? ⟨g, j * 9 + 1, none⟩ = some (.int .i64 l[j].parent) := hcell 1 (by omega)
                have hst := clrTo_step (p := p) hjl'
                have htn := hNj.turn (F := fun d => { d with parent := 0 }) (u := .int .i64 0) (f := 1) hjc (by omega) (fun _ _ => rfl) (fun _ => rfl)
                rw [modN_at hjc, clrTo_at hjl'] at htn
                obtain ⟨pa, hpa⟩ : ∃ pa, pa = l[j].parent := ⟨_, rfl⟩
                rw [← hpa] at c1 hst
                have Hst := Lib.hid hst
                clear hcell hst hpa e' hfz
                by_cases hpp : pa = p
                · subst hpp
                  obtain ⟨-, hz, hN4⟩ := htn
                  have hs := Hst.out
                  rw [if_pos rfl] at hs
                  rw [← hs] at hN4
                  have HN4 := Lib.hid hN4
                  clear hs hN4 Hst
                  go_wp2
                  go_roundw
                  case rel => exact ⟨j + 1, by go_num, by omega, HN4.out, hbj.setCell hgw _⟩
                  case measure => simp [intOf]; omega
                · have hpp' : (pa == p) = false := by simpa using hpp
                  have hs := Hst.out
                  rw [if_neg hpp] at hs
                  have hN4 : Nodes G wr B3 (some ⟨g, 0, none⟩) c3 (clrTo l p (j + 1)) := by
                    rw [hs]
                    have e : (clrTo l p j).set j l[j] = clrTo l p j := by
                      rw [← clrTo_at (p := p) hjl', List.set_getElem_self]
                    rw [e]
                    exact hNj
                  have HN4 := Lib.hid hN4
                  clear hs hN4 htn Hst
                  go_wp2
                  go_roundw
                  case rel => exact ⟨j + 1, by go_num, by omega, HN4.out, hbj⟩
                  case measure => simp [intOf]; omega
              · obtain rfl : j = l.length := by omega
                rw [clrTo_all] at hNj
                clear hjl hj
                go_wp2_with fail
                go_loopw [15] (fun i wr' => ∃ j : Nat, i = .int .i64 j ∧ j ≤ n ∧ Nodes G wr' B3 (some ⟨g, 0, none⟩) c3 (toPar (clr l p) p (kids.take j)) ∧ Below w.heap.size w wr') (fun i _ => n - (intOf i).toNat)
                case atStart => exact ⟨0, rfl, Nat.zero_le _, hNj, hbj⟩
                case round =>
                  obtain ⟨j, rfl, hj, hNj, hbj⟩ := hrel
                  have hll : (toPar (clr l p) p (kids.take j)).length = l.length := by rw [toPar_length, clr_length]
                  have Hll := Lib.hid hll
                  clear hll
                  by_cases hjn : (j : Int) < n
                  · have hjk : j < kids.length := by rw [← Hn.out]; omega
                    obtain ⟨b, off, rfl, hb, hc⟩ := HK.out.below hbj j hjk
                    obtain ⟨x, hx⟩ : ∃ x, x = kids[j] := ⟨_, rfl⟩
                    rw [← hx] at hc
                    have htx : thereB l x = true := by
                      have := Hall.out j hjk
                      unfold kidIn at this
                      rw [List.getD_eq_getElem?_getD, List.getElem?_eq_getElem hjk, Option.getD_some, ← hx, Bool.and_eq_true] at this
                      exact this.1
                    have hsn : toPar (clr l p) p (kids.take (j + 1)) = modN (toPar (clr l p) p (kids.take j)) x fun d => { d with parent := p } := by
                      rw [List.take_add_one, List.getElem?_eq_getElem hjk, ← hx]
                      exact toPar_snoc _ _ _ _
                    obtain ⟨m, rfl, hm⟩ := there_at htx
                    have hm' : m < (toPar (clr l p) p (kids.take j)).length := by rw [Hll.out]; exact hm
                    obtain ⟨⟨y, hy⟩, hz, hN4⟩ := hNj.turn (F := fun d => { d with parent := p }) (u := .int .i64 p) (f := 1) hm' (by omega) (fun _ _ => rfl) (fun _ => rfl)
                    rw [← hsn] at hN4
                    have HN4 := Lib.hid hN4
                    clear hsn hN4 htx hx
                    go_wp2
                    go_roundw
                    case rel => exact ⟨j + 1, by go_num, by omega, HN4.out, hbj.setCell hgw _⟩
                    case measure => simp [intOf]; omega
                  · rw [List.take_of_length_le (by rw [← Hn.out]; omega)] at hNj Hll
                    have hm' : mp < (toPar (clr l p) p kids).length := by rw [Hll.out]; exact hmpl
                    obtain ⟨i0, hi, hz0, hz1, hz2⟩ := info_parts Try.infoInt
                    have Hi := Lib.hid hi
                    have Hz0 := Lib.hid hz0
                    have Hz1 := Lib.hid hz1
                    have Hz2 := Lib.hid hz2
                    have hown : (wr.alloc (.cells #[] 3)).ownsRow wr.heap.size 3 1 (.slice (some ⟨wr.heap.size, 0, none⟩) 0 0) 0 [] := World.ownsRow_lit wr #[] 0 (Nat.le_refl _) (Nat.zero_le _) rfl
                    have hgv : Gives (wr.alloc (.cells #[] 3)) 1 (.slice A2 n c2) n (kids.map (Value.int .i64)) := nums_gives ((HK.out.below hbj).below ((Below.refl _ _).alloc hbj.size _)) Hn.out H0.out
                    have hL : putL l p kids = modN (toPar (clr l p) p kids) p fun d => { d with kids := kids } := by unfold putL; rw [if_pos HE.out]
                    have hLl : (putL l p kids).length = l.length := putL_length l p kids
                    have Hown := Lib.hid hown
                    have Hgv := Lib.hid hgv
                    have HL := Lib.hid hL
                    have HLl := Lib.hid hLl
                    clear hi hz0 hz1 hz2 hown hgv hL hLl
                    have hpm := Hmp.out
                    subst hpm
                    go_wp2_with (at_builtin; refine wpList_append_gives rfl (.tmp 133) (.tmp 134) 55 rfl wr.heap.size 3 i0 _ 1 8 Try.underlying55 Hi.out Hz0.out Hz1.out Hz2.out rfl (by decide) (.slice (some ⟨wr.heap.size, 0, none⟩) 0 0) 0 [] rfl Hown.out _ n (kids.map (Value.int .i64)) rfl Hgv.out (kids_one kids) (by unfold maxLen; omega) (by omega) (by simp) ?_; intro v2 w2 ho2 hg2; obtain ⟨A5, c5, rfl, hc5⟩ := own_form (by rw [Nat.zero_add] at ho2; exact ho2); obtain ⟨hk2, hb2, hs2⟩ := kids_new (G := G) (by rw [← Hn.out]; exact ho2) hg2 (hG.mono hbj.size); obtain ⟨⟨x8, hx8⟩, hz8, hN5⟩ := (hNj.below hb2).kidsSet hm' hk2; have HN5 := Lib.hid hN5; clear hN5)
                    go_ret2
                    rw [Gave, HE.out]
                    refine ⟨some ⟨g, 0, none⟩, c3, ?_, ?_, (hbj.trans (hb2.mono hbj.size)).setCell hgw _⟩
                    · rw [HLl.out]
                      rfl
                    · rw [HL.out]
                      exact HN5.out.from_ (Nat.zero_le _)
end Go.Proofs.Ytekmgaigppenlaa

namespace Go.Proofs.Ytekmgaigppenlaa
open Go

/-- No node has more children than a list that was handed in. -/
def Few (K : Nat) (l : List Nd) : Prop := ∀ d ∈ l, d.kids.length ≤ K
theorem few_mod {K : Nat} {l : List Nd} {id : Int} {f : Nd → Nd} (h : Few K l) (hf : ∀ d, d.kids.length ≤ K → (f d).kids.length ≤ K) : Few K (modN l id f) := by
  intro d hd
  rcases List.mem_or_eq_of_mem_set hd with hd | rfl
  · exact h d hd
  · refine hf _ ?_
    unfold nd
    rw [List.getD_eq_getElem?_getD]
    cases e : l[(id - 1).toNat]? with
    | none => exact Nat.zero_le _
    | some d => exact h d (List.mem_of_getElem? e)
theorem few_toPar {K : Nat} {p : Int} : ∀ (kids : List Int) {l : List Nd}, Few K l → Few K (toPar l p kids)
  | [], _, h => h
  | k :: r, l, h => by
    show Few K (toPar (modN l k _) p r)
    exact few_toPar r (few_mod h fun _ h => h)
theorem few_clr {K : Nat} {l : List Nd} {p : Int} (h : Few K l) : Few K (clr l p) := by
  intro d hd
  obtain ⟨d', hd', rfl⟩ := List.mem_map.1 hd
  split <;> exact h d' hd'
theorem actL_kids {K : Nat} {l : List Nd} {x : Ac} (h : Few K l) (hx : x.l.length ≤ K) : Few K (actL l x) := by
  unfold actL
  split
  · unfold mkL
    split
    · intro d hd
      rcases List.mem_append.1 hd with hd | hd
      · exact h d hd
      · obtain rfl := List.mem_singleton.1 hd
        exact Nat.zero_le _
    · exact h
  · split
    · unfold putL
      split
      · exact few_mod (few_toPar _ (few_clr h)) fun _ _ => hx
      · exact h
    · split
      · unfold tieL
        split
        · exact few_mod (few_mod h fun _ h => h) fun _ h => h
        · exact h
      · split
        · unfold nameL
          split
          · exact few_mod h fun _ h => h
          · exact h
        · split
          · unfold wantL
            split
            · exact few_mod h fun _ h => h
            · exact h
          · exact h
end Go.Proofs.Ytekmgaigppenlaa

namespace Go.Proofs.Ytekmgaigppenlaa
open Go

section
variable {l : List Nd} {id k : Int} {f : Nd → Nd}
theorem there_mod : thereB (modN l id f) k = thereB l k := modN_there l id f k
theorem nd_mod (hi : thereB l id = true) (hk : thereB l k = true) : nd (modN l id f) k = if k = id then f (nd l id) else nd l k := by
  have h1 := thereB_iff.1 hi
  have h2 := thereB_iff.1 hk
  unfold modN
  by_cases e : k = id
  · subst e
    rw [if_pos rfl, nd, List.getD_eq_getElem?_getD, List.getElem?_set_self (there_lt hi)]
    rfl
  · rw [if_neg e, nd, List.getD_eq_getElem?_getD, List.getElem?_set_ne (by omega), ← List.getD_eq_getElem?_getD]
    rfl
theorem there_len {l' : List Nd} (h : l'.length = l.length) : thereB l' k = thereB l k := by unfold thereB; rw [h]
theorem nd_clr {p : Int} (hk : thereB l k = true) : nd (clr l p) k = if (nd l k).parent = p then { nd l k with parent := 0 } else nd l k := by
  have := nd_get hk
  rw [nd, clr, List.getD_eq_getElem?_getD, List.getElem?_map, this]
  rfl
theorem nd_toPar {p : Int} : ∀ (ks : List Int) (l : List Nd) (k : Int), (∀ x ∈ ks, thereB l x = true) → thereB l k = true → nd (toPar l p ks) k = if k ∈ ks then { nd l k with parent := p } else nd l k
  | [], _, _, _, _ => by simp [toPar]
  | x :: r, l, k, hx, hk => by
    have hx0 := hx x (by simp)
    show nd (toPar (modN l x _) p r) k = _
    rw [nd_toPar r (modN l x _) k (fun y hy => by rw [there_mod]; exact hx y (by simp [hy])) (by rw [there_mod]; exact hk), nd_mod hx0 hk]
    by_cases e : k = x
    · subst e
      simp
    · simp [e]
end

/-- What Put makes of a node. -/
theorem put_nd {l : List Nd} {p : Int} {ks : List Int} {k : Int} (h : putErr l p ks = 0) (hp : thereB l p = true) (hks : ∀ x ∈ ks, thereB l x = true) (hk : thereB l k = true) :
    nd (putL l p ks) k = { nd l k with parent := if k ∈ ks then p else if (nd l k).parent = p then 0 else (nd l k).parent, kids := if k = p then ks else (nd l k).kids } := by
  have hc : ∀ x, thereB (clr l p) x = thereB l x := fun x => there_len (clr_length l p)
  have ht : ∀ x, thereB (toPar (clr l p) p ks) x = thereB l x := fun x => there_len (by rw [toPar_length, clr_length])
  unfold putL
  rw [if_pos h, nd_mod (by rw [ht]; exact hp) (by rw [ht]; exact hk), nd_toPar ks _ p (fun x hx => by rw [hc]; exact hks x hx) (by rw [hc]; exact hp), nd_toPar ks _ k (fun x hx => by rw [hc]; exact hks x hx) (by rw [hc]; exact hk), nd_clr hk, nd_clr hp]
  by_cases e : k = p
  · subst e
    by_cases m : k ∈ ks <;> by_cases q : (nd l k).parent = k <;> simp [m, q]
  · by_cases m : k ∈ ks <;> by_cases q : (nd l k).parent = p <;> simp [m, q, e]

/-- What an error's 0 says. -/
theorem put_zero {l : List Nd} {p : Int} {ks : List Int} (h : putErr l p ks = 0) : thereB l p = true ∧ (∀ i, i < ks.length → kidIn l ks i = true) ∧ ∀ k, k ∈ ks → kidOk l (over l p) p k = true := by
  unfold putErr at h
  split at h
  · cases h
  · rename_i h1
    split at h
    · cases h
    · rename_i h2
      split at h
      · cases h
      · rename_i h3
        exact ⟨by simpa using h1, Decidable.not_not.1 h2, Decidable.not_not.1 h3⟩
theorem kids_there {l : List Nd} {ks : List Int} (h : ∀ i, i < ks.length → kidIn l ks i = true) : ∀ x ∈ ks, thereB l x = true := by
  intro x hx
  obtain ⟨i, hi, rfl⟩ := List.mem_iff_getElem.1 hx
  have := h i hi
  unfold kidIn at this
  rw [List.getD_eq_getElem?_getD, List.getElem?_eq_getElem hi, Option.getD_some, Bool.and_eq_true] at this
  exact this.1
theorem kids_nodup {l : List Nd} {ks : List Int} (h : ∀ i, i < ks.length → kidIn l ks i = true) : ks.Nodup := by
  refine List.pairwise_iff_getElem.2 fun i j hi hj hij e' => ?_
  have := h j hj
  unfold kidIn at this
  rw [List.getD_eq_getElem?_getD, List.getElem?_eq_getElem hj, Option.getD_some, Bool.and_eq_true] at this
  have h2 := this.2
  have : hasB (ks.take j) ks[j] = true := by
    rw [hasB, decide_eq_true_iff, ← e', List.mem_iff_getElem?]
    exact ⟨i, by rw [List.getElem?_take, if_pos hij, List.getElem?_eq_getElem hi]⟩
  rw [this] at h2
  cases h2

theorem there_pos {l : List Nd} {i : Int} (h : thereB l i = true) : i ≠ 0 := by have := thereB_iff.1 h; omega
theorem there_zero (l : List Nd) : thereB l 0 = false := by
  cases h : thereB l 0 with
  | false => rfl
  | true => exact absurd rfl (there_pos h)

theorem up_go {l : List Nd} {n : Nat} {i : Int} (h : thereB l i = true) : overN l (n + 1) i = i :: overN l n (upOf l i) := by rw [overN, if_pos h]
theorem up_no {l : List Nd} {n : Nat} {i : Int} (h : thereB l i = false) : overN l n i = [] := by
  cases n with
  | zero => rfl
  | succ n => rw [overN, if_neg (by rw [h]; decide)]
theorem over_le (l : List Nd) : ∀ (n : Nat) (i : Int), (overN l n i).length ≤ n
  | 0, _ => Nat.le_refl 0
  | n + 1, i => by
    cases ht : thereB l i with
    | false => rw [up_no ht]; exact Nat.zero_le _
    | true =>
      have := over_le l n (upOf l i)
      rw [up_go ht]
      simpa using this
/-- Where a way up ends, it stays so. -/
theorem up_more {l : List Nd} : ∀ (n : Nat) (i : Int), (overN l n i).length < n → overN l (n + 1) i = overN l n i
  | 0, _, h => absurd h (Nat.not_lt_zero _)
  | n + 1, i, h => by
    cases ht : thereB l i with
    | false => rw [up_no ht, up_no ht]
    | true =>
      rw [up_go ht] at h
      rw [up_go ht, up_go ht, up_more n (upOf l i) (by simpa using h)]
theorem up_stay {l : List Nd} {n : Nat} {i : Int} (h : (overN l n i).length < n) : ∀ m, overN l (n + m) i = overN l n i
  | 0 => rfl
  | m + 1 => by
    have := up_stay h m
    rw [← Nat.add_assoc, up_more (n + m) i (by rw [this]; exact Nat.lt_of_lt_of_le h (Nat.le_add_right _ _)), this]
/-- A way up that ends, from the next one on. -/
def Ends (l : List Nd) (i : Int) : Prop := ∃ n, (overN l n i).length < n
theorem ends_no {l : List Nd} {i : Int} (h : thereB l i = false) : Ends l i := ⟨1, by rw [up_no h]; decide⟩
theorem ends_up {l : List Nd} {i : Int} (h : Ends l (upOf l i)) : Ends l i := by
  cases ht : thereB l i with
  | false => exact ends_no ht
  | true =>
    obtain ⟨n, hn⟩ := h
    exact ⟨n + 1, by rw [up_go ht]; simpa using hn⟩
/-- What is on the way up from i, is there. -/
theorem up_there {l : List Nd} : ∀ (n : Nat) (i x : Int), x ∈ overN l n i → thereB l x = true
  | 0, _, _, h => absurd h (by simp [overN])
  | n + 1, i, x, h => by
    cases ht : thereB l i with
    | false => rw [up_no ht] at h; cases h
    | true =>
      rw [up_go ht] at h
      rcases List.mem_cons.1 h with rfl | h
      · exact ht
      · exact up_there n _ x h
/-- The way up from one on a way up is on it. -/
theorem up_tail {l : List Nd} : ∀ (n : Nat) (i x : Int), x ∈ overN l n i → ∀ m, ∃ k, ∀ y, y ∈ overN l m x → y ∈ overN l (n + k) i
  | 0, _, _, h, _ => absurd h (by simp [overN])
  | n + 1, i, x, h, m => by
    cases ht : thereB l i with
    | false => rw [up_no ht] at h; cases h
    | true =>
      rw [up_go ht] at h
      rcases List.mem_cons.1 h with rfl | h
      · refine ⟨m, fun y hy => ?_⟩
        have mono : ∀ (a b : Nat) (j : Int), a ≤ b → ∀ y, y ∈ overN l a j → y ∈ overN l b j := by
          intro a
          induction a with
          | zero => intro b j _ y hy; exact absurd hy (by simp [overN])
          | succ a ih =>
            intro b j hab y hy
            cases b with
            | zero => omega
            | succ b =>
              cases hj : thereB l j with
              | false => rw [up_no hj] at hy; cases hy
              | true =>
                rw [up_go hj] at hy ⊢
                rcases List.mem_cons.1 hy with rfl | hy
                · exact List.mem_cons_self
                · exact List.mem_cons_of_mem _ (ih b _ (by omega) y hy)
        exact mono m _ _ (by omega) y hy
      · obtain ⟨k, hk⟩ := up_tail n (upOf l i) x h m
        refine ⟨k, fun y hy => ?_⟩
        rw [show n + 1 + k = (n + k) + 1 by omega, up_go ht]
        exact List.mem_cons_of_mem _ (hk y hy)
/-- Nobody is above itself, where all ways end. -/
theorem up_nodup {l : List Nd} (he : ∀ i, Ends l i) : ∀ (n : Nat) (i : Int), i ∉ overN l n (upOf l i) ∨ thereB l i = false := by
  intro n i
  cases ht : thereB l i with
  | false => exact .inr rfl
  | true =>
    refine .inl fun hm => ?_
    -- from i one comes to i again: so no way up from i ends
    have step : ∀ (a : Nat) (j : Int), i ∈ overN l a j → ∀ m, (overN l m i).length = m → ∃ b, 0 < b ∧ (overN l (b + m) j).length = b + m ∨ j = i := by
      intro a
      induction a with
      | zero => intro j h; exact absurd h (by simp [overN])
      | succ a ih =>
        intro j h m hmm
        cases hj : thereB l j with
        | false => rw [up_no hj] at h; cases h
        | true =>
          rw [up_go hj] at h
          rcases List.mem_cons.1 h with rfl | h
          · exact ⟨0, .inr rfl⟩
          · rcases ih _ h m hmm with ⟨b, hb | hb⟩
            · exact ⟨b + 1, .inl ⟨by omega, by rw [show b + 1 + m = (b + m) + 1 by omega, up_go hj]; simp [hb.2]⟩⟩
            · exact ⟨1, .inl ⟨by omega, by rw [show 1 + m = m + 1 by omega, up_go hj, hb]; simp [hmm]⟩⟩
    have full : ∀ m, (overN l m i).length = m := by
      intro m
      induction m with
      | zero => rfl
      | succ m ih =>
        rcases step n (upOf l i) hm m ih with ⟨b, hb | hb⟩
        · rw [up_go ht]
          have hle : ∀ (c d : Nat) (j : Int), (overN l (c + d) j).length = c + d → (overN l d j).length = d := by
            intro c
            induction c with
            | zero => intro d j h; simpa using h
            | succ c ihc =>
              intro d j h
              refine ihc d j ?_
              rcases Nat.lt_or_ge (overN l (c + d) j).length (c + d) with hlt | hge
              · have := up_more _ _ hlt
                rw [show c + 1 + d = c + d + 1 by omega, this] at h
                omega
              · have := over_le l (c + d) j
                omega
          have := hle b m _ hb.2
          simpa using this
        · rw [up_go ht, hb]
          simpa using ih
    obtain ⟨k, hk⟩ := he i
    rw [full k] at hk
    exact absurd hk (Nat.lt_irrefl k)
/-- A forest. -/
structure Tree (l : List Nd) : Prop where
  kid : ∀ i, thereB l i = true → ∀ k ∈ (nd l i).kids, thereB l k = true ∧ (nd l k).parent = i
  once : ∀ i, thereB l i = true → (nd l i).kids.Nodup
  par : ∀ i, thereB l i = true → (nd l i).parent ≠ 0 → thereB l (nd l i).parent = true ∧ i ∈ (nd l (nd l i).parent).kids
  bare : ∀ i, thereB l i = true → ((nd l i).kind = 1 ∨ (nd l i).kind = 3) → (nd l i).parent = 0
  shade : ∀ i, thereB l i = true → (nd l i).shadow ≠ 0 → thereB l (nd l i).shadow = true ∧ (nd l (nd l i).shadow).host = i ∧ (nd l (nd l i).shadow).kind = 3
  host : ∀ i, thereB l i = true → (nd l i).host ≠ 0 → (nd l i).kind = 3 ∧ thereB l (nd l i).host = true
  ends : ∀ i, Ends l i

end Go.Proofs.Ytekmgaigppenlaa

namespace Go.Proofs.Ytekmgaigppenlaa
open Go

/-- Numbers below n, each once: there are n at most. -/
theorem pigeon : ∀ (n : Nat) (xs : List Nat), xs.Nodup → (∀ x ∈ xs, x < n) → xs.length ≤ n
  | 0, xs, _, h => by
    cases xs with
    | nil => exact Nat.le_refl 0
    | cons x r => exact absurd (h x (by simp)) (Nat.not_lt_zero x)
  | n + 1, xs, hd, h => by
    by_cases hm : n ∈ xs
    · have hl := List.length_erase_of_mem hm
      have := pigeon n (xs.erase n) (hd.erase n) (fun x hx => by
        have h1 := (hd.mem_erase_iff).1 hx
        have := h x h1.2
        omega)
      omega
    · have := pigeon n xs hd (fun x hx => by
        have := h x hx
        have : x ≠ n := fun e => hm (e ▸ hx)
        omega)
      omega

section
variable {l l' : List Nd}
theorem up_once (he : ∀ i, Ends l i) : ∀ (n : Nat) (i : Int), (overN l n i).Nodup
  | 0, _ => List.nodup_nil
  | n + 1, i => by
    cases ht : thereB l i with
    | false => rw [up_no ht]; exact List.nodup_nil
    | true =>
      rw [up_go ht]
      refine List.nodup_cons.2 ⟨?_, up_once he n _⟩
      rcases up_nodup he n i with h | h
      · exact h
      · rw [ht] at h; cases h
/-- A way up is no longer than there are nodes. -/
theorem up_short (he : ∀ i, Ends l i) (n : Nat) (i : Int) : (overN l n i).length ≤ l.length := by
  have h1 : ((overN l n i).map fun x => (x - 1).toNat).Nodup := by
    refine List.pairwise_map.2 ((up_once he n i).imp_of_mem fun {x y} hx hy hne e => hne ?_)
    have h1 := thereB_iff.1 (up_there n i x hx)
    have h2 := thereB_iff.1 (up_there n i y hy)
    omega
  have := pigeon l.length _ h1 (fun x hx => by
    obtain ⟨y, hy, rfl⟩ := List.mem_map.1 hx
    exact there_lt (up_there n i y hy))
  simpa using this
/-- So all of it is told. -/
theorem up_all (he : ∀ i, Ends l i) {n : Nat} {i x : Int} (h : x ∈ overN l n i) : x ∈ over l i := by
  have hs : (overN l (l.length + 1) i).length < l.length + 1 := Nat.lt_succ_of_le (up_short he _ i)
  have mono : ∀ (a : Nat) (j : Int) (y : Int), y ∈ overN l a j → y ∈ overN l (a + (l.length + 1)) j := by
    intro a
    induction a with
    | zero => intro j y hy; exact absurd hy (by simp [overN])
    | succ a ih =>
      intro j y hy
      cases hj : thereB l j with
      | false => rw [up_no hj] at hy; cases hy
      | true =>
        rw [up_go hj] at hy
        rw [show a + 1 + (l.length + 1) = (a + (l.length + 1)) + 1 by omega, up_go hj]
        rcases List.mem_cons.1 hy with rfl | hy
        · exact List.mem_cons_self
        · exact List.mem_cons_of_mem _ (ih _ y hy)
  have := mono n i x h
  rw [Nat.add_comm, up_stay hs] at this
  exact this
/-- One step further. -/
theorem up_next : ∀ (n : Nat) (j x : Int), x ∈ overN l n j → thereB l (upOf l x) = true → upOf l x ∈ overN l (n + 1) j
  | 0, _, _, h, _ => absurd h (by simp [overN])
  | n + 1, j, x, h, ht => by
    cases hj : thereB l j with
    | false => rw [up_no hj] at h; cases h
    | true =>
      rw [up_go hj] at h
      rw [up_go hj]
      rcases List.mem_cons.1 h with rfl | h
      · rw [up_go ht]
        exact List.mem_cons_of_mem _ List.mem_cons_self
      · exact List.mem_cons_of_mem _ (up_next n _ x h ht)
theorem up_same (hlen : l'.length = l.length) : ∀ (n : Nat) (i : Int), (∀ x ∈ overN l n i, upOf l' x = upOf l x) → overN l' n i = overN l n i
  | 0, _, _ => rfl
  | n + 1, i, h => by
    cases ht : thereB l i with
    | false => rw [up_no ht, up_no (by rw [there_len hlen]; exact ht)]
    | true =>
      rw [up_go ht] at h
      rw [up_go ht, up_go (by rw [there_len hlen]; exact ht), h i List.mem_cons_self, up_same hlen n (upOf l i) fun x hx => h x (List.mem_cons_of_mem _ hx)]
/-- Ways are led to q, or end. -/
theorem ends_led (hlen : l'.length = l.length) (he : ∀ i, Ends l i) (q : Int) (hq : ∀ n x, x ∈ overN l n q → upOf l' x = upOf l x)
    (hc : ∀ i, thereB l i = true → upOf l' i = upOf l i ∨ upOf l' i = q ∨ thereB l (upOf l' i) = false) : ∀ i, Ends l' i := by
  have hqe : Ends l' q := by
    obtain ⟨n, hn⟩ := he q
    exact ⟨n, by rw [up_same hlen n q (hq n)]; exact hn⟩
  have all : ∀ (n : Nat) (i : Int), (overN l n i).length < n → Ends l' i := by
    intro n
    induction n with
    | zero => intro i h; exact absurd h (Nat.not_lt_zero _)
    | succ n ih =>
      intro i h
      cases ht : thereB l i with
      | false => exact ends_no (by rw [there_len hlen]; exact ht)
      | true =>
        rcases hc i ht with e | e | e
        · refine ends_up ?_
          rw [e]
          rw [up_go ht] at h
          exact ih _ (by simpa using h)
        · exact ends_up (by rw [e]; exact hqe)
        · exact ends_up (ends_no (by rw [there_len hlen]; exact e))
  intro i
  obtain ⟨n, hn⟩ := he i
  exact all n i hn
end

theorem tree_put {l : List Nd} {p : Int} {ks : List Int} (T : Tree l) : Tree (putL l p ks) := by
  by_cases h0 : putErr l p ks = 0
  case neg =>
    unfold putL
    rw [if_neg h0]
    exact T
  obtain ⟨hp, hin, hok⟩ := put_zero h0
  have hks := kids_there hin
  have hnd := kids_nodup hin
  have hlen := putL_length l p ks
  have hth : ∀ x, thereB (putL l p ks) x = thereB l x := fun x => there_len hlen
  have hn : ∀ {k}, thereB l k = true → nd (putL l p ks) k = _ := fun {k} hk => put_nd h0 hp hks hk
  have hp0 := there_pos hp
  have hko : ∀ k ∈ ks, (nd l k).kind ≠ 1 ∧ (nd l k).kind ≠ 3 ∧ k ∉ over l p ∧ ((nd l k).parent = 0 ∨ (nd l k).parent = p) := fun k hk => by
    have := hok k hk
    simp only [kidOk, hasB, Bool.not_eq_true', Bool.or_eq_false_iff, decide_eq_false_iff_not, Bool.and_eq_false_iff] at this
    obtain ⟨⟨⟨a, b⟩, c⟩, d⟩ := this
    refine ⟨a, b, c, ?_⟩
    rcases d with d | d
    · exact .inl (Decidable.not_not.1 d)
    · exact .inr (Decidable.not_not.1 d)
  refine ⟨?_, ?_, ?_, ?_, ?_, ?_, ?_⟩
  · intro i hi k hk
    rw [hth] at hi
    rw [hn hi] at hk
    simp only at hk
    by_cases e : i = p
    · rw [if_pos e] at hk
      refine ⟨by rw [hth]; exact hks k hk, ?_⟩
      rw [hn (hks k hk)]
      simp only
      rw [if_pos hk, e]
    · rw [if_neg e] at hk
      obtain ⟨h1, h2⟩ := T.kid i hi k hk
      refine ⟨by rw [hth]; exact h1, ?_⟩
      rw [hn h1]
      simp only
      have hnk : k ∉ ks := fun hm => by
        rcases (hko k hm).2.2.2 with h | h
        · exact there_pos hi (h2.symm.trans h)
        · exact e (h2.symm.trans h)
      rw [if_neg hnk, if_neg (by rw [h2]; exact e), h2]
  · intro i hi
    rw [hth] at hi
    rw [hn hi]
    simp only
    split
    · exact hnd
    · exact T.once i hi
  · intro i hi h
    rw [hth] at hi
    rw [hn hi] at h ⊢
    simp only at h ⊢
    by_cases hm : i ∈ ks
    · rw [if_pos hm]
      refine ⟨by rw [hth]; exact hp, ?_⟩
      rw [hn hp]
      simp only
      rw [if_pos trivial]
      exact hm
    · rw [if_neg hm] at h ⊢
      by_cases hq : (nd l i).parent = p
      · rw [if_pos hq] at h
        exact absurd rfl h
      · rw [if_neg hq] at h ⊢
        obtain ⟨h1, h2⟩ := T.par i hi h
        refine ⟨by rw [hth]; exact h1, ?_⟩
        rw [hn h1]
        simp only
        rw [if_neg hq]
        exact h2
  · intro i hi h
    rw [hth] at hi
    rw [hn hi] at h ⊢
    simp only at h ⊢
    have hm : i ∉ ks := fun hm => by
      have := hko i hm
      rcases h with h | h
      · exact this.1 h
      · exact this.2.1 h
    rw [if_neg hm]
    split
    · rfl
    · exact T.bare i hi h
  · intro i hi h
    rw [hth] at hi
    rw [hn hi] at h ⊢
    simp only at h ⊢
    obtain ⟨h1, h2, h3⟩ := T.shade i hi h
    refine ⟨by rw [hth]; exact h1, ?_⟩
    rw [hn h1]
    exact ⟨h2, h3⟩
  · intro i hi h
    rw [hth] at hi
    rw [hn hi] at h ⊢
    simp only at h ⊢
    obtain ⟨h1, h2⟩ := T.host i hi h
    exact ⟨h1, by rw [hth]; exact h2⟩
  · have hup : ∀ i, thereB l i = true → upOf (putL l p ks) i = if i ∈ ks then p else if (nd l i).parent = p then (nd l i).host else upOf l i := fun i hi => by
      unfold upOf
      rw [hn hi]
      simp only
      by_cases hm : i ∈ ks
      · rw [if_pos hm, if_pos hm, if_neg hp0]
      · rw [if_neg hm, if_neg hm]
        by_cases hq : (nd l i).parent = p
        · rw [if_pos hq, if_pos hq, if_pos rfl]
        · rw [if_neg hq, if_neg hq]
    refine ends_led hlen T.ends p (fun n x hx => ?_) fun i hi => ?_
    · have hxt := up_there n p x hx
      rw [hup x hxt, if_neg (fun hm => (hko x hm).2.2.1 (up_all T.ends hx))]
      by_cases hq : (nd l x).parent = p
      · exfalso
        have hux : upOf l x = p := by
          unfold upOf
          rw [hq, if_neg hp0]
        have hn1 : p ∈ overN l n (upOf l p) ∨ x = p := by
          cases n with
          | zero => exact absurd hx (by simp [overN])
          | succ n =>
            rw [up_go hp] at hx
            rcases List.mem_cons.1 hx with e | hx
            · exact .inr e
            · refine .inl ?_
              have := up_next n (upOf l p) x hx (by rw [hux]; exact hp)
              rw [hux] at this
              exact this
        rcases hn1 with h | h
        · rcases up_nodup T.ends n p with h' | h'
          · exact h' h
          · rw [hp] at h'; cases h'
        · subst h
          rcases up_nodup T.ends 1 x with h' | h'
          · refine h' ?_
            rw [hux, up_go hp]
            exact List.mem_cons_self
          · rw [hp] at h'; cases h'
      · rw [if_neg hq]
    · rw [hup i hi]
      by_cases hm : i ∈ ks
      · rw [if_pos hm]
        exact .inr (.inl rfl)
      · rw [if_neg hm]
        by_cases hq : (nd l i).parent = p
        · rw [if_pos hq]
          refine .inr (.inr ?_)
          have : (nd l i).host = 0 := by
            by_cases hh : (nd l i).host = 0
            · exact hh
            · have := T.bare i hi (.inr (T.host i hi hh).1)
              exact absurd (this.symm.trans hq) (fun e => hp0 e.symm)
          rw [this]
          exact there_zero l
        · rw [if_neg hq]
          exact .inl rfl
/-- What is neither parent, host, shadow root, kind nor children, is of no matter. -/
theorem tree_like {l l' : List Nd} (T : Tree l) (hlen : l'.length = l.length) (h : ∀ i, thereB l i = true → (nd l' i).kind = (nd l i).kind ∧ (nd l' i).parent = (nd l i).parent ∧ (nd l' i).host = (nd l i).host ∧ (nd l' i).shadow = (nd l i).shadow ∧ (nd l' i).kids = (nd l i).kids) : Tree l' := by
  have hth : ∀ x, thereB l' x = thereB l x := fun x => there_len hlen
  refine ⟨?_, ?_, ?_, ?_, ?_, ?_, ?_⟩
  · intro i hi k hk
    rw [hth] at hi
    rw [(h i hi).2.2.2.2] at hk
    obtain ⟨h1, h2⟩ := T.kid i hi k hk
    exact ⟨by rw [hth]; exact h1, by rw [(h k h1).2.1]; exact h2⟩
  · intro i hi
    rw [hth] at hi
    rw [(h i hi).2.2.2.2]
    exact T.once i hi
  · intro i hi hq
    rw [hth] at hi
    rw [(h i hi).2.1] at hq ⊢
    obtain ⟨h1, h2⟩ := T.par i hi hq
    exact ⟨by rw [hth]; exact h1, by rw [(h _ h1).2.2.2.2]; exact h2⟩
  · intro i hi hq
    rw [hth] at hi
    rw [(h i hi).1] at hq
    rw [(h i hi).2.1]
    exact T.bare i hi hq
  · intro i hi hq
    rw [hth] at hi
    rw [(h i hi).2.2.2.1] at hq ⊢
    obtain ⟨h1, h2, h3⟩ := T.shade i hi hq
    exact ⟨by rw [hth]; exact h1, by rw [(h _ h1).2.2.1]; exact h2, by rw [(h _ h1).1]; exact h3⟩
  · intro i hi hq
    rw [hth] at hi
    rw [(h i hi).2.2.1] at hq ⊢
    rw [(h i hi).1]
    obtain ⟨h1, h2⟩ := T.host i hi hq
    exact ⟨h1, by rw [hth]; exact h2⟩
  · have hup : ∀ i, thereB l i = true → upOf l' i = upOf l i := fun i hi => by
      unfold upOf
      rw [(h i hi).2.1, (h i hi).2.2.1]
    exact ends_led hlen T.ends 0 (fun n x hx => hup x (up_there n 0 x hx)) fun i hi => .inl (hup i hi)
theorem tree_mod {l : List Nd} {id : Int} {f : Nd → Nd} (T : Tree l) (hi : thereB l id = true) (hf : ∀ d, (f d).kind = d.kind ∧ (f d).parent = d.parent ∧ (f d).host = d.host ∧ (f d).shadow = d.shadow ∧ (f d).kids = d.kids) : Tree (modN l id f) :=
  tree_like T (modN_length l id f) fun i hk => by
    rw [nd_mod hi hk]
    by_cases e : i = id
    · rw [if_pos e, e]
      exact hf _
    · rw [if_neg e]
      exact ⟨rfl, rfl, rfl, rfl, rfl⟩
theorem tree_name {l : List Nd} {id : Int} {s : ByteArray} (T : Tree l) : Tree (nameL l id s) := by
  unfold nameL
  split
  · rename_i h
    refine tree_mod T ?_ fun _ => ⟨rfl, rfl, rfl, rfl, rfl⟩
    unfold nameErr at h
    cases ht : thereB l id with
    | true => rfl
    | false => rw [if_pos (.inl ht)] at h; cases h
  · exact T
theorem tree_want {l : List Nd} {id : Int} {s : ByteArray} (T : Tree l) : Tree (wantL l id s) := by
  unfold wantL
  split
  · rename_i h
    refine tree_mod T ?_ fun _ => ⟨rfl, rfl, rfl, rfl, rfl⟩
    unfold wantErr at h
    cases ht : thereB l id with
    | true => rfl
    | false => rw [if_pos (.inl ht)] at h; cases h
  · exact T

theorem tree_tie {l : List Nd} {h r : Int} (T : Tree l) : Tree (tieL l h r) := by
  by_cases h0 : tieErr l h r = 0
  case neg =>
    unfold tieL
    rw [if_neg h0]
    exact T
  have hz : thereB l h = true ∧ thereB l r = true ∧ (nd l h).kind = 2 ∧ (nd l r).kind = 3 ∧ (nd l h).shadow = 0 ∧ (nd l r).host = 0 ∧ r ∉ over l h := by
    unfold tieErr at h0
    split at h0
    · cases h0
    · rename_i h1
      split at h0
      · cases h0
      · rename_i h2
        split at h0
        · cases h0
        · rename_i h3
          split at h0
          · cases h0
          · rename_i h4
            simp only [not_or, Bool.not_eq_false, ne_eq, Decidable.not_not] at h1 h2 h3
            exact ⟨h1.1, h1.2, h2.1, h2.2, h3.1, h3.2, by simpa [hasB] using h4⟩
  obtain ⟨hh, hr, kh, kr, sh, hor, hov⟩ := hz
  have hne : h ≠ r := fun e => by
    rw [e, kr] at kh
    cases kh
  have hlen := tieL_length l h r
  have hth : ∀ x, thereB (tieL l h r) x = thereB l x := fun x => there_len hlen
  have hn : ∀ k, thereB l k = true → nd (tieL l h r) k = { nd l k with shadow := if k = h then r else (nd l k).shadow, host := if k = r then h else (nd l k).host } := fun k hk => by
    unfold tieL
    rw [if_pos h0, nd_mod (by rw [there_mod]; exact hr) (by rw [there_mod]; exact hk)]
    by_cases e : k = r
    · subst e
      have e3 : ¬ k = h := fun e => hne e.symm
      rw [if_pos rfl, nd_mod hh hr, if_neg e3, if_neg e3, if_pos rfl]
    · rw [if_neg e, nd_mod hh hk, if_neg e]
      by_cases e2 : k = h
      · subst e2
        rw [if_pos rfl, if_pos rfl]
      · rw [if_neg e2, if_neg e2]
  have pr : (nd l r).parent = 0 := T.bare r hr (.inr kr)
  refine ⟨?_, ?_, ?_, ?_, ?_, ?_, ?_⟩
  · intro i hi k hk
    rw [hth] at hi
    rw [hn i hi] at hk
    obtain ⟨h1, h2⟩ := T.kid i hi k hk
    exact ⟨by rw [hth]; exact h1, by rw [hn k h1]; exact h2⟩
  · intro i hi
    rw [hth] at hi
    rw [hn i hi]
    exact T.once i hi
  · intro i hi hq
    rw [hth] at hi
    rw [hn i hi] at hq ⊢
    obtain ⟨h1, h2⟩ := T.par i hi hq
    exact ⟨by rw [hth]; exact h1, by rw [hn _ h1]; exact h2⟩
  · intro i hi hq
    rw [hth] at hi
    rw [hn i hi] at hq ⊢
    exact T.bare i hi hq
  · intro i hi hq
    rw [hth] at hi
    rw [hn i hi] at hq ⊢
    simp only at hq ⊢
    by_cases e : i = h
    · rw [if_pos e]
      refine ⟨by rw [hth]; exact hr, ?_⟩
      rw [hn r hr]
      simp only
      exact ⟨by rw [if_pos trivial, e], kr⟩
    · rw [if_neg e] at hq ⊢
      obtain ⟨h1, h2, h3⟩ := T.shade i hi hq
      refine ⟨by rw [hth]; exact h1, ?_⟩
      rw [hn _ h1]
      simp only
      have hne2 : (nd l i).shadow ≠ r := fun e2 => by
        rw [e2, hor] at h2
        exact there_pos hi h2.symm
      exact ⟨by rw [if_neg hne2]; exact h2, h3⟩
  · intro i hi hq
    rw [hth] at hi
    rw [hn i hi] at hq ⊢
    simp only at hq ⊢
    by_cases e : i = r
    · rw [if_pos e]
      exact ⟨by rw [e]; exact kr, by rw [hth]; exact hh⟩
    · rw [if_neg e] at hq ⊢
      obtain ⟨h1, h2⟩ := T.host i hi hq
      exact ⟨h1, by rw [hth]; exact h2⟩
  · have hup : ∀ i, thereB l i = true → upOf (tieL l h r) i = if i = r then h else upOf l i := fun i hi => by
      unfold upOf
      rw [hn i hi]
      simp only
      by_cases e : i = r
      · rw [if_pos e, if_pos e, e, pr, if_pos rfl]
      · rw [if_neg e, if_neg e]
    refine ends_led hlen T.ends h (fun n x hx => ?_) fun i hi => ?_
    · rw [hup x (up_there n h x hx), if_neg]
      rintro rfl
      exact hov (up_all T.ends hx)
    · rw [hup i hi]
      by_cases e : i = r
      · rw [if_pos e]
        exact .inr (.inl rfl)
      · rw [if_neg e]
        exact .inl rfl

theorem tree_make {l : List Nd} {d : Nd} (T : Tree l) : Tree (mkL l d) := by
  unfold mkL
  split
  case isFalse => exact T
  have ht : ∀ i, thereB (l ++ [bare d]) i = true → (thereB l i = true ∧ nd (l ++ [bare d]) i = nd l i) ∨ (thereB l i = false ∧ nd (l ++ [bare d]) i = bare d) := fun i hi => by
    have h1 := thereB_iff.1 hi
    rw [List.length_append] at h1
    simp only [List.length_cons, List.length_nil] at h1
    by_cases h2 : i ≤ (l.length : Int)
    · have : thereB l i = true := thereB_iff.2 ⟨h1.1, h2⟩
      refine .inl ⟨this, ?_⟩
      rw [nd, nd, List.getD_eq_getElem?_getD, List.getD_eq_getElem?_getD, List.getElem?_append_left (there_lt this)]
    · refine .inr ⟨?_, ?_⟩
      · cases h : thereB l i with
        | false => rfl
        | true => exact absurd (thereB_iff.1 h).2 h2
      · rw [nd, List.getD_eq_getElem?_getD, List.getElem?_append_right (by omega), show (i - 1).toNat - l.length = 0 by omega]
        rfl
  have hb : ∀ i, thereB l i = true → thereB (l ++ [bare d]) i = true ∧ nd (l ++ [bare d]) i = nd l i := fun i hi => by
    have h1 := thereB_iff.1 hi
    have h2 : thereB (l ++ [bare d]) i = true := thereB_iff.2 ⟨h1.1, by simp; omega⟩
    rcases ht i h2 with h | h
    · exact ⟨h2, h.2⟩
    · rw [hi] at h; exact absurd h.1 (by decide)
  refine ⟨?_, ?_, ?_, ?_, ?_, ?_, ?_⟩
  · intro i hi k hk
    rcases ht i hi with ⟨h1, h2⟩ | ⟨_, h2⟩
    · rw [h2] at hk
      obtain ⟨h3, h4⟩ := T.kid i h1 k hk
      exact ⟨(hb k h3).1, by rw [(hb k h3).2]; exact h4⟩
    · rw [h2] at hk
      exact absurd hk (by simp [bare])
  · intro i hi
    rcases ht i hi with ⟨h1, h2⟩ | ⟨_, h2⟩
    · rw [h2]; exact T.once i h1
    · rw [h2]; exact List.nodup_nil
  · intro i hi hq
    rcases ht i hi with ⟨h1, h2⟩ | ⟨_, h2⟩
    · rw [h2] at hq ⊢
      obtain ⟨h3, h4⟩ := T.par i h1 hq
      exact ⟨(hb _ h3).1, by rw [(hb _ h3).2]; exact h4⟩
    · rw [h2] at hq
      exact absurd rfl hq
  · intro i hi hq
    rcases ht i hi with ⟨h1, h2⟩ | ⟨_, h2⟩
    · rw [h2] at hq ⊢; exact T.bare i h1 hq
    · rw [h2]; rfl
  · intro i hi hq
    rcases ht i hi with ⟨h1, h2⟩ | ⟨_, h2⟩
    · rw [h2] at hq ⊢
      obtain ⟨h3, h4, h5⟩ := T.shade i h1 hq
      exact ⟨(hb _ h3).1, by rw [(hb _ h3).2]; exact h4, by rw [(hb _ h3).2]; exact h5⟩
    · rw [h2] at hq
      exact absurd rfl hq
  · intro i hi hq
    rcases ht i hi with ⟨h1, h2⟩ | ⟨_, h2⟩
    · rw [h2] at hq ⊢
      obtain ⟨h3, h4⟩ := T.host i h1 hq
      exact ⟨h3, (hb _ h4).1⟩
    · rw [h2] at hq
      exact absurd rfl hq
  · have hup : ∀ i, thereB l i = true → upOf (l ++ [bare d]) i = upOf l i := fun i hi => by
      unfold upOf
      rw [(hb i hi).2]
    have hto : ∀ i, thereB l i = true → upOf l i = 0 ∨ thereB l (upOf l i) = true := fun i hi => by
      unfold upOf
      by_cases h1 : (nd l i).parent = 0
      · rw [if_pos h1]
        by_cases h2 : (nd l i).host = 0
        · exact .inl h2
        · exact .inr (T.host i hi h2).2
      · rw [if_neg h1]
        exact .inr (T.par i hi h1).1
    have old : ∀ (n : Nat) (i : Int), thereB l i = true → overN (l ++ [bare d]) n i = overN l n i := by
      intro n
      induction n with
      | zero => intro i _; rfl
      | succ n ih =>
        intro i hi
        rw [up_go hi, up_go (hb i hi).1, hup i hi]
        rcases hto i hi with h | h
        · rw [h, up_no (there_zero l), up_no (there_zero _)]
        · rw [ih _ h]
    intro i
    cases hi : thereB (l ++ [bare d]) i with
    | false => exact ends_no hi
    | true =>
      rcases ht i hi with ⟨h1, _⟩ | ⟨_, h2⟩
      · obtain ⟨n, hn⟩ := T.ends i
        exact ⟨n, by rw [old n i h1]; exact hn⟩
      · refine ends_up (ends_no ?_)
        have : upOf (l ++ [bare d]) i = 0 := by
          unfold upOf
          rw [h2]
          rfl
        rw [this]
        exact there_zero _

theorem tree_nil : Tree [] := by
  have h : ∀ i, thereB [] i = false := fun i => by
    cases h : thereB [] i with
    | false => rfl
    | true =>
      have := thereB_iff.1 h
      simp at this
      omega
  refine ⟨?_, ?_, ?_, ?_, ?_, ?_, fun i => ends_no (h i)⟩
  all_goals (intro i hi; rw [h i] at hi; cases hi)
theorem tree_act {l : List Nd} {x : Ac} (T : Tree l) : Tree (actL l x) := by
  unfold actL
  split
  · exact tree_make T
  · split
    · exact tree_put T
    · split
      · exact tree_tie T
      · split
        · exact tree_name T
        · split
          · exact tree_want T
          · exact T
/-- Whatever is called, it is a forest. -/
theorem tree_forest (acts : List Ac) : Tree (forest acts) := by
  have : ∀ (acts : List Ac) (l : List Nd), Tree l → Tree (acts.foldl actL l) := by
    intro acts
    induction acts with
    | nil => intro l T; exact T
    | cons x r ih => intro l T; exact ih _ (tree_act T)
  exact this acts [] tree_nil
end Go.Proofs.Ytekmgaigppenlaa

namespace Go.Proofs.Ytekmgaigppenlaa
open Go

section
variable {P : Program} {ops : Array Oper} {Q : Exit → Act → World → Prop} {pin : List Nat}

/-- May the operations come up in this order, each pinned one alone? -/
def ordOk (md : Region.Mode) (ops : Array Oper) (pin : List Nat) : List Nat → Array Bool → Bool
  | [], listed => Region.ready md ops listed == []
  | i :: r, listed => (if pin.contains i then Region.ready md ops listed == [i] else (Region.free md ops listed i && (Region.ready md ops listed).contains i)) && (ops[i]?).isSome && ordOk md ops pin r (listed.setIfInBounds i true)

/-- The operations in that order. -/
def picked (l : List Oper) : List Nat → List (Nat × Oper)
  | [] => []
  | i :: r => match l[i]? with
    | some o => (i, o) :: picked l r
    | none => picked l r

def wpOrd (P : Program) (ops : Array Oper) (Q : Exit → Act → World → Prop) (pin : List Nat) : (World → Prop) → List (Nat × Oper) → Act → World → Prop
  | _, [], a, w => Q .normal a w
  | S, (i, o) :: r, a, w => ∃ S' : World → Prop, (∀ w, S' w → S w) ∧
      if pin.contains i = true then wpOp P ops Q i (fun a' w' => S' w' ∧ wpOrd P ops Q pin S' r a' w') a w
      else ∃ v, YieldsIf P ops S' o v a ∧ S' w ∧ wpOrd P ops Q pin S' r (a.put o.dst v) w

theorem wpAnyH_wide {md : Region.Mode} {S S' : World → Prop} (hS : ∀ w, S' w → S w) : ∀ (fuel : Nat) (listed : Array Bool) (a : Act) (w : World), wpAnyH P md ops Q S' fuel listed a w → wpAnyH P md ops Q S fuel listed a w
  | 0, _, _, _, h => h
  | fuel + 1, _, _, _, h => ⟨h.1, fun i hi => wpOp_mono (fun a' w' h' => ⟨hS _ h'.1, wpAnyH_wide hS fuel _ a' w' h'.2⟩) (h.2 i hi)⟩

theorem wpAnyH_of_ord {md : Region.Mode} (hs : Region.noSelect ops = true) (hQ : ∀ c a d v w, Q (.panic c) (Act.put a d v) w → Q (.panic c) a w) :
    ∀ (l : List Nat) (S : World → Prop) (fuel : Nat) (listed : Array Bool) (a : Act) (w : World), l.length ≤ fuel → ordOk md ops pin l listed = true → wpOrd P ops Q pin S (picked ops.toList l) a w → wpAnyH P md ops Q S fuel listed a w
  | [], S, fuel, listed, a, w, _, hk, h => wpAnyH_done (by simpa [ordOk] using hk) h fuel
  | i :: r, _, 0, _, _, _, hl, _, _ => by simp at hl
  | i :: r, S, fuel + 1, listed, a, w, hl, hk, h => by
    simp only [ordOk, Bool.and_eq_true] at hk
    obtain ⟨⟨hk1, hk3⟩, hk2⟩ := hk
    obtain ⟨o, ho⟩ := Option.isSome_iff_exists.1 hk3
    have ho' : ops.toList[i]? = some o := by simpa using ho
    simp only [picked, ho', wpOrd] at h
    obtain ⟨S', hSS, h⟩ := h
    refine wpAnyH_wide hSS _ _ _ _ ?_
    have hl' : r.length ≤ fuel := by simpa using hl
    by_cases hp : pin.contains i = true
    · rw [if_pos hp] at h hk1
      have hr : Region.ready md ops listed = [i] := by simpa using hk1
      refine wpAnyH_all hr (by simp) fun j hj => ?_
      have : j = i := by simpa using hj
      subst this
      exact wpOp_mono (fun a' w' h' => ⟨h'.1, wpAnyH_of_ord hs hQ r _ fuel _ a' w' hl' hk2 h'.2⟩) h
    · rw [if_neg hp] at h hk1
      obtain ⟨v, hy, hS, h⟩ := h
      simp only [Bool.and_eq_true] at hk1
      exact wpAnyH_take ho hs hk1.1 hk1.2 (fun c a w => hQ c a _ v w) hy hS (wpAnyH_of_ord hs hQ r _ fuel _ _ _ hl' hk2 h)

/-- The beginning. -/
theorem wp_region_ord {S : World → Prop} {ol : List Oper} {id : Nat} {a : Act} {w : World} {l : List Nat} (hm : P.follows .mixedOrders = true) (hs : Region.noSelect ol.toArray = true) (hl : (l.length == ol.length) = true)
    (hk : ordOk .any ol.toArray pin l (Array.replicate ol.length false) = true) (hS : S w.drew)
    (h : S w.drew → wpOrd P ol.toArray (NoPanic Q) pin S (picked ol l) a w.drew) : (Code.region id ol.toArray true).wp P Q a w :=
  wp_region_noPanic (wp_region_held hm (wpAnyH_of_ord hs (fun _ _ _ _ _ h => h) l S ol.toArray.size _ a _ (by
    have : l.length = ol.length := by simpa using hl
    simp; omega) (by simpa using hk) (h hS)))

variable {i : Nat} {r : List (Nat × Oper)} {o : Oper} {a : Act} {w : World} {v : Value} {S : World → Prop}
/-- From here on S' holds. -/
theorem ord_tight (S' : World → Prop) (hS : ∀ w, S' w → S w) (hw : S' w) (h : S' w → wpOrd P ops Q pin S' r a w) : wpOrd P ops Q pin S r a w := by
  match r, h hw with
  | [], h => exact h
  | (_, _) :: _, ⟨S'', h1, h2⟩ => exact ⟨S'', fun w hw => hS w (h1 w hw), h2⟩
theorem ord_skip (hp : pin.contains i = false) (hw : Region.wanted o (yielded ops a.tmps) = false) (hS : S w) (h : wpOrd P ops Q pin S r (a.put o.dst undef) w) : wpOrd P ops Q pin S ((i, o) :: r) a w := by
  unfold wpOrd
  refine ⟨S, fun _ h => h, ?_⟩
  rw [if_neg (by rw [hp]; decide)]
  exact ⟨undef, .inr ⟨hw, rfl⟩, hS, h⟩
theorem ord_take (hp : pin.contains i = false) (hw : Region.wanted o (yielded ops a.tmps) = true) (hy : ∀ w, S w → (execOp a.eval o).run P w = .ok (.value v) w) (hS : S w)
    (h : wpOrd P ops Q pin S r (a.put o.dst v) w) : wpOrd P ops Q pin S ((i, o) :: r) a w := by
  unfold wpOrd
  refine ⟨S, fun _ h => h, ?_⟩
  rw [if_neg (by rw [hp]; decide)]
  exact ⟨v, .inl ⟨hw, hy⟩, hS, h⟩
theorem ord_run (hp : pin.contains i = true) (ho : ops[i]? = some o) (hw : Region.wanted o (yielded ops a.tmps) = true)
    (h : ∀ K' : Act → World → Prop, Shut (∀ a w, S w → (S w → wpOrd P ops Q pin S r a w) → K' a w) → Oper.wp P o a w K' Q) : wpOrd P ops Q pin S ((i, o) :: r) a w := by
  unfold wpOrd
  refine ⟨S, fun _ h => h, ?_⟩
  rw [if_pos hp]
  exact wpOp_step ho fun K' hK => by rw [if_pos hw]; exact h K' fun a w hS hW => hK a w ⟨hS, hW hS⟩
theorem ord_pass (hp : pin.contains i = true) (ho : ops[i]? = some o) (hw : Region.wanted o (yielded ops a.tmps) = false) (hS : S w) (h : wpOrd P ops Q pin S r (a.put o.dst undef) w) : wpOrd P ops Q pin S ((i, o) :: r) a w := by
  unfold wpOrd
  refine ⟨S, fun _ h => h, ?_⟩
  rw [if_pos hp]
  exact wpOp_step ho fun K' hK => by rw [if_neg (by rw [hw]; decide)]; exact hK _ _ ⟨hS, h⟩
theorem ord_done (h : Q .normal a w) : wpOrd P ops (NoPanic Q) pin S [] a w := h
end
end Go.Proofs.Ytekmgaigppenlaa

namespace Go.Proofs.Ytekmgaigppenlaa
open Go

section
variable {P : Program} {ops : Array Oper} {Q : Exit → Act → World → Prop} {md : Region.Mode} {late pin : List Nat}

/-- Does each late operation wait for i? -/
def waits (md : Region.Mode) (ops : Array Oper) (late : List Nat) (i : Nat) : Bool :=
  late.all fun z => match ops[z]? with
    | some o => o.after.any fun e => Region.binds md e && e.on == i
    | none => true

/-- Whatever order is picked; S holds behind every operation that is not late. -/
def wpAnyZ (P : Program) (md : Region.Mode) (ops : Array Oper) (Q : Exit → Act → World → Prop) (late : List Nat) (S : World → Prop) : Nat → Array Bool → Act → World → Prop
  | 0, listed, a, w => Region.ready md ops listed = [] ∧ Q .normal a w
  | n + 1, listed, a, w => (Region.ready md ops listed = [] → Q .normal a w) ∧
      ∀ i ∈ Region.ready md ops listed, wpOp P ops Q i (fun a' w' => (late.contains i = false → S w') ∧ wpAnyZ P md ops Q late S n (listed.setIfInBounds i true) a' w') a w

theorem wpAny_of_Z {S : World → Prop} : ∀ (n : Nat) (listed : Array Bool) (a : Act) (w : World), wpAnyZ P md ops Q late S n listed a w → wpAny P md ops Q n listed a w
  | 0, _, _, _, h => h
  | n + 1, _, _, _, h => ⟨h.1, fun i hi => wpOp_mono (fun a' w' h' => wpAny_of_Z n _ a' w' h'.2) (h.2 i hi)⟩

theorem wpAnyZ_wide {S S' : World → Prop} (hS : ∀ w, S' w → S w) : ∀ (n : Nat) (listed : Array Bool) (a : Act) (w : World), wpAnyZ P md ops Q late S' n listed a w → wpAnyZ P md ops Q late S n listed a w
  | 0, _, _, _, h => h
  | n + 1, _, _, _, h => ⟨h.1, fun i hi => wpOp_mono (fun a' w' h' => ⟨fun hl => hS _ (h'.1 hl), wpAnyZ_wide hS n _ a' w' h'.2⟩) (h.2 i hi)⟩

theorem wpAnyZ_done {S : World → Prop} {listed : Array Bool} {a : Act} {w : World} (hr : Region.ready md ops listed = []) (h : Q .normal a w) : ∀ n, wpAnyZ P md ops Q late S n listed a w
  | 0 => ⟨hr, h⟩
  | _ + 1 => ⟨fun _ => h, fun _ hi => absurd (hr ▸ hi) (List.not_mem_nil)⟩

/-- What is not listed is waited for. -/
theorem not_waiting {listed : Array Bool} {i : Nat} {oj : Oper} (hi : listed.getD i true = false) (hall : ∀ e ∈ oj.after, Region.binds md e = true → listed.getD e.on false = true) : ∀ e ∈ oj.after, Region.binds md e = true → e.on ≠ i := by
  rintro e he hb rfl
  have h := hall e he hb
  simp only [Array.getD] at hi h
  split at hi
  · rename_i hlt
    rw [dif_pos hlt] at h
    exact absurd (h.symm.trans hi) (by decide)
  · cases hi

theorem not_late {i j : Nat} {oj : Oper} (hw : waits md ops late i = true) (hj : ops[j]? = some oj) (hno : ∀ e ∈ oj.after, Region.binds md e = true → e.on ≠ i) : late.contains j = false := by
  cases hl : late.contains j with
  | false => rfl
  | true =>
    have h := List.all_eq_true.1 hw j (List.contains_iff_mem.1 hl)
    rw [hj] at h
    obtain ⟨e, he, hb⟩ := Array.any_eq_true'.1 h
    simp only [Bool.and_eq_true, beq_iff_eq] at hb
    exact absurd hb.2 (hno e he hb.1)

/-- Operation i may be taken first: it yields v in every world that meets S, and whoever could come ahead of it leaves S standing. -/
theorem wpAnyZ_take {S : World → Prop} {i : Nat} {oi : Oper} {v : Value} (hi : ops[i]? = some oi) (hs : Region.noSelect ops = true) (hw : waits md ops late i = true)
    (hQ : ∀ c a w, Q (.panic c) (Act.put a oi.dst v) w → Q (.panic c) a w) :
    ∀ (n : Nat) (listed : Array Bool) (a : Act) (w : World), Region.free md ops listed i = true → i ∈ Region.ready md ops listed → YieldsIf P ops S oi v a → S w →
      wpAnyZ P md ops Q late S n (listed.setIfInBounds i true) (a.put oi.dst v) w → wpAnyZ P md ops Q late S (n + 1) listed a w := by
  intro n
  induction n with
  | zero =>
    intro listed a w _ hr hy hS H
    refine ⟨fun h => absurd (h ▸ hr) List.not_mem_nil, fun j hj => ?_⟩
    by_cases hji : j = i
    · subst hji
      exact hy.wpOp hi hS ⟨fun _ => hS, H⟩
    · exact absurd (H.1 ▸ ready_mono hj hji) List.not_mem_nil
  | succ n ih =>
    intro listed a w hf hr hy hS H
    refine ⟨fun h => absurd (h ▸ hr) List.not_mem_nil, fun j hj => ?_⟩
    by_cases hji : j = i
    · subst hji
      exact hy.wpOp hi hS ⟨fun _ => hS, H⟩
    · obtain ⟨hun, oj, hoj, hall⟩ := mem_ready.1 hj
      have hno := not_waiting (mem_ready.1 hr).1 hall
      have hnl := not_late hw hoj hno
      have step := wpOp_putIf hoj (Region.free_spec hi hf j oj hoj hji hun hno) (fun cs b => Region.noSelect_spec hs i oi cs b hi) (fun cs b => Region.noSelect_spec hs j oj cs b hoj) hQ hy (H.2 j (ready_mono hj hji))
      have hf' : Region.free md ops (listed.setIfInBounds j true) i = true := by
        simp only [Region.free, hi, List.all_eq_true, List.mem_range] at hf ⊢
        intro k hk
        have := hf k hk
        by_cases hjk : j = k
        · subst hjk
          have hlt : j < listed.size := by
            rcases Nat.lt_or_ge j listed.size with h | h
            · exact h
            · simp [Array.getD, Nat.not_lt.2 h] at hun
          simp [Array.getD, hlt]
        · rw [getD_set_ne true hjk]
          exact this
      refine wpOp_mono (fun a' w' h' => ⟨fun _ => h'.2.1 hnl, ih _ a' w' hf' (ready_mono hr (Ne.symm hji)) h'.1 (h'.2.1 hnl) ?_⟩) step
      rw [Array.setIfInBounds_comm _ _ hji]
      exact h'.2.2

/-- May the operations come up in this order, each pinned one alone, each late one behind what was taken first? -/
def lateOk (md : Region.Mode) (ops : Array Oper) (late pin : List Nat) : List Nat → Array Bool → Bool
  | [], listed => Region.ready md ops listed == []
  | i :: r, listed => (if pin.contains i then Region.ready md ops listed == [i] else (Region.free md ops listed i && (Region.ready md ops listed).contains i && waits md ops late i)) && (ops[i]?).isSome && lateOk md ops late pin r (listed.setIfInBounds i true)

def wpLate (P : Program) (ops : Array Oper) (Q : Exit → Act → World → Prop) (late pin : List Nat) : (World → Prop) → List (Nat × Oper) → Act → World → Prop
  | _, [], a, w => Q .normal a w
  | S, (i, o) :: r, a, w => ∃ S' : World → Prop, (∀ w, S' w → S w) ∧
      if pin.contains i = true then wpOp P ops Q i (fun a' w' => (late.contains i = false → S' w') ∧ wpLate P ops Q late pin S' r a' w') a w
      else ∃ v, YieldsIf P ops S' o v a ∧ S' w ∧ wpLate P ops Q late pin S' r (a.put o.dst v) w

theorem wpAnyZ_of_late (hs : Region.noSelect ops = true) (hQ : ∀ c a d v w, Q (.panic c) (Act.put a d v) w → Q (.panic c) a w) :
    ∀ (l : List Nat) (S : World → Prop) (n : Nat) (listed : Array Bool) (a : Act) (w : World), l.length ≤ n → lateOk md ops late pin l listed = true → wpLate P ops Q late pin S (picked ops.toList l) a w → wpAnyZ P md ops Q late S n listed a w
  | [], S, n, listed, a, w, _, hk, h => wpAnyZ_done (by simpa [lateOk] using hk) h n
  | i :: r, _, 0, _, _, _, hl, _, _ => by simp at hl
  | i :: r, S, n + 1, listed, a, w, hl, hk, h => by
    simp only [lateOk, Bool.and_eq_true] at hk
    obtain ⟨⟨hk1, hk3⟩, hk2⟩ := hk
    obtain ⟨o, ho⟩ := Option.isSome_iff_exists.1 hk3
    have ho' : ops.toList[i]? = some o := by simpa using ho
    simp only [picked, ho', wpLate] at h
    obtain ⟨S', hSS, h⟩ := h
    refine wpAnyZ_wide hSS _ _ _ _ ?_
    have hl' : r.length ≤ n := by simpa using hl
    by_cases hp : pin.contains i = true
    · rw [if_pos hp] at h hk1
      have hr : Region.ready md ops listed = [i] := by simpa using hk1
      refine ⟨fun h0 => absurd (h0.symm.trans hr) (by simp), fun j hj => ?_⟩
      rw [hr] at hj
      obtain rfl := List.mem_singleton.1 hj
      exact wpOp_mono (fun a' w' h' => ⟨h'.1, wpAnyZ_of_late hs hQ r _ n _ a' w' hl' hk2 h'.2⟩) h
    · rw [if_neg hp] at h hk1
      obtain ⟨v, hy, hS, h⟩ := h
      simp only [Bool.and_eq_true] at hk1
      exact wpAnyZ_take ho hs hk1.2 (fun c a w => hQ c a _ v w) n listed a w hk1.1.1 (by simpa using hk1.1.2) hy hS (wpAnyZ_of_late hs hQ r _ n _ _ _ hl' hk2 h)

/-- The beginning. -/
theorem wp_region_late {S : World → Prop} {ol : List Oper} {id : Nat} {a : Act} {w : World} {l : List Nat} (hm : P.follows .mixedOrders = true) (hs : Region.noSelect ol.toArray = true) (hl : (l.length == ol.length) = true)
    (hk : lateOk .any ol.toArray late pin l (Array.replicate ol.length false) = true) (hS : S w.drew)
    (h : S w.drew → wpLate P ol.toArray (NoPanic Q) late pin S (picked ol l) a w.drew) : (Code.region id ol.toArray true).wp P Q a w :=
  wp_region_noPanic (wp_region_any hm (wpAny_of_Z _ _ _ _ (wpAnyZ_of_late hs (fun _ _ _ _ _ h => h) l S ol.toArray.size _ a _ (by
    have : l.length = ol.length := by simpa using hl
    simp; omega) (by simpa using hk) (h hS))))

variable {i : Nat} {r : List (Nat × Oper)} {o : Oper} {a : Act} {w : World} {v : Value} {S : World → Prop}
theorem late_tight (S' : World → Prop) (hS : ∀ w, S' w → S w) (hw : S' w) (h : S' w → wpLate P ops Q late pin S' r a w) : wpLate P ops Q late pin S r a w := by
  match r, h hw with
  | [], h => exact h
  | (_, _) :: _, ⟨S'', h1, h2⟩ => exact ⟨S'', fun w hw => hS w (h1 w hw), h2⟩
theorem late_skip (hp : pin.contains i = false) (hw : Region.wanted o (yielded ops a.tmps) = false) (hS : S w) (h : wpLate P ops Q late pin S r (a.put o.dst undef) w) : wpLate P ops Q late pin S ((i, o) :: r) a w := by
  unfold wpLate
  refine ⟨S, fun _ h => h, ?_⟩
  rw [if_neg (by rw [hp]; decide)]
  exact ⟨undef, .inr ⟨hw, rfl⟩, hS, h⟩
theorem late_take (hp : pin.contains i = false) (hw : Region.wanted o (yielded ops a.tmps) = true) (hy : ∀ w, S w → (execOp a.eval o).run P w = .ok (.value v) w) (hS : S w)
    (h : wpLate P ops Q late pin S r (a.put o.dst v) w) : wpLate P ops Q late pin S ((i, o) :: r) a w := by
  unfold wpLate
  refine ⟨S, fun _ h => h, ?_⟩
  rw [if_neg (by rw [hp]; decide)]
  exact ⟨v, .inl ⟨hw, hy⟩, hS, h⟩
/-- A pinned operation that is not late. -/
theorem late_run (hp : pin.contains i = true) (ho : ops[i]? = some o) (hw : Region.wanted o (yielded ops a.tmps) = true)
    (h : ∀ K' : Act → World → Prop, Shut (∀ a w, S w → (S w → wpLate P ops Q late pin S r a w) → K' a w) → Oper.wp P o a w K' Q) : wpLate P ops Q late pin S ((i, o) :: r) a w := by
  unfold wpLate
  refine ⟨S, fun _ h => h, ?_⟩
  rw [if_pos hp]
  exact wpOp_step ho fun K' hK => by rw [if_pos hw]; exact h K' fun a w hS hW => hK a w ⟨fun _ => hS, hW hS⟩
theorem late_pass (hp : pin.contains i = true) (ho : ops[i]? = some o) (hw : Region.wanted o (yielded ops a.tmps) = false) (hS : S w) (h : wpLate P ops Q late pin S r (a.put o.dst undef) w) : wpLate P ops Q late pin S ((i, o) :: r) a w := by
  unfold wpLate
  refine ⟨S, fun _ h => h, ?_⟩
  rw [if_pos hp]
  exact wpOp_step ho fun K' hK => by rw [if_neg (by rw [hw]; decide)]; exact hK _ _ ⟨fun _ => hS, h⟩
/-- A late one. -/
theorem late_last (hp : pin.contains i = true) (hl : late.contains i = true) (ho : ops[i]? = some o) (hw : Region.wanted o (yielded ops a.tmps) = true)
    (h : ∀ K' : Act → World → Prop, Shut (∀ a w, wpLate P ops Q late pin S r a w → K' a w) → Oper.wp P o a w K' Q) : wpLate P ops Q late pin S ((i, o) :: r) a w := by
  unfold wpLate
  refine ⟨S, fun _ h => h, ?_⟩
  rw [if_pos hp]
  exact wpOp_step ho fun K' hK => by rw [if_pos hw]; exact h K' fun a w hW => hK a w ⟨fun hf => absurd (hl.symm.trans hf) (by decide), hW⟩
theorem late_done (h : Q .normal a w) : wpLate P ops (NoPanic Q) late pin S [] a w := h
end
end Go.Proofs.Ytekmgaigppenlaa

namespace Go.Proofs.Ytekmgaigppenlaa
open Go

/-- A way through a region: take i first; i comes up alone; i or j comes up. -/
inductive Way where
  | fin : Way
  | take : Nat → Way → Way
  | run : Nat → Way → Way
  | fork : Nat → Way → Nat → Way → Way
def Way.takes : List Nat → Way → Way
  | [], p => p
  | i :: r, p => .take i (Way.takes r p)
def Way.length : Way → Nat
  | .fin => 0
  | .take _ p => p.length + 1
  | .run _ p => p.length + 1
  | .fork _ p _ q => max p.length q.length + 1

section
variable {P : Program} {ops : Array Oper} {Q : Exit → Act → World → Prop} {md : Region.Mode} {late : List Nat}

def wayOk (md : Region.Mode) (ops : Array Oper) (late : List Nat) : Way → Array Bool → Bool
  | .fin, listed => Region.ready md ops listed == []
  | .take i p, listed => Region.free md ops listed i && (Region.ready md ops listed).contains i && waits md ops late i && wayOk md ops late p (listed.setIfInBounds i true)
  | .run i p, listed => Region.ready md ops listed == [i] && wayOk md ops late p (listed.setIfInBounds i true)
  | .fork i p j q, listed => Region.ready md ops listed == [i, j] && wayOk md ops late p (listed.setIfInBounds i true) && wayOk md ops late q (listed.setIfInBounds j true)

def wpWay (P : Program) (ops : Array Oper) (Q : Exit → Act → World → Prop) (late : List Nat) : (World → Prop) → Way → Act → World → Prop
  | _, .fin, a, w => Q .normal a w
  | S, .take i p, a, w => ∃ S' : World → Prop, (∀ w, S' w → S w) ∧ ∃ o, ops[i]? = some o ∧ ∃ v, YieldsIf P ops S' o v a ∧ S' w ∧ wpWay P ops Q late S' p (a.put o.dst v) w
  | S, .run i p, a, w => ∃ S' : World → Prop, (∀ w, S' w → S w) ∧ wpOp P ops Q i (fun a' w' => (late.contains i = false → S' w') ∧ wpWay P ops Q late S' p a' w') a w
  | S, .fork i p j q, a, w => (∃ S' : World → Prop, (∀ w, S' w → S w) ∧ wpOp P ops Q i (fun a' w' => (late.contains i = false → S' w') ∧ wpWay P ops Q late S' p a' w') a w) ∧
      ∃ S' : World → Prop, (∀ w, S' w → S w) ∧ wpOp P ops Q j (fun a' w' => (late.contains j = false → S' w') ∧ wpWay P ops Q late S' q a' w') a w

theorem wpAnyZ_of_way (hs : Region.noSelect ops = true) (hQ : ∀ c a d v w, Q (.panic c) (Act.put a d v) w → Q (.panic c) a w) :
    ∀ (y : Way) (S : World → Prop) (n : Nat) (listed : Array Bool) (a : Act) (w : World), y.length ≤ n → wayOk md ops late y listed = true → wpWay P ops Q late S y a w → wpAnyZ P md ops Q late S n listed a w
  | .fin, S, n, listed, a, w, _, hk, h => wpAnyZ_done (by simpa [wayOk] using hk) h n
  | .take _ _, _, 0, _, _, _, hl, _, _ => by simp [Way.length] at hl
  | .run _ _, _, 0, _, _, _, hl, _, _ => by simp [Way.length] at hl
  | .fork _ _ _ _, _, 0, _, _, _, hl, _, _ => by simp [Way.length] at hl
  | .take i p, S, n + 1, listed, a, w, hl, hk, h => by
    simp only [wayOk, Bool.and_eq_true] at hk
    obtain ⟨⟨⟨k1, k2⟩, k3⟩, k4⟩ := hk
    obtain ⟨S', hSS, o, ho, v, hy, hS, h⟩ := h
    refine wpAnyZ_wide hSS _ _ _ _ ?_
    exact wpAnyZ_take ho hs k3 (fun c a w => hQ c a _ v w) n listed a w k1 (by simpa using k2) hy hS (wpAnyZ_of_way hs hQ p _ n _ _ _ (by simpa [Way.length] using hl) k4 h)
  | .run i p, S, n + 1, listed, a, w, hl, hk, h => by
    simp only [wayOk, Bool.and_eq_true] at hk
    obtain ⟨k1, k2⟩ := hk
    obtain ⟨S', hSS, h⟩ := h
    refine wpAnyZ_wide hSS _ _ _ _ ?_
    have hr : Region.ready md ops listed = [i] := by simpa using k1
    refine ⟨fun h0 => absurd (h0.symm.trans hr) (by simp), fun j hj => ?_⟩
    rw [hr] at hj
    obtain rfl := List.mem_singleton.1 hj
    exact wpOp_mono (fun a' w' h' => ⟨h'.1, wpAnyZ_of_way hs hQ p _ n _ a' w' (by simpa [Way.length] using hl) k2 h'.2⟩) h
  | .fork i p j q, S, n + 1, listed, a, w, hl, hk, h => by
    simp only [wayOk, Bool.and_eq_true] at hk
    obtain ⟨⟨k1, k2⟩, k3⟩ := hk
    obtain ⟨⟨S1, hS1, h1⟩, S2, hS2, h2⟩ := h
    have hl1 : p.length ≤ n := by simp [Way.length] at hl; omega
    have hl2 : q.length ≤ n := by simp [Way.length] at hl; omega
    have hr : Region.ready md ops listed = [i, j] := by simpa using k1
    refine ⟨fun h0 => absurd (h0.symm.trans hr) (by simp), fun x hx => ?_⟩
    rw [hr] at hx
    rcases List.mem_cons.1 hx with rfl | hx
    · exact wpOp_mono (fun a' w' h' => ⟨fun hf => hS1 _ (h'.1 hf), wpAnyZ_wide hS1 _ _ _ _ (wpAnyZ_of_way hs hQ p _ n _ a' w' hl1 k2 h'.2)⟩) h1
    · obtain rfl := List.mem_singleton.1 hx
      exact wpOp_mono (fun a' w' h' => ⟨fun hf => hS2 _ (h'.1 hf), wpAnyZ_wide hS2 _ _ _ _ (wpAnyZ_of_way hs hQ q _ n _ a' w' hl2 k3 h'.2)⟩) h2

/-- The beginning. -/
theorem wp_region_way {S : World → Prop} {ol : List Oper} {id : Nat} {a : Act} {w : World} {y : Way} (hm : P.follows .mixedOrders = true) (hs : Region.noSelect ol.toArray = true) (hl : y.length = ol.length)
    (hk : wayOk .any ol.toArray late y (Array.replicate ol.length false) = true) (hS : S w.drew)
    (h : S w.drew → wpWay P ol.toArray (NoPanic Q) late S y a w.drew) : (Code.region id ol.toArray true).wp P Q a w :=
  wp_region_noPanic (wp_region_any hm (wpAny_of_Z _ _ _ _ (wpAnyZ_of_way hs (fun _ _ _ _ _ h => h) y S ol.toArray.size _ a _ (by simp; omega) (by simpa using hk) (h hS))))

variable {i j : Nat} {p q : Way} {o : Oper} {a : Act} {w : World} {v : Value} {S : World → Prop}
theorem way_tight (S' : World → Prop) (hS : ∀ w, S' w → S w) (hw : S' w) (h : S' w → wpWay P ops Q late S' p a w) : wpWay P ops Q late S p a w := by
  have h := h hw
  match p, h with
  | .fin, h => exact h
  | .take _ _, ⟨S'', h1, h2⟩ => exact ⟨S'', fun w hw => hS w (h1 w hw), h2⟩
  | .run _ _, ⟨S'', h1, h2⟩ => exact ⟨S'', fun w hw => hS w (h1 w hw), h2⟩
  | .fork _ _ _ _, ⟨⟨S1, h1, h2⟩, S2, h3, h4⟩ => exact ⟨⟨S1, fun w hw => hS w (h1 w hw), h2⟩, S2, fun w hw => hS w (h3 w hw), h4⟩
theorem way_skip (ho : ops[i]? = some o) (hw : Region.wanted o (yielded ops a.tmps) = false) (hS : S w) (h : wpWay P ops Q late S p (a.put o.dst undef) w) : wpWay P ops Q late S (.take i p) a w :=
  ⟨S, fun _ h => h, o, ho, undef, .inr ⟨hw, rfl⟩, hS, h⟩
theorem way_take (ho : ops[i]? = some o) (hw : Region.wanted o (yielded ops a.tmps) = true) (hy : ∀ w, S w → (execOp a.eval o).run P w = .ok (.value v) w) (hS : S w)
    (h : wpWay P ops Q late S p (a.put o.dst v) w) : wpWay P ops Q late S (.take i p) a w :=
  ⟨S, fun _ h => h, o, ho, v, .inl ⟨hw, hy⟩, hS, h⟩
theorem way_run (ho : ops[i]? = some o) (hw : Region.wanted o (yielded ops a.tmps) = true)
    (h : ∀ K' : Act → World → Prop, Shut (∀ a w, S w → (S w → wpWay P ops Q late S p a w) → K' a w) → Oper.wp P o a w K' Q) : wpWay P ops Q late S (.run i p) a w :=
  ⟨S, fun _ h => h, wpOp_step ho fun K' hK => by rw [if_pos hw]; exact h K' fun a w hS hW => hK a w ⟨fun _ => hS, hW hS⟩⟩
theorem way_pass (ho : ops[i]? = some o) (hw : Region.wanted o (yielded ops a.tmps) = false) (hS : S w) (h : wpWay P ops Q late S p (a.put o.dst undef) w) : wpWay P ops Q late S (.run i p) a w :=
  ⟨S, fun _ h => h, wpOp_step ho fun K' hK => by rw [if_neg (by rw [hw]; decide)]; exact hK _ _ ⟨fun _ => hS, h⟩⟩
theorem way_last (hl : late.contains i = true) (ho : ops[i]? = some o) (hw : Region.wanted o (yielded ops a.tmps) = true)
    (h : ∀ K' : Act → World → Prop, Shut (∀ a w, wpWay P ops Q late S p a w → K' a w) → Oper.wp P o a w K' Q) : wpWay P ops Q late S (.run i p) a w :=
  ⟨S, fun _ h => h, wpOp_step ho fun K' hK => by rw [if_pos hw]; exact h K' fun a w hW => hK a w ⟨fun hf => absurd (hl.symm.trans hf) (by decide), hW⟩⟩
theorem way_fork (h1 : wpWay P ops Q late S (.run i p) a w) (h2 : wpWay P ops Q late S (.run j q) a w) : wpWay P ops Q late S (.fork i p j q) a w := ⟨h1, h2⟩
theorem way_done (h : Q .normal a w) : wpWay P ops (NoPanic Q) late S .fin a w := h
end
end Go.Proofs.Ytekmgaigppenlaa

namespace Go.Proofs.Ytekmgaigppenlaa
open Go Go.RowKit

/-- The forest at block b holds l, in blocks that S names. -/
def Frst (S : Nat → Prop) (w : World) (b : Nat) (l : List Nd) : Prop := S b ∧ ∃ A c, Has w b (.cells #[.slice A l.length c] 76 (0, 0)) ∧ Nodes S w 0 A c l
section
variable {S S' F : Nat → Prop} {w w' : World} {b : Nat} {l : List Nd}
theorem Frst.keep (h : Frst S w b l) (k : Keeps F w w') (hF : ∀ i, S i → i < w.heap.size → ¬ F i) : Frst S w' b l := by
  obtain ⟨hS, A, c, h1, h2⟩ := h
  exact ⟨hS, A, c, h1.kept k (hF b hS h1.inside), h2.keptG k hF⟩
theorem Frst.wide (h : Frst S w b l) (hS : ∀ i, S i → i < w.heap.size → S' i) : Frst S' w b l := by
  obtain ⟨h0, A, c, h1, h2⟩ := h
  exact ⟨hS b h0 h1.inside, A, c, h1, h2.wide hS⟩
theorem Frst.below (h : Frst S w b l) (k : Below w.heap.size w w') : Frst S w' b l :=
  h.keep (Keeps.of_below (F := fun i => w.heap.size ≤ i) k fun _ _ h => h) fun _ _ hi => Nat.not_le.2 hi
/-- A node's nine cells. -/
theorem Nodes.nine {G : Nat → Prop} {B c m : Nat} {A : Option Addr} (h : Nodes G w B A c l) (hm : m < l.length) : ∃ g k, A = some ⟨g, 0, none⟩ ∧ B ≤ g ∧ g < w.heap.size ∧ Kids G w k (nd l ((m : Int) + 1)).kids ∧ (∀ j, w.frozen? ⟨g, j, none⟩ = false) ∧
    w.cell? ⟨g, m * 9, none⟩ = some (.int .i64 (nd l ((m : Int) + 1)).kind) ∧ w.cell? ⟨g, m * 9 + 1, none⟩ = some (.int .i64 (nd l ((m : Int) + 1)).parent) ∧ w.cell? ⟨g, m * 9 + 2, none⟩ = some (.int .i64 (nd l ((m : Int) + 1)).host) ∧
    w.cell? ⟨g, m * 9 + 3, none⟩ = some (.int .i64 (nd l ((m : Int) + 1)).shadow) ∧ w.cell? ⟨g, m * 9 + 4, none⟩ = some (.int .i64 (nd l ((m : Int) + 1)).mode) ∧ w.cell? ⟨g, m * 9 + 5, none⟩ = some (.bool (nd l ((m : Int) + 1)).slot) ∧
    w.cell? ⟨g, m * 9 + 6, none⟩ = some (.string (nd l ((m : Int) + 1)).name) ∧ w.cell? ⟨g, m * 9 + 7, none⟩ = some (.string (nd l ((m : Int) + 1)).want) ∧ w.cell? ⟨g, m * 9 + 8, none⟩ = some k := by
  obtain ⟨g, k, rfl, hg, hk, hz, hc⟩ := h.at_ hm
  rw [nd_at hm]
  exact ⟨g, k, rfl, hg, h.inside _ _ _ rfl, hk, hz, hc 0 (by omega), hc 1 (by omega), hc 2 (by omega), hc 3 (by omega), hc 4 (by omega), hc 5 (by omega), hc 6 (by omega), hc 7 (by omega), hc 8 (by omega)⟩
end

section
variable {S : Nat → Prop} {w : World} {b : Nat} {l : List Nd}
theorem arNew (S : Nat → Prop) (w : World) (hS : Fut S w.heap.size) : Calls Try.prog 26 #[] w fun e w' => ∃ b, e = .returned (.pointer (some ⟨b, 0, none⟩)) ∧ Frst S w' b [] ∧ Below w.heap.size w w' := by
  have hh : Has (w.alloc (.cells #[.slice none 0 0] 76)) w.heap.size (.cells #[.slice none 0 0] 76 (0, 0)) := Has.fresh _ _
  have hb : Below w.heap.size w (w.alloc (.cells #[.slice none 0 0] 76)) := (Below.refl _ w).alloc (Nat.le_refl _) _
  have HH := Lib.hid hh
  clear hh
  go_enter Try.func26, Try.ntmps26
  go_wp2
  go_ret
  exact ⟨_, rfl, ⟨hS _ (Nat.le_refl _), none, 0, HH.out, Nodes.nil _ _⟩, hb⟩

theorem arLen (h : Frst S w b l) : Calls Try.prog 52 #[.pointer (some ⟨b, 0, none⟩)] w fun e w' => e = .returned (.int .i64 l.length) ∧ w = w' := by
  obtain ⟨-, A, c, h1, -⟩ := h
  have c0 := h1.cell 0
  clear h1
  go_enter Try.func52, Try.ntmps52
  go_wp2
  go_ret
  exact ⟨rfl, rfl⟩

theorem arHas (h : Frst S w b l) (id : Int) : Calls Try.prog 39 #[.pointer (some ⟨b, 0, none⟩), .int .i64 id] w fun e w' => e = .returned (.bool (thereB l id)) ∧ w = w' := by
  have H := Lib.hid h
  clear h
  by_cases h1 : 1 ≤ id
  · have e1 : decide (1 ≤ id) = true := decide_eq_true h1
    have e : thereB l id = decide (id ≤ (l.length : Int)) := by unfold thereB; rw [e1]; rfl
    rw [e]
    clear e
    go_enter Try.func39, Try.ntmps39
    go_wp2_with fail
    refine (arLen H.out).mono ?_
    rintro e w1 ⟨rfl, rfl⟩
    go_wp2
    go_ret
    exact ⟨rfl, rfl⟩
  · have e1 : decide (1 ≤ id) = false := decide_eq_false h1
    have e : thereB l id = false := by unfold thereB; rw [e1]; rfl
    rw [e]
    clear e
    go_enter Try.func39, Try.ntmps39
    go_wp2
    go_ret
    exact ⟨rfl, rfl⟩
theorem arHas_is (h : Frst S w b l) {id : Int} {x : Bool} (hx : thereB l id = x) : Calls Try.prog 39 #[.pointer (some ⟨b, 0, none⟩), .int .i64 id] w fun e w' => e = .returned (.bool x) ∧ w = w' := by
  rw [← hx]
  exact arHas h id

theorem arFits (s : ByteArray) (w : World) (hs : s.size ≤ 9223372036854775807) {x : Bool} (hx : okName s = x) :
    Calls Try.prog 44 #[.string s] w fun e w' => e = .returned (.bool x) ∧ Below w.heap.size w w' := by
  subst hx
  cases h0 : s.toList.isEmpty with
  | true =>
    have e1 : okName s = true := by unfold okName; rw [h0]; rfl
    rw [e1]
    go_enter Try.func44, Try.ntmps44
    go_wp2
    go_ret
    exact ⟨rfl, Below.refl _ _⟩
  | false =>
    have e1 : okName s = rightL s.data.toList := by unfold okName; rw [h0]; rfl
    rw [e1]
    clear e1
    go_enter Try.func44, Try.ntmps44
    go_wp2_with fail
    refine (right_any s w hs).mono ?_
    rintro e w1 ⟨rfl, hb⟩
    go_wp2
    go_ret
    exact ⟨rfl, hb⟩

/-- One step up. -/
theorem arNext (h : Frst S w b l) (hl : l.length ≤ 128) {id : Int} (ht : thereB l id = true) : Calls Try.prog 53 #[.pointer (some ⟨b, 0, none⟩), .int .i64 id] w fun e w' => e = .returned (.int .i64 (upOf l id)) ∧ Below w.heap.size w w' := by
  obtain ⟨-, A, c, h1, hN⟩ := h
  have q0 := h1.cell 0
  obtain ⟨m, rfl, hm⟩ := there_at ht
  obtain ⟨g, k, rfl, -, -, hk, -, c0, c1, c2, c3, c4, c5, c6, c7, c8⟩ := hN.nine hm
  obtain ⟨A1, n1, rfl, -, -⟩ := hk.form
  have hb : Below w.heap.size w (w.alloc (.cells #[.int .i64 (nd l ((m : Int) + 1)).kind, .int .i64 (nd l ((m : Int) + 1)).parent, .int .i64 (nd l ((m : Int) + 1)).host, .int .i64 (nd l ((m : Int) + 1)).shadow, .int .i64 (nd l ((m : Int) + 1)).mode, .bool (nd l ((m : Int) + 1)).slot, .string (nd l ((m : Int) + 1)).name, .string (nd l ((m : Int) + 1)).want, .slice A1 (nd l ((m : Int) + 1)).kids.length n1] 57)) := (Below.refl _ w).alloc (Nat.le_refl _) _
  have e : upOf l ((m : Int) + 1) = if (nd l ((m : Int) + 1)).parent = 0 then (nd l ((m : Int) + 1)).host else (nd l ((m : Int) + 1)).parent := rfl
  rw [e]
  obtain ⟨d, hd⟩ : ∃ d, d = nd l ((m : Int) + 1) := ⟨_, rfl⟩
  rw [← hd] at c0 c1 c2 c3 c4 c5 c6 c7 c8 hb
  rw [← hd]
  obtain ⟨kd, pa, ho, sh, mo, sl, na, wa, ks⟩ := d
  simp only at c0 c1 c2 c3 c4 c5 c6 c7 c8 hb
  simp only
  clear h1 hN ht hk e hd
  by_cases hp : pa = 0
  · subst hp
    rw [if_pos rfl]
    go_enter Try.func53, Try.ntmps53
    go_wp2
    go_ret
    exact ⟨rfl, hb⟩
  · rw [if_neg hp]
    have z1 : (pa != 0) = true := by simpa using hp
    have z2 : (pa == 0) = false := by simpa using hp
    go_enter Try.func53, Try.ntmps53
    go_wp2
    go_ret
    exact ⟨rfl, hb⟩
end

section
variable {l : List Nd}
theorem over_step (T : Tree l) {x : Int} (h : thereB l x = true) : over l x = x :: over l (upOf l x) := by
  have e : over l x = x :: overN l l.length (upOf l x) := over_go h
  have hs : (over l x).length ≤ l.length := up_short T.ends (l.length + 1) x
  rw [e] at hs
  simp only [List.length_cons] at hs
  rw [e]
  show _ = x :: overN l (l.length + 1) _
  rw [up_more l.length (upOf l x) (by omega)]
theorem over_zero : over l 0 = [] := over_end (there_zero l)
theorem up_or (T : Tree l) {x : Int} (h : thereB l x = true) : upOf l x = 0 ∨ thereB l (upOf l x) = true := by
  unfold upOf
  split
  · by_cases hh : (nd l x).host = 0
    · exact .inl hh
    · exact .inr (T.host x h hh).2
  · rename_i hp
    exact .inr (T.par x h hp).1
theorem has_over_step (T : Tree l) {x a : Int} (h : thereB l x = true) : hasB (over l x) a = (decide (a = x) || hasB (over l (upOf l x)) a) := by
  rw [over_step T h]
  unfold hasB
  by_cases e : a = x <;> simp [e]
end

section
variable {S : Nat → Prop} {w : World} {b : Nat} {l : List Nd}
set_option maxHeartbeats 2000000 in
set_option maxRecDepth 100000 in
theorem arAbove (h : Frst S w b l) (hl : l.length ≤ 128) (T : Tree l) (a : Int) {id : Int} (ht : thereB l id = true) {x : Bool} (hx : hasB (over l (upOf l id)) a = x) :
    Calls Try.prog 43 #[.pointer (some ⟨b, 0, none⟩), .int .i64 a, .int .i64 id] w fun e w' => e = .returned (.bool x) ∧ Below w.heap.size w w' := by
  have H := Lib.hid h
  have HT := Lib.hid T
  have Ht := Lib.hid ht
  have Hx := Lib.hid hx
  clear h T ht hx
  go_enter Try.func43, Try.ntmps43
  go_wp2_with fail
  refine (arNext H.out hl Ht.out).mono ?_
  rintro e w1 ⟨rfl, hb1⟩
  have hup := up_or HT.out Ht.out
  obtain ⟨y, hy⟩ : ∃ y, y = upOf l id := ⟨_, rfl⟩
  rw [← hy] at hup Hx
  rw [← hy]
  have Hup := Lib.hid hup
  clear hup hy Ht
  go_wp2_with fail
  go_loopw [7] (fun at_ wr => ∃ z : Int, at_ = .int .i64 z ∧ (z = 0 ∨ thereB l z = true) ∧ hasB (over l z) a = x ∧ Below w.heap.size w wr) (fun at_ _ => (over l (intOf at_)).length)
  case atStart => exact ⟨y, rfl, Hup.out, Hx.out, hb1⟩
  case round =>
    obtain ⟨z, rfl, hz, hxz, hb⟩ := hrel
    clear Hup Hx
    by_cases h0 : z = 0
    · subst h0
      rw [over_zero] at hxz
      have hx0 : x = false := by rw [← hxz]; rfl
      subst hx0
      clear hxz hz
      go_wp2
      go_ret
      exact ⟨rfl, hb⟩
    · have hth : thereB l z = true := hz.resolve_left h0
      have z1 : (z != 0) = true := by simpa using h0
      have z2 : (z == 0) = false := by simpa using h0
      rw [has_over_step HT.out hth] at hxz
      by_cases ha : z = a
      · have hx0 : x = true := by rw [← hxz, ha]; simp
        subst hx0
        subst ha
        clear hxz hz
        go_wp2
        go_ret
        exact ⟨rfl, hb⟩
      · have z3 : (z == a) = false := by simpa using ha
        have hxz' : hasB (over l (upOf l z)) a = x := by
          rw [← hxz, decide_eq_false (fun e => ha e.symm)]
          rfl
        have Hxz := Lib.hid hxz'
        have Hth := Lib.hid hth
        have hR := H.out.below hb
        clear hxz hxz' hz hth
        go_wp2_with fail
        refine (arNext hR hl Hth.out).mono ?_
        rintro e w2 ⟨rfl, hb2⟩
        go_wp2
        go_roundw
        case rel => exact ⟨upOf l z, rfl, up_or HT.out Hth.out, Hxz.out, hb.trans (hb2.mono hb.size)⟩
        case measure =>
          simp only [intOf]
          rw [over_step HT.out Hth.out]
          simp
end
end Go.Proofs.Ytekmgaigppenlaa

namespace Go.Proofs.Ytekmgaigppenlaa
open Go Go.RowKit

/-- The forest at block b, its nodes at block g. -/
structure FrstAt (S : Nat → Prop) (w : World) (b g c : Nat) (l : List Nd) : Prop where
  mine : S b
  head : Has w b (.cells #[.slice (some ⟨g, 0, none⟩) l.length c] 76 (0, 0))
  nodes : Nodes S w 0 (some ⟨g, 0, none⟩) c l
section
variable {S F : Nat → Prop} {w w' : World} {b g c m f : Nat} {l : List Nd} {u : Value} {N : Nd → Nd}
theorem Frst.at_ (h : Frst S w b l) (hm : m < l.length) : ∃ g c, FrstAt S w b g c l := by
  obtain ⟨hS, A, c, h1, h2⟩ := h
  obtain ⟨g, rfl, -⟩ := h2.some_ hm
  exact ⟨g, c, hS, h1, h2⟩
theorem FrstAt.frst (h : FrstAt S w b g c l) : Frst S w b l := ⟨h.mine, _, _, h.head, h.nodes⟩
theorem FrstAt.row (h : FrstAt S w b g c l) : S g ∧ g < w.heap.size ∧ ∃ cur, Has w g (.cells cur 57 (0, 0)) := by
  obtain ⟨rows, rfl, h2, h3, h4⟩ := h.nodes
  refine ⟨h4 _ _ _ rfl, h.nodes.inside _ _ _ rfl, ?_⟩
  rcases h2.2 with ⟨hv, _⟩ | ⟨g', cap, cur, hv, _, hh, _⟩
  · cases hv
  · obtain rfl : g = g' := by injection hv with e1; simpa using e1
    exact ⟨cur, hh⟩
theorem FrstAt.ne (h : FrstAt S w b g c l) : b ≠ g := by
  obtain ⟨-, -, cur, hg⟩ := h.row
  exact Has.apart h.head hg (by simp)
theorem FrstAt.below (h : FrstAt S w b g c l) (k : Below w.heap.size w w') : FrstAt S w' b g c l := ⟨h.mine, h.head.below k h.head.inside, h.nodes.below k⟩
theorem FrstAt.keep (h : FrstAt S w b g c l) (k : Keeps F w w') (hF : ∀ i, S i → i < w.heap.size → ¬ F i) : FrstAt S w' b g c l := ⟨h.mine, h.head.kept k (hF b h.mine h.head.inside), h.nodes.keptG k hF⟩
theorem FrstAt.there_ (h : FrstAt S w b g c l) : w.cell? ⟨b, 0, none⟩ = some (.slice (some ⟨g, 0, none⟩) l.length c) := h.head.cell 0
theorem FrstAt.drewN (h : FrstAt S w b g c l) (n : Nat) : FrstAt S (w.drewN n) b g c l := ⟨h.mine, h.head, h.nodes⟩
/-- One field of one node is written. -/
theorem FrstAt.turn (h : FrstAt S w b g c l) (hm : m < l.length) (hf : f < 9) (hN : ∀ d k, (N d).cells k = (d.cells k).set f u) (hk : ∀ d, (N d).kids = d.kids) :
    FrstAt S (w.setCell ⟨g, m * 9 + f, none⟩ u) b g c (modN l ((m : Int) + 1) N) := by
  obtain ⟨-, -, h3⟩ := h.nodes.turn hm hf hN hk
  refine ⟨h.mine, ?_, h3⟩
  rw [modN_length]
  exact h.head.aside h.ne u
theorem Keeps.ofBelow (k : Below w.heap.size w w') : Keeps S w w' := Keeps.of_below k fun _ hi h => absurd hi (Nat.not_lt.2 h)
end

/-- An error's number, and the forest then. -/
def Told (S : Nat → Prop) (w : World) (b : Nat) (l' : List Nd) (err : Int) (e : Ending) (w' : World) : Prop := e = .returned (.int .i64 err) ∧ Frst S w' b l' ∧ Keeps S w w'

section
variable {S : Nat → Prop} {w : World} {b : Nat} {l : List Nd}
set_option maxHeartbeats 2000000 in
theorem arName (id : Int) (s : ByteArray) (h : Frst S w b l) (hl : l.length ≤ 128) (hs : s.size ≤ 9223372036854775807) :
    Calls Try.prog 30 #[.pointer (some ⟨b, 0, none⟩), .int .i64 id, .string s] w (Told S w b (nameL l id s) (nameErr l id s)) := by
  have H := Lib.hid h
  clear h
  have hnot : ∀ (x : Bool) (w : World), (Op.unary .not (.bool x)).run Try.prog w = .ok (.bool (!x)) w := fun _ _ => rfl
  cases hth : thereB l id with
  | false =>
    have e1 : nameErr l id s = 1 := by unfold nameErr; rw [if_pos (.inl hth)]
    have e2 : nameL l id s = l := by unfold nameL; rw [e1]; rfl
    rw [e1, e2]
    have Hth := Lib.hid hth
    clear hth e1 e2
    go_enter Try.func30, Try.ntmps30
    go_wp2_with fail
    refine (arHas_is H.out Hth.out).mono ?_
    rintro e w1 ⟨rfl, rfl⟩
    go_wp2
    go_ret
    exact ⟨rfl, H.out, Keeps.refl _ _⟩
  | true =>
    have Hth := Lib.hid hth
    cases hok : okName s with
    | false =>
      have e1 : nameErr l id s = 1 := by unfold nameErr; rw [if_pos (.inr hok)]
      have e2 : nameL l id s = l := by unfold nameL; rw [e1]; rfl
      rw [e1, e2]
      have Hok := Lib.hid hok
      clear hth hok e1 e2
      go_enter Try.func30, Try.ntmps30
      go_wp2_with fail
      refine (arHas_is H.out Hth.out).mono ?_
      rintro e w1 ⟨rfl, rfl⟩
      go_wp2_with fail
      refine (arFits s w hs Hok.out).mono ?_
      rintro e w1 ⟨rfl, hb⟩
      go_wp2
      go_ret
      exact ⟨rfl, H.out.below hb, Keeps.ofBelow hb⟩
    | true =>
      obtain ⟨m, rfl, hm⟩ := there_at hth
      obtain ⟨g, c, hR⟩ := H.out.at_ hm
      have HR := Lib.hid hR
      have Hok := Lib.hid hok
      have he : nameErr l ((m : Int) + 1) s = if (nd l ((m : Int) + 1)).slot = false then 2 else 0 := by unfold nameErr; rw [if_neg (by rw [hth, hok]; simp)]
      have hL : nameL l ((m : Int) + 1) s = if nameErr l ((m : Int) + 1) s = 0 then modN l ((m : Int) + 1) (fun d => { d with name := s }) else l := rfl
      clear hth hok hR
      cases hsl : (nd l ((m : Int) + 1)).slot with
      | false =>
        rw [hsl, if_pos rfl] at he
        rw [he, if_neg (by decide)] at hL
        rw [he, hL]
        have Hsl := Lib.hid hsl
        clear he hL hsl
        go_enter Try.func30, Try.ntmps30
        go_wp2_with fail
        refine (arHas_is H.out Hth.out).mono ?_
        rintro e w1 ⟨rfl, rfl⟩
        go_wp2_with fail
        refine (arFits s w hs Hok.out).mono ?_
        rintro e w1 ⟨rfl, hb⟩
        have hR1 := HR.out.below hb
        have q0 := hR1.there_
        obtain ⟨_, k, e', -, -, -, -, -, -, -, -, -, c5, -, -, -⟩ := hR1.nodes.nine hm
        cases e'
        rw [Hsl.out] at c5
        clear hR1
        go_wp2
        go_ret
        exact ⟨rfl, H.out.below hb, Keeps.ofBelow hb⟩
      | true =>
        rw [hsl, if_neg (by decide)] at he
        rw [he, if_pos rfl] at hL
        rw [he, hL]
        have Hsl := Lib.hid hsl
        clear he hL hsl
        go_enter Try.func30, Try.ntmps30
        go_wp2_with fail
        refine (arHas_is H.out Hth.out).mono ?_
        rintro e w1 ⟨rfl, rfl⟩
        go_wp2_with fail
        refine (arFits s w hs Hok.out).mono ?_
        rintro e w1 ⟨rfl, hb⟩
        have hR1 := HR.out.below hb
        have q0 := hR1.there_
        obtain ⟨_, k, e', -, -, -, hz, -, -, -, -, -, c5, c6, -, -⟩ := hR1.nodes.nine hm
        cases e'
        rw [Hsl.out] at c5
        have hz6 := hz (m * 9 + 6)
        have hR2 := hR1.turn (N := fun d => { d with name := s }) (u := .string s) (f := 6) hm (by omega) (fun _ _ => rfl) (fun _ => rfl)
        have HR2 := Lib.hid hR2.frst
        have HK := Lib.hid ((Keeps.ofBelow (S := S) hb).store (p := ⟨g, m * 9 + 6, none⟩) (.inl HR.out.row.1) (.string s))
        clear hR1 hR2 hz
        go_wp2
        go_ret
        exact ⟨rfl, HR2.out, HK.out⟩
set_option maxHeartbeats 2000000 in
theorem arWant (id : Int) (s : ByteArray) (h : Frst S w b l) (hl : l.length ≤ 128) (hs : s.size ≤ 9223372036854775807) :
    Calls Try.prog 31 #[.pointer (some ⟨b, 0, none⟩), .int .i64 id, .string s] w (Told S w b (wantL l id s) (wantErr l id s)) := by
  have H := Lib.hid h
  clear h
  have hnot : ∀ (x : Bool) (w : World), (Op.unary .not (.bool x)).run Try.prog w = .ok (.bool (!x)) w := fun _ _ => rfl
  cases hth : thereB l id with
  | false =>
    have e1 : wantErr l id s = 1 := by unfold wantErr; rw [if_pos (.inl hth)]
    have e2 : wantL l id s = l := by unfold wantL; rw [e1]; rfl
    rw [e1, e2]
    have Hth := Lib.hid hth
    clear hth e1 e2
    go_enter Try.func31, Try.ntmps31
    go_wp2_with fail
    refine (arHas_is H.out Hth.out).mono ?_
    rintro e w1 ⟨rfl, rfl⟩
    go_wp2
    go_ret
    exact ⟨rfl, H.out, Keeps.refl _ _⟩
  | true =>
    have Hth := Lib.hid hth
    cases hok : okName s with
    | false =>
      have e1 : wantErr l id s = 1 := by unfold wantErr; rw [if_pos (.inr hok)]
      have e2 : wantL l id s = l := by unfold wantL; rw [e1]; rfl
      rw [e1, e2]
      have Hok := Lib.hid hok
      clear hth hok e1 e2
      go_enter Try.func31, Try.ntmps31
      go_wp2_with fail
      refine (arHas_is H.out Hth.out).mono ?_
      rintro e w1 ⟨rfl, rfl⟩
      go_wp2_with fail
      refine (arFits s w hs Hok.out).mono ?_
      rintro e w1 ⟨rfl, hb⟩
      go_wp2
      go_ret
      exact ⟨rfl, H.out.below hb, Keeps.ofBelow hb⟩
    | true =>
      obtain ⟨m, rfl, hm⟩ := there_at hth
      obtain ⟨g, c, hR⟩ := H.out.at_ hm
      have HR := Lib.hid hR
      have Hok := Lib.hid hok
      have he : wantErr l ((m : Int) + 1) s = if (nd l ((m : Int) + 1)).kind ≠ 2 then 2 else 0 := by unfold wantErr; rw [if_neg (by rw [hth, hok]; simp)]
      have hL : wantL l ((m : Int) + 1) s = if wantErr l ((m : Int) + 1) s = 0 then modN l ((m : Int) + 1) (fun d => { d with want := s }) else l := rfl
      clear hth hok hR
      obtain ⟨kd, hkd⟩ : ∃ kd, (nd l ((m : Int) + 1)).kind = kd := ⟨_, rfl⟩
      rw [hkd] at he
      have Hkd := Lib.hid hkd
      clear hkd
      by_cases hk2 : kd = 2
      · rw [if_neg (fun h => h hk2)] at he
        rw [he, if_pos rfl] at hL
        rw [he, hL]
        subst hk2
        clear he hL
        go_enter Try.func31, Try.ntmps31
        go_wp2_with fail
        refine (arHas_is H.out Hth.out).mono ?_
        rintro e w1 ⟨rfl, rfl⟩
        go_wp2_with fail
        refine (arFits s w hs Hok.out).mono ?_
        rintro e w1 ⟨rfl, hb⟩
        have hR1 := HR.out.below hb
        have q0 := hR1.there_
        obtain ⟨_, k, e', -, -, -, hz, c0, -, -, -, -, -, -, c7, -⟩ := hR1.nodes.nine hm
        cases e'
        rw [Hkd.out] at c0
        have hz7 := hz (m * 9 + 7)
        have hR2 := hR1.turn (N := fun d => { d with want := s }) (u := .string s) (f := 7) hm (by omega) (fun _ _ => rfl) (fun _ => rfl)
        have HR2 := Lib.hid hR2.frst
        have HK := Lib.hid ((Keeps.ofBelow (S := S) hb).store (p := ⟨g, m * 9 + 7, none⟩) (.inl HR.out.row.1) (.string s))
        clear hR1 hR2 hz
        go_wp2
        go_ret
        exact ⟨rfl, HR2.out, HK.out⟩
      · rw [if_pos hk2] at he
        rw [he, if_neg (by decide)] at hL
        rw [he, hL]
        have z1 : (kd != 2) = true := by simpa using hk2
        have z2 : (kd == 2) = false := by simpa using hk2
        clear he hL
        go_enter Try.func31, Try.ntmps31
        go_wp2_with fail
        refine (arHas_is H.out Hth.out).mono ?_
        rintro e w1 ⟨rfl, rfl⟩
        go_wp2_with fail
        refine (arFits s w hs Hok.out).mono ?_
        rintro e w1 ⟨rfl, hb⟩
        have hR1 := HR.out.below hb
        have q0 := hR1.there_
        obtain ⟨_, k, e', -, -, -, -, c0, -, -, -, -, -, -, -, -⟩ := hR1.nodes.nine hm
        cases e'
        rw [Hkd.out] at c0
        clear hR1
        go_wp2
        go_ret
        exact ⟨rfl, H.out.below hb, Keeps.ofBelow hb⟩
end
end Go.Proofs.Ytekmgaigppenlaa

namespace Go.Proofs.Ytekmgaigppenlaa
open Go Go.RowKit

section
variable {l : List Nd} {h r : Int}
theorem tie_kind (h1 : thereB l h = true) (h2 : thereB l r = true) (hk : (nd l h).kind ≠ 2 ∨ (nd l r).kind ≠ 3) : tieErr l h r = 2 := by unfold tieErr; rw [if_neg (by rw [h1, h2]; simp), if_pos hk]
theorem tie_has (h1 : thereB l h = true) (h2 : thereB l r = true) (hk : (nd l h).kind = 2) (hk' : (nd l r).kind = 3) (hs : (nd l h).shadow ≠ 0 ∨ (nd l r).host ≠ 0) : tieErr l h r = 6 := by
  unfold tieErr; rw [if_neg (by rw [h1, h2]; simp), if_neg (by rw [hk, hk']; simp), if_pos hs]
theorem tie_rest (T : Tree l) (h1 : thereB l h = true) (h2 : thereB l r = true) (hk : (nd l h).kind = 2) (hk' : (nd l r).kind = 3) (hs : (nd l h).shadow = 0) (hs' : (nd l r).host = 0) : tieErr l h r = if hasB (over l (upOf l h)) r = true then 3 else 0 := by
  have hne : ¬ r = h := fun e => by rw [e, hk] at hk'; exact absurd hk' (by decide)
  unfold tieErr
  rw [if_neg (by rw [h1, h2]; simp), if_neg (by rw [hk, hk']; simp), if_neg (by rw [hs, hs']; simp), has_over_step T h1, decide_eq_false hne, Bool.false_or]
theorem tie_no (e : Int) (he : tieErr l h r = e) (h0 : e ≠ 0) : tieL l h r = l := by unfold tieL; rw [he, if_neg h0]
end

section
variable {S : Nat → Prop} {w : World} {b : Nat} {l : List Nd}
set_option maxHeartbeats 4000000 in
theorem arTie (h r : Int) (hF : Frst S w b l) (hl : l.length ≤ 128) (T : Tree l) :
    Calls Try.prog 29 #[.pointer (some ⟨b, 0, none⟩), .int .i64 h, .int .i64 r] w (Told S w b (tieL l h r) (tieErr l h r)) := by
  have H := Lib.hid hF
  have HT := Lib.hid T
  clear hF T
  have hnot : ∀ (x : Bool) (w : World), (Op.unary .not (.bool x)).run Try.prog w = .ok (.bool (!x)) w := fun _ _ => rfl
  cases hth : thereB l h with
  | false =>
    have e1 : tieErr l h r = 1 := by unfold tieErr; rw [if_pos (.inl hth)]
    rw [tie_no _ e1 (by decide), e1]
    have Hth := Lib.hid hth
    clear hth e1
    go_enter Try.func29, Try.ntmps29
    go_wp2_with fail
    refine (arHas_is H.out Hth.out).mono ?_
    rintro e w1 ⟨rfl, rfl⟩
    go_wp2
    go_ret
    exact ⟨rfl, H.out, Keeps.refl _ _⟩
  | true =>
    cases htr : thereB l r with
    | false =>
      have e1 : tieErr l h r = 1 := by unfold tieErr; rw [if_pos (.inr htr)]
      rw [tie_no _ e1 (by decide), e1]
      have Hth := Lib.hid hth
      have Htr := Lib.hid htr
      clear hth htr e1
      go_enter Try.func29, Try.ntmps29
      go_wp2_with fail
      refine (arHas_is H.out Hth.out).mono ?_
      rintro e w1 ⟨rfl, rfl⟩
      go_wp2_with fail
      refine (arHas_is H.out Htr.out).mono ?_
      rintro e w1 ⟨rfl, rfl⟩
      go_wp2
      go_ret
      exact ⟨rfl, H.out, Keeps.refl _ _⟩
    | true =>
      obtain ⟨m, rfl, hm⟩ := there_at hth
      obtain ⟨n, rfl, hn⟩ := there_at htr
      obtain ⟨g, c, hR⟩ := H.out.at_ hm
      have q0 := hR.there_
      obtain ⟨_, k, e', -, -, -, -, c0, -, -, c3, -, -, -, -, -⟩ := hR.nodes.nine hm
      cases e'
      obtain ⟨_, k', e', -, -, -, -, d0, -, d2, -, -, -, -, -, -⟩ := hR.nodes.nine hn
      cases e'
      have Ekind := Lib.hid (tie_kind hth htr)
      have Ehas := Lib.hid (tie_has hth htr)
      have Erest := Lib.hid (tie_rest HT.out hth htr)
      have Hth := Lib.hid hth
      have Htr := Lib.hid htr
      have HR := Lib.hid hR
      obtain ⟨kh, hkh⟩ : ∃ x, (nd l ((m : Int) + 1)).kind = x := ⟨_, rfl⟩
      obtain ⟨kr, hkr⟩ : ∃ x, (nd l ((n : Int) + 1)).kind = x := ⟨_, rfl⟩
      obtain ⟨sh, hsh⟩ : ∃ x, (nd l ((m : Int) + 1)).shadow = x := ⟨_, rfl⟩
      obtain ⟨ho, hho⟩ : ∃ x, (nd l ((n : Int) + 1)).host = x := ⟨_, rfl⟩
      rw [hkh] at c0
      rw [hkr] at d0
      rw [hsh] at c3
      rw [hho] at d2
      rw [hkh, hkr] at Ekind
      rw [hkh, hkr, hsh, hho] at Ehas Erest
      clear hkh hkr hsh hho hth htr hR
      go_enter Try.func29, Try.ntmps29
      go_wp2_with fail
      refine (arHas_is H.out Hth.out).mono ?_
      rintro e w1 ⟨rfl, rfl⟩
      go_wp2_with fail
      refine (arHas_is H.out Htr.out).mono ?_
      rintro e w1 ⟨rfl, rfl⟩
      go_wp2_with fail
      go_quiet (fail)
      have HF : Frst S (w.drewN nq) b l := H.out
      have HK0 : Keeps S w (w.drewN nq) := (Keeps.refl _ _).drewN nq
      by_cases k2 : kh = 2
      · by_cases k3 : kr = 3
        · by_cases s0 : sh = 0
          · by_cases h0 : ho = 0
            · have e1 := Erest.out k2 k3 s0 h0
              subst k2 k3 s0 h0
              cases hab : hasB (over l (upOf l ((m : Int) + 1))) ((n : Int) + 1) with
              | true =>
                rw [hab, if_pos rfl] at e1
                have E1 := Lib.hid e1
                have Hab := Lib.hid hab
                clear e1 hab Ekind Ehas Erest
                go_wp2_with fail
                refine (arAbove HF hl HT.out _ Hth.out Hab.out).mono ?_
                rintro e w1 ⟨rfl, hb⟩
                go_wp2
                go_ret
                rw [Told, tie_no _ E1.out (by decide), E1.out]
                exact ⟨rfl, HF.below hb, HK0.also (Keeps.ofBelow hb)⟩
              | false =>
                rw [hab, if_neg (by decide)] at e1
                have e2 : tieL l ((m : Int) + 1) ((n : Int) + 1) = modN (modN l ((m : Int) + 1) fun d => { d with shadow := (n : Int) + 1 }) ((n : Int) + 1) fun d => { d with host := (m : Int) + 1 } := by unfold tieL; rw [if_pos e1]
                have E1 := Lib.hid e1
                have E2 := Lib.hid e2
                have Hab := Lib.hid hab
                clear e1 e2 hab Ekind Ehas Erest
                go_wp2_with fail
                refine (arAbove HF hl HT.out _ Hth.out Hab.out).mono ?_
                rintro e w1 ⟨rfl, hb⟩
                have hR1 : FrstAt S w1 b g c l := FrstAt.below (w := w.drewN nq) (HR.out.drewN nq) hb
                obtain ⟨⟨x, hx⟩, hz, -⟩ := hR1.nodes.turn (F := fun d => { d with shadow := (n : Int) + 1 }) (u := .int .i64 ((n : Int) + 1)) (f := 3) hm (by omega) (fun _ _ => rfl) (fun _ => rfl)
                have hR2 := hR1.turn (N := fun d => { d with shadow := (n : Int) + 1 }) (u := .int .i64 ((n : Int) + 1)) (f := 3) hm (by omega) (fun _ _ => rfl) (fun _ => rfl)
                have hn' : n < (modN l ((m : Int) + 1) fun d => { d with shadow := (n : Int) + 1 }).length := by rw [modN_length]; exact hn
                obtain ⟨⟨y, hy⟩, hz', -⟩ := hR2.nodes.turn (F := fun d => { d with host := (m : Int) + 1 }) (u := .int .i64 ((m : Int) + 1)) (f := 2) hn' (by omega) (fun _ _ => rfl) (fun _ => rfl)
                have hR3 := hR2.turn (N := fun d => { d with host := (m : Int) + 1 }) (u := .int .i64 ((m : Int) + 1)) (f := 2) hn' (by omega) (fun _ _ => rfl) (fun _ => rfl)
                have HR3 := Lib.hid hR3.frst
                have HK := Lib.hid (((HK0.also (Keeps.ofBelow hb)).store (p := ⟨g, m * 9 + 3, none⟩) (.inl HR.out.row.1) (.int .i64 ((n : Int) + 1))).store (p := ⟨g, n * 9 + 2, none⟩) (.inl HR.out.row.1) (.int .i64 ((m : Int) + 1)))
                clear hR1 hR2 hR3 hn'
                go_wp2
                go_ret
                rw [Told, E1.out, E2.out]
                exact ⟨rfl, HR3.out, HK.out⟩
            · have z1 : (ho != 0) = true := by simpa using h0
              have z2 : (ho == 0) = false := by simpa using h0
              have E1 := Lib.hid (Ehas.out k2 k3 (.inr h0))
              subst k2 k3 s0
              go_wp2
              go_ret
              rw [Told, tie_no _ E1.out (by decide), E1.out]
              exact ⟨rfl, HF, HK0⟩
          · have z1 : (sh != 0) = true := by simpa using s0
            have z2 : (sh == 0) = false := by simpa using s0
            have E1 := Lib.hid (Ehas.out k2 k3 (.inl s0))
            subst k2 k3
            go_wp2
            go_ret
            rw [Told, tie_no _ E1.out (by decide), E1.out]
            exact ⟨rfl, HF, HK0⟩
        · have z1 : (kr != 3) = true := by simpa using k3
          have z2 : (kr == 3) = false := by simpa using k3
          have E1 := Lib.hid (Ekind.out (.inr k3))
          subst k2
          go_wp2
          go_ret
          rw [Told, tie_no _ E1.out (by decide), E1.out]
          exact ⟨rfl, HF, HK0⟩
      · have z1 : (kh != 2) = true := by simpa using k2
        have z2 : (kh == 2) = false := by simpa using k2
        have E1 := Lib.hid (Ekind.out (.inl k2))
        go_wp2
        go_ret
        rw [Told, tie_no _ E1.out (by decide), E1.out]
        exact ⟨rfl, HF, HK0⟩
end
end Go.Proofs.Ytekmgaigppenlaa
