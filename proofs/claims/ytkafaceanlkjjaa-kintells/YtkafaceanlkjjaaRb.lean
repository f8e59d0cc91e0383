/-
  What towncrierref05.Index, Next and Count do.
-/
import Derived.Test.YtkafaceanlkjjaaRa
import Derived.Test.YtkafaceanlkjjaaKd
namespace Go.Proofs.Ytkafaceanlkjjaa
open Go Go.RowKit

/-- How many nodes ahead of number j have that parent and that kind. -/
def cntP (l : List Nd) (id kind : Int) (j : Nat) : Nat := ((List.range j).filter fun i : Nat => decide ((nd l ((i : Int) + 1)).parent = id ∧ (nd l ((i : Int) + 1)).kind = kind)).length
theorem cntP_step {l : List Nd} {id kind : Int} {j : Nat} : cntP l id kind (j + 1) = cntP l id kind j + if (nd l ((j : Int) + 1)).parent = id ∧ (nd l ((j : Int) + 1)).kind = kind then 1 else 0 := by
  unfold cntP
  rw [List.range_succ, List.filter_append, List.length_append]
  congr 1
  by_cases h : (nd l ((j : Int) + 1)).parent = id ∧ (nd l ((j : Int) + 1)).kind = kind
  · rw [if_pos h, List.filter_cons_of_pos (by simpa using h)]
    rfl
  · rw [if_neg h, List.filter_cons_of_neg (by simpa using h)]
    rfl
theorem cntP_le (l : List Nd) (id kind : Int) (j : Nat) : cntP l id kind j ≤ j := by
  have := List.length_filter_le (fun i : Nat => decide ((nd l ((i : Int) + 1)).parent = id ∧ (nd l ((i : Int) + 1)).kind = kind)) (List.range j)
  rw [List.length_range] at this
  exact this
/-- Those of a parent are its children. -/
theorem cntP_all {l : List Nd} (T : Tree l) {id kind : Int} (ht : thereB l id = true) : cntP l id kind l.length = cntL l kind (kidsL l id) := by
  unfold kidsL
  rw [if_pos ht]
  unfold cntP cntL
  have hp : List.Perm (((List.range l.length).filter fun i : Nat => decide ((nd l ((i : Int) + 1)).parent = id ∧ (nd l ((i : Int) + 1)).kind = kind)).map fun i : Nat => (i : Int) + 1) ((nd l id).kids.filter fun k => decide ((nd l k).kind = kind)) := by
    refine (List.perm_ext_iff_of_nodup ?_ ?_).2 fun k => ?_
    · exact List.pairwise_map.2 ((List.nodup_range.filter _).imp fun h e => h (by omega))
    · exact (T.once id ht).filter _
    · rw [List.mem_map, List.mem_filter]
      constructor
      · rintro ⟨i, hi, rfl⟩
        rw [List.mem_filter, List.mem_range] at hi
        obtain ⟨hlt, hq⟩ := hi
        obtain ⟨h1, h2⟩ := of_decide_eq_true hq
        have hth : thereB l ((i : Int) + 1) = true := thereB_iff.2 ⟨by omega, by omega⟩
        have hne : (nd l ((i : Int) + 1)).parent ≠ 0 := by rw [h1]; exact there_pos ht
        have := (T.par _ hth hne).2
        rw [h1] at this
        exact ⟨this, decide_eq_true h2⟩
      · rintro ⟨hk, hq⟩
        obtain ⟨h1, h2⟩ := T.kid id ht k hk
        obtain ⟨m, rfl, hm⟩ := there_at h1
        exact ⟨m, List.mem_filter.2 ⟨List.mem_range.2 hm, decide_eq_true ⟨h2, of_decide_eq_true hq⟩⟩, rfl⟩
  have := hp.length_eq
  rw [List.length_map] at this
  exact this

section
variable {G : Nat → Prop} {l : List Nd} {A : Option Addr} {c : Nat} {w : World}
/-- The children of a node, as the list holds them. -/
theorem Nodes.row (h : Nodes G w 0 A c l) {m : Nat} (hm : m < l.length) : ∃ g A1 c1, A = some ⟨g, 0, none⟩ ∧ g < w.heap.size ∧ w.cell? ⟨g, m * 9 + 8, none⟩ = some (.slice A1 (nd l ((m : Int) + 1)).kids.length c1) ∧ ListIn w A1 c1 (nd l ((m : Int) + 1)).kids ∧ w.cell? ⟨g, m * 9 + 1, none⟩ = some (.int .i64 (nd l ((m : Int) + 1)).parent) ∧ w.cell? ⟨g, m * 9, none⟩ = some (.int .i64 (nd l ((m : Int) + 1)).kind) := by
  obtain ⟨g, k, rfl, -, hg, hk, -, c0, c1, -, -, -, -, -, -, c8⟩ := h.nine hm
  obtain ⟨A1, n1, rfl, hL⟩ := (Pile.of_kids (base := 0) hk fun _ _ _ => Nat.zero_le _).form
  exact ⟨g, A1, n1, rfl, hg, c8, hL, c1, c0⟩
theorem rowL_no {id : Int} (h : thereB l id = false) : rowL l id = [] := by unfold rowL; rw [if_neg (by rw [h]; decide)]
set_option maxHeartbeats 4000000 in
theorem refIndex (id : Int) (hg : Good l) (h : Nodes G w 0 A c l) :
    Calls Try.prog 20 #[.slice A l.length c, .int .i64 id] w fun e w' => e = .returned (.int .i64 (idxL (rowL l id) id)) ∧ w = w' := by
  have hnot : ∀ (x : Bool) (w : World), (Op.unary .not (.bool x)).run Try.prog w = .ok (.bool (!x)) w := fun _ _ => rfl
  have hll := hg.len
  cases ht : thereB l id with
  | false =>
    have e0 : idxL (rowL l id) id = -1 := by
      unfold rowL
      rw [ht]
      rfl
    have E0 := Lib.hid e0
    have Ht := Lib.hid ht
    clear e0 ht h hg
    go_enter Try.func20, Try.ntmps20
    go_wp2_with fail
    refine (there_any l A c id w).mono ?_
    rintro e w1 ⟨rfl, rfl⟩
    rw [Ht.out]
    go_wp2
    go_ret
    rw [E0.out]
    exact ⟨rfl, rfl⟩
  | true =>
    obtain ⟨m, rfl, hm⟩ := there_at ht
    obtain ⟨g, A1, c1, rfl, -, -, -, cp, -⟩ := h.row hm
    by_cases hp : (nd l ((m : Int) + 1)).parent = 0
    · have e0 : idxL (rowL l ((m : Int) + 1)) ((m : Int) + 1) = -1 := by
        unfold rowL
        rw [if_pos ht, hp, if_neg (by rw [there_zero]; decide)]
        rfl
      rw [hp] at cp
      have E0 := Lib.hid e0
      have Ht := Lib.hid ht
      clear e0 ht h hg hp
      go_enter Try.func20, Try.ntmps20
      go_wp2_with fail
      refine (there_any l _ c _ w).mono ?_
      rintro e w1 ⟨rfl, rfl⟩
      rw [Ht.out]
      go_wp2
      go_ret
      rw [E0.out]
      exact ⟨rfl, rfl⟩
    · have hpt := (hg.tree.par _ ht hp).1
      have e0 : rowL l ((m : Int) + 1) = (nd l (nd l ((m : Int) + 1)).parent).kids := by
        unfold rowL
        rw [if_pos ht, if_pos hpt]
      rw [e0]
      have hkl : (nd l (nd l ((m : Int) + 1)).parent).kids.length ≤ 200 := few_nd hg.few _
      obtain ⟨p, hpe, hpm⟩ := there_at hpt
      rw [hpe] at cp hkl
      rw [hpe]
      obtain ⟨g', A2, c2, eg, -, ck, hL, -, -⟩ := h.row hpm
      obtain rfl : g = g' := by simpa using eg
      obtain ⟨ks, hks⟩ : ∃ ks, ks = (nd l ((p : Int) + 1)).kids := ⟨_, rfl⟩
      rw [← hks] at ck hL hkl
      rw [← hks]
      obtain ⟨n, hn⟩ : ∃ n, n = ks.length := ⟨_, rfl⟩
      rw [← hn] at ck hkl
      have z1 : (((p : Int) + 1) == 0) = false := by rw [beq_eq_false_iff_ne]; omega
      have Hn := Lib.hid hn
      have HL := Lib.hid hL
      have Ht := Lib.hid ht
      clear hn hks hL ht h hg hp hpt hpe e0 eg
      go_enter Try.func20, Try.ntmps20
      go_wp2_with fail
      refine (there_any l _ c _ w).mono ?_
      rintro e w1 ⟨rfl, rfl⟩
      rw [Ht.out]
      go_wp2
      go_loop [6] (fun i => ∃ k : Nat, i = .int .i64 k ∧ k ≤ n ∧ ((m : Int) + 1) ∉ ks.take k) (fun i => n - (intOf i).toNat)
      case atStart => exact ⟨0, rfl, Nat.zero_le _, by simp⟩
      case round =>
        obtain ⟨k, rfl, hk, hc⟩ := hrel
        have Hc := Lib.hid hc
        clear hc
        by_cases hlt : (k : Int) < n
        · have hkl : k < ks.length := by rw [← Hn.out]; omega
          obtain ⟨b, off, rfl, hb, hcell⟩ := HL.out.nums k hkl
          obtain ⟨y, hy⟩ : ∃ y, y = ks[k] := ⟨_, rfl⟩
          rw [← hy] at hcell
          have Hy := Lib.hid hy
          clear hy hb
          by_cases hxy : y = (m : Int) + 1
          · have e1 : idxL ks ((m : Int) + 1) = (k : Int) := idxL_at hkl (by rw [← Hy.out]; exact hxy) Hc.out
            have E1 := Lib.hid e1
            clear e1
            subst hxy
            go_wp2
            go_ret
            rw [E1.out]
            exact ⟨rfl, rfl⟩
          · have hxy' : (y == (m : Int) + 1) = false := by simpa using hxy
            have e2 := not_take Hc.out hkl (by rw [← Hy.out]; exact hxy)
            have E2 := Lib.hid e2
            clear e2
            go_wp2
            go_round
            case rel => exact ⟨k + 1, by go_num, by omega, E2.out⟩
            case measure => simp [intOf]; omega
        · have e1 : idxL ks ((m : Int) + 1) = -1 := by
            have := Hc.out
            rw [List.take_of_length_le (by rw [← Hn.out]; omega)] at this
            exact idxL_no this
          have E1 := Lib.hid e1
          clear e1
          go_wp2
          go_ret
          rw [E1.out]
          exact ⟨rfl, rfl⟩
set_option maxHeartbeats 4000000 in
theorem refNext (id : Int) (hg : Good l) (h : Nodes G w 0 A c l) :
    Calls Try.prog 22 #[.slice A l.length c, .int .i64 id] w fun e w' => e = .returned (.int .i64 (nextL (rowL l id) id)) ∧ w = w' := by
  have C := Lib.hid (refIndex id hg h)
  have hll := hg.len
  rcases idxL_range (rowL l id) id with hi | ⟨k, hi, hk⟩
  · have e0 : nextL (rowL l id) id = 0 := by unfold nextL; rw [hi]; rfl
    rw [hi] at C
    have E0 := Lib.hid e0
    clear hi e0 h hg
    go_enter Try.func22, Try.ntmps22
    go_wp2_with fail
    refine C.out.mono ?_
    rintro e w1 ⟨rfl, rfl⟩
    go_wp2
    go_ret
    rw [E0.out]
    exact ⟨rfl, rfl⟩
  · have e0 : nextL (rowL l id) id = (rowL l id).getD (k + 1) 0 := by
      unfold nextL
      rw [hi, if_neg (by omega)]
      rfl
    rw [hi] at C
    have ht : thereB l id = true := by
      cases hq : thereB l id with
      | true => rfl
      | false => rw [rowL_no hq] at hk; exact absurd hk (Nat.not_lt_zero k)
    have hpt : thereB l (nd l id).parent = true := by
      cases hq : thereB l (nd l id).parent with
      | true => rfl
      | false =>
        unfold rowL at hk
        rw [if_pos ht, if_neg (by rw [hq]; decide)] at hk
        exact absurd hk (Nat.not_lt_zero k)
    have er : rowL l id = (nd l (nd l id).parent).kids := by unfold rowL; rw [if_pos ht, if_pos hpt]
    have e0 := e0.trans (congrArg (fun z => List.getD z (k + 1) 0) er)
    rw [er] at hk
    have hkl : (nd l (nd l id).parent).kids.length ≤ 200 := few_nd hg.few _
    obtain ⟨m, rfl, hm⟩ := there_at ht
    obtain ⟨g, A1, c1, rfl, -, -, -, cp, -⟩ := h.row hm
    obtain ⟨p, hpe, hpm⟩ := there_at hpt
    rw [hpe] at cp hkl e0 hk
    obtain ⟨g', A2, c2, eg, -, ck, hL, -, -⟩ := h.row hpm
    obtain rfl : g = g' := by simpa using eg
    obtain ⟨ks, hks⟩ : ∃ ks, ks = (nd l ((p : Int) + 1)).kids := ⟨_, rfl⟩
    rw [← hks] at ck hL hkl e0 hk
    obtain ⟨n, hn⟩ : ∃ n, n = ks.length := ⟨_, rfl⟩
    rw [← hn] at ck hkl hk
    by_cases hlast : k + 1 = n
    · have e1 : ks.getD (k + 1) 0 = 0 := by rw [List.getD_eq_getElem?_getD, List.getElem?_eq_none (by omega)]; rfl
      have E0 := Lib.hid (e0.trans e1)
      subst hlast
      clear hi e0 e1 h hg ht hpt er hpe eg hks hn hL
      go_enter Try.func22, Try.ntmps22
      go_wp2_with fail
      refine C.out.mono ?_
      rintro e w1 ⟨rfl, rfl⟩
      go_wp2
      go_ret
      rw [E0.out]
      exact ⟨rfl, rfl⟩
    · have hk1 : k + 1 < ks.length := by omega
      obtain ⟨b', off, rfl, -, hc⟩ := hL.nums (k + 1) hk1
      have e1 : ks.getD (k + 1) 0 = ks[k + 1] := by rw [List.getD_eq_getElem?_getD, List.getElem?_eq_getElem hk1]; rfl
      obtain ⟨y, hy⟩ : ∃ y, y = ks[k + 1] := ⟨_, rfl⟩
      rw [← hy] at hc e1
      have E0 := Lib.hid (e0.trans e1)
      have hkn : (k : Int) + 1 < n := by omega
      have z1 : ¬ ((n : Int) ≤ (k : Int) + 1) := by omega
      have hc' : w.cell? ⟨b', off + k + 1, none⟩ = some (.int .i64 y) := hc
      clear hi e0 e1 h hg ht hpt er hpe eg hks hn hL hy hk1
      go_enter Try.func22, Try.ntmps22
      go_wp2_with fail
      refine C.out.mono ?_
      rintro e w1 ⟨rfl, rfl⟩
      go_wp2
      go_ret
      rw [E0.out]
      exact ⟨rfl, rfl⟩
set_option maxHeartbeats 4000000 in
theorem refCount (id kind : Int) (hg : Good l) (h : Nodes G w 0 A c l) :
    Calls Try.prog 24 #[.slice A l.length c, .int .i64 id, .int .i64 kind] w fun e w' => e = .returned (.int .i64 (cntL l kind (kidsL l id))) ∧ w = w' := by
  have H := Lib.hid h
  have hll := hg.len
  cases ht : thereB l id with
  | false =>
    have e0 : cntL l kind (kidsL l id) = 0 := by unfold kidsL; rw [if_neg (by rw [ht]; decide)]; rfl
    have E0 := Lib.hid e0
    have Ht := Lib.hid ht
    clear e0 ht h hg
    go_enter Try.func24, Try.ntmps24
    go_wp2
    go_loop [7, 8] (fun q i => ∃ k : Nat, i = .int .i64 k ∧ k ≤ l.length ∧ q = .int .i64 0) (fun _ i => l.length - (intOf i).toNat)
    case atStart => exact ⟨0, rfl, Nat.zero_le _, rfl⟩
    case round =>
      obtain ⟨k, rfl, hk, rfl⟩ := hrel
      by_cases hlt : (k : Int) < l.length
      · go_wp2_with fail
        refine (there_any l A c id w).mono ?_
        rintro e w1 ⟨rfl, rfl⟩
        rw [Ht.out]
        go_wp2
        go_round
        case rel => exact ⟨k + 1, by go_num, by omega, rfl⟩
        case measure => simp [intOf]; omega
      · go_wp2
        go_ret
        rw [E0.out]
        exact ⟨rfl, rfl⟩
  | true =>
    have e0 := cntP_all hg.tree (kind := kind) ht
    have E0 := Lib.hid e0
    have Ht := Lib.hid ht
    clear e0 ht h hg
    go_enter Try.func24, Try.ntmps24
    go_wp2
    go_loop [7, 8] (fun q i => ∃ k : Nat, i = .int .i64 k ∧ k ≤ l.length ∧ q = .int .i64 (cntP l id kind k : Nat)) (fun _ i => l.length - (intOf i).toNat)
    case atStart => exact ⟨0, rfl, Nat.zero_le _, rfl⟩
    case round =>
      obtain ⟨k, rfl, hk, rfl⟩ := hrel
      by_cases hlt : (k : Int) < l.length
      · have hkm : k < l.length := by omega
        obtain ⟨g, A1, c1, rfl, -, -, -, cp, ck⟩ := H.out.row hkm
        have hst := cntP_step (l := l) (id := id) (kind := kind) (j := k)
        have hle := cntP_le l id kind k
        obtain ⟨q, hq⟩ : ∃ q, q = cntP l id kind k := ⟨_, rfl⟩
        rw [← hq] at hst hle
        rw [← hq]
        obtain ⟨pa, hpa⟩ : ∃ pa, pa = (nd l ((k : Int) + 1)).parent := ⟨_, rfl⟩
        obtain ⟨kd, hkd⟩ : ∃ kd, kd = (nd l ((k : Int) + 1)).kind := ⟨_, rfl⟩
        rw [← hpa] at cp hst
        rw [← hkd] at ck hst
        have Hst := Lib.hid hst
        clear hst hq hpa hkd
        by_cases h1 : pa = id
        · subst h1
          by_cases h2 : kd = kind
          · subst h2
            have hs1 := Lib.hid (Hst.out.trans (by rw [if_pos ⟨rfl, rfl⟩]))
            clear Hst
            go_wp2_with fail
            refine (there_any l _ c _ w).mono ?_
            rintro e w1 ⟨rfl, rfl⟩
            rw [Ht.out]
            go_wp2
            go_round
            case rel => exact ⟨k + 1, by go_num, by omega, by rw [hs1.out]; go_num⟩
            case measure => simp [intOf]; omega
          · have z2 : (kd == kind) = false := by simpa using h2
            have hs1 := Lib.hid (Hst.out.trans (by rw [if_neg (fun hh => h2 hh.2)]))
            clear Hst
            go_wp2_with fail
            refine (there_any l _ c _ w).mono ?_
            rintro e w1 ⟨rfl, rfl⟩
            rw [Ht.out]
            go_wp2
            go_round
            case rel => exact ⟨k + 1, by go_num, by omega, by rw [hs1.out]; rfl⟩
            case measure => simp [intOf]; omega
        · have z1 : (pa == id) = false := by simpa using h1
          have hs1 := Lib.hid (Hst.out.trans (by rw [if_neg (fun hh => h1 hh.1)]))
          clear Hst
          go_wp2_with fail
          refine (there_any l _ c _ w).mono ?_
          rintro e w1 ⟨rfl, rfl⟩
          rw [Ht.out]
          go_wp2
          go_round
          case rel => exact ⟨k + 1, by go_num, by omega, by rw [hs1.out]; rfl⟩
          case measure => simp [intOf]; omega
      · obtain rfl : k = l.length := by omega
        rw [E0.out]
        go_wp2
        go_ret
        exact ⟨rfl, rfl⟩
end
end Go.Proofs.Ytkafaceanlkjjaa
