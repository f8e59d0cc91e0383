/-
  What towncrierlaw04.ArenaTree does with an arena that keeps its promises: it answers true.
-/
import Derived.Test.YtlbaahfadfmffaaFx
namespace Go.Proofs.Ytlbaahfadfmffaa
open Go Go.RowKit

section
variable {Rep : (Nat → Prop) → World → Nat → List Nd → Prop}
/-- A node's cells, in every later world. -/
theorem node_cells {G : Nat → Prop} {w w' : World} {B g c m : Nat} {l : List Nd} (h : Nodes G w B (some ⟨g, 0, none⟩) c l) (hm : m < l.length) (hb : Below w.heap.size w w') :
    ∃ A k, (w'.cell? ⟨g, m * 9, none⟩ = some (.int .i64 l[m].kind) ∧ w'.cell? ⟨g, m * 9 + 1, none⟩ = some (.int .i64 l[m].parent) ∧ w'.cell? ⟨g, m * 9 + 2, none⟩ = some (.int .i64 l[m].host) ∧ w'.cell? ⟨g, m * 9 + 3, none⟩ = some (.int .i64 l[m].shadow) ∧ w'.cell? ⟨g, m * 9 + 8, none⟩ = some (.slice A l[m].kids.length k)) ∧ Nums w' w'.heap.size A .i64 l[m].kids := by
  obtain ⟨g', k, e, _, hK, _, hc⟩ := (h.below hb).at_ hm
  obtain rfl : g = g' := by simpa using e
  obtain ⟨A, ck, rfl, _, hn⟩ := hK.form
  exact ⟨A, ck, ⟨hc 0 (by omega), hc 1 (by omega), hc 2 (by omega), hc 3 (by omega), hc 8 (by omega)⟩, hn⟩

set_option maxHeartbeats 16000000 in
set_option maxRecDepth 100000 in
theorem arenaTree_any (O : ForestOk Rep) (hA : ∀ w : World, Calls Try.prog 6 #[] w fun e w' => e = .returned (.bool true) ∧ Below w.heap.size w w') (A : Option Addr) (n c : Nat) (xs : List Ac) (w : World) (hn : xs.length = n) (hm : n ≤ maxLen) (h : Acts w A xs) :
    Calls Try.prog 4 #[.slice A n c] w fun e w' => e = .returned (.bool true) ∧ Below w.heap.size w w' := by
  have hnot : ∀ (x : Bool) (w : World), (Op.unary .not (.bool x)).run Try.prog w = .ok (.bool (!x)) w := fun _ _ => rfl
  have H0 := Lib.hid h
  have Hn := Lib.hid hn
  have HA := Lib.hid hA
  clear h hn hA
  go_enter Try.func4, Try.ntmps4
  go_wp2_with fail
  refine (HA.out w).mono ?_
  rintro e w0 ⟨rfl, hb0⟩
  go_wp2_with fail
  refine (great_any A n c xs w0 Hn.out hm (H0.out.below hb0)).mono ?_
  rintro e w1 ⟨⟨gr, rfl, hgr⟩, rfl⟩
  cases gr with
  | true =>
    go_wp2
    go_ret
    exact ⟨rfl, hb0⟩
  | false =>
    have hsm := hgr rfl
    have Hsm := Lib.hid hsm
    clear hgr hsm
    go_wp2_with fail
    refine (made_any O A n c xs w0 Hn.out (H0.out.below hb0) Hsm.out).mono ?_
    rintro e w1 ⟨b, rfl, hR, hb1⟩
    go_wp2_with fail
    refine (O.all _ w1 b (forest xs) hR (good_forest Hsm.out)).mono ?_
    rintro e w2 ⟨A2, c2, rfl, hN2, hb2⟩
    have hB2 : Below w.heap.size w w2 := (hb0.trans (hb1.mono hb0.size)).trans (hb2.mono (Nat.le_trans hb0.size hb1.size))
    have hT := tree_forest xs
    have hlen : (forest xs).length ≤ 128 := (good_forest Hsm.out).len
    have hfew : Few 200 (forest xs) := (good_forest Hsm.out).few
    obtain ⟨L, hL⟩ : ∃ L, L = forest xs := ⟨_, rfl⟩
    rw [← hL] at hN2 hT hlen hfew
    rw [← hL]
    have H := Lib.hid hN2
    have HT := Lib.hid hT
    have Hfew := Lib.hid hfew
    clear hL hN2 hT hR hb1 hb2 hb0 hfew
    go_wp2_with fail
    go_loopw [4] (fun i wr => ∃ m : Nat, i = .int .i64 m ∧ m ≤ L.length ∧ Below w2.heap.size w2 wr) (fun i _ => L.length - (intOf i).toNat)
    case atStart => exact ⟨0, rfl, Nat.zero_le _, Below.refl _ _⟩
    case round =>
      obtain ⟨m, rfl, hm', hbr⟩ := hrel
      by_cases hml : (m : Int) < L.length
      · have hml' : m < L.length := by omega
        obtain ⟨g, rfl, -⟩ := H.out.some_ hml'
        have hid : nd L ((m : Int) + 1) = L[m] := nd_at hml'
        have hti : thereB L ((m : Int) + 1) = true := thereB_iff.2 ⟨by omega, by omega⟩
        have hkl : L[m].kids.length ≤ 200 := Hfew.out _ (List.getElem_mem hml')
        have T1 := HT.out.kid _ hti
        have T2 := HT.out.once _ hti
        have T3 := HT.out.par _ hti
        have T4 := HT.out.bare _ hti
        have T5 := HT.out.shade _ hti
        rw [hid] at T1 T2 T3 T4 T5
        have hcells := fun (w' : World) (hb : Below w2.heap.size w2 w') => node_cells H.out hml' hb
        obtain ⟨d, hd⟩ : ∃ d, d = L[m] := ⟨_, rfl⟩
        rw [← hd] at T1 T2 T3 T4 T5 hcells hkl
        have HX := Lib.hid hcells
        have HT1 := Lib.hid T1
        have HT2 := Lib.hid T2
        have HT3 := Lib.hid T3
        have HT4 := Lib.hid T4
        have HT5 := Lib.hid T5
        have Hti := Lib.hid hti
        clear hcells T1 T2 T3 T4 T5 hd hid hti
        go_wp2_with fail
        go_loopw [5] (fun i wr' => ∃ q : Nat, i = .int .i64 q ∧ q ≤ d.kids.length ∧ Below w2.heap.size w2 wr') (fun i _ => d.kids.length - (intOf i).toNat)
        case atStart => exact ⟨0, rfl, Nat.zero_le _, hbr⟩
        case round =>
          obtain ⟨q, rfl, hq, hbr⟩ := hrel
          obtain ⟨Ak, ck, ⟨d0, d1, d2, d3, d8⟩, hnum⟩ := HX.out wr hbr
          by_cases hql : (q : Int) < d.kids.length
          · have hql' : q < d.kids.length := by omega
            obtain ⟨bk, offk, rfl, -, hck⟩ := hnum q hql'
            have hk := HT1.out _ (List.getElem_mem hql')
            obtain ⟨x, hx⟩ : ∃ x, x = d.kids[q] := ⟨_, rfl⟩
            rw [← hx] at hck hk
            obtain ⟨r, hr, hrl⟩ := there_at hk.1
            subst hr
            obtain ⟨Ar, cr, ⟨_, r1, _, _, _⟩, _⟩ := node_cells H.out hrl hbr
            rw [← nd_at hrl, hk.2] at r1
            have Hkt := Lib.hid hk.1
            have Hx := Lib.hid hx
            have hnum' := Lib.hid hnum
            clear hk hx d0 d1 d2 d3 hnum
            go_wp2_with fail
            refine (there_any L (some ⟨g, 0, none⟩) c2 _ wr).mono ?_
            rintro e w5 ⟨rfl, rfl⟩
            rw [Hkt.out]
            go_wp2_with fail
            go_loopw [6] (fun i wr' => ∃ p : Nat, i = .int .i64 p ∧ p ≤ q ∧ Below w2.heap.size w2 wr') (fun i _ => q - (intOf i).toNat)
            case atStart => exact ⟨0, rfl, Nat.zero_le _, hbr⟩
            case round =>
              clear d8 r1 hck hnum'
              obtain ⟨p, rfl, hp, hbr⟩ := hrel
              by_cases hpq : (p : Int) < q
              · obtain ⟨Ak, ck, ⟨_, _, _, _, d8⟩, hnum⟩ := HX.out wr hbr
                have hpl : p < d.kids.length := by omega
                obtain ⟨bp, offp, rfl, -, hcp⟩ := hnum p hpl
                obtain ⟨bq, offq, eq', -, hcq⟩ := hnum q hql'
                obtain ⟨rfl, rfl⟩ : bp = bq ∧ offp = offq := by simpa using eq'
                have hne : d.kids[p] ≠ d.kids[q] := fun e => (List.pairwise_iff_getElem.1 HT2.out) p q hpl hql' (by omega) e
                obtain ⟨y, hy⟩ : ∃ y, y = d.kids[p] := ⟨_, rfl⟩
                rw [← hy] at hcp hne
                rw [← Hx.out] at hcq hne
                have hne' : (y == (r : Int) + 1) = false := by simpa using hne
                clear hnum hy hne eq'
                go_wp2_with fail
                go_quiet (fail)
                go_wp2
                go_roundw
                case rel => exact ⟨p + 1, by go_num, by omega, below_draws hbr _⟩
                case measure => simp [intOf]; omega
              · go_wp2
                go_roundw
                case rel => exact ⟨q + 1, by go_num, by omega, hbr⟩
                case measure => simp [intOf]; omega
          · clear hnum
            obtain ⟨pa, hpa⟩ : ∃ pa, pa = d.parent := ⟨_, rfl⟩
            rw [← hpa] at d1
            by_cases hp0 : pa = 0
            · subst hp0
              have hNr := (H.out.below hbr).from_ (Nat.zero_le _)
              go_wp2_with fail
              refine (over_any L (some ⟨g, 0, none⟩) c2 ((m : Int) + 1) wr (by omega) hNr).mono ?_
              rintro e w5 ⟨v5, rfl, hK5, hb5⟩
              obtain ⟨A5, c5, rfl, -, -⟩ := hK5.form
              have hlen5 : (over L ((m : Int) + 1)).length ≤ L.length := up_short HT.out.ends (L.length + 1) ((m : Int) + 1)
              obtain ⟨n5, hn5⟩ : ∃ n5, n5 = (over L ((m : Int) + 1)).length := ⟨_, rfl⟩
              rw [← hn5] at hlen5
              rw [← hn5]
              have hlen6 : ¬ ((L.length : Int) < (n5 : Int)) := by omega
              have hlen7 : decide ((L.length : Int) < (n5 : Int)) = false := decide_eq_false hlen6
              have hbr5 : Below w2.heap.size w2 w5 := hbr.trans (hb5.mono hbr.size)
              obtain ⟨Ak5, ck5, ⟨s0, s1, s2, s3, s8⟩, -⟩ := HX.out w5 hbr5
              obtain ⟨sd, hsd⟩ : ∃ sd, sd = d.shadow := ⟨_, rfl⟩
              rw [← hsd] at s3
              have s1' : w5.cell? ⟨g, m * 9 + 1, none⟩ = some (.int .i64 0) := by rw [s1, ← hpa]
              clear s1
              clear hNr hK5 hn5 hb5
              by_cases hs0 : sd = 0
              · subst hs0
                clear hsd
                go_wp2
                go_roundw
                case rel => exact ⟨m + 1, by go_num, by omega, hbr5⟩
                case measure => simp [intOf]; omega
              · have hs1 : (sd != 0) = true := by simpa using hs0
                have hs2 : (sd == 0) = false := by simpa using hs0
                have hT5 := HT5.out (by rw [← hsd]; exact hs0)
                rw [← hsd] at hT5
                obtain ⟨r, hr, hrl⟩ := there_at hT5.1
                subst hr
                obtain ⟨Ar, cr, ⟨r0, _, r2, _, _⟩, _⟩ := node_cells H.out hrl hbr5
                rw [← nd_at hrl, hT5.2.1] at r2
                rw [← nd_at hrl, hT5.2.2] at r0
                have Hst := Lib.hid hT5.1
                clear hT5 hsd
                go_wp2_with fail
                refine (there_any L (some ⟨g, 0, none⟩) c2 _ w5).mono ?_
                rintro e w6 ⟨rfl, rfl⟩
                rw [Hst.out]
                go_wp2
                go_roundw
                case rel => exact ⟨m + 1, by go_num, by omega, hbr5⟩
                case measure => simp [intOf]; omega
            · have hp1 : (pa != 0) = true := by simpa using hp0
              have hp2 : (pa == 0) = false := by simpa using hp0
              have hT3 := HT3.out (by rw [← hpa]; exact hp0)
              rw [← hpa] at hT3
              have hk1 : ¬ (d.kind = 1 ∨ d.kind = 3) := fun hk => hp0 (by rw [hpa]; exact HT4.out hk)
              obtain ⟨r, hr, hrl⟩ := there_at hT3.1
              have Hpt := Lib.hid hT3.1
              have hmem := hT3.2
              rw [hr, nd_at hrl] at hmem
              have hkp : L[r].kids.length ≤ 200 := Hfew.out _ (List.getElem_mem hrl)
              have hcr := fun (w' : World) (hb : Below w2.heap.size w2 w') => node_cells H.out hrl hb
              obtain ⟨kp, hkp'⟩ : ∃ kp, kp = L[r].kids := ⟨_, rfl⟩
              rw [← hkp'] at hmem hkp
              have HXr := Lib.hid hcr
              have Hkp := Lib.hid hkp'
              have Hmem := Lib.hid hmem
              have Hpa := Lib.hid hpa
              subst hr
              clear hT3 hmem hcr hkp' hpa
              go_wp2_with fail
              refine (there_any L (some ⟨g, 0, none⟩) c2 _ wr).mono ?_
              rintro e w5 ⟨rfl, rfl⟩
              rw [Hpt.out]
              go_wp2_with fail
              go_loopw [8, 9] (fun t i wr' => ∃ (z : Nat) (tb : Bool), t = .bool tb ∧ i = .int .i64 z ∧ z ≤ kp.length ∧ tb = hasB (kp.take z) ((m : Int) + 1) ∧ Below w2.heap.size w2 wr') (fun _ i _ => kp.length - (intOf i).toNat)
              case atStart => exact ⟨0, false, rfl, rfl, Nat.zero_le _, by simp [hasB], hbr⟩
              case round =>
                clear d0 d1 d2 d3 d8
                obtain ⟨z, tb, rfl, rfl, hz, htb, hbr⟩ := hrel
                obtain ⟨Ar, cr, ⟨_, _, _, _, r8⟩, hnr⟩ := HXr.out wr hbr
                rw [← Hkp.out] at r8 hnr
                by_cases hzl : (z : Int) < kp.length
                · have hzl' : z < kp.length := by omega
                  obtain ⟨bz, offz, rfl, -, hcz⟩ := hnr z hzl'
                  obtain ⟨y, hy⟩ : ∃ y, y = kp[z] := ⟨_, rfl⟩
                  rw [← hy] at hcz
                  have hst : hasB (kp.take (z + 1)) ((m : Int) + 1) = (hasB (kp.take z) ((m : Int) + 1) || (y == (m : Int) + 1)) := by
                    unfold hasB
                    rw [List.take_add_one, List.getElem?_eq_getElem hzl', ← hy]
                    by_cases e : y = (m : Int) + 1
                    · simp [e]
                    · have e' : ¬ (m : Int) + 1 = y := fun h => e h.symm
                      simp [e, e']
                  have Hst := Lib.hid hst
                  have Htb := Lib.hid htb
                  clear hnr hy hst htb
                  cases tb with
                  | true =>
                    go_wp2
                    go_roundw
                    case rel => exact ⟨z + 1, true, rfl, by go_num, by omega, by rw [Hst.out, ← Htb.out]; rfl, hbr⟩
                    case measure => simp [intOf]; omega
                  | false =>
                    cases hym : (y == (m : Int) + 1) with
                    | true =>
                      have hys : y = (m : Int) + 1 := by simpa using hym
                      subst hys
                      clear hym
                      go_wp2
                      go_roundw
                      case rel => exact ⟨z + 1, true, rfl, by go_num, by omega, by rw [Hst.out, ← Htb.out]; simp, hbr⟩
                      case measure => simp [intOf]; omega
                    | false =>
                      have Hym := Lib.hid hym
                      go_wp2
                      go_roundw
                      case rel => exact ⟨z + 1, false, rfl, by go_num, by omega, by rw [Hst.out, ← Htb.out, Hym.out]; rfl, hbr⟩
                      case measure => simp [intOf]; omega
                · have htt : tb = true := by
                    rw [htb, List.take_of_length_le (by omega), hasB, decide_eq_true_iff]
                    exact Hmem.out
                  subst htt
                  clear htb hnr
                  have hNr := (H.out.below hbr).from_ (Nat.zero_le _)
                  go_wp2_with fail
                  refine (over_any L (some ⟨g, 0, none⟩) c2 ((m : Int) + 1) wr (by omega) hNr).mono ?_
                  rintro e w5 ⟨v5, rfl, hK5, hb5⟩
                  obtain ⟨A5, c5, rfl, -, -⟩ := hK5.form
                  have hlen5 : (over L ((m : Int) + 1)).length ≤ L.length := up_short HT.out.ends (L.length + 1) ((m : Int) + 1)
                  obtain ⟨n5, hn5⟩ : ∃ n5, n5 = (over L ((m : Int) + 1)).length := ⟨_, rfl⟩
                  rw [← hn5] at hlen5
                  rw [← hn5]
                  have hlen6 : ¬ ((L.length : Int) < (n5 : Int)) := by omega
                  have hlen7 : decide ((L.length : Int) < (n5 : Int)) = false := decide_eq_false hlen6
                  have hbr5 : Below w2.heap.size w2 w5 := hbr.trans (hb5.mono hbr.size)
                  obtain ⟨Ak5, ck5, ⟨s0, s1, s2, s3, s8⟩, -⟩ := HX.out w5 hbr5
                  obtain ⟨sd, hsd⟩ : ∃ sd, sd = d.shadow := ⟨_, rfl⟩
                  rw [← hsd] at s3
                  have s1' : w5.cell? ⟨g, m * 9 + 1, none⟩ = some (.int .i64 ((r : Int) + 1)) := by rw [s1, ← Hpa.out]
                  obtain ⟨kd, hkd⟩ : ∃ kd, kd = d.kind := ⟨_, rfl⟩
                  rw [← hkd] at s0 hk1
                  have kd1 : (kd == 1) = false := by simpa using fun e => hk1 (.inl e)
                  have kd3 : (kd == 3) = false := by simpa using fun e => hk1 (.inr e)
                  clear s1 hkd
                  clear hNr hK5 hn5 hb5
                  by_cases hs0 : sd = 0
                  · subst hs0
                    clear hsd
                    go_wp2
                    go_roundw
                    case rel => exact ⟨m + 1, by go_num, by omega, hbr5⟩
                    case measure => simp [intOf]; omega
                  · have hs1 : (sd != 0) = true := by simpa using hs0
                    have hs2 : (sd == 0) = false := by simpa using hs0
                    have hT5 := HT5.out (by rw [← hsd]; exact hs0)
                    rw [← hsd] at hT5
                    obtain ⟨r5, hr, hrl⟩ := there_at hT5.1
                    subst hr
                    obtain ⟨Ar, cr, ⟨r0, _, r2, _, _⟩, _⟩ := node_cells H.out hrl hbr5
                    rw [← nd_at hrl, hT5.2.1] at r2
                    rw [← nd_at hrl, hT5.2.2] at r0
                    have Hst := Lib.hid hT5.1
                    clear hT5 hsd
                    go_wp2_with fail
                    refine (there_any L (some ⟨g, 0, none⟩) c2 _ w5).mono ?_
                    rintro e w6 ⟨rfl, rfl⟩
                    rw [Hst.out]
                    go_wp2
                    go_roundw
                    case rel => exact ⟨m + 1, by go_num, by omega, hbr5⟩
                    case measure => simp [intOf]; omega
      · go_wp2
        go_ret
        exact ⟨rfl, hB2.trans (hbr.mono hB2.size)⟩
end
end Go.Proofs.Ytlbaahfadfmffaa
