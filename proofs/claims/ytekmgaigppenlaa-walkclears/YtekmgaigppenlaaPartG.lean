/-
  What the document's Turns, Target and Same do (towncrierref16).
  What lastTarget and Target of package walk do.
  What inShadow and Clears of package walk do with an arena that keeps its promises; what the document's shaded and Clears do.
  What the function that walk.Each hands back does, as an iterator: it hands over the turns, one by one, over whatever loop.
  What walk.Each hands back, and the list of turns that walk.Turns makes of it.
  What towncrierlaw16.awake does: it answers true.
  What the law's own made does with an arena that keeps its promises (stages 5 and later: a list is handed on as it came in).
  What towncrierref05.Index, Next and Count do.
  A forest and the document's list of the same nodes, side by side.
  Arguments that came in, opened: lists of texts and of numbers. Facts of the program that every row's proof wants.
  Paths that came in: a list of entries, read cell by cell.
  What towncrierlaw16.WalkClears does with an arena that keeps its promises: it answers true.
  What stage 16's law over forests does with this arena.
  Proved: the law answers true for every input, and each argument reads afterwards as it read before. No condition.
-/
import Derived.Test.YtekmgaigppenlaaPartF
import Derived.Deep.DeepCutAuto
import Derived.Maps.AppendAt
import Derived.Test.YtekmgaigppenlaaProg
import Derived.Test.YtekmgaigppenlaaChecked
import Derived.ProofKit
import Derived.OpenShut
import Derived.Test.YtekmgaigppenlaaRows
import Derived.ChangeOld

namespace Go.Proofs.Ytekmgaigppenlaa
open Go Go.RowKit

theorem bub_le (b : Bool) : ∀ (q : List Stp) (n : Nat), (bubT b n q).length ≤ q.length
  | [], _ => Nat.le_refl _
  | s :: r, n => by
    have h1 := bub_le b r (n + 1)
    have h2 : (bub1 b n s).length ≤ 1 := by
      unfold bub1
      split
      · exact Nat.le_refl _
      · split <;> simp
    rw [bubT, List.length_append, List.length_cons]
    omega
theorem turns_le (p : List Stp) (b : Bool) : (turnsL p b).length ≤ 2 * p.length := by
  have := bub_le b p 0
  rw [turnsL, List.length_append, cap_len]
  omega
theorem three_of {w : World} {A : Option Addr} {c k : Nat} {ts : List Trn} (h : RecIn RT w A c ts) (hk : k < ts.length) : ∃ b off, A = some ⟨b, off, none⟩ ∧
    w.cell? ⟨b, off + k * 3, none⟩ = some (.int .i64 ts[k].at_) ∧ w.cell? ⟨b, off + k * 3 + 1, none⟩ = some (.int .i64 ts[k].phase) ∧ w.cell? ⟨b, off + k * 3 + 2, none⟩ = some (.bool ts[k].cap) := by
  obtain ⟨b, off, e, _, hc⟩ := h.at_ k hk
  refine ⟨b, off, e, ?_⟩
  simp only [Nat.add_assoc]
  exact ⟨hc 0 (by decide), hc 1 (by decide), hc 2 (by decide)⟩
section
variable {w : World}
set_option maxHeartbeats 4000000 in
theorem turnsSame (ps : List Trn) (n : Nat) (A A' : Option Addr) (c c' : Nat) (w : World) (hn : ps.length = n) (hl : n ≤ 1000000) (h : RecIn RT w A c ps) (h' : RecIn RT w A' c' ps) :
    Calls Try.prog 9 #[.slice A n c, .slice A' n c'] w fun e w' => e = .returned (.bool true) ∧ ∃ m, w' = w.drewN m := by
  have HN := Lib.hid hn
  have H := Lib.hid h
  have H' := Lib.hid h'
  have y0 : ((n : Int) != (n : Int)) = false := by simp
  clear hn h h'
  go_enter Try.func9, Try.ntmps9
  go_wp2
  go_loopw [5] (fun i wr => ∃ k m : Nat, i = .int .i64 k ∧ k ≤ n ∧ wr = w.drewN m) (fun i _ => n - (intOf i).toNat)
  case atStart => exact ⟨0, 0, rfl, Nat.zero_le _, rfl⟩
  case round =>
    obtain ⟨k, m, rfl, hk, rfl⟩ := hrel
    by_cases hlt : (k : Int) < n
    · have hkn : k < ps.length := by rw [HN.out]; omega
      obtain ⟨b, off, rfl, c0, c1, c2⟩ := three_of H.out hkn
      obtain ⟨b', off', rfl, d0, d1, d2⟩ := three_of H'.out hkn
      obtain ⟨x, hx⟩ : ∃ x, x = ps[k] := ⟨_, rfl⟩
      rw [← hx] at c0 c1 c2 d0 d1 d2
      obtain ⟨x0, x1, x2⟩ := x
      simp only at c0 c1 c2 d0 d1 d2
      have hwk : IntKind.i64.wrap ((k : Int) + 1) = (k : Int) + 1 := wrap_small (by omega) (by omega)
      clear hx hkn
      go_wp2
      go_quiet (fail)
      go_wp2
      go_roundw
      case rel => exact ⟨k + 1, m + nq, by go_num, by omega, rfl⟩
      case measure => simp [intOf]; omega
    · go_wp2
      go_ret
      exact ⟨rfl, m, rfl⟩
theorem told_take {p : List Stp} {k : Nat} (hk : k < p.length) (t : Int) : toldT (p.take (k + 1)) t = if p[k].target ≠ 0 then p[k].target else toldT (p.take k) t := by
  rw [List.take_add_one, List.getElem?_eq_getElem hk]
  exact told_snoc _ _
theorem target_in {p : List Stp} {k : Nat} (hk : k < p.length) : targetL p (k : Int) = toldT (p.take (k + 1)) 0 := by
  rw [targetL, if_pos ⟨by omega, by omega⟩, Int.toNat_natCast]
theorem target_out {p : List Stp} {i : Int} (h : ¬ (0 ≤ i ∧ i < p.length)) : targetL p i = 0 := by rw [targetL, if_neg h]
set_option maxRecDepth 100000 in
set_option maxHeartbeats 4000000 in
theorem rfTarget (A : Option Addr) (n c : Nat) (p : List Stp) (i : Int) (w : World) (hn : p.length = n) (hl : n ≤ 1000) (hR : RecIn RS w A c p) :
    Calls Try.prog 12 #[.slice A n c, .int .i64 i] w fun e w' => e = .returned (.int .i64 (targetL p i)) ∧ w' = w := by
  have HR := Lib.hid hR
  have HN := Lib.hid hn
  obtain ⟨R, hRR⟩ : ∃ R, R = targetL p i := ⟨_, rfl⟩
  rw [← hRR]
  by_cases hin : 0 ≤ i ∧ i < (n : Int)
  · obtain ⟨i0, rfl⟩ : ∃ i0 : Nat, i = (i0 : Int) := ⟨i.toNat, by omega⟩
    have hi0 : i0 < n := by omega
    have HRR : Hid (R = toldT (p.take (i0 + 1)) 0) := Lib.hid (hRR.trans (target_in (by omega)))
    have y1 : ((i0 : Int) < (n : Int)) := by omega
    clear hRR hin hR hn
    go_enter Try.func12, Try.ntmps12
    go_wp2
    go_loopw [5, 6] (fun t k wr => ∃ m : Nat, m ≤ i0 + 1 ∧ k = .int .i64 (m : Int) ∧ t = .int .i64 (toldT (p.take m) 0) ∧ wr = w) (fun _ k _ => i0 + 1 - (intOf k).toNat)
    case atStart => exact ⟨0, Nat.zero_le _, rfl, rfl, rfl⟩
    case round =>
      obtain ⟨m, hm, rfl, rfl, rfl⟩ := hrel
      by_cases hlt : m ≤ i0
      · have y2 : (m : Int) ≤ (i0 : Int) := by omega
        have y3 : (m : Int) < (n : Int) := by omega
        have hmp : m < p.length := by rw [HN.out]; omega
        obtain ⟨b, off, rfl, c0, c1, c2, c3, c4⟩ := five_of HR.out hmp
        have HT := Lib.hid (told_take hmp 0)
        obtain ⟨x, hx⟩ : ∃ x, x = p[m] := ⟨_, rfl⟩
        rw [← hx] at c0 c1 c2 c3 c4 HT
        obtain ⟨x0, x1, x2, x3, x4⟩ := x
        simp only at c0 c1 c2 c3 c4 HT
        have hwk : IntKind.i64.wrap ((m : Int) + 1) = (m : Int) + 1 := wrap_small (by omega) (by omega)
        clear hx hmp
        by_cases h1 : x1 = 0
        · have z : (x1 != 0) = false := by simp [h1]
          have HT1 : Hid (toldT (p.take (m + 1)) 0 = toldT (p.take m) 0) := Lib.hid (by rw [HT.out, if_neg (fun k => k h1)])
          clear h1 HT
          go_wp2
          go_roundw
          case rel => exact ⟨m + 1, by omega, by go_num, by rw [HT1.out], by first | rfl | trivial⟩
          case measure => simp [intOf]; omega
        · have z : (x1 != 0) = true := by simp [h1]
          have HT1 : Hid (toldT (p.take (m + 1)) 0 = x1) := Lib.hid (by rw [HT.out, if_pos h1])
          clear h1 HT
          go_wp2
          go_roundw
          case rel => exact ⟨m + 1, by omega, by go_num, by rw [HT1.out], by first | rfl | trivial⟩
          case measure => simp [intOf]; omega
      · have HM : Hid (m = i0 + 1) := Lib.hid (by omega)
        have y2 : decide ((m : Int) ≤ (i0 : Int)) = false := by rw [decide_eq_false_iff_not]; omega
        have y3 : decide (m ≤ i0) = false := by rw [decide_eq_false_iff_not]; omega
        clear hm hlt
        go_wp2
        go_ret
        exact ⟨by first | (rw [HRR.out, HM.out]; done) | (rw [HRR.out, HM.out]; rfl) | (rw [HM.out, HRR.out]; rfl), rfl⟩
  · have HRR : Hid (R = 0) := Lib.hid (hRR.trans (target_out (by rw [hn]; exact hin)))
    clear hRR hR hn
    by_cases h0 : 0 ≤ i
    · have hge : ¬ (i < (n : Int)) := fun h => hin ⟨h0, h⟩
      have y0 : (decide (i < (n : Int))) = false := by rw [decide_eq_false_iff_not]; exact hge
      have y1 : (decide ((0 : Int) ≤ i)) = true := by rw [decide_eq_true_iff]; exact h0
      clear hin hge
      by_cases hn0 : 0 < n
      · have y2 : decide ((0 : Int) < (n : Int)) = true := by rw [decide_eq_true_iff]; omega
        have y3 : (0 : Int) < (n : Int) := by omega
        go_enter Try.func12, Try.ntmps12
        go_wp2
        go_loopw [5, 6] (fun t k wr => t = .int .i64 0 ∧ k = .int .i64 0 ∧ wr = w) (fun _ _ _ => 0)
        case atStart => exact ⟨rfl, rfl, rfl⟩
        case round =>
          obtain ⟨rfl, rfl, rfl⟩ := hrel
          go_wp2
          go_ret
          exact ⟨by first | (rw [HRR.out]; done) | (rw [HRR.out]; rfl), rfl⟩
      · obtain rfl : n = 0 := by omega
        go_enter Try.func12, Try.ntmps12
        go_wp2
        go_loopw [5, 6] (fun t k wr => t = .int .i64 0 ∧ k = .int .i64 0 ∧ wr = w) (fun _ _ _ => 0)
        case atStart => exact ⟨rfl, rfl, rfl⟩
        case round =>
          obtain ⟨rfl, rfl, rfl⟩ := hrel
          go_wp2
          go_ret
          exact ⟨by first | (rw [HRR.out]; done) | (rw [HRR.out]; rfl), rfl⟩
    · have y1 : (decide ((0 : Int) ≤ i)) = false := by rw [decide_eq_false_iff_not]; exact h0
      clear hin
      go_enter Try.func12, Try.ntmps12
      go_wp2
      go_loopw [5, 6] (fun t k wr => t = .int .i64 0 ∧ k = .int .i64 0 ∧ wr = w) (fun _ _ _ => 0)
      case atStart => exact ⟨rfl, rfl, rfl⟩
      case round =>
        obtain ⟨rfl, rfl, rfl⟩ := hrel
        go_wp2
        go_ret
        exact ⟨by first | (rw [HRR.out]; done) | (rw [HRR.out]; rfl), rfl⟩
set_option maxRecDepth 100000 in
set_option maxHeartbeats 8000000 in
theorem rfTurns {A : Option Addr} {n c : Nat} {p : List Stp} {w : World} (bub : Bool) (hn : p.length = n) (hl : n ≤ 1000) (hR : RecIn RS w A c p) :
    Calls Try.prog 8 #[.slice A n c, .bool bub] w fun e w' => ∃ v, e = .returned v ∧ Recs RT 32 w.heap.size w' v (turnsL p bub) ∧ Below w.heap.size w w' := by
  have HR := Lib.hid hR
  have HN := Lib.hid hn
  obtain ⟨j0, qi, qz0, qz1, qz2⟩ := info_parts Try.infoU
  have Qi := Lib.hid qi
  have Qz0 := Lib.hid qz0
  have Qz1 := Lib.hid qz1
  have Qz2 := Lib.hid qz2
  have hwl : IntKind.i64.wrap ((n : Int) - 1) = (n : Int) - 1 := wrap_small (by omega) (by omega)
  have HW : Hid (Below w.heap.size w w) := Lib.hid (Below.refl _ _)
  have HE := Lib.hid (Recs.nil RT 32 w.heap.size w)
  clear hR hn qi qz0 qz1 qz2
  go_enter Try.func8, Try.ntmps8
  go_wp2
  go_loopw [5, 6] (fun v i wr => ∃ m : Nat, m ≤ n ∧ i = .int .i64 ((m : Int) - 1) ∧ Recs RT 32 w.heap.size wr v (capT m (p.drop m)) ∧ Below w.heap.size w wr) (fun _ i _ => (intOf i + 1).toNat)
  case atStart => exact ⟨n, Nat.le_refl _, rfl, by rw [List.drop_eq_nil_of_le (by rw [HN.out]; exact Nat.le_refl _)]; exact HE.out, HW.out⟩
  case round =>
    obtain ⟨m, hm, rfl, hr, hb⟩ := hrel
    cases m with
    | zero =>
      have HR0 : Hid (Recs RT 32 w.heap.size wr _ (capT 0 p)) := Lib.hid hr
      have HB0 := Lib.hid hb
      clear hr hb
      rw [show (((0 : Nat) : Int) - 1) = -1 from rfl]
      go_wp2
      go_loopw [5, 8] (fun v i wr => ∃ k : Nat, k ≤ n ∧ i = .int .i64 (k : Int) ∧ Recs RT 32 w.heap.size wr v (capT 0 p ++ bubT bub 0 (p.take k)) ∧ Below w.heap.size w wr) (fun _ i _ => n - (intOf i).toNat)
      case atStart => exact ⟨0, Nat.zero_le _, rfl, by rw [List.take_zero]; exact (List.append_nil (capT 0 p)).symm ▸ HR0.out, HB0.out⟩
      case round =>
        obtain ⟨k, hk, rfl, hr, hb⟩ := hrel
        have HRo0 := Lib.hid hr
        by_cases hlt : (k : Int) < n
        · have hkp : k < p.length := by rw [HN.out]; omega
          obtain ⟨b, off, rfl, c0, c1, c2, c3, c4⟩ := five_of (HR.out.below hb) hkp
          obtain ⟨x, hx⟩ : ∃ x, x = p[k] := ⟨_, rfl⟩
          have HTK : Hid (p.take (k + 1) = p.take k ++ [x]) := Lib.hid (by rw [List.take_add_one, List.getElem?_eq_getElem hkp, hx]; rfl)
          have HLK : Hid (0 + (p.take k).length = k) := Lib.hid (by rw [List.length_take]; omega)
          rw [← hx] at c0 c1 c2 c3 c4
          have HLn : Hid ((capT 0 p ++ bubT bub 0 (p.take k)).length ≤ 1000000) := Lib.hid (by
            have h1 := bub_le bub (p.take k) 0
            rw [List.length_take] at h1
            rw [List.length_append, cap_len]
            have := HN.out
            omega)
          clear hx hkp
          obtain ⟨Ao, co, rfl, -⟩ := hr.form
          have HRo := Lib.hid hr
          have HB := Lib.hid hb
          obtain ⟨L, hL⟩ : ∃ L, (capT 0 p ++ bubT bub 0 (p.take k)).length = L := ⟨_, rfl⟩
          have HL1 := Lib.hid hL
          rw [hL] at HRo ⊢
          clear hL
          have hwk : IntKind.i64.wrap ((k : Int) + 1) = (k : Int) + 1 := wrap_small (by omega) (by omega)
          obtain ⟨x0, x1, x2, x3, x4⟩ := x
          dsimp only at c0 c1 c2 c3 c4
          clear hr hb HRo0
          by_cases h1 : x1 = 0
          · have z : (x1 != 0) = false := by simp [h1]
            cases hbub : bub with
            | false =>
              subst hbub
              have HC : Hid (capT 0 p ++ bubT false 0 (p.take (k + 1)) = capT 0 p ++ bubT false 0 (p.take k)) := Lib.hid (by rw [HTK.out, bub_snoc, HLK.out, bub1_no k h1 rfl, List.append_nil])
              clear h1
              go_wp2
              go_roundw
              case rel => exact ⟨k + 1, by omega, by go_num, by rw [HC.out]; exact HRo.out, HB.out⟩
              case measure => simp [intOf]; omega
            | true =>
              subst hbub
              have hA : Below wr.heap.size wr (wr.alloc (.cells #[.int .i64 (k : Int), .int .i64 3, .bool false] 32)) := (Below.refl _ wr).alloc (Nat.le_refl _) _
              have HR6 := Lib.hid (HRo.out.below hA)
              have HL6 : Hid (Has (wr.alloc (.cells #[.int .i64 (k : Int), .int .i64 3, .bool false] 32)) wr.heap.size (.cells (RT.cells ⟨(k : Int), 3, false⟩).toArray 32 (0, 0))) := Lib.hid (Has.fresh wr (.cells #[.int .i64 (k : Int), .int .i64 3, .bool false] 32))
              have HS6 : Hid (w.heap.size ≤ (wr.alloc (.cells #[.int .i64 (k : Int), .int .i64 3, .bool false] 32)).heap.size) := Lib.hid (by simp only [World.size_alloc]; have := HB.out.size; omega)
              have HA := Lib.hid hA
              have HC : Hid (capT 0 p ++ bubT true 0 (p.take (k + 1)) = (capT 0 p ++ bubT true 0 (p.take k)) ++ [⟨(k : Int), 3, false⟩]) := Lib.hid (by rw [HTK.out, bub_snoc, HLK.out, show bub1 true k ⟨x0, x1, x2, x3, x4⟩ = [⟨(k : Int), 3, false⟩] from by unfold bub1; rw [if_neg (fun h => h h1), if_pos rfl], List.append_assoc])
              clear hA h1
              go_wp2_with (at_builtin; refine wpList_pushR (R := RT) (x := ⟨(k : Int), 3, false⟩) (v := .slice Ao L co) (xs := capT 0 p ++ bubT true 0 (p.take k)) (base := w.heap.size) rfl (.tmp 47) (.tmp 50) 24 rfl j0 _ 24 Try.underlying24 Qi.out Qz0.out Qz1.out Qz2.out rfl rfl HR6.out rfl HL6.out HLn.out (by omega) HS6.out ?_; intro g' cap w5 hp5 hk5 _ _; rw [HL1.out] at hp5 ⊢; have HP5 := Lib.hid hp5; have HB5 := Lib.hid (below_then (HB.out.trans (HA.out.mono HB.out.size)) hk5 HS6.out fun i hi e => by have := (HRo.out.in_ i e).1; omega); clear hp5 hk5)
              go_roundw
              case rel => exact ⟨k + 1, by omega, by go_num, by rw [HC.out]; exact HP5.out, HB5.out⟩
              case measure => simp [intOf]; omega
          · have z : (x1 != 0) = true := by simp [h1]
            have hA : Below wr.heap.size wr (wr.alloc (.cells #[.int .i64 (k : Int), .int .i64 2, .bool false] 32)) := (Below.refl _ wr).alloc (Nat.le_refl _) _
            have HR6 := Lib.hid (HRo.out.below hA)
            have HL6 : Hid (Has (wr.alloc (.cells #[.int .i64 (k : Int), .int .i64 2, .bool false] 32)) wr.heap.size (.cells (RT.cells ⟨(k : Int), 2, false⟩).toArray 32 (0, 0))) := Lib.hid (Has.fresh wr (.cells #[.int .i64 (k : Int), .int .i64 2, .bool false] 32))
            have HS6 : Hid (w.heap.size ≤ (wr.alloc (.cells #[.int .i64 (k : Int), .int .i64 2, .bool false] 32)).heap.size) := Lib.hid (by simp only [World.size_alloc]; have := HB.out.size; omega)
            have HA := Lib.hid hA
            have HC : Hid (capT 0 p ++ bubT bub 0 (p.take (k + 1)) = (capT 0 p ++ bubT bub 0 (p.take k)) ++ [⟨(k : Int), 2, false⟩]) := Lib.hid (by rw [HTK.out, bub_snoc, HLK.out, show bub1 bub k ⟨x0, x1, x2, x3, x4⟩ = [⟨(k : Int), 2, false⟩] from by unfold bub1; rw [if_pos h1], List.append_assoc])
            clear hA h1
            go_wp2_with (at_builtin; refine wpList_pushR (R := RT) (x := ⟨(k : Int), 2, false⟩) (v := .slice Ao L co) (xs := capT 0 p ++ bubT bub 0 (p.take k)) (base := w.heap.size) rfl (.tmp 41) (.tmp 44) 24 rfl j0 _ 24 Try.underlying24 Qi.out Qz0.out Qz1.out Qz2.out rfl rfl HR6.out rfl HL6.out HLn.out (by omega) HS6.out ?_; intro g' cap w5 hp5 hk5 _ _; rw [HL1.out] at hp5 ⊢; have HP5 := Lib.hid hp5; have HB5 := Lib.hid (below_then (HB.out.trans (HA.out.mono HB.out.size)) hk5 HS6.out fun i hi e => by have := (HRo.out.in_ i e).1; omega); clear hp5 hk5)
            go_roundw
            case rel => exact ⟨k + 1, by omega, by go_num, by rw [HC.out]; exact HP5.out, HB5.out⟩
            case measure => simp [intOf]; omega
        · have HB := Lib.hid hb
          have HT : Hid (capT 0 p ++ bubT bub 0 (p.take k) = turnsL p bub) := Lib.hid (by rw [turnsL, List.take_of_length_le (by rw [HN.out]; omega)])
          clear hr hb
          go_wp2
          go_ret
          exact ⟨_, rfl, by rw [← HT.out]; exact HRo0.out, HB.out⟩
    | succ k =>
      have hkp : k < p.length := by rw [HN.out]; omega
      obtain ⟨b, off, rfl, c0, c1, c2, c3, c4⟩ := five_of (HR.out.below (hb.alloc hb.size (.cells #[.int .i64 (k : Int), .int .i64 1, .bool true] 32))) hkp
      obtain ⟨x, hx⟩ : ∃ x, x = p[k] := ⟨_, rfl⟩
      have HD : Hid (p.drop k = x :: p.drop (k + 1)) := Lib.hid (by rw [hx, List.getElem_cons_drop])
      rw [← hx] at c0 c1 c2 c3 c4
      clear hx hkp
      obtain ⟨Ao, co, rfl, -⟩ := hr.form
      have HRo := Lib.hid hr
      have HB := Lib.hid hb
      have HLn : Hid ((capT (k + 1) (p.drop (k + 1))).length ≤ 1000000) := Lib.hid (by rw [cap_len, List.length_drop, HN.out]; omega)
      obtain ⟨L, hL⟩ : ∃ L, (capT (k + 1) (p.drop (k + 1))).length = L := ⟨_, rfl⟩
      have HL1 := Lib.hid hL
      rw [hL] at HRo ⊢
      clear hL
      have hkk : (((k + 1 : Nat) : Int) - 1) = (k : Int) := by omega
      have hwk : IntKind.i64.wrap ((k : Int) - 1) = (k : Int) - 1 := wrap_small (by omega) (by omega)
      rw [hkk]
      obtain ⟨x0, x1, x2, x3, x4⟩ := x
      dsimp only at c0 c1 c2 c3 c4
      clear hr hb hkk
      have hFX := Has.fresh wr (.cells #[.int .i64 (k : Int), .int .i64 1, .bool true] 32)
      by_cases h1 : x1 = 0
      · have z : (x1 != 0) = false := by simp [h1]
        have HC : Hid (capT k (p.drop k) = capT (k + 1) (p.drop (k + 1)) ++ [⟨(k : Int), 1, true⟩]) := Lib.hid (by rw [HD.out, capT, if_neg (fun h => h h1)])
        clear h1 hFX
        have hA : Below wr.heap.size wr ((wr.alloc (.cells #[.int .i64 (k : Int), .int .i64 1, .bool true] 32)).alloc (.cells #[.int .i64 (k : Int), .int .i64 1, .bool true] 32)) := ((Below.refl _ wr).alloc (Nat.le_refl _) _).alloc (by simp) _
        have HR6 := Lib.hid (HRo.out.below hA)
        have HL6 : Hid (Has ((wr.alloc (.cells #[.int .i64 (k : Int), .int .i64 1, .bool true] 32)).alloc (.cells #[.int .i64 (k : Int), .int .i64 1, .bool true] 32)) (wr.heap.size + 1) (.cells (RT.cells ⟨(k : Int), 1, true⟩).toArray 32 (0, 0))) := Lib.hid (by have := Has.fresh (wr.alloc (.cells #[.int .i64 (k : Int), .int .i64 1, .bool true] 32)) (.cells #[.int .i64 (k : Int), .int .i64 1, .bool true] 32); rw [World.size_alloc] at this; exact this)
        have HS6 : Hid (w.heap.size ≤ ((wr.alloc (.cells #[.int .i64 (k : Int), .int .i64 1, .bool true] 32)).alloc (.cells #[.int .i64 (k : Int), .int .i64 1, .bool true] 32)).heap.size) := Lib.hid (by simp only [World.size_alloc]; have := HB.out.size; omega)
        have HA := Lib.hid hA
        clear hA
        go_wp2_with (at_builtin; refine wpList_pushR (R := RT) (x := ⟨(k : Int), 1, true⟩) (v := .slice Ao L co) (xs := capT (k + 1) (p.drop (k + 1))) (base := w.heap.size) rfl (.tmp 25) (.tmp 27) 24 rfl j0 _ 24 Try.underlying24 Qi.out Qz0.out Qz1.out Qz2.out rfl rfl HR6.out rfl HL6.out HLn.out (by omega) HS6.out ?_; intro g' cap w5 hp5 hk5 _ _; rw [HL1.out] at hp5 ⊢; have HP5 := Lib.hid hp5; have HB5 := Lib.hid (below_then (HB.out.trans (HA.out.mono HB.out.size)) hk5 HS6.out fun i hi e => by have := (HRo.out.in_ i e).1; omega); clear hp5 hk5)
        go_roundw
        case rel => exact ⟨k, by omega, by go_num, by rw [HC.out]; exact HP5.out, HB5.out⟩
        case measure => simp [intOf]
      · have z : (x1 != 0) = true := by simp [h1]
        have HC : Hid (capT k (p.drop k) = capT (k + 1) (p.drop (k + 1)) ++ [⟨(k : Int), 2, true⟩]) := Lib.hid (by rw [HD.out, capT, if_pos h1])
        clear h1 hFX
        have hA : Below wr.heap.size wr ((wr.alloc (.cells #[.int .i64 (k : Int), .int .i64 2, .bool true] 32)).alloc (.cells #[.int .i64 (k : Int), .int .i64 2, .bool true] 32)) := ((Below.refl _ wr).alloc (Nat.le_refl _) _).alloc (by simp) _
        have HR6 := Lib.hid (HRo.out.below hA)
        have HL6 : Hid (Has ((wr.alloc (.cells #[.int .i64 (k : Int), .int .i64 2, .bool true] 32)).alloc (.cells #[.int .i64 (k : Int), .int .i64 2, .bool true] 32)) (wr.heap.size + 1) (.cells (RT.cells ⟨(k : Int), 2, true⟩).toArray 32 (0, 0))) := Lib.hid (by have := Has.fresh (wr.alloc (.cells #[.int .i64 (k : Int), .int .i64 2, .bool true] 32)) (.cells #[.int .i64 (k : Int), .int .i64 2, .bool true] 32); rw [World.size_alloc] at this; exact this)
        have HS6 : Hid (w.heap.size ≤ ((wr.alloc (.cells #[.int .i64 (k : Int), .int .i64 2, .bool true] 32)).alloc (.cells #[.int .i64 (k : Int), .int .i64 2, .bool true] 32)).heap.size) := Lib.hid (by simp only [World.size_alloc]; have := HB.out.size; omega)
        have HA := Lib.hid hA
        clear hA
        go_wp2_with (at_builtin; refine wpList_pushR (R := RT) (x := ⟨(k : Int), 2, true⟩) (v := .slice Ao L co) (xs := capT (k + 1) (p.drop (k + 1))) (base := w.heap.size) rfl (.tmp 25) (.tmp 27) 24 rfl j0 _ 24 Try.underlying24 Qi.out Qz0.out Qz1.out Qz2.out rfl rfl HR6.out rfl HL6.out HLn.out (by omega) HS6.out ?_; intro g' cap w5 hp5 hk5 _ _; rw [HL1.out] at hp5 ⊢; have HP5 := Lib.hid hp5; have HB5 := Lib.hid (below_then (HB.out.trans (HA.out.mono HB.out.size)) hk5 HS6.out fun i hi e => by have := (HRo.out.in_ i e).1; omega); clear hp5 hk5)
        go_roundw
        case rel => exact ⟨k, by omega, by go_num, by rw [HC.out]; exact HP5.out, HB5.out⟩
        case measure => simp [intOf]
end
end Go.Proofs.Ytekmgaigppenlaa

namespace Go.Proofs.Ytekmgaigppenlaa
open Go Go.RowKit Go.Shelf
attribute [local go_sem] Oper.semAt_some

def noStp : Stp := ⟨0, 0, 0, false, false⟩
/-- The last entry that has a target. -/
def lastT (p : List Stp) : Stp := (p.reverse.find? fun s => s.target != 0).getD noStp
theorem lastT_snoc {p : List Stp} {s : Stp} : lastT (p ++ [s]) = if s.target ≠ 0 then s else lastT p := by
  unfold lastT
  rw [List.reverse_append, List.reverse_singleton, List.singleton_append, List.find?_cons]
  by_cases h : s.target = 0
  · have e : (s.target != 0) = false := by simp [h]
    rw [e, if_neg (fun k => k h)]
  · have e : (s.target != 0) = true := by simp [h]
    rw [e, if_pos h]
    rfl
theorem lastT_nil : lastT [] = noStp := rfl
theorem lastT_told (p : List Stp) : (lastT p).target = toldT p 0 := by
  obtain ⟨q, rfl⟩ : ∃ q : List Stp, p = q.reverse := ⟨p.reverse, (List.reverse_reverse p).symm⟩
  induction q with
  | nil => rfl
  | cons s r ih =>
    rw [List.reverse_cons, lastT_snoc, told_snoc]
    split
    · rfl
    · exact ih
theorem last_found {p : List Stp} {k : Nat} {ini : List (Nat × Stp)} {last : Nat × Stp} (e1 : (bkL p).take k = ini ++ [last]) (e2 : ∀ q ∈ ini, q.2.target = 0) (e3 : last.2.target ≠ 0) : lastT p = last.2 := by
  have h : p.reverse = (ini.map (·.2) ++ [last.2]) ++ ((bkL p).drop k).map (·.2) := by
    have h1 : p.reverse = ((bkL p).take k ++ (bkL p).drop k).map (·.2) := by rw [List.take_append_drop, bk_snd]
    rw [h1, e1]
    simp only [List.map_append, List.map_cons, List.map_nil]
  unfold lastT
  rw [h, List.append_assoc, List.find?_append]
  have h0 : (ini.map (·.2)).find? (fun s => s.target != 0) = none := by
    rw [List.find?_eq_none]
    intro s hs
    obtain ⟨q, hq, rfl⟩ := List.mem_map.1 hs
    simp [e2 q hq]
  have e : (last.2.target != 0) = true := by simp [e3]
  rw [h0, List.singleton_append, List.find?_cons, e]
  rfl
theorem last_none {p : List Stp} (h : ∀ q ∈ bkL p, q.2.target = 0) : lastT p = noStp := by
  unfold lastT
  have h0 : p.reverse.find? (fun s => s.target != 0) = none := by
    rw [List.find?_eq_none, ← bk_snd]
    intro s hs
    obtain ⟨q, hq, rfl⟩ := List.mem_map.1 hs
    simp [h q hq]
  rw [h0]
  rfl
/-- Five cells of a block, written anew. -/
def put5 (w : World) (T : Nat) (u0 u1 u2 u3 u4 : Value) : World := ((((w.setCell ⟨T, 0, none⟩ u0).setCell ⟨T, 1, none⟩ u1).setCell ⟨T, 2, none⟩ u2).setCell ⟨T, 3, none⟩ u3).setCell ⟨T, 4, none⟩ u4
theorem put5_has {w : World} {T : Nat} {t : TypeId} {z0 z1 z2 z3 z4 : Value} (h : Has w T (.cells #[z0, z1, z2, z3, z4] t (0, 0))) (u0 u1 u2 u3 u4 : Value) : Has (put5 w T u0 u1 u2 u3 u4) T (.cells #[u0, u1, u2, u3, u4] t (0, 0)) := by
  have h0 := h.stored 0 u0
  have h1 := h0.stored 1 u1
  have h2 := h1.stored 2 u2
  have h3 := h2.stored 3 u3
  have h4 := h3.stored 4 u4
  unfold put5
  simpa using h4
theorem put5_below {B : Nat} {w w' : World} (h : Below B w w') {T : Nat} (hT : B ≤ T) (u0 u1 u2 u3 u4 : Value) : Below B w (put5 w' T u0 u1 u2 u3 u4) :=
  ((((h.setCell (p := ⟨T, 0, none⟩) hT u0).setCell (p := ⟨T, 1, none⟩) hT u1).setCell (p := ⟨T, 2, none⟩) hT u2).setCell (p := ⟨T, 3, none⟩) hT u3).setCell (p := ⟨T, 4, none⟩) hT u4
theorem put5_keeps (w : World) (T : Nat) (u0 u1 u2 u3 u4 : Value) : KeepsOthers w (put5 w T u0 u1 u2 u3 u4) :=
  ((((KeepsOthers.setCell _ _ _).trans (KeepsOthers.setCell _ _ _)).trans (KeepsOthers.setCell _ _ _)).trans (KeepsOthers.setCell _ _ _)).trans (KeepsOthers.setCell _ _ _)
section
set_option maxRecDepth 100000 in
set_option maxHeartbeats 4000000 in
theorem wkLast {A : Option Addr} {n c : Nat} {p : List Stp} {w : World} (hn : p.length = n) (hl : n ≤ 1000) (hR : RecIn RS w A c p) :
    Calls Try.prog 19 #[.slice A n c] w fun e w' => e = .returned (.agg #[.int .i64 (lastT p).node, .int .i64 (lastT p).target, .int .i64 (lastT p).related, .bool (lastT p).cr, .bool (lastT p).cs]) ∧ Below w.heap.size w w' := by
  refine (callsIn_wide (n := 9)).1 ?_
  refine callsIn_of_wp_marks Try.func19 rfl trivial ?_ rfl
  simp only [Try.ntmps19, List.size_toArray, List.length_cons, List.length_nil, Nat.reduceAdd, Nat.reduceSub, Array.replicate_succ, Array.replicate_zero, List.push_toArray, List.append_toArray, List.nil_append, List.cons_append]
  gi_wp2_with (refine ⟨trivial, ?_⟩; gi_at_call 22; refine (callsIn_wide.2 (bkA _ _ _ _)).mono ?_; rintro e w' ⟨rfl, rfl⟩)
  have b0 : Has ((w.alloc (.cells #[.int .i64 0, .int .i64 0, .int .i64 0, .bool false, .bool false] 44)).alloc (.cells #[.slice A n c] 22)) w.heap.size (.cells #[.int .i64 0, .int .i64 0, .int .i64 0, .bool false, .bool false] 44 (0, 0)) := (Has.fresh w (.cells #[.int .i64 0, .int .i64 0, .int .i64 0, .bool false, .bool false] 44)).more _
  have b2 := Boxed.new (w.alloc (.cells #[.int .i64 0, .int .i64 0, .int .i64 0, .bool false, .bool false] 44)) 22 (.slice A n c)
  simp only [World.size_alloc] at b2
  have hB0 : Below w.heap.size w ((w.alloc (.cells #[.int .i64 0, .int .i64 0, .int .i64 0, .bool false, .bool false] 44)).alloc (.cells #[.slice A n c] 22)) := ((Below.refl _ w).alloc (Nat.le_refl _) _).alloc (by simp) _
  have hsz : (((w.alloc (.cells #[.int .i64 0, .int .i64 0, .int .i64 0, .bool false, .bool false] 44)).alloc (.cells #[.slice A n c] 22))).heap.size = w.heap.size + 1 + 1 := by simp
  obtain ⟨W0, hW0⟩ : ∃ W0, ((w.alloc (.cells #[.int .i64 0, .int .i64 0, .int .i64 0, .bool false, .bool false] 44)).alloc (.cells #[.slice A n c] 22)) = W0 := ⟨_, rfl⟩
  rw [hW0] at b0 b2 hB0 hsz ⊢
  clear hW0
  have hA : 0 < p.length → ∀ b off s, A = some ⟨b, off, s⟩ → b < w.heap.size := fun h0 b off s e => by
    obtain ⟨b', off', e', hb, -⟩ := hR.at_ 0 h0
    rw [e] at e'
    cases e'
    exact hb
  have hR0 := hR.below hB0
  obtain ⟨T, eT⟩ : ∃ T, T = w.heap.size := ⟨_, rfl⟩
  have HT := Lib.hid eT
  rw [← eT] at b0 b2 hB0 hsz hA ⊢
  clear hR
  have hTw : T ≤ w.heap.size := by omega
  clear eT
  refine wpIn_rangeFunc_ownH rfl (by decide) (gf := 34) (lb := #[.pointer (some ⟨T + 1, 0, none⟩)]) rfl trivial (enters_of Try.func34 (by kernel_rfl) rfl)
    (bk_stops (9 - 1) (by decide) (T + 1) T n c A p hn (by omega) W0 (by omega) hA b2 hR0) KpS.trans (KpS.book (by omega) (by omega)) (Below.refl _ _) (fun _ => rfl)
    (fun pre V => ((∀ q ∈ pre, q.2.target = 0) ∧ Has V T (.cells #[.int .i64 0, .int .i64 0, .int .i64 0, .bool false, .bool false] 44 (0, 0))) ∧ Below T w V)
    (fun cd pre V => (cd = .ret ∧ ∃ ini last, pre = ini ++ [last] ∧ (∀ q ∈ ini, q.2.target = 0) ∧ last.2.target ≠ 0 ∧ Has V T (.cells #[.int .i64 last.2.node, .int .i64 last.2.target, .int .i64 last.2.related, .bool last.2.cr, .bool last.2.cs] 44 (0, 0))) ∧ Below T w V)
    (OwnFrom.and (OwnFrom.and (ownFrom_pure _ _) (Own.from (has_own T (fun _ => #[.int .i64 0, .int .i64 0, .int .i64 0, .bool false, .bool false]) _ _) _)) (ownFrom_below hTw (by omega)))
    (fun cd => OwnFrom.and (Own.from (fun s U V row hs hg hr => by obtain ⟨h1, ini, last, e1, e2, e3, e4⟩ := hs; exact ⟨h1, ini, last, e1, e2, e3, has_own T (fun (_ : Unit) => #[.int .i64 last.2.node, .int .i64 last.2.target, .int .i64 last.2.related, .bool last.2.cr, .bool last.2.cs]) _ _ () U V row e4 hg hr⟩) _) (ownFrom_below hTw (by omega)))
    ⟨⟨(fun q hq => by cases hq), b0⟩, hB0⟩
    (fun x a' V => ∃ Bx, T < Bx ∧ Has V Bx (.cells #[.int .i64 x.2.node, .int .i64 x.2.target, .int .i64 x.2.related, .bool x.2.cr, .bool x.2.cs] 44 (0, 0)) ∧ a' = { tmps := #[.slice A n c, undef, .pointer (some ⟨T, 0, none⟩), undef, .pointer (some ⟨Bx, 0, none⟩), .slice A n c, .func (.func 34) #[] #[.pointer (some ⟨T + 1, 0, none⟩)], .int .i64 (x.1 : Int), .agg #[.int .i64 x.2.node, .int .i64 x.2.target, .int .i64 x.2.related, .bool x.2.cr, .bool x.2.cs], undef, undef, undef, undef], defers := [] })
    (fun x a' _ U V row hs hg hr => by obtain ⟨Bx, h1, h2, h3⟩ := hs; exact ⟨Bx, h1, has_own Bx (fun (_ : Unit) => #[.int .i64 x.2.node, .int .i64 x.2.target, .int .i64 x.2.related, .bool x.2.cr, .bool x.2.cs]) _ _ () U V row h2 hg (fun r e => (hr r e).2), h3⟩)
    ?assign ?body ?done ?stop
  case assign =>
    rintro l pre x V K ⟨⟨hp, q0⟩, hB⟩ hK
    have hs := hB.size
    have hlt := q0.inside
    gi_wp2
    exact hK _ _ ((KeepsOthers.alloc _ _).from _) (KpS.alloc (by omega) _) ⟨⟨hp, q0.more _⟩, hB.alloc (by omega) _⟩ ⟨V.heap.size, hlt, Has.fresh V (.cells #[.int .i64 x.2.node, .int .i64 x.2.target, .int .i64 x.2.related, .bool x.2.cr, .bool x.2.cs] 44), rfl⟩
  case body =>
    rintro l pre x a' V hl' ⟨r, hr⟩ ⟨⟨hp, q0⟩, hB⟩ ⟨Bx, hBx, bX, rfl⟩ hlt
    have c0 := bX.cell 0
    have c1 := bX.cell 1
    have c2 := bX.cell 2
    have c3 := bX.cell 3
    have c4 := bX.cell 4
    obtain ⟨i, x0, x1, x2, x3, x4⟩ := x
    have HH : Hid (∀ w, Calls Try.prog 24 #[.agg #[.int .i64 x0, .int .i64 x1, .int .i64 x2, .bool x3, .bool x4]] w fun e w' => e = .returned (.bool (x1 != 0)) ∧ Below w.heap.size w w') := Lib.hid fun w => wkHas ⟨x0, x1, x2, x3, x4⟩ w
    have HP := Lib.hid hp
    have HQ := Lib.hid q0
    have HB := Lib.hid hB
    have HX := Lib.hid bX
    have HTV : Hid (T ≤ V.heap.size) := Lib.hid (by have := hB.size; omega)
    clear hp q0 hB bX hlt hl' hr
    dsimp only at c0 c1 c2 c3 c4
    by_cases h1 : x1 = 0
    · have z : (x1 != 0) = false := by simp [h1]
      have H1 := Lib.hid h1
      clear h1
      gi_wp2_with (refine ⟨trivial, ?_⟩; gi_at_call 24; refine (CallsIn.inRound l (callsIn_wide.2 (HH.out _))).mono ?_; rintro e w2 ⟨rfl, hb2⟩; have HB2 := Lib.hid hb2; clear hb2)
      exact ⟨(KpX.of_below (X := fun _ => False) (T := 0) HB2.out).from (fun _ h => h.elim), ⟨HB2.out.mono HTV.out, fun o ho => (HB2.out.block _ (Array.getElem?_eq_some_iff.1 ho).1).trans ho⟩, ⟨fun q hq => (List.mem_append.1 hq).elim (HP.out q) (fun e => by rw [List.mem_singleton.1 e]; exact H1.out), HQ.out.below HB2.out HQ.out.inside⟩, HB.out.trans (HB2.out.mono HTV.out)⟩
    · have z : (x1 != 0) = true := by simp [h1]
      have H1 := Lib.hid h1
      clear h1
      gi_wp2_with (refine ⟨trivial, ?_⟩; gi_at_call 24; refine (CallsIn.inRound l (callsIn_wide.2 (HH.out _))).mono ?_; rintro e w2 ⟨rfl, hb2⟩; have HB2 := Lib.hid hb2; have hq2 := HQ.out.below hb2 HQ.out.inside; have hx2 := HX.out.below hb2 HX.out.inside; have d0 := hq2.cell 0; have d1 := hq2.cell 1; have d2 := hq2.cell 2; have d3 := hq2.cell 3; have d4 := hq2.cell 4; have f0 := hq2.free 0; have f1 := hq2.free 1; have f2 := hq2.free 2; have f3 := hq2.free 3; have f4 := hq2.free 4; have g0 := hx2.cell 0; have g1 := hx2.cell 1; have g2 := hx2.cell 2; have g3 := hx2.cell 3; have g4 := hx2.cell 4; have HQ2 := Lib.hid hq2; clear hb2 hq2 hx2)
      exact ⟨((KpX.of_below (X := fun _ => False) (T := 0) HB2.out).from (fun _ h => h.elim)).trans ((put5_keeps w2 T _ _ _ _ _).from _), ⟨rfl, pre, _, rfl, HP.out, H1.out, put5_has HQ2.out _ _ _ _ _⟩, put5_below (HB.out.trans (HB2.out.mono HTV.out)) (Nat.le_refl _) _ _ _ _ _⟩
  case done =>
    rintro D ys V hD rfl ⟨⟨hp, q0⟩, hB⟩ hK
    have e1 := last_none hp
    have d0 := q0.cell 0
    have d1 := q0.cell 1
    have d2 := q0.cell 2
    have d3 := q0.cell 3
    have d4 := q0.cell 4
    have f0 := q0.free 0
    have f1 := q0.free 1
    have f2 := q0.free 2
    have f3 := q0.free 3
    have f4 := q0.free 4
    have HE := Lib.hid e1
    have HQ := Lib.hid q0
    clear e1 hp q0
    gi_wp2
    have hK' := (put5_keeps V T (.int .i64 0) (.int .i64 0) (.int .i64 0) (.bool false) (.bool false)).same D _ hK rfl
    refine ⟨by simp, .inl ⟨_, _, rfl, run_takeDeferred hK', ?_⟩⟩
    have hF : Has ((put5 V T (.int .i64 0) (.int .i64 0) (.int .i64 0) (.bool false) (.bool false)).putObj D (.deferred none)) T (.cells #[.int .i64 0, .int .i64 0, .int .i64 0, .bool false, .bool false] 44 (0, 0)) := has_own T (fun (_ : Unit) => #[.int .i64 0, .int .i64 0, .int .i64 0, .bool false, .bool false]) _ _ () _ _ _ (put5_has HQ.out _ _ _ _ _) (grownBy_putObj' _ D _) (fun r e => by cases e; exact ⟨_, hK', rfl⟩)
    have r0 := hF.cell 0
    have r1 := hF.cell 1
    have r2 := hF.cell 2
    have r3 := hF.cell 3
    have r4 := hF.cell 4
    refine ⟨.agg #[.int .i64 0, .int .i64 0, .int .i64 0, .bool false, .bool false], ?_, by rw [HE.out]; rfl, (put5_below hB (Nat.le_refl _) _ _ _ _ _).trans (belowK_b (w := w) (by omega) _ D _ _ (by have := HT.out; omega) hK' rfl rfl) |> fun k => by rw [← HT.out]; exact k⟩
    obtain ⟨W9, hW9⟩ : ∃ W9, W9 = ((put5 V T (.int .i64 0) (.int .i64 0) (.int .i64 0) (.bool false) (.bool false)).putObj D (.deferred none)) := ⟨_, rfl⟩
    rw [← hW9] at r0 r1 r2 r3 r4
    change (results Try.f19 _).run Try.prog ((put5 V T (.int .i64 0) (.int .i64 0) (.int .i64 0) (.bool false) (.bool false)).putObj D (.deferred none)) = .ok _ ((put5 V T (.int .i64 0) (.int .i64 0) (.int .i64 0) (.bool false) (.bool false)).putObj D (.deferred none))
    rw [← hW9]
    simp [results, Try.f19, go_sem, r0, r1, r2, r3, r4]
  case stop =>
    rintro D cd pre V hD ⟨k, hk, rfl⟩ ⟨⟨rfl, ini, last, e1, e2, e3, q0⟩, hB⟩ hK
    have HE := Lib.hid (last_found e1 e2 e3)
    gi_wp2
    refine ⟨by simp, .inl ⟨_, _, rfl, run_takeDeferred hK, ?_⟩⟩
    have hF : Has (V.putObj D (.deferred none)) T (.cells #[.int .i64 last.2.node, .int .i64 last.2.target, .int .i64 last.2.related, .bool last.2.cr, .bool last.2.cs] 44 (0, 0)) := has_own T (fun (_ : Unit) => #[.int .i64 last.2.node, .int .i64 last.2.target, .int .i64 last.2.related, .bool last.2.cr, .bool last.2.cs]) _ _ () _ _ _ q0 (grownBy_putObj' _ D _) (fun r e => by cases e; exact ⟨_, hK, rfl⟩)
    have r0 := hF.cell 0
    have r1 := hF.cell 1
    have r2 := hF.cell 2
    have r3 := hF.cell 3
    have r4 := hF.cell 4
    refine ⟨.agg #[.int .i64 last.2.node, .int .i64 last.2.target, .int .i64 last.2.related, .bool last.2.cr, .bool last.2.cs], ?_, by rw [HE.out], hB.trans (belowK_b (w := w) (by omega) V D _ _ (by have := HT.out; omega) hK rfl rfl) |> fun k => by rw [← HT.out]; exact k⟩
    simp [results, Try.f19, go_sem, r0, r1, r2, r3, r4]
set_option maxRecDepth 100000 in
set_option maxHeartbeats 2000000 in
theorem wkTarget {A : Option Addr} {n c : Nat} {p : List Stp} {w : World} (i : Int) (hn : p.length = n) (hl : n ≤ 1000) (hR : RecIn RS w A c p) :
    Calls Try.prog 11 #[.slice A n c, .int .i64 i] w fun e w' => e = .returned (.int .i64 (targetL p i)) ∧ Below w.heap.size w w' := by
  obtain ⟨R, hRR⟩ : ∃ R, R = targetL p i := ⟨_, rfl⟩
  rw [← hRR]
  by_cases h0 : i < 0
  · have y0 : decide (i < 0) = true := by rw [decide_eq_true_iff]; exact h0
    have HRR : Hid (R = 0) := Lib.hid (hRR.trans (target_out (fun h => by omega)))
    clear hRR hR hn h0
    go_enter Try.func11, Try.ntmps11
    go_wp2_with (refine ⟨trivial, ?_⟩)
    go_ret
    exact ⟨by first | (rw [HRR.out]; done) | (rw [HRR.out]; rfl), Below.refl _ _⟩
  · have y0 : decide (i < 0) = false := by rw [decide_eq_false_iff_not]; exact h0
    by_cases h1 : (n : Int) ≤ i
    · have y1 : decide ((n : Int) ≤ i) = true := by rw [decide_eq_true_iff]; exact h1
      have HRR : Hid (R = 0) := Lib.hid (hRR.trans (target_out (fun h => by rw [hn] at h; omega)))
      clear hRR hR hn h0 h1
      go_enter Try.func11, Try.ntmps11
      go_wp2
      go_ret
      exact ⟨by first | (rw [HRR.out]; done) | (rw [HRR.out]; rfl), Below.refl _ _⟩
    · have y1 : decide ((n : Int) ≤ i) = false := by rw [decide_eq_false_iff_not]; exact h1
      obtain ⟨k, rfl⟩ : ∃ k : Nat, i = (k : Int) := ⟨i.toNat, by omega⟩
      have hk : k < n := by omega
      have y2 : decide (n ≤ k) = false := by rw [decide_eq_false_iff_not]; omega
      have hc := hR.cap
      have HRR : Hid (R = (lastT (p.take (k + 1))).target) := Lib.hid (hRR.trans ((target_in (by omega)).trans (lastT_told _).symm))
      have hwk : IntKind.i64.wrap ((k : Int) + 1) = (k : Int) + 1 := wrap_small (by omega) (by omega)
      have hcut := stepCut_low A n c (k + 1) (by omega)
      have hcc : (((k + 1 : Nat) : Int)) = (k : Int) + 1 := by omega
      rw [hcc] at hcut
      have hfl : ∀ (s : Stp) (w : World), (Instr.field 44 (.agg #[.int .i64 s.node, .int .i64 s.target, .int .i64 s.related, .bool s.cr, .bool s.cs]) 1).run Try.prog w = .ok (.int .i64 s.target) w := fun s w => by kernel_rfl
      have HL := Lib.hid (wkLast (w := w) (n := k + 1) (by rw [List.length_take]; omega) (by omega) (rec_low hR (a := k + 1) (by omega)))
      clear hRR hR hn h0 h1 hk hc hcc
      go_enter Try.func11, Try.ntmps11
      go_wp2_with fail
      refine HL.out.mono ?_
      rintro e w2 ⟨rfl, hb2⟩
      have HB2 := Lib.hid hb2
      clear hb2
      go_wp2
      go_ret
      exact ⟨by first | (rw [HRR.out]; done) | (rw [HRR.out]; rfl), HB2.out⟩
end
end Go.Proofs.Ytekmgaigppenlaa

namespace Go.Proofs.Ytekmgaigppenlaa
open Go Go.RowKit

/-- Is a node's root a Shadow? -/
def shB (l : List Nd) (id : Int) : Bool := if thereB l id = true then (nd l (rootL l id)).kind == 3 else false
def clB (l : List Nd) (p : List Stp) : Bool := shB l (lastT p).target || shB l (lastT p).related
theorem shB_zero {l : List Nd} : shB l 0 = false := by
  unfold shB
  rw [there_zero l]
  rfl
theorem clB_nil {l : List Nd} : clB l [] = false := by
  unfold clB
  rw [lastT_nil]
  show (shB l 0 || shB l 0) = false
  rw [shB_zero]
  rfl
theorem clB_snoc {l : List Nd} {p : List Stp} {s : Stp} : clB l (p ++ [s]) = if s.target ≠ 0 then (shB l s.target || shB l s.related) else clB l p := by
  unfold clB
  rw [lastT_snoc]
  split <;> rfl
section
variable {Rep : (Nat → Prop) → World → Nat → List Nd → Prop} {S : Nat → Prop} {w : World} {b : Nat} {l : List Nd}
set_option maxRecDepth 100000 in
set_option maxHeartbeats 2000000 in
theorem wkIn (O : ForestOk Rep) (M : ForestMore Rep) (id : Int) (h : Rep S w b l) (hg : Good l) :
    Calls Try.prog 25 #[at_ b, .int .i64 id] w fun e w' => e = .returned (.bool (shB l id)) ∧ Below w.heap.size w w' := by
  have H := Lib.hid h
  have Hg := Lib.hid hg
  obtain ⟨R, hR⟩ : ∃ R, R = shB l id := ⟨_, rfl⟩
  rw [← hR]
  cases ht : thereB l id with
  | false =>
    have hR' : Hid (R = false) := Lib.hid (by rw [hR]; unfold shB; rw [ht]; rfl)
    have h0 := rootL_no ht
    have C := Lib.hid (kinRoot O M id h hg)
    rw [h0] at C
    clear hR h hg ht h0
    go_enter Try.func25, Try.ntmps25
    go_wp2_with fail
    refine C.out.mono ?_
    rintro e w1 ⟨rfl, hb1⟩
    have H1 := Lib.hid (O.since H.out hb1)
    have HB1 := Lib.hid hb1
    clear hb1 C
    go_wp2_with fail
    refine (nodeNo M H1.out Hg.out (there_zero l)).mono ?_
    rintro e w2 ⟨A2, c2, rfl, -, hb2⟩
    have HF := Lib.hid ((HB1.out.trans (hb2.mono HB1.out.size)).alloc (Nat.le_trans HB1.out.size hb2.size) (.cells #[.int .i64 0, .int .i64 0, .int .i64 0, .int .i64 0, .int .i64 0, .bool false, .string ⟨#[]⟩, .string ⟨#[]⟩, .slice A2 0 c2] 57))
    clear hb2
    go_wp2
    go_ret
    exact ⟨by first | (rw [hR'.out]; done) | (rw [hR'.out]; rfl), HF.out⟩
  | true =>
    have hrt := rootL_there hg.tree ht
    have C := Lib.hid (kinRoot O M id h hg)
    obtain ⟨r, hr⟩ : ∃ r, r = rootL l id := ⟨_, rfl⟩
    have hR2 : R = ((nd l r).kind == 3) := by rw [hR, hr]; unfold shB; rw [ht]; rfl
    rw [← hr] at hrt C
    obtain ⟨d, hd⟩ : ∃ d, d = nd l r := ⟨_, rfl⟩
    rw [← hd] at hR2
    have Hd := Lib.hid hd
    have Hrt := Lib.hid hrt
    have hR' := Lib.hid hR2
    clear hR h hg ht hrt hr hd hR2
    go_enter Try.func25, Try.ntmps25
    go_wp2_with fail
    refine C.out.mono ?_
    rintro e w1 ⟨rfl, hb1⟩
    have H1 := Lib.hid (O.since H.out hb1)
    have HB1 := Lib.hid hb1
    clear hb1 C
    go_wp2_with fail
    refine (nodeYes M H1.out Hg.out Hrt.out).mono ?_
    rintro e w2 ⟨A2, c2, rfl, -, hb2⟩
    rw [← Hd.out]
    have HF := Lib.hid ((HB1.out.trans (hb2.mono HB1.out.size)).alloc (Nat.le_trans HB1.out.size hb2.size) (.cells #[.int .i64 d.kind, .int .i64 d.parent, .int .i64 d.host, .int .i64 d.shadow, .int .i64 d.mode, .bool d.slot, .string d.name, .string d.want, .slice A2 d.kids.length c2] 57))
    have x0 : (w2.alloc (.cells #[.int .i64 d.kind, .int .i64 d.parent, .int .i64 d.host, .int .i64 d.shadow, .int .i64 d.mode, .bool d.slot, .string d.name, .string d.want, .slice A2 d.kids.length c2] 57)).cell? ⟨w2.heap.size, 0, none⟩ = some (.int .i64 d.kind) := (Has.fresh w2 (.cells #[.int .i64 d.kind, .int .i64 d.parent, .int .i64 d.host, .int .i64 d.shadow, .int .i64 d.mode, .bool d.slot, .string d.name, .string d.want, .slice A2 d.kids.length c2] 57)).cell 0
    clear hb2 Hd
    go_wp2
    go_ret
    exact ⟨by first | (rw [hR'.out]; done) | (rw [hR'.out]; rfl), HF.out⟩
set_option maxRecDepth 100000 in
set_option maxHeartbeats 2000000 in
theorem wkClears (O : ForestOk Rep) (M : ForestMore Rep) {A : Option Addr} {n c : Nat} {p : List Stp} (h : Rep S w b l) (hg : Good l) (hn : p.length = n) (hl : n ≤ 1000) (hR : RecIn RS w A c p) :
    Calls Try.prog 15 #[at_ b, .slice A n c] w fun e w' => e = .returned (.bool (clB l p)) ∧ Below w.heap.size w w' := by
  have H := Lib.hid h
  have Hg := Lib.hid hg
  have C := Lib.hid (wkLast hn hl hR)
  obtain ⟨R, hRR⟩ : ∃ R, R = clB l p := ⟨_, rfl⟩
  rw [← hRR]
  have hR2 : R = (shB l (lastT p).target || shB l (lastT p).related) := hRR
  obtain ⟨s, hs⟩ : ∃ s, s = lastT p := ⟨_, rfl⟩
  rw [← hs] at hR2 C
  obtain ⟨x0, x1, x2, x3, x4⟩ := s
  obtain ⟨b1, hb1⟩ : ∃ b1, b1 = shB l x1 := ⟨_, rfl⟩
  obtain ⟨b2, hb2⟩ : ∃ b2, b2 = shB l x2 := ⟨_, rfl⟩
  have HR2 : Hid (R = (b1 || b2)) := Lib.hid (by rw [hR2, hb1, hb2])
  have C1 : Hid (∀ U, Rep (fun _ => True) U b l → Calls Try.prog 25 #[at_ b, .int .i64 x1] U fun e w' => e = .returned (.bool b1) ∧ Below U.heap.size U w') := Lib.hid fun U h => by rw [hb1]; exact wkIn O M x1 h hg
  have C2 : Hid (∀ U, Rep (fun _ => True) U b l → Calls Try.prog 25 #[at_ b, .int .i64 x2] U fun e w' => e = .returned (.bool b2) ∧ Below U.heap.size U w') := Lib.hid fun U h => by rw [hb2]; exact wkIn O M x2 h hg
  clear h hg hn hR hRR hR2 hs hb1 hb2
  go_enter Try.func15, Try.ntmps15
  go_wp2_with fail
  refine C.out.mono ?_
  rintro e w1 ⟨rfl, hb1⟩
  have hFX := Has.fresh w1 (.cells #[.int .i64 x0, .int .i64 x1, .int .i64 x2, .bool x3, .bool x4] 44)
  have hA : Below w1.heap.size w1 (w1.alloc (.cells #[.int .i64 x0, .int .i64 x1, .int .i64 x2, .bool x3, .bool x4] 44)) := (Below.refl _ w1).alloc (Nat.le_refl _) _
  have c1 := hFX.cell 1
  have hB := hb1.trans (hA.mono hb1.size)
  have HB := Lib.hid hB
  have H2 := Lib.hid (O.wide (O.since H.out hB) (S' := fun _ => True) fun _ _ _ => trivial)
  have HX := Lib.hid hFX
  clear hFX hA hB hb1 C
  dsimp only
  go_wp2_with fail
  refine (C1.out _ H2.out).mono ?_
  rintro e w2 ⟨rfl, hb2⟩
  have hx2 := HX.out.below hb2 HX.out.inside
  have c2 := hx2.cell 2
  have HB2 := Lib.hid (HB.out.trans (hb2.mono HB.out.size))
  have H3 := Lib.hid (O.since H2.out hb2)
  clear hb2 hx2 c1
  cases b1 with
  | true =>
    have HR3 : Hid (R = true) := Lib.hid (by rw [HR2.out]; rfl)
    go_wp2
    go_ret
    exact ⟨by first | (rw [HR3.out]; done) | (rw [HR3.out]; rfl), HB2.out⟩
  | false =>
    have HR3 : Hid (R = b2) := Lib.hid (by rw [HR2.out]; rfl)
    go_wp2_with fail
    refine (C2.out _ H3.out).mono ?_
    rintro e w3 ⟨rfl, hb3⟩
    have HB3 := Lib.hid (HB2.out.trans (hb3.mono HB2.out.size))
    clear hb3
    go_wp2
    go_ret
    exact ⟨by first | (rw [HR3.out]; done) | (rw [HR3.out]; rfl), HB3.out⟩
set_option maxRecDepth 100000 in
set_option maxHeartbeats 2000000 in
theorem rsShaded {G : Nat → Prop} {A : Option Addr} {c : Nat} (id : Int) (hg : Good l) (h : Nodes G w 0 A c l) :
    Calls Try.prog 32 #[.slice A l.length c, .int .i64 id] w fun e w' => e = .returned (.bool (shB l id)) ∧ Below w.heap.size w w' := by
  have H := Lib.hid h
  have C := Lib.hid (refRoot l A c id w hg h)
  have hL : l.length ≤ 128 := hg.len
  obtain ⟨R, hR⟩ : ∃ R, R = shB l id := ⟨_, rfl⟩
  rw [← hR]
  cases ht : thereB l id with
  | false =>
    have hR' : Hid (R = false) := Lib.hid (by rw [hR]; unfold shB; rw [ht]; rfl)
    have h0 := rootL_no ht
    rw [h0] at C
    clear hR h hg ht h0
    go_enter Try.func32, Try.ntmps32
    go_wp2_with fail
    refine C.out.mono ?_
    rintro e w1 ⟨rfl, hb1⟩
    have HB1 := Lib.hid hb1
    clear hb1 C
    go_wp2
    go_ret
    exact ⟨by first | (rw [hR'.out]; done) | (rw [hR'.out]; rfl), HB1.out⟩
  | true =>
    have hrt := rootL_there hg.tree ht
    obtain ⟨r, hr⟩ : ∃ r, r = rootL l id := ⟨_, rfl⟩
    have hR2 : R = ((nd l r).kind == 3) := by rw [hR, hr]; unfold shB; rw [ht]; rfl
    rw [← hr] at hrt C
    obtain ⟨m, rfl⟩ : ∃ m : Nat, r = (m : Int) + 1 := ⟨(r - 1).toNat, by have := thereB_iff.1 hrt; omega⟩
    have hm : m < l.length := by have := thereB_iff.1 hrt; omega
    have hR' := Lib.hid hR2
    have HM := Lib.hid hm
    have z1 : ((m : Int) + 1 != 0) = true := by rw [bne_iff_ne]; omega
    have hwm : IntKind.i64.wrap ((m : Int) + 1 - 1) = (m : Int) := by rw [show (m : Int) + 1 - 1 = (m : Int) by omega]; exact wrap_small (by omega) (by omega)
    have hw4 : wrap64 (m : Int) = (m : Int) := by
      unfold wrap64
      omega
    have hw5 : IntKind.i64.wrap (m : Int) = (m : Int) := wrap_small (by omega) (by omega)
    have hlt : (m : Int) < (l.length : Int) := by omega
    have HLT := Lib.hid hlt
    clear hR h hg ht hrt hr hR2 hm hlt
    obtain ⟨L, hLL⟩ : ∃ L, L = l.length := ⟨_, rfl⟩
    have HLL := Lib.hid hLL
    go_enter Try.func32, Try.ntmps32
    go_wp2_with fail
    refine C.out.mono ?_
    rintro e w1 ⟨rfl, hb1⟩
    obtain ⟨g, k, rfl, -, -, -, -, c0, -⟩ := (H.out.below hb1).nine HM.out
    obtain ⟨K, hK⟩ : ∃ K, K = (nd l ((m : Int) + 1)).kind := ⟨_, rfl⟩
    rw [← hK] at c0
    have hR9 : Hid (R = (K == 3)) := Lib.hid (by rw [hR'.out, hK])
    have HB1 := Lib.hid hb1
    have hlt := HLT.out
    rw [← hLL] at hlt ⊢
    have hlt2 : m < L := by omega
    clear hb1 C hK hLL
    go_wp2
    go_ret
    exact ⟨by first | (rw [hR9.out]; done) | (rw [hR9.out]; rfl), HB1.out⟩
set_option maxRecDepth 100000 in
set_option maxHeartbeats 4000000 in
theorem rsClears {G : Nat → Prop} {Al : Option Addr} {cl : Nat} {A : Option Addr} {n c : Nat} {p : List Stp} (hg : Good l) (h : Nodes G w 0 Al cl l) (hn : p.length = n) (hl : n ≤ 1000) (hR : RecIn RS w A c p) :
    Calls Try.prog 17 #[.slice Al l.length cl, .slice A n c] w fun e w' => e = .returned (.bool (clB l p)) ∧ Below w.heap.size w w' := by
  have H := Lib.hid h
  have Hg := Lib.hid hg
  have HR := Lib.hid hR
  have HN := Lib.hid hn
  have HW : Hid (Below w.heap.size w w) := Lib.hid (Below.refl _ _)
  clear h hg hR hn
  go_enter Try.func17, Try.ntmps17
  go_wp2
  go_loopw [5, 6] (fun o i wr => ∃ k : Nat, k ≤ n ∧ i = .int .i64 (k : Int) ∧ o = .bool (clB l (p.take k)) ∧ Below w.heap.size w wr) (fun _ i _ => n - (intOf i).toNat)
  case atStart => exact ⟨0, Nat.zero_le _, rfl, by rw [List.take_zero, clB_nil], HW.out⟩
  case round =>
    obtain ⟨k, hk, rfl, rfl, hb⟩ := hrel
    by_cases hlt : (k : Int) < n
    · have hkp : k < p.length := by rw [HN.out]; omega
      obtain ⟨b0, off, rfl, c0, c1, c2, c3, c4⟩ := five_of (HR.out.below hb) hkp
      obtain ⟨x, hx⟩ : ∃ x, x = p[k] := ⟨_, rfl⟩
      have HC : Hid (clB l (p.take (k + 1)) = if x.target ≠ 0 then (shB l x.target || shB l x.related) else clB l (p.take k)) := Lib.hid (by
        rw [List.take_add_one, List.getElem?_eq_getElem hkp, ← hx]
        exact clB_snoc)
      rw [← hx] at c0 c1 c2 c3 c4
      obtain ⟨x0, x1, x2, x3, x4⟩ := x
      dsimp only at c0 c1 c2 c3 c4 HC
      have hwk : IntKind.i64.wrap ((k : Int) + 1) = (k : Int) + 1 := wrap_small (by omega) (by omega)
      have HB := Lib.hid hb
      have HRr := Lib.hid (HR.out.below hb)
      have H1 := Lib.hid (H.out.below hb)
      obtain ⟨B0, hB0⟩ : ∃ B0, B0 = clB l (p.take k) := ⟨_, rfl⟩
      rw [← hB0] at HC ⊢
      clear hx hb hB0
      by_cases h1 : x1 = 0
      · have z : (x1 != 0) = false := by simp [h1]
        have HC1 : Hid (clB l (p.take (k + 1)) = B0) := Lib.hid (by rw [HC.out, if_neg (fun h => h h1)])
        clear h1 HC hkp
        go_wp2
        go_roundw
        case rel => exact ⟨k + 1, by omega, by go_num, by rw [HC1.out], HB.out⟩
        case measure => simp [intOf]; omega
      · have z : (x1 != 0) = true := by simp [h1]
        obtain ⟨b1, hb1⟩ : ∃ b1, b1 = shB l x1 := ⟨_, rfl⟩
        obtain ⟨b2, hb2⟩ : ∃ b2, b2 = shB l x2 := ⟨_, rfl⟩
        have HC1 : Hid (clB l (p.take (k + 1)) = (b1 || b2)) := Lib.hid (by rw [HC.out, if_pos h1, hb1, hb2])
        have C1 : Hid (Calls Try.prog 32 #[.slice Al l.length cl, .int .i64 x1] wr fun e w' => e = .returned (.bool b1) ∧ Below wr.heap.size wr w') := Lib.hid (by rw [hb1]; exact rsShaded x1 Hg.out H1.out)
        have C2 : Hid (∀ U, Below wr.heap.size wr U → Calls Try.prog 32 #[.slice Al l.length cl, .int .i64 x2] U fun e w' => e = .returned (.bool b2) ∧ Below U.heap.size U w') := Lib.hid fun U hU => by rw [hb2]; exact rsShaded x2 Hg.out (H1.out.below hU)
        have HKP := Lib.hid hkp
        clear h1 HC hb1 hb2 hkp
        go_wp2_with fail
        refine C1.out.mono ?_
        rintro e w2 ⟨rfl, hb2⟩
        have HB2 := Lib.hid hb2
        have HB3 := Lib.hid (HB.out.trans (hb2.mono HB.out.size))
        obtain ⟨c0', c2'⟩ : True ∧ w2.cell? ⟨b0, off + k * 5 + 2, none⟩ = some (.int .i64 x2) := ⟨trivial, by
          have hin : b0 < wr.heap.size := by
            obtain ⟨b', off', e', hin, -⟩ := HRr.out.at_ k HKP.out
            cases e'
            exact hin
          exact (hb2.cell (p := ⟨b0, off + k * 5 + 2, none⟩) hin).trans c2⟩
        clear hb2 c0 c1 c2 c3 c4 c0' C1
        cases b1 with
        | true =>
          have HC2 : Hid (clB l (p.take (k + 1)) = true) := Lib.hid (by rw [HC1.out]; rfl)
          go_wp2
          go_roundw
          case rel => exact ⟨k + 1, by omega, by go_num, by rw [HC2.out], HB3.out⟩
          case measure => simp [intOf]; omega
        | false =>
          have HC2 : Hid (clB l (p.take (k + 1)) = b2) := Lib.hid (by rw [HC1.out]; rfl)
          go_wp2_with fail
          refine (C2.out _ HB2.out).mono ?_
          rintro e w3 ⟨rfl, hb3⟩
          have HB4 := Lib.hid (HB3.out.trans (hb3.mono HB3.out.size))
          clear hb3
          go_wp2
          go_roundw
          case rel => exact ⟨k + 1, by omega, by go_num, by rw [HC2.out], HB4.out⟩
          case measure => simp [intOf]; omega
    · obtain rfl : k = n := by omega
      have HC : Hid (clB l (p.take k) = clB l p) := Lib.hid (by rw [List.take_of_length_le (by rw [HN.out]; exact Nat.le_refl _)])
      rw [HC.out]
      have HB := Lib.hid hb
      obtain ⟨R, hR⟩ : ∃ R, R = clB l p := ⟨_, rfl⟩
      rw [← hR]
      have HRr := Lib.hid hR
      clear hb hR hlt hk
      go_wp2
      go_ret
      exact ⟨by first | (rw [← HRr.out]; done) | (rw [← HRr.out]; rfl) | rfl, HB.out⟩
end
end Go.Proofs.Ytekmgaigppenlaa

namespace Go.Proofs.Ytekmgaigppenlaa
open Go Go.RowKit Go.Shelf
attribute [local go_sem] Oper.semAt_some

def encT (t : Trn) : Array Value := #[.agg #[.int .i64 t.at_, .int .i64 t.phase, .bool t.cap]]
section
set_option maxRecDepth 100000 in
set_option maxHeartbeats 4000000 in
theorem each1 (p : List Stp) (bub : Bool) (Y : Nat → Prop) (Bo Bb len cap : Nat) (A : Option Addr) (w0 : World) (hlen : p.length = len) (hl : len ≤ 1000) (hYo : Y Bo) (hYb : Y Bb) (hYA : 0 < p.length → ∀ b off s, A = some ⟨b, off, s⟩ → Y b)
    (hYT : ∀ b, Y b → ∃ o, w0.heap[b]? = some o ∧ ∀ c f, o ≠ .cells c 32 f) (ho : Boxed w0 Bo 22 (.slice A len cap)) (hb : Boxed w0 Bb 4 (.bool bub)) (hR : RecIn RS w0 A cap p) :
    SeqX Try.prog 21 #[.pointer (some ⟨Bo, 0, none⟩), .pointer (some ⟨Bb, 0, none⟩)] encT Y 32 (fun ts => ts = turnsL p bub) (fun pre => pre <+: turnsL p bub) (turnsL p bub).length w0 := by
  intro l X J Jx W hW hX hJ hJx hY h0
  have ho1 : Boxed W Bo 22 (.slice A len cap) := (hW.block Bo ho.lt).trans ho
  have hb1 : Boxed W Bb 4 (.bool bub) := (hW.block Bb hb.lt).trans hb
  have hR1 := hR.below hW
  have HYT : Hid (∀ b, Y b → ∃ o, W.heap[b]? = some o ∧ ∀ c f, o ≠ .cells c 32 f) := Lib.hid fun b hb => by
    obtain ⟨o, h1, h2⟩ := hYT b hb
    exact ⟨o, (hW.block b (Array.getElem?_eq_some_iff.1 h1).1).trans h1, h2⟩
  have HY := Lib.hid fun pre x V hJp hlt => yield_one (hY pre x V hJp hlt)
  have HJ := Lib.hid hJ
  have HJx := Lib.hid hJx
  have HX := Lib.hid hX
  have HL := Lib.hid hlen
  have HYA := Lib.hid hYA
  have HR1 := Lib.hid hR1
  have HW : Hid (W.heap.size ≤ W.heap.size) := Lib.hid (Nat.le_refl _)
  clear hY hJ hJx hX hYA hR1 hR hYT ho hb hW hlen w0
  have d0 := (ho1.alloc (.cells #[.func (.yield l) #[] #[]] 49)).cell
  refine (callsIn_wide (n := 9)).1 ?_
  refine callsIn_of_wp_marks Try.func21 rfl trivial ?_ rfl
  simp only [Try.ntmps21, List.size_toArray, List.length_cons, List.length_nil, Nat.reduceAdd, Nat.reduceSub, Array.replicate_succ, Array.replicate_zero, List.push_toArray, List.append_toArray, List.nil_append, List.cons_append]
  gi_wp2_with (refine ⟨trivial, ?_⟩; gi_at_call 22; refine (callsIn_wide.2 (bkA _ _ _ _)).mono ?_; rintro e w' ⟨rfl, rfl⟩)
  have w1 : Boxed ((W.alloc (.cells #[.func (.yield l) #[] #[]] 49)).alloc (.cells #[.slice A len cap] 22)) W.heap.size 49 (.func (.yield l) #[] #[]) := (Boxed.new W 49 (.func (.yield l) #[] #[])).alloc _
  have w2 := Boxed.new (W.alloc (.cells #[.func (.yield l) #[] #[]] 49)) 22 (.slice A len cap)
  have w3 := (ho1.alloc (.cells #[.func (.yield l) #[] #[]] 49)).alloc (.cells #[.slice A len cap] 22)
  have w4 := (hb1.alloc (.cells #[.func (.yield l) #[] #[]] 49)).alloc (.cells #[.slice A len cap] 22)
  have hB0 : Below W.heap.size W ((W.alloc (.cells #[.func (.yield l) #[] #[]] 49)).alloc (.cells #[.slice A len cap] 22)) := ((Below.refl _ W).alloc (Nat.le_refl _) _).alloc (by simp) _
  have hsz : ((W.alloc (.cells #[.func (.yield l) #[] #[]] 49)).alloc (.cells #[.slice A len cap] 22)).heap.size = W.heap.size + 1 + 1 := by simp
  simp only [World.size_alloc] at w2
  obtain ⟨W0, hW0⟩ : ∃ W0, (W.alloc (.cells #[.func (.yield l) #[] #[]] 49)).alloc (.cells #[.slice A len cap] 22) = W0 := ⟨_, rfl⟩
  rw [hW0] at w1 w2 w3 w4 hB0 hsz ⊢
  clear hW0 ho1 hb1 d0
  have hR0 := HR1.out.below hB0
  have hJ0 : J [] W0 := ownFrom_step HJ.out h0 hB0
  clear h0 HR1
  obtain ⟨M, eM⟩ : ∃ M, M = W.heap.size := ⟨_, rfl⟩
  have hYM : ∀ b, Y b → b < M ∧ ∃ o, W0.heap[b]? = some o ∧ ∀ c f, o ≠ .cells c 32 f := fun b hb => by
    obtain ⟨o, h1, h2⟩ := HYT.out b hb
    have h3 := (Array.getElem?_eq_some_iff.1 h1).1
    exact ⟨by omega, o, (hB0.block b h3).trans h1, h2⟩
  have hXM : ∀ b, X b → b < M ∧ ¬ Y b := by rw [eM]; exact HX.out
  have hJM : OwnFrom M J := by rw [eM]; exact HJ.out
  have hJxM : OwnFrom M Jx := by rw [eM]; exact HJx.out
  rw [← eM] at w1 w2 hsz ⊢
  clear hB0 HYT HX HJ HJx HW
  clear eM
  have hYo2 := hYM Bo hYo
  have hYb2 := hYM Bb hYb
  refine wpIn_rangeFunc_ownH rfl (by decide) (gf := 34) (lb := #[.pointer (some ⟨M + 1, 0, none⟩)]) rfl trivial (enters_of Try.func34 (by kernel_rfl) rfl)
    (bkC_stops (9 - 1) (by decide) (fun b => b = M + 1 ∨ Y b) (M + 1) len cap A p HL.out (by omega) W0 (.inl rfl) (fun h0 b off s e => .inr (HYA.out h0 b off s e)) w2 hR0) KpC.trans (fun V k o o' _ h h1 _ => KpC.book V k o o' h h1) (Below.refl _ _) (fun _ => rfl)
    (fun pre V => J (pre.map capO) V ∧ KpX X 32 W0 V)
    (fun cd pre V => (cd = .ret ∧ Jx (pre.map capO) V) ∧ KpX X 32 W0 V)
    (OwnFrom.and (fun s U V row hs hg hr => hJM _ U V row hs hg fun i e => ⟨by have := (hr i e).1; omega, (hr i e).2⟩) (ownFrom_kpx (Nat.le_refl _)))
    (fun cd => OwnFrom.and (fun s U V row hs hg hr => ⟨hs.1, hJxM _ U V row hs.2 hg fun i e => ⟨by have := (hr i e).1; omega, (hr i e).2⟩⟩) (ownFrom_kpx (Nat.le_refl _)))
    ⟨hJ0, KpX.refl _ _ _⟩
    (fun x a' V => ∃ Bx, M + 1 < Bx ∧ Has V Bx (.cells #[.int .i64 x.2.node, .int .i64 x.2.target, .int .i64 x.2.related, .bool x.2.cr, .bool x.2.cs] 44 (0, 0)) ∧ a' = { tmps := #[.func (.yield l) #[] #[], .pointer (some ⟨Bo, 0, none⟩), .pointer (some ⟨Bb, 0, none⟩), .pointer (some ⟨M, 0, none⟩), .int .i64 (x.1 : Int), .pointer (some ⟨Bx, 0, none⟩), undef, undef, .slice A len cap, .func (.func 34) #[] #[.pointer (some ⟨M + 1, 0, none⟩)], .int .i64 (x.1 : Int), .agg #[.int .i64 x.2.node, .int .i64 x.2.target, .int .i64 x.2.related, .bool x.2.cr, .bool x.2.cs], undef, undef, undef, undef, undef, undef, undef, undef, undef, undef, undef, undef, undef, undef, undef, undef, undef, undef, undef, undef, undef, undef, undef, undef, undef, undef, undef, undef, undef], defers := [] })
    (fun x a' _ U V row hs hg hr => by obtain ⟨Bx, h1, h2, h3⟩ := hs; exact ⟨Bx, h1, has_own Bx (fun (_ : Unit) => #[.int .i64 x.2.node, .int .i64 x.2.target, .int .i64 x.2.related, .bool x.2.cr, .bool x.2.cs]) _ _ () U V row h2 hg (fun r e => (hr r e).2), h3⟩)
    ?assign ?body ?done ?stop
  case assign =>
    rintro l' pre x V K ⟨hJp, hk⟩ hK
    have hVs := hk.1
    gi_wp2
    exact hK _ _ ((KeepsOthers.alloc _ _).from _) (KpC.of_below ((Below.refl _ V).alloc (Nat.le_refl _) _)) ⟨ownFrom_step hJM hJp ((Below.refl _ V).alloc (Nat.le_refl _) _), hk.trans (KpX.alloc _ _)⟩ ⟨V.heap.size, by omega, Has.fresh V (.cells #[.int .i64 x.2.node, .int .i64 x.2.target, .int .i64 x.2.related, .bool x.2.cr, .bool x.2.cs] 44), rfl⟩
  case body =>
    rename_i Qo Ko ao
    clear ao
    clear Ko Qo
    rintro l' pre x a' V hl' ⟨r, hr⟩ ⟨hJp, hk⟩ ⟨Bx, hBx, bX, rfl⟩ hlt
    have hmx : Try.prog.follows .mixedOrders = true := by kernel_rfl
    have hMV := hk.1
    have hXM1 : ∀ b, M ≤ b → ¬ X b := fun b hb e => by have := (hXM b e).1; omega
    have hby := hk.box (hXM1 M (Nat.le_refl _)) (by decide) w1
    have c0 := bX.cell 0
    have c1 := bX.cell 1
    have c2 := bX.cell 2
    have c3 := bX.cell 3
    have c4 := bX.cell 4
    have e0 := hby.cell
    obtain ⟨i, x0, x1, x2, x3, x4⟩ := x
    obtain ⟨R, hRR⟩ : ∃ R : Int, R = phs ⟨x0, x1, x2, x3, x4⟩ 1 := ⟨_, rfl⟩
    have HP : Hid (∀ w, Calls Try.prog 23 #[.agg #[.int .i64 x0, .int .i64 x1, .int .i64 x2, .bool x3, .bool x4], .int .i64 1] w fun e w' => e = .returned (.int .i64 R) ∧ Below w.heap.size w w') := Lib.hid fun w => by
      rw [hRR]
      exact wkPhase _ _ w
    have HXN : Hid (capO (i, ⟨x0, x1, x2, x3, x4⟩) = ⟨(i : Int), R, true⟩) := Lib.hid (by unfold capO; rw [hRR])
    have HN : Hid ((pre.map capO).length < (turnsL p bub).length) := Lib.hid (by
      rw [List.length_map, turnsL, List.length_append, cap_len, HL.out]
      omega)
    have hYV : ∀ b, Y b → ∃ o, V.heap[b]? = some o ∧ ∀ c f, o ≠ .cells c 32 f := fun b hb => by
      obtain ⟨-, o, h1, h2⟩ := hYM b hb
      exact ⟨o, hk.same (fun e => (hXM b e).2 hb) h1 h2, h2⟩
    have hbs := hk.box (hXM1 (M + 1) (by omega)) (by decide) w2
    have HEnd : Hid (∀ W3, KpX X 32 V W3 → KeepsFrom W0.heap.size V W3 ∧ KpC (fun b => b = M + 1 ∨ Y b) V W3 ∧ KpX X 32 W0 W3) := Lib.hid fun W3 h => by
      refine ⟨h.from fun b e => by have := (hXM b e).1; omega, ?_, hk.trans h⟩
      rintro b o (rfl | hb) h1 -
      · exact h.box (hXM1 _ (by omega)) (by decide) hbs |> fun k => by rw [show V.heap[M + 1]? = _ from hbs] at h1; cases h1; exact k
      · obtain ⟨o', h2, h3⟩ := hYV b hb
        rw [h2] at h1
        cases h1
        exact h.same (fun e => (hXM b e).2 hb) h2 h3
    have HJp := Lib.hid hJp
    have HBY := Lib.hid hby
    have HK := Lib.hid hk
    clear hJp hby hbs hYV hk bX hRR hlt hYM hXM1 w1 w2 w3 w4 hYo2 hYb2 HL HYA hYo hYb hR0 hMV hsz hl' hr hXM hJxM hBx hl
    dsimp only at c0 c1 c2 c3 c4
    gi_wp2
    gi_region_with_o (first
      | (refine ⟨trivial, ?_⟩; gi_at_call 23; refine (CallsIn.inRound l' (callsIn_wide.2 (HP.out _))).mono ?_; rintro e w2 ⟨rfl, hb2⟩; have z0 : w2.cell? ⟨M, 0, none⟩ = some (.func (.yield l) #[] #[]) := (show Boxed w2 M 49 (.func (.yield l) #[] #[]) from (hb2.block M HBY.out.lt).trans HBY.out).cell; have hb3 : Below V.heap.size V w2 := (Below.refl V.heap.size V).drew.trans hb2; obtain ⟨fn, tm, asg, bod, hy, hRd⟩ := HY.out (pre.map capO) (capO (i, ⟨x0, x1, x2, x3, x4⟩)) w2 (ownFrom_step hJM HJp.out hb3) HN.out; rw [HXN.out] at hy hRd; dsimp only [encT] at hy; have HRd := Lib.hid hRd; have HB2 := Lib.hid hb3; clear hRd hb2 hb3)
      | (refine (round_in HRd.out).mono ?_; rintro e W3 ⟨v, rfl, hk3, hc3⟩; have HK3 := Lib.hid hk3; have HC3 := Lib.hid hc3; clear hk3 hc3 hy z0))
    all_goals (have hkV := HEnd.out W3 ((KpX.of_below HB2.out).trans HK3.out); have HKV := Lib.hid hkV; clear hkV HEnd HB2 HK3 HRd HBY HJp HY c0 c1 c2 c3 c4 e0; rcases HC3.out with ⟨rfl, hj⟩ | ⟨rfl, hj⟩)
    all_goals (have HJ3 := Lib.hid hj; clear hj HC3; gi_wp2)
    all_goals first
      | exact ⟨HKV.out.1, HKV.out.2.1, by rw [List.map_append, List.map_singleton, HXN.out]; exact HJ3.out, HKV.out.2.2⟩
      | exact ⟨HKV.out.1, ⟨rfl, by rw [List.map_append, List.map_singleton, HXN.out]; exact HJ3.out⟩, HKV.out.2.2⟩
  case done =>
    rintro D ys V hD rfl ⟨hJp, hk⟩ hK
    rw [bk_cap] at hJp
    have hXM1 : ∀ b, M ≤ b → ¬ X b := fun b hb e => by have := (hXM b e).1; omega
    have HXD : Hid (¬ X D) := Lib.hid (hXM1 D (by omega))
    have HMD : Hid (M ≤ D) := Lib.hid (by omega)
    have hmx : Try.prog.follows .mixedOrders = true := by kernel_rfl
    have f0 := (hk.box (fun e => (hXM Bo e).2 hYo) (by decide) w3).cell
    have HRec : Hid (∀ U, KpX X 32 W0 U → RecIn RS U A cap p) := Lib.hid fun U h => KpC.rec (Y := Y) (fun b o hb h1 _ => by
      obtain ⟨-, o', h2, h3⟩ := hYM b hb
      rw [h2] at h1
      cases h1
      exact h.same (fun e => (hXM b e).2 hb) h2 h3) HYA.out hR0
    have HBbx : Hid (∀ U, KpX X 32 W0 U → Boxed U Bb 4 (.bool bub)) := Lib.hid fun U h => h.box (fun e => (hXM Bb e).2 hYb) (by decide) w4
    have HBm : Hid (∀ U, KpX X 32 W0 U → Boxed U M 49 (.func (.yield l) #[] #[])) := Lib.hid fun U h => h.box (hXM1 M (Nat.le_refl _)) (by decide) w1
    have HKW := Lib.hid hk
    have HJ0 := Lib.hid hJp
    clear hk hJp w1 w2 w3 w4 hR0 hYM hYo2 hYb2 HYA hXM1
    gi_wp2
    gi_loopw [21] (fun i wr => ∃ k : Nat, k ≤ len ∧ i = .int .i64 (k : Int) ∧ J (capT 0 p ++ bubT bub 0 (p.take k)) wr ∧ KpX X 32 V wr) (fun i _ => len - (intOf i).toNat)
    case atStart => exact ⟨0, Nat.zero_le _, rfl, by rw [List.take_zero]; exact (List.append_nil (capT 0 p)).symm ▸ HJ0.out, KpX.refl _ _ _⟩
    case round =>
      obtain ⟨k, hkl, rfl, hJk, hkV⟩ := hrel
      by_cases hlt : k < len
      · have hkp : k < p.length := by rw [HL.out]; exact hlt
        have hkW := HKW.out.trans hkV
        obtain ⟨b, off, rfl, c0, c1, c2, c3, c4⟩ := five_of (HRec.out _ hkW) hkp
        obtain ⟨x, hx⟩ : ∃ x, x = p[k] := ⟨_, rfl⟩
        have HTK : Hid (p.take (k + 1) = p.take k ++ [x]) := Lib.hid (by rw [List.take_add_one, List.getElem?_eq_getElem hkp, hx]; rfl)
        have HLK : Hid (0 + (p.take k).length = k) := Lib.hid (by rw [List.length_take]; omega)
        rw [← hx] at c0 c1 c2 c3 c4
        have HPR : Hid (bub1 bub k x = [⟨(k : Int), phs x 3, false⟩] → (capT 0 p ++ bubT bub 0 (p.take k)) ++ [⟨(k : Int), phs x 3, false⟩] <+: turnsL p bub) := Lib.hid fun h => turns_pre hkp (by rw [hx] at h ⊢; exact h)
        clear hx hkp
        obtain ⟨x0, x1, x2, x3, x4⟩ := x
        dsimp only at c0 c1 c2 c3 c4
        obtain ⟨R, hRR⟩ : ∃ R : Int, R = phs ⟨x0, x1, x2, x3, x4⟩ 3 := ⟨_, rfl⟩
        have HP : Hid (∀ w, Calls Try.prog 23 #[.agg #[.int .i64 x0, .int .i64 x1, .int .i64 x2, .bool x3, .bool x4], .int .i64 3] w fun e w' => e = .returned (.int .i64 R) ∧ Below w.heap.size w w') := Lib.hid fun w => by
          rw [hRR]
          exact wkPhase _ _ w
        have HRR := Lib.hid hRR
        have hwk : IntKind.i64.wrap ((k : Int) + 1) = (k : Int) + 1 := wrap_small (by omega) (by omega)
        obtain ⟨cells, hcells⟩ : ∃ cells : Array Value, cells = #[.int .i64 x0, .int .i64 x1, .int .i64 x2, .bool x3, .bool x4] := ⟨_, rfl⟩
        have hBA : Below wr.heap.size wr (wr.alloc (.cells #[.int .i64 x0, .int .i64 x1, .int .i64 x2, .bool x3, .bool x4] 44)) := (Below.refl _ wr).alloc (Nat.le_refl _) _
        have hFX := Has.fresh wr (.cells #[.int .i64 x0, .int .i64 x1, .int .i64 x2, .bool x3, .bool x4] 44)
        have g0 := hFX.cell 0
        have g1 := hFX.cell 1
        have g2 := hFX.cell 2
        have g3 := hFX.cell 3
        have g4 := hFX.cell 4
        have g5 := ((HBbx.out _ hkW).alloc (.cells #[.int .i64 x0, .int .i64 x1, .int .i64 x2, .bool x3, .bool x4] 44)).cell
        have HFX := Lib.hid hFX
        have HKK := Lib.hid hkW
        have HKk := Lib.hid hkV
        have HJk := Lib.hid hJk
        have HBA := Lib.hid hBA
        clear hRR hFX hkW hkV hJk hBA hcells cells
        cases bub with
        | true =>
          have HB1 : Hid (bub1 true k ⟨x0, x1, x2, x3, x4⟩ = [⟨(k : Int), R, false⟩]) := Lib.hid (by rw [HRR.out]; exact bub1_yes k (.inr rfl))
          have HPre : Hid ((capT 0 p ++ bubT true 0 (p.take k)) ++ [⟨(k : Int), R, false⟩] <+: turnsL p true) := Lib.hid (by have := HB1.out; rw [HRR.out] at this ⊢; exact HPR.out this)
          have HN : Hid ((capT 0 p ++ bubT true 0 (p.take k)).length < (turnsL p true).length) := Lib.hid (by have := HPre.out.length_le; rw [List.length_append, List.length_singleton] at this; omega)
          gi_wp2
          refine ⟨trivial, ?_⟩
          obtain ⟨U, eU⟩ : ∃ U, U = wr.alloc (.cells #[.int .i64 x0, .int .i64 x1, .int .i64 x2, .bool x3, .bool x4] 44) := ⟨_, rfl⟩
          have HKU : Hid (KpX X 32 V U) := Lib.hid (by rw [eU]; exact HKk.out.trans (KpX.alloc _ _))
          have HJU : Hid (J (capT 0 p ++ bubT true 0 (p.take k)) U) := Lib.hid (by rw [eU]; exact ownFrom_step hJM HJk.out HBA.out)
          have HBY : Hid (Boxed U M 49 (.func (.yield l) #[] #[])) := Lib.hid (HBm.out _ (HKW.out.trans HKU.out))
          have e0 := HBY.out.cell
          rw [← eU] at g0 g1 g2 g3 g4 ⊢
          clear eU HKk HJk HBA HFX HKK g5 c0 c1 c2 c3 c4
          gi_wp2
          refine wpIn_mono (?_ : Code.wpIn _ _ _ _ (Exit.then _ (fun _ _ _ => False)) _ _) (fun e a' w' h => by cases e <;> first | exact h | exact h.elim)
          gi_region_with_o (first
            | (refine ⟨trivial, ?_⟩; gi_at_call 23; refine (callsIn_wide.2 (HP.out _)).mono ?_; rintro e w5 ⟨rfl, hb5⟩; have z0 : w5.cell? ⟨M, 0, none⟩ = some (.func (.yield l) #[] #[]) := (show Boxed w5 M 49 (.func (.yield l) #[] #[]) from (hb5.block M HBY.out.lt).trans HBY.out).cell; have hb6 : Below U.heap.size U w5 := (Below.refl U.heap.size U).drew.trans hb5; obtain ⟨fn, tm, asg, bod, hy, hRd⟩ := HY.out (capT 0 p ++ bubT true 0 (p.take k)) ⟨(k : Int), R, false⟩ w5 (ownFrom_step hJM HJU.out hb6) HN.out; dsimp only [encT] at hy; have HRd := Lib.hid hRd; have HB5 := Lib.hid hb6; clear hRd hb5 hb6)
            | (refine (round_any HRd.out).mono ?_; rintro e W3 ⟨v, rfl, hk3, hc3⟩; have HK3 := Lib.hid hk3; have HC3 := Lib.hid hc3; clear hk3 hc3 hy z0))
          all_goals (have HKV := Lib.hid (HKU.out.trans ((KpX.of_below HB5.out).trans HK3.out)); clear HB5 HK3 HRd HBY HJU HKU; rcases HC3.out with ⟨rfl, hj⟩ | ⟨rfl, hj⟩)
          all_goals (have HJ3 := Lib.hid hj; clear hj HC3; gi_wp2)
          all_goals first
            | (go_roundw; (case rel => exact ⟨k + 1, by omega, by go_num, by rw [HTK.out, bub_snoc, HLK.out, HB1.out, ← List.append_assoc]; exact HJ3.out, HKV.out⟩); (case measure => simp [intOf]; omega))
            | (refine ⟨by simp, .inl ⟨_, _, rfl, run_takeDeferred (HKV.out.same HXD.out hK (fun _ _ e => by cases e)), ?_⟩⟩; exact ⟨_, results_none rfl _ _ _, ⟨_, rfl⟩, .inr ⟨_, HPre.out, hJxM.putObj _ HJ3.out HMD.out (HKV.out.same HXD.out hK (fun _ _ e => by cases e)) rfl⟩⟩)
        | false =>
          have HH : Hid (∀ w, Calls Try.prog 24 #[.agg #[.int .i64 x0, .int .i64 x1, .int .i64 x2, .bool x3, .bool x4]] w fun e w' => e = .returned (.bool (x1 != 0)) ∧ Below w.heap.size w w') := Lib.hid fun w => wkHas ⟨x0, x1, x2, x3, x4⟩ w
          by_cases h1 : x1 = 0
          · have z : (x1 != 0) = false := by simp [h1]
            have HB0 : Hid (bub1 false k ⟨x0, x1, x2, x3, x4⟩ = []) := Lib.hid (bub1_no k h1 rfl)
            clear h1
            gi_wp2_with (refine ⟨trivial, ?_⟩; gi_at_call 24; refine (callsIn_wide.2 (HH.out _)).mono ?_; rintro e w4 ⟨rfl, hb4⟩; have HB4 := Lib.hid (HBA.out.trans (hb4.mono (World.size_alloc _ _ ▸ Nat.le_succ _))); clear hb4)
            go_roundw
            case rel => exact ⟨k + 1, by omega, by go_num, by rw [HTK.out, bub_snoc, HLK.out, HB0.out, List.append_nil]; exact ownFrom_step hJM HJk.out HB4.out, HKk.out.trans (KpX.of_below HB4.out)⟩
            case measure => simp [intOf]; omega
          · have z : (x1 != 0) = true := by simp [h1]
            have HB1 : Hid (bub1 false k ⟨x0, x1, x2, x3, x4⟩ = [⟨(k : Int), R, false⟩]) := Lib.hid (by rw [HRR.out]; exact bub1_yes k (.inl h1))
            have HPre : Hid ((capT 0 p ++ bubT false 0 (p.take k)) ++ [⟨(k : Int), R, false⟩] <+: turnsL p false) := Lib.hid (by have := HB1.out; rw [HRR.out] at this ⊢; exact HPR.out this)
            have HN : Hid ((capT 0 p ++ bubT false 0 (p.take k)).length < (turnsL p false).length) := Lib.hid (by have := HPre.out.length_le; rw [List.length_append, List.length_singleton] at this; omega)
            clear h1
            gi_wp2_with (refine ⟨trivial, ?_⟩; gi_at_call 24; refine (callsIn_wide.2 (HH.out _)).mono ?_; rintro e w4 ⟨rfl, hb4⟩; have k0 := (HFX.out.below hb4 HFX.out.inside).cell 0; have k1 := (HFX.out.below hb4 HFX.out.inside).cell 1; have k2 := (HFX.out.below hb4 HFX.out.inside).cell 2; have k3 := (HFX.out.below hb4 HFX.out.inside).cell 3; have k4 := (HFX.out.below hb4 HFX.out.inside).cell 4; have HB4 := Lib.hid (HBA.out.trans (hb4.mono (World.size_alloc _ _ ▸ Nat.le_succ _))); clear hb4 g0 g1 g2 g3 g4 g5 c0 c1 c2 c3 c4)
            obtain ⟨U, eU⟩ : ∃ U, U = w4 := ⟨_, rfl⟩
            have HKU : Hid (KpX X 32 V U) := Lib.hid (by rw [eU]; exact HKk.out.trans (KpX.of_below HB4.out))
            have HJU : Hid (J (capT 0 p ++ bubT false 0 (p.take k)) U) := Lib.hid (by rw [eU]; exact ownFrom_step hJM HJk.out HB4.out)
            have HBY : Hid (Boxed U M 49 (.func (.yield l) #[] #[])) := Lib.hid (HBm.out _ (HKW.out.trans HKU.out))
            have e0 := HBY.out.cell
            rw [← eU] at k0 k1 k2 k3 k4 ⊢
            clear eU HKk HJk HBA HFX HKK HB4 HH
            gi_wp2
            refine wpIn_mono (?_ : Code.wpIn _ _ _ _ (Exit.then _ (fun _ _ _ => False)) _ _) (fun e a' w' h => by cases e <;> first | exact h | exact h.elim)
            gi_region_with_o (first
              | (refine ⟨trivial, ?_⟩; gi_at_call 23; refine (callsIn_wide.2 (HP.out _)).mono ?_; rintro e w5 ⟨rfl, hb5⟩; have z0 : w5.cell? ⟨M, 0, none⟩ = some (.func (.yield l) #[] #[]) := (show Boxed w5 M 49 (.func (.yield l) #[] #[]) from (hb5.block M HBY.out.lt).trans HBY.out).cell; have hb6 : Below U.heap.size U w5 := (Below.refl U.heap.size U).drew.trans hb5; obtain ⟨fn, tm, asg, bod, hy, hRd⟩ := HY.out (capT 0 p ++ bubT false 0 (p.take k)) ⟨(k : Int), R, false⟩ w5 (ownFrom_step hJM HJU.out hb6) HN.out; dsimp only [encT] at hy; have HRd := Lib.hid hRd; have HB5 := Lib.hid hb6; clear hRd hb5 hb6)
              | (refine (round_any HRd.out).mono ?_; rintro e W3 ⟨v, rfl, hk3, hc3⟩; have HK3 := Lib.hid hk3; have HC3 := Lib.hid hc3; clear hk3 hc3 hy z0))
            all_goals (have HKV := Lib.hid (HKU.out.trans ((KpX.of_below HB5.out).trans HK3.out)); clear HB5 HK3 HRd HBY HJU HKU; rcases HC3.out with ⟨rfl, hj⟩ | ⟨rfl, hj⟩)
            all_goals (have HJ3 := Lib.hid hj; clear hj HC3; gi_wp2)
            all_goals first
              | (go_roundw; (case rel => exact ⟨k + 1, by omega, by go_num, by rw [HTK.out, bub_snoc, HLK.out, HB1.out, ← List.append_assoc]; exact HJ3.out, HKV.out⟩); (case measure => simp [intOf]; omega))
              | (refine ⟨by simp, .inl ⟨_, _, rfl, run_takeDeferred (HKV.out.same HXD.out hK (fun _ _ e => by cases e)), ?_⟩⟩; exact ⟨_, results_none rfl _ _ _, ⟨_, rfl⟩, .inr ⟨_, HPre.out, hJxM.putObj _ HJ3.out HMD.out (HKV.out.same HXD.out hK (fun _ _ e => by cases e)) rfl⟩⟩)
      · obtain rfl : k = len := by omega
        have hJk' : J (turnsL p bub) wr := by
          rw [turnsL]
          rwa [List.take_of_length_le (by rw [HL.out]; exact Nat.le_refl _)] at hJk
        have HJk := Lib.hid hJk'
        have HKV := Lib.hid hkV
        clear hJk hJk' hkV
        gi_wp2
        refine ⟨by simp, .inl ⟨_, _, rfl, run_takeDeferred (HKV.out.same HXD.out hK (fun _ _ e => by cases e)), ?_⟩⟩
        exact ⟨_, results_none rfl _ _ _, ⟨_, rfl⟩, .inl ⟨_, rfl, hJM.putObj _ HJk.out HMD.out (HKV.out.same HXD.out hK (fun _ _ e => by cases e)) rfl⟩⟩
  case stop =>
    rintro D cd pre V hD ⟨k, hk', rfl⟩ ⟨⟨rfl, hJp⟩, hk⟩ hK
    have hP : ((bkL p).take k).map capO <+: turnsL p bub := by
      rw [List.map_take, bk_cap, turnsL]
      exact (List.take_prefix _ _).trans (List.prefix_append _ _)
    have HPre := Lib.hid hP
    have HJp := Lib.hid hJp
    clear hJp hP
    gi_wp2
    refine ⟨by simp, .inl ⟨_, _, rfl, run_takeDeferred hK, ?_⟩⟩
    exact ⟨_, results_none rfl _ _ _, ⟨_, rfl⟩, .inr ⟨_, HPre.out, hJxM.putObj _ HJp.out (by omega) hK rfl⟩⟩
end
end Go.Proofs.Ytekmgaigppenlaa

namespace Go.Proofs.Ytekmgaigppenlaa
open Go Go.RowKit Go.Shelf
attribute [local go_sem] Oper.semAt_some

/-- The row that a slice owns is of its element type. -/
theorem own_type {w : World} {base n size g : Nat} {e : TypeId} {v : Value} {us : List Value} (h : w.ownsRow base e size v n us) (hg : v.ownBlock = some g) : ∃ c f, w.heap[g]? = some (.cells c e f) := by
  rcases h.2 with ⟨rfl, _⟩ | ⟨g', cap, cur, rfl, _, hgb, _⟩
  · simp [Value.ownBlock] at hg
  · obtain rfl : g' = g := by simpa [Value.ownBlock] using hg
    exact ⟨_, _, hgb⟩
theorem KpX.of_keeps {X F : Nat → Prop} {T : TypeId} {W W' : World} (k : Keeps F W W') (hF : ∀ b, F b → X b ∨ ∃ c f, W.heap[b]? = some (.cells c T f)) : KpX X T W W' :=
  ⟨k.grows, fun b o hb ho hT => (k.old b (Array.getElem?_eq_some_iff.1 ho).1 (fun hf => by
    rcases hF b hf with h | ⟨c, f, h⟩
    · exact hb h
    · rw [ho] at h
      cases h
      exact hT c f rfl)).trans ho⟩
section
variable {α : Type} {R : Rec α} {e : TypeId} {base : Nat} {w : World} {v : Value} {xs : List α} {x : α} {F : Fence} {n : Nat}
theorem wpListIn_pushR {P : Program} {ops : Array Oper} {rest : List Oper} {o : Oper} {a : Act} {Q : Exit → Act → World → Prop} (hgd : o.guard = none) (s p : Operand) (t : TypeId)
    (ho : o.op = .call { callee := .builtin .append, args := #[s, p], argTypes := #[t, t] }) (i : TypeInfo) (z : Value) (bytes : Nat) (ht : P.underlying t = some (.slice e)) (hi : P.info? e = some i) (hz : i.zero = some z) (hsize : i.size = R.n) (hby : i.bytes = bytes) (hzs : z.cells.size = R.n)
    (hs : a.eval s = v) (h : Recs R e base w v xs) {b c : Nat} {fr : Nat × Nat} (hx : a.eval p = .slice (some ⟨b, 0, none⟩) 1 c) (hb : Has w b (.cells (R.cells x).toArray e fr)) (hl : xs.length ≤ 1000000) (hbb : bytes ≤ 1000000) (hbase : base ≤ w.heap.size)
    (hK : ∀ g cap w', Recs R e base w' (.slice (some ⟨g, 0, none⟩) (xs.length + 1) cap) (xs ++ [x]) → Keeps (fun i => v.ownBlock = some i) w w' → (v.ownBlock = some g ∨ w.heap.size ≤ g) → g < w'.heap.size → wpListIn F n P ops Q rest (a.put o.dst (.slice (some ⟨g, 0, none⟩) (xs.length + 1) cap)) w') : wpListIn F n P ops Q (o :: rest) a w := by
  obtain ⟨g, cap, w', hr, h2, h3, h4, h5⟩ := run_pushR (c := c) (x := x) t o.type i z bytes ht hi hz hsize hby hzs h hb hl hbb hbase
  refine wpListIn_plain hgd fun _ hK' => ?_
  unfold Oper.wpIn
  refine ⟨by simp [Oper.about, ho, resolve, Target.leads, Sem.run_pure], ?_⟩
  rw [Oper.semAt_plain F _ _ (by rw [ho]; intro c hc'; cases hc')]
  simp [execOp, ho, resolve, invoke, builtin, hs, hx, hr, Result.andThen]
  exact hK' _ _ (hK g cap w' h2 h3 h4 h5)
end
section
set_option maxRecDepth 100000 in
set_option maxHeartbeats 2000000 in
theorem wkEach {A : Option Addr} {n c : Nat} {p : List Stp} {w : World} (bub : Bool) (hn : p.length = n) (hl : n ≤ 1000) (hR : RecIn RS w A c p) :
    Calls Try.prog 13 #[.slice A n c, .bool bub] w fun e w' => ∃ (Bo Bb : Nat) (Y : Nat → Prop), e = .returned (.func (.func 21) #[] #[.pointer (some ⟨Bo, 0, none⟩), .pointer (some ⟨Bb, 0, none⟩)]) ∧
      SeqX Try.prog 21 #[.pointer (some ⟨Bo, 0, none⟩), .pointer (some ⟨Bb, 0, none⟩)] encT Y 32 (fun ts => ts = turnsL p bub) (fun pre => pre <+: turnsL p bub) (turnsL p bub).length w' ∧ (∀ b, Y b → w.heap.size ≤ b ∧ b < w'.heap.size) ∧ Below w.heap.size w w' := by
  have HR := Lib.hid hR
  have HB0 : Hid (Below w.heap.size w (w.alloc (.cells #[.bool bub] 4))) := Lib.hid ((Below.refl _ w).alloc (Nat.le_refl _) _)
  have HB := Lib.hid (Boxed.new w 4 (.bool bub))
  clear hR
  go_enter Try.func13, Try.ntmps13
  go_wp2_with fail
  refine (stClone A n c p _ hn hl (HR.out.below HB0.out)).mono ?_
  rintro e w2 ⟨v, rfl, hr2, hb2⟩
  obtain ⟨A2, c2, rfl, hI2⟩ := hr2.form
  rw [hn] at hr2 ⊢
  have hs2 := hb2.size
  have h3 : Below w.heap.size w w2 := HB0.out.trans (hb2.mono (by simp))
  have hBb : Boxed w2 w.heap.size 4 (.bool bub) := (hb2.block _ HB.out.lt).trans HB.out
  have hA3 : Below w2.heap.size w2 (w2.alloc (.cells #[.slice A2 n c2] 22)) := (Below.refl _ w2).alloc (Nat.le_refl _) _
  have hBo := Boxed.new w2 22 (.slice A2 n c2)
  simp only [World.size_alloc] at hs2
  have hin := hr2.in_
  have hseq : SeqX Try.prog 21 #[.pointer (some ⟨w2.heap.size, 0, none⟩), .pointer (some ⟨w.heap.size, 0, none⟩)] encT (fun b => b = w2.heap.size ∨ b = w.heap.size ∨ (Value.slice A2 n c2).ownBlock = some b) 32 (fun ts => ts = turnsL p bub) (fun pre => pre <+: turnsL p bub) (turnsL p bub).length (w2.alloc (.cells #[.slice A2 n c2] 22)) := by
    refine each1 p bub _ w2.heap.size w.heap.size n c2 A2 _ hn hl (.inl rfl) (.inr (.inl rfl)) (fun h0 b off s e => .inr (.inr (by rw [e]; simp [Value.ownBlock]))) ?_ hBo (hBb.alloc _) (hI2.below hA3)
    rintro b (rfl | rfl | hb)
    · exact ⟨_, hBo, fun c f e => by cases e⟩
    · exact ⟨_, hBb.alloc _, fun c f e => by cases e⟩
    · obtain ⟨c', f', hc⟩ := own_type hr2 hb
      exact ⟨_, (hA3.block b (hin b hb).2).trans hc, fun c f e => by cases e⟩
  have hY : ∀ b, (b = w2.heap.size ∨ b = w.heap.size ∨ (Value.slice A2 n c2).ownBlock = some b) → w.heap.size ≤ b ∧ b < (w2.alloc (.cells #[.slice A2 n c2] 22)).heap.size := by
    rw [World.size_alloc]
    rintro b (rfl | rfl | hb)
    · omega
    · omega
    · have := hin b hb
      rw [World.size_alloc] at this
      omega
  have HSeq := Lib.hid hseq
  have HY := Lib.hid hY
  have H3 := Lib.hid (h3.alloc (by omega) (.cells #[.slice A2 n c2] 22))
  clear hseq hY h3 hin hBo hA3 hBb hs2 hI2 hr2 hb2 HB HB0 HR
  go_wp2
  go_ret
  exact ⟨_, _, _, rfl, HSeq.out, HY.out, H3.out⟩
set_option maxRecDepth 100000 in
set_option maxHeartbeats 4000000 in
theorem wkTurns {A : Option Addr} {n c : Nat} {p : List Stp} {w : World} (bub : Bool) (hn : p.length = n) (hl : n ≤ 1000) (hR : RecIn RS w A c p) :
    Calls Try.prog 10 #[.slice A n c, .bool bub] w fun e w' => ∃ v, e = .returned v ∧ Recs RT 32 w.heap.size w' v (turnsL p bub) ∧ Below w.heap.size w w' := by
  have HR := Lib.hid hR
  have HB0 : Hid (Below w.heap.size w (w.alloc (.cells #[.slice none 0 0] 24))) := Lib.hid ((Below.refl _ w).alloc (Nat.le_refl _) _)
  have HB := Lib.hid (Boxed.new w 24 (.slice none 0 0))
  clear hR
  refine (callsIn_wide (n := 9)).1 ?_
  refine callsIn_of_wp_marks Try.func10 rfl trivial ?_ rfl
  simp only [Try.ntmps10, List.size_toArray, List.length_cons, List.length_nil, Nat.reduceAdd, Nat.reduceSub, Array.replicate_succ, Array.replicate_zero, List.push_toArray, List.append_toArray, List.nil_append, List.cons_append]
  gi_wp2_with (refine ⟨trivial, ?_⟩; gi_at_call 13; refine (callsIn_wide.2 (wkEach bub hn hl (HR.out.below HB0.out))).mono ?_; rintro e w1 ⟨Bo, Bb, Y, rfl, hseq, hY, hb1⟩; have HSeq := Lib.hid hseq; have HY := Lib.hid hY; have HB1 := Lib.hid hb1; clear hseq hY hb1)
  have b0 : Boxed w1 w.heap.size 24 (.slice none 0 0) := (HB1.out.block _ HB.out.lt).trans HB.out
  have hsz := HB1.out.size
  have hB1 : Below w.heap.size w w1 := HB0.out.trans (HB1.out.mono HB0.out.size)
  have hYT : ∀ b, Y b → w.heap.size + 1 ≤ b ∧ b < w1.heap.size := fun b hb => by
    have := HY.out b hb
    rw [World.size_alloc] at this
    exact this
  rw [World.size_alloc] at hsz
  obtain ⟨T, eT⟩ : ∃ T, T = w.heap.size := ⟨_, rfl⟩
  rw [← eT] at b0 hB1 hYT hsz ⊢
  have HT := Lib.hid eT
  have HTw : Hid (T ≤ w.heap.size) := Lib.hid (by omega)
  obtain ⟨B, eB⟩ : ∃ B, B = w1.heap.size := ⟨_, rfl⟩
  have HBB := Lib.hid eB
  obtain ⟨j0, qi, qz0, qz1, qz2⟩ := info_parts Try.infoU
  have Qi := Lib.hid qi
  have Qz0 := Lib.hid qz0
  have Qz1 := Lib.hid qz1
  have Qz2 := Lib.hid qz2
  have HN : Hid ((turnsL p bub).length ≤ 100000) := Lib.hid (by have := turns_le p bub; omega)
  clear eT eB HB0 HB HB1 HY HR qi qz0 qz1 qz2
  refine wpIn_range_X (by decide) (gf := 21) (lb := #[.pointer (some ⟨Bo, 0, none⟩), .pointer (some ⟨Bb, 0, none⟩)]) rfl (enters_of Try.func21 (by kernel_rfl) rfl) HSeq.out (Below.refl _ _) (fun _ => rfl)
    (fun b => b = T) (fun b hb => (hYT b hb).2) (by rintro b rfl; exact ⟨by omega, fun e => by have := (hYT _ e).1; omega⟩)
    (fun pre V => (∃ v, Boxed V T 24 v ∧ V.ownsRow (T + 1) 32 3 v pre.length (flatR RT pre) ∧ True) ∧ Below T w V)
    (fun _ _ _ => False)
    (OwnFrom.and (Own.from (holdsRow_own (T + 1) T 24 32 3 (fun pre : List Trn => pre.length) (fun pre => flatR RT pre) (fun _ _ => True)) _) (ownFrom_below HTw.out (by omega)))
    (fun _ _ _ _ _ hs _ _ => hs)
    ⟨⟨_, b0, World.ownsRow_nil _ _ _ _, trivial⟩, hB1⟩
    (fun x a' V => ∃ Bx, T < Bx ∧ Has V Bx (.cells #[.int .i64 x.at_, .int .i64 x.phase, .bool x.cap] 32 (0, 0)) ∧ a' = { tmps := #[.slice A n c, .bool bub, undef, undef, .slice none 0 0, .pointer (some ⟨T, 0, none⟩), .pointer (some ⟨Bx, 0, none⟩), .slice A n c, .bool bub, .func (.func 21) #[] #[.pointer (some ⟨Bo, 0, none⟩), .pointer (some ⟨Bb, 0, none⟩)], .agg #[.int .i64 x.at_, .int .i64 x.phase, .bool x.cap], undef, undef, undef, undef, undef], defers := [] })
    (fun x a' _ X Y row hs hg hr => by obtain ⟨Bx, h1, h2, h3⟩ := hs; exact ⟨Bx, h1, has_own Bx (fun (_ : Unit) => #[.int .i64 x.at_, .int .i64 x.phase, .bool x.cap]) _ _ () X Y row h2 hg (fun r e => (hr r e).2), h3⟩)
    ?assign ?body ?done ?stop
  case assign =>
    rintro l pre x V K ⟨⟨v, q2, q3, -⟩, hB⟩ hK
    have hVs := hB.size
    have hlt := q2.lt
    dsimp only [encT]
    gi_wp2
    refine hK _ _ (KpX.alloc _ _) ⟨⟨v, q2.alloc _, own_below q3 ((Below.refl _ V).alloc (Nat.le_refl _) _), trivial⟩, hB.alloc (by have := HTw.out; omega) _⟩ ⟨V.heap.size, hlt, Has.fresh V (.cells #[.int .i64 x.at_, .int .i64 x.phase, .bool x.cap] 32), rfl⟩
  case body =>
    rintro l pre x a' V ⟨⟨v, q2, q3, -⟩, hB⟩ ⟨Bx, hBx, bX, rfl⟩ hlt
    have d2 := q2.cell
    have d3 := q2.frozen
    have c0 := bX.cell 0
    have c1 := bX.cell 1
    have c2 := bX.cell 2
    have hTV := q2.lt
    have hA : Below V.heap.size V (V.alloc (.cells #[.int .i64 x.at_, .int .i64 x.phase, .bool x.cap] 32)) := (Below.refl _ V).alloc (Nat.le_refl _) _
    have hrs : Recs RT 32 (T + 1) V v pre := q3
    have HR6 := Lib.hid (hrs.below hA)
    have HL6 : Hid (Has (V.alloc (.cells #[.int .i64 x.at_, .int .i64 x.phase, .bool x.cap] 32)) V.heap.size (.cells (RT.cells x).toArray 32 (0, 0))) := Lib.hid (Has.fresh V (.cells #[.int .i64 x.at_, .int .i64 x.phase, .bool x.cap] 32))
    have HS6 : Hid (T + 1 ≤ (V.alloc (.cells #[.int .i64 x.at_, .int .i64 x.phase, .bool x.cap] 32)).heap.size) := Lib.hid (by rw [World.size_alloc]; omega)
    have HLn : Hid (pre.length ≤ 1000000) := Lib.hid (by have := HN.out; omega)
    have HRs := Lib.hid hrs
    have HQ2 := Lib.hid q2
    have HB := Lib.hid hB
    clear q2 q3 hB bX hA hrs hlt hBx
    gi_wp2_with (gi_at_builtin; refine wpListIn_pushR (R := RT) (x := x) (v := v) (xs := pre) (base := T + 1) rfl (.tmp 11) (.tmp 13) 24 rfl j0 _ 24 Try.underlying24 Qi.out Qz0.out Qz1.out Qz2.out rfl rfl HR6.out rfl HL6.out HLn.out (by omega) HS6.out ?_; intro g cap w5 hp5 hk5 _ _; have hu : Boxed w5 T 24 v := (hk5.old T (by rw [World.size_alloc]; omega) (fun e => by have := (HRs.out.in_ T e).1; omega)).trans (HQ2.out.alloc _); have a7 := hu.cell; have a8 := hu.frozen; have HU := Lib.hid hu; have HP5 := Lib.hid hp5; have HK5 := Lib.hid hk5; clear hu hp5 hk5)
    have hP : Recs RT 32 (T + 1) (w5.setCell ⟨T, 0, none⟩ (.slice (some ⟨g, 0, none⟩) (pre.length + 1) cap)) (.slice (some ⟨g, 0, none⟩) (pre.length + 1) cap) (pre ++ [x]) := own_aside2 HP5.out (by omega)
    refine ⟨((KpX.alloc _ _).trans (KpX.of_keeps HK5.out fun b e => .inr (own_type HR6.out e))).trans (KpX.setCell (X := fun b => b = T) rfl _ _ _), ⟨_, HU.out.set _, ?_, trivial⟩, ?_⟩
    · exact hP
    · refine (below_then (HB.out.alloc (by have := HTw.out; have := HB.out.size; omega) _) HK5.out ?_ ?_).setCell (p := ⟨T, 0, none⟩) (Nat.le_refl _) _
      · rw [World.size_alloc]; omega
      · intro i hi e
        have := (HRs.out.in_ i e).1
        omega
  case done =>
    rintro D ys V hD rfl ⟨⟨v, q2, q3, -⟩, hB⟩ hK
    have d2 := q2.cell
    gi_wp2
    refine ⟨by simp, .inl ⟨_, _, rfl, run_takeDeferred hK, ?_⟩⟩
    refine ⟨_, results_tmp rfl _ _ _, v, rfl, ownsRow_putObj (own_base q3 (by rw [HT.out]; exact Nat.le_succ _)) _ hK rfl, ?_⟩
    exact (by rw [← HT.out]; exact hB.trans (belowK_b (w := w) (by rw [HT.out]; exact Nat.le_refl _) V D _ _ (by have := HT.out; omega) hK rfl rfl))
  case stop =>
    rintro D cd pre V hD _ h _
    exact h.elim
end
end Go.Proofs.Ytekmgaigppenlaa

namespace Go.Proofs.Ytekmgaigppenlaa
open Go Go.RowKit

def path1 : List Stp := [⟨1, 1, 0, false, false⟩]
theorem path1_turns : turnsL path1 false = [⟨0, 2, true⟩, ⟨0, 2, false⟩] := rfl
set_option maxRecDepth 100000 in
set_option maxHeartbeats 4000000 in
theorem awake16 (w : World) : Calls Try.prog 7 #[] w fun e w' => e = .returned (.bool true) ∧ Below w.heap.size w w' := by
  have hA : RecIn RS (w.alloc (.cells #[.int .i64 1, .int .i64 1, .int .i64 0, .bool false, .bool false] 44)) (some ⟨w.heap.size, 0, none⟩) 1 path1 := rec_lit (xs := path1) (fr := (0, 0)) (Has.fresh w (.cells #[.int .i64 1, .int .i64 1, .int .i64 0, .bool false, .bool false] 44))
  have HC := Lib.hid (wkTurns false (n := 1) rfl (by decide) hA)
  clear hA
  go_enter Try.func7, Try.ntmps7
  go_wp2_with fail
  refine HC.out.mono ?_
  rintro e w2 ⟨x, rfl, hx, hb2⟩
  obtain ⟨A2, c2, rfl, hL2⟩ := hx.form
  rw [path1_turns] at hL2 ⊢
  have hB : Below w.heap.size w w2 := ((Below.refl _ w).alloc (Nat.le_refl _) _).trans (hb2.mono (by simp))
  have HB := Lib.hid hB
  have hL3 : RecIn RT (w2.alloc (.cells #[.int .i64 0, .int .i64 2, .bool true, .int .i64 0, .int .i64 2, .bool false] 32)) (some ⟨w2.heap.size, 0, none⟩) 2 [⟨0, 2, true⟩, ⟨0, 2, false⟩] := rec_lit (xs := [(⟨0, 2, true⟩ : Trn), ⟨0, 2, false⟩]) (fr := (0, 0)) (Has.fresh w2 (.cells #[.int .i64 0, .int .i64 2, .bool true, .int .i64 0, .int .i64 2, .bool false] 32))
  have HL2 := Lib.hid (hL2.below ((Below.refl _ w2).alloc (Nat.le_refl _) (.cells #[.int .i64 0, .int .i64 2, .bool true, .int .i64 0, .int .i64 2, .bool false] 32)))
  have HL3 := Lib.hid hL3
  clear hx hb2 hL2 hB hL3 HC
  rw [show ([(⟨0, 2, true⟩ : Trn), ⟨0, 2, false⟩] : List Trn).length = 2 from rfl]
  go_wp2_with fail
  refine (turnsSame [⟨0, 2, true⟩, ⟨0, 2, false⟩] 2 A2 (some ⟨w2.heap.size, 0, none⟩) c2 2 _ rfl (by decide) HL2.out HL3.out).mono ?_
  rintro e w3 ⟨rfl, m, rfl⟩
  have HB3 := Lib.hid (below_draws (HB.out.alloc HB.out.size (.cells #[.int .i64 0, .int .i64 2, .bool true, .int .i64 0, .int .i64 2, .bool false] 32)) m)
  go_wp2
  go_ret
  exact ⟨rfl, HB3.out⟩
end Go.Proofs.Ytekmgaigppenlaa

namespace Go.Proofs.Ytekmgaigppenlaa
open Go Go.RowKit

section
variable {Rep : (Nat → Prop) → World → Nat → List Nd → Prop}
set_option maxHeartbeats 8000000 in
set_option maxRecDepth 100000 in
theorem built_any (O : ForestOk Rep) (A : Option Addr) (n c : Nat) (xs : List Ac) (w : World) (hn : xs.length = n) (h : Acts w A xs) (hs : Small xs) :
    Calls Try.prog 16 #[.slice A n c] w fun e w' => ∃ b, e = .returned (at_ b) ∧ Rep (fun i => w.heap.size ≤ i) w' b (forest xs) ∧ Below w.heap.size w w' := by
  have H := Lib.hid h
  have Hn := Lib.hid hn
  have Hs := Lib.hid hs
  have hnb : n ≤ 300 := by rw [← hn]; exact hs.1
  clear h hn hs
  go_enter Try.func16, Try.ntmps16
  go_wp2_with fail
  refine (O.new (fun i => w.heap.size ≤ i) w (fun _ h => h)).mono ?_
  rintro e w1 ⟨b, rfl, hR1, hb1⟩
  go_wp2_with fail
  go_loopw [4] (fun i wr => ∃ j : Nat, i = .int .i64 j ∧ j ≤ n ∧ Rep (fun i => w.heap.size ≤ i) wr b (forest (xs.take j)) ∧ Below w.heap.size w wr) (fun i _ => n - (intOf i).toNat)
  case atStart => exact ⟨0, rfl, Nat.zero_le _, hR1, hb1⟩
  case round =>
    obtain ⟨j, rfl, hj, hR, hb⟩ := hrel
    clear hR1 hb1
    by_cases hjn : (j : Int) < n
    · have hjx : j < xs.length := by rw [Hn.out]; omega
      have hj3 : (j : Int) < 300 := by omega
      obtain ⟨b', off, A1, c1, A2, c2, rfl, hB, hc, hL, hA⟩ := H.out j hjx
      have hsn : forest (xs.take (j + 1)) = actL (forest (xs.take j)) xs[j] := by
        rw [List.take_add_one, List.getElem?_eq_getElem hjx]
        exact forest_snoc _ _
      have hxl : xs[j].l.length ≤ 200 := Hs.out.2 _ (List.getElem_mem hjx)
      have hg : Good (forest (xs.take j)) := good_take Hs.out j
      obtain ⟨l, hl⟩ : ∃ l, l = forest (xs.take j) := ⟨_, rfl⟩
      rw [← hl] at hsn hg hR
      obtain ⟨x, hx⟩ : ∃ x, x = xs[j] := ⟨_, rfl⟩
      rw [← hx] at hc hL hA hsn hxl
      clear hl hx
      have hc' : ∀ f, f < 14 → wr.cell? ⟨b', off + j * 14 + f, none⟩ = (actCells x (.slice A1 x.n.kids.length c1) (.slice A2 x.l.length c2))[f]? := fun f hf => by
        rw [hb.cell (p := ⟨b', off + j * 14 + f, none⟩) hB, Nat.add_assoc]
        exact hc f hf
      have hapart : 0 < x.l.length → ∀ b'' off' s, A2 = some ⟨b'', off', s⟩ → b'' < w.heap.size := fun h0 b'' off' s e => by
        obtain ⟨b3, off3, e3, hb3, _⟩ := hA.nums 0 h0
        rw [e] at e3
        cases e3
        exact hb3
      obtain ⟨kx, ax, bx, sx, ⟨k, pa, ho, sh, m, sl, na, wa, ks⟩, xl⟩ := x
      have g0 : wr.cell? ⟨b', off + j * 14, none⟩ = some (.int .i64 kx) := hc' 0 (by omega)
      have g1 : wr.cell? ⟨b', off + j * 14 + 1, none⟩ = some (.int .i64 ax) := hc' 1 (by omega)
      have g2 : wr.cell? ⟨b', off + j * 14 + 2, none⟩ = some (.int .i64 bx) := hc' 2 (by omega)
      have g3 : wr.cell? ⟨b', off + j * 14 + 3, none⟩ = some (.string sx) := hc' 3 (by omega)
      have g4 : wr.cell? ⟨b', off + j * 14 + 4, none⟩ = some (.int .i64 k) := hc' 4 (by omega)
      have g5 : wr.cell? ⟨b', off + j * 14 + 5, none⟩ = some (.int .i64 pa) := hc' 5 (by omega)
      have g6 : wr.cell? ⟨b', off + j * 14 + 6, none⟩ = some (.int .i64 ho) := hc' 6 (by omega)
      have g7 : wr.cell? ⟨b', off + j * 14 + 7, none⟩ = some (.int .i64 sh) := hc' 7 (by omega)
      have g8 : wr.cell? ⟨b', off + j * 14 + 8, none⟩ = some (.int .i64 m) := hc' 8 (by omega)
      have g9 : wr.cell? ⟨b', off + j * 14 + 9, none⟩ = some (.bool sl) := hc' 9 (by omega)
      have g10 : wr.cell? ⟨b', off + j * 14 + 10, none⟩ = some (.string na) := hc' 10 (by omega)
      have g11 : wr.cell? ⟨b', off + j * 14 + 11, none⟩ = some (.string wa) := hc' 11 (by omega)
      have g12 : wr.cell? ⟨b', off + j * 14 + 12, none⟩ = some (.slice A1 ks.length c1) := hc' 12 (by omega)
      have g13 : wr.cell? ⟨b', off + j * 14 + 13, none⟩ = some (.slice A2 xl.length c2) := hc' 13 (by omega)
      obtain ⟨q1, q2, q3, q4, q5, q6⟩ := hA
      have hxl' : xl.length ≤ 200 := hxl
      have hbb : Below wr.heap.size wr (wr.alloc (.cells #[.int .i64 kx, .int .i64 ax, .int .i64 bx, .string sx, .int .i64 k, .int .i64 pa, .int .i64 ho, .int .i64 sh, .int .i64 m, .bool sl, .string na, .string wa, .slice A1 ks.length c1, .slice A2 xl.length c2] 59)) := (Below.refl _ wr).alloc (Nat.le_refl _) _
      have HR := Lib.hid (O.below hR hbb)
      have HS : Hid (Fut (fun i => w.heap.size ≤ i) (wr.alloc (.cells #[.int .i64 kx, .int .i64 ax, .int .i64 bx, .string sx, .int .i64 k, .int .i64 pa, .int .i64 ho, .int .i64 sh, .int .i64 m, .bool sl, .string na, .string wa, .slice A1 ks.length c1, .slice A2 xl.length c2] 59)).heap.size) := Lib.hid fun i hi => Nat.le_trans (Nat.le_trans hb.size hbb.size) hi
      have H1 : Hid (ListIn (wr.alloc (.cells #[.int .i64 kx, .int .i64 ax, .int .i64 bx, .string sx, .int .i64 k, .int .i64 pa, .int .i64 ho, .int .i64 sh, .int .i64 m, .bool sl, .string na, .string wa, .slice A1 ks.length c1, .slice A2 xl.length c2] 59)) A1 c1 ks) := Lib.hid ((hL.below hb).below hbb)
      have H6 : Hid (ListIn (wr.alloc (.cells #[.int .i64 kx, .int .i64 ax, .int .i64 bx, .string sx, .int .i64 k, .int .i64 pa, .int .i64 ho, .int .i64 sh, .int .i64 m, .bool sl, .string na, .string wa, .slice A1 ks.length c1, .slice A2 xl.length c2] 59)) A2 c2 xl) := Lib.hid ((ListIn.below ⟨q4, q5, q6⟩ hb).below hbb)
      have HB : Hid (Below w.heap.size w (wr.alloc (.cells #[.int .i64 kx, .int .i64 ax, .int .i64 bx, .string sx, .int .i64 k, .int .i64 pa, .int .i64 ho, .int .i64 sh, .int .i64 m, .bool sl, .string na, .string wa, .slice A1 ks.length c1, .slice A2 xl.length c2] 59))) := Lib.hid (hb.alloc hb.size _)
      have HA := Lib.hid hapart
      have Hg := Lib.hid hg
      have Hsn := Lib.hid hsn
      have Q1 : sx.size ≤ 9223372036854775807 := q1
      have Q2 : na.size ≤ 9223372036854775807 := q2
      have Q3 : wa.size ≤ 9223372036854775807 := q3
      clear hc hc' hsn hL hR hapart hbb hg q4 q5 q6 hxl q1 q2 q3
      by_cases h0 : kx = 0
      · subst h0
        have e1 : actL l ⟨0, ax, bx, sx, ⟨k, pa, ho, sh, m, sl, na, wa, ks⟩, xl⟩ = mkL l ⟨k, pa, ho, sh, m, sl, na, wa, ks⟩ := rfl
        have E1 := Lib.hid e1
        clear e1
        go_wp2_with fail
        refine (O.make (fun i => w.heap.size ≤ i) _ b l k pa ho sh m sl na wa ks A1 c1 HR.out Hg.out HS.out Q2 Q3 H1.out).mono ?_
        rintro e w2 ⟨rfl, hR2, hk2⟩
        go_wp2
        go_roundw
        case rel => exact ⟨j + 1, by go_num, by omega, by rw [Hsn.out, E1.out]; exact hR2, below_then HB.out hk2 HB.out.size fun i hi hh => by omega⟩
        case measure => simp [intOf]; omega
      · have h0' : (kx == 0) = false := by simpa using h0
        by_cases h1 : kx = 1
        · subst h1
          have e1 : actL l ⟨1, ax, bx, sx, ⟨k, pa, ho, sh, m, sl, na, wa, ks⟩, xl⟩ = putL l ax xl := rfl
          have E1 := Lib.hid e1
          clear e1
          go_wp2_with fail
          refine (O.put (fun i => w.heap.size ≤ i) _ b l ax xl A2 c2 HR.out Hg.out HS.out hxl' H6.out fun h0 b2 off2 s e _ hh => by have := HA.out h0 b2 off2 s e; omega).mono ?_
          rintro e w2 ⟨rfl, hR2, hk2⟩
          go_wp2
          go_roundw
          case rel => exact ⟨j + 1, by go_num, by omega, by rw [Hsn.out, E1.out]; exact hR2, below_then HB.out hk2 HB.out.size fun i hi hh => by omega⟩
          case measure => simp [intOf]; omega
        · have h1' : (kx == 1) = false := by simpa using h1
          by_cases h2 : kx = 2
          · subst h2
            have e1 : actL l ⟨2, ax, bx, sx, ⟨k, pa, ho, sh, m, sl, na, wa, ks⟩, xl⟩ = tieL l ax bx := rfl
            have E1 := Lib.hid e1
            clear e1
            go_wp2_with fail
            refine (O.tie (fun i => w.heap.size ≤ i) _ b l ax bx HR.out Hg.out HS.out).mono ?_
            rintro e w2 ⟨rfl, hR2, hk2⟩
            go_wp2
            go_roundw
            case rel => exact ⟨j + 1, by go_num, by omega, by rw [Hsn.out, E1.out]; exact hR2, below_then HB.out hk2 HB.out.size fun i hi hh => by omega⟩
            case measure => simp [intOf]; omega
          · have h2' : (kx == 2) = false := by simpa using h2
            by_cases h3 : kx = 3
            · subst h3
              have e1 : actL l ⟨3, ax, bx, sx, ⟨k, pa, ho, sh, m, sl, na, wa, ks⟩, xl⟩ = nameL l ax sx := rfl
              have E1 := Lib.hid e1
              clear e1
              go_wp2_with fail
              refine (O.name (fun i => w.heap.size ≤ i) _ b l ax sx HR.out Hg.out HS.out Q1).mono ?_
              rintro e w2 ⟨rfl, hR2, hk2⟩
              go_wp2
              go_roundw
              case rel => exact ⟨j + 1, by go_num, by omega, by rw [Hsn.out, E1.out]; exact hR2, below_then HB.out hk2 HB.out.size fun i hi hh => by omega⟩
              case measure => simp [intOf]; omega
            · have h3' : (kx == 3) = false := by simpa using h3
              by_cases h4 : kx = 4
              · subst h4
                have e1 : actL l ⟨4, ax, bx, sx, ⟨k, pa, ho, sh, m, sl, na, wa, ks⟩, xl⟩ = wantL l ax sx := rfl
                have E1 := Lib.hid e1
                clear e1
                go_wp2_with fail
                refine (O.want (fun i => w.heap.size ≤ i) _ b l ax sx HR.out Hg.out HS.out Q1).mono ?_
                rintro e w2 ⟨rfl, hR2, hk2⟩
                go_wp2
                go_roundw
                case rel => exact ⟨j + 1, by go_num, by omega, by rw [Hsn.out, E1.out]; exact hR2, below_then HB.out hk2 HB.out.size fun i hi hh => by omega⟩
                case measure => simp [intOf]; omega
              · have h4' : (kx == 4) = false := by simpa using h4
                have e1 : actL l ⟨kx, ax, bx, sx, ⟨k, pa, ho, sh, m, sl, na, wa, ks⟩, xl⟩ = l := by simp only [actL, if_neg h0, if_neg h1, if_neg h2, if_neg h3, if_neg h4]
                have E1 := Lib.hid e1
                clear e1
                go_wp2
                go_roundw
                case rel => exact ⟨j + 1, by go_num, by omega, by rw [Hsn.out, E1.out]; exact HR.out, HB.out⟩
                case measure => simp [intOf]; omega
    · go_wp2
      go_ret
      refine ⟨b, rfl, ?_, hb⟩
      rw [List.take_of_length_le (by rw [Hn.out]; omega)] at hR
      exact hR
end
end Go.Proofs.Ytekmgaigppenlaa

namespace Go.Proofs.Ytekmgaigppenlaa
open Go Go.RowKit

/-- How many nodes ahead of number j have that parent and that kind. -/
def cntP (l : List Nd) (id kind : Int) (j : Nat) : Nat := ((List.range j).filter fun i : Nat => decide ((nd l ((i : Int) + 1)).parent = id ∧ (nd l ((i : Int) + 1)).kind = kind)).length
theorem cntP_step {l : List Nd} {id kind : Int} {j : Nat} : cntP l id kind (j + 1) = cntP l id kind j + if (nd l ((j : Int) + 1)).parent = id ∧ (nd l ((j : Int) + 1)).kind = kind then 1 else 0 := by
  unfold cntP
  rw [List.range_succ, List.filter_append, List.length_append]
  congr 1
  by_cases h : (nd l ((j : Int) + 1)).parent = id ∧ (nd l ((j : Int) + 1)).kind = kind
  · rw [if_pos h, List.filter_cons_of_pos (by simpa using h)]
    rfl
  · rw [if_neg h, List.filter_cons_of_neg (by simpa using h)]
    rfl
theorem cntP_le (l : List Nd) (id kind : Int) (j : Nat) : cntP l id kind j ≤ j := by
  have := List.length_filter_le (fun i : Nat => decide ((nd l ((i : Int) + 1)).parent = id ∧ (nd l ((i : Int) + 1)).kind = kind)) (List.range j)
  rw [List.length_range] at this
  exact this
/-- Those of a parent are its children. -/
theorem cntP_all {l : List Nd} (T : Tree l) {id kind : Int} (ht : thereB l id = true) : cntP l id kind l.length = cntL l kind (kidsL l id) := by
  unfold kidsL
  rw [if_pos ht]
  unfold cntP cntL
  have hp : List.Perm (((List.range l.length).filter fun i : Nat => decide ((nd l ((i : Int) + 1)).parent = id ∧ (nd l ((i : Int) + 1)).kind = kind)).map fun i : Nat => (i : Int) + 1) ((nd l id).kids.filter fun k => decide ((nd l k).kind = kind)) := by
    refine (List.perm_ext_iff_of_nodup ?_ ?_).2 fun k => ?_
    · exact List.pairwise_map.2 ((List.nodup_range.filter _).imp fun h e => h (by omega))
    · exact (T.once id ht).filter _
    · rw [List.mem_map, List.mem_filter]
      constructor
      · rintro ⟨i, hi, rfl⟩
        rw [List.mem_filter, List.mem_range] at hi
        obtain ⟨hlt, hq⟩ := hi
        obtain ⟨h1, h2⟩ := of_decide_eq_true hq
        have hth : thereB l ((i : Int) + 1) = true := thereB_iff.2 ⟨by omega, by omega⟩
        have hne : (nd l ((i : Int) + 1)).parent ≠ 0 := by rw [h1]; exact there_pos ht
        have := (T.par _ hth hne).2
        rw [h1] at this
        exact ⟨this, decide_eq_true h2⟩
      · rintro ⟨hk, hq⟩
        obtain ⟨h1, h2⟩ := T.kid id ht k hk
        obtain ⟨m, rfl, hm⟩ := there_at h1
        exact ⟨m, List.mem_filter.2 ⟨List.mem_range.2 hm, decide_eq_true ⟨h2, of_decide_eq_true hq⟩⟩, rfl⟩
  have := hp.length_eq
  rw [List.length_map] at this
  exact this

section
variable {G : Nat → Prop} {l : List Nd} {A : Option Addr} {c : Nat} {w : World}
/-- The children of a node, as the list holds them. -/
theorem Nodes.row (h : Nodes G w 0 A c l) {m : Nat} (hm : m < l.length) : ∃ g A1 c1, A = some ⟨g, 0, none⟩ ∧ g < w.heap.size ∧ w.cell? ⟨g, m * 9 + 8, none⟩ = some (.slice A1 (nd l ((m : Int) + 1)).kids.length c1) ∧ ListIn w A1 c1 (nd l ((m : Int) + 1)).kids ∧ w.cell? ⟨g, m * 9 + 1, none⟩ = some (.int .i64 (nd l ((m : Int) + 1)).parent) ∧ w.cell? ⟨g, m * 9, none⟩ = some (.int .i64 (nd l ((m : Int) + 1)).kind) := by
  obtain ⟨g, k, rfl, -, hg, hk, -, c0, c1, -, -, -, -, -, -, c8⟩ := h.nine hm
  obtain ⟨A1, n1, rfl, hL⟩ := (Pile.of_kids (base := 0) hk fun _ _ _ => Nat.zero_le _).form
  exact ⟨g, A1, n1, rfl, hg, c8, hL, c1, c0⟩
theorem rowL_no {id : Int} (h : thereB l id = false) : rowL l id = [] := by unfold rowL; rw [if_neg (by rw [h]; decide)]
end
end Go.Proofs.Ytekmgaigppenlaa

namespace Go.Proofs.Ytekmgaigppenlaa
open Go Go.RowKit

/-- A forest and a list of the same nodes. -/
structure Two (Rep : (Nat → Prop) → World → Nat → List Nd → Prop) (w : World) (b : Nat) (A : Option Addr) (c : Nat) (l : List Nd) (v : World) : Prop where
  rep : Rep (fun _ => True) v b l
  nodes : Nodes (fun _ => True) v 0 A c l
  below : Below w.heap.size w v
section
variable {Rep : (Nat → Prop) → World → Nat → List Nd → Prop} {w v v' : World} {b : Nat} {A : Option Addr} {c : Nat} {l : List Nd}
theorem Two.next (O : ForestOk Rep) (h : Two Rep w b A c l v) (hb : Below v.heap.size v v') : Two Rep w b A c l v' := ⟨O.since h.rep hb, h.nodes.below hb, h.below.trans (hb.mono h.below.size)⟩
theorem sameInts_self (xs : List Int) : sameInts xs xs = true := decide_eq_true rfl
/-- A forest, and what is below it. -/
structure One (Rep : (Nat → Prop) → World → Nat → List Nd → Prop) (w : World) (b : Nat) (l : List Nd) (v : World) : Prop where
  rep : Rep (fun _ => True) v b l
  below : Below w.heap.size w v
theorem One.next (O : ForestOk Rep) {w v v' : World} {b : Nat} {l : List Nd} (h : One Rep w b l v) (hb : Below v.heap.size v v') : One Rep w b l v' := ⟨O.since h.rep hb, h.below.trans (hb.mono h.below.size)⟩
end
end Go.Proofs.Ytekmgaigppenlaa

namespace Go.Proofs.Ytekmgaigppenlaa
open Go.ChangeShapes Go.WideShapes Go.ChangeAt Go.RowKit

theorem own : ownKnob Try.prog.godebug = none := by kernel_rfl
theorem laidOut : laidOutB Try.prog = true := by kernel_rfl
theorem ib {a : Int} (h : (Lit.int .i64 a).wf = true) : -9223372036854775808 ≤ a ∧ a ≤ 9223372036854775807 := by
  have h1 : IntKind.i64.min = -9223372036854775808 := rfl
  have h2 : IntKind.i64.max = 9223372036854775807 := rfl
  simp only [Lit.wf, Bool.and_eq_true, decide_eq_true_eq, h1, h2] at h
  exact h
theorem ib8 {a : Int} (h : (Lit.int .u8 a).wf = true) : 0 ≤ a ∧ a ≤ 255 := by
  have h1 : IntKind.u8.min = 0 := rfl
  have h2 : IntKind.u8.max = 255 := rfl
  simp only [Lit.wf, Bool.and_eq_true, decide_eq_true_eq, h1, h2] at h
  exact h
theorem ib16 {a : Int} (h : (Lit.int .u16 a).wf = true) : 0 ≤ a ∧ a ≤ 65535 := by
  have h1 : IntKind.u16.min = 0 := rfl
  have h2 : IntKind.u16.max = 65535 := rfl
  simp only [Lit.wf, Bool.and_eq_true, decide_eq_true_eq, h1, h2] at h
  exact h
end Go.Proofs.Ytekmgaigppenlaa

namespace Go.Proofs.Ytekmgaigppenlaa
open Go Go.ChangeShapes Go.WideShapes Go.ChangeAt Go.RowKit

section
variable {H : Type} {enc : TypeId × Value → H} {W : World} {sp : Nat → Bool} {held : Bool} {fuel : Nat} {cs : List Value} {y : DataW H × List MemPlace}
theorem step_in (h : DataW.trod enc Try.prog W 0 sp held fuel 44 cs = some y) : ∃ s : Stp, cs = s.cells := by
  obtain ⟨xs, n, _, _, hlen, hxl, hf⟩ := DataW.trod_struct Try.underlying44 h
  have h5 : cs.length = 5 := hlen.trans (by kernel_rfl)
  have hxl' : xs.length = 5 := hxl
  have one : Try.prog.cellsOf 3 = 1 := by kernel_rfl
  have oneB : Try.prog.cellsOf 4 = 1 := by kernel_rfl
  have get : ∀ i, i < 5 → ∃ z, xs[i]? = some z := fun i hi => ⟨xs[i]'(by omega), List.getElem?_eq_getElem _⟩
  obtain ⟨z0, g0⟩ := get 0 (by omega)
  obtain ⟨z1, g1⟩ := get 1 (by omega)
  obtain ⟨z2, g2⟩ := get 2 (by omega)
  obtain ⟨z3, g3⟩ := get 3 (by omega)
  obtain ⟨z4, g4⟩ := get 4 (by omega)
  obtain ⟨a0, e0, _, _⟩ := DataW.trod_int Try.underlying3 ((hf 0 _ rfl).trans g0)
  obtain ⟨a1, e1, _, _⟩ := DataW.trod_int Try.underlying3 ((hf 1 _ rfl).trans g1)
  obtain ⟨a2, e2, _, _⟩ := DataW.trod_int Try.underlying3 ((hf 2 _ rfl).trans g2)
  obtain ⟨a3, e3, _⟩ := DataW.trod_bool Try.underlying4 ((hf 3 _ rfl).trans g3)
  obtain ⟨a4, e4, _⟩ := DataW.trod_bool Try.underlying4 ((hf 4 _ rfl).trans g4)
  refine ⟨⟨a0, a1, a2, a3, a4⟩, ?_⟩
  refine List.ext_getElem? fun i => ?_
  match i with
  | 0 => exact part_one e0 one
  | 1 => exact part_one e1 one
  | 2 => exact part_one e2 one
  | 3 => exact part_one e3 oneB
  | 4 => exact part_one e4 oneB
  | i + 5 => rw [List.getElem?_eq_none (by omega), List.getElem?_eq_none (by show 5 ≤ i + 5; omega)]
set_option maxRecDepth 100000 in
theorem steps_in {A : Option Addr} {n cap : Nat} (h : DataW.trod enc Try.prog W 0 sp held fuel 22 [.slice A n cap] = some y) : ∃ xs : List Stp, xs.length = n ∧ RecIn RS W A cap xs ∧ n ≤ cap ∧ n ≤ maxLen := by
  have c5 : Try.prog.cellsOf 44 = 5 := by kernel_rfl
  rcases DataW.trod_slice Try.underlying22 h with ⟨hv, _⟩ | ⟨a, n', cap', elems, rest, m, _, hv, _, _, hl, hm, hlen, hel, _, _⟩
  · obtain ⟨rfl, rfl, rfl⟩ : A = none ∧ n = 0 ∧ cap = 0 := by simpa using hv
    exact ⟨[], rfl, RecIn.none_ _ _, Nat.le_refl 0, Nat.zero_le _⟩
  · obtain ⟨rfl, rfl, rfl⟩ : A = some a ∧ n = n' ∧ cap = cap' := by simpa using hv
    have each : ∀ i, i < n → ∃ x : Stp, ∃ b off, some a = some (⟨b, off, none⟩ : Addr) ∧ b < W.heap.size ∧ ∀ f, f < 5 → W.cell? ⟨b, off + (i * 5 + f), none⟩ = x.cells[f]? := fun i hi => by
      have hb := hel i hi
      rw [List.getElem?_eq_getElem (by omega), c5, Option.bind_eq_some_iff] at hb
      obtain ⟨cs, hcs, ht⟩ := hb
      obtain ⟨x, rfl⟩ := step_in ht
      obtain ⟨_, _, hc⟩ := World.cells?_some hcs
      obtain ⟨b, off, spot⟩ := a
      have hsp : spot = none := by
        have hb0 := hel 0 (by omega)
        rw [List.getElem?_eq_getElem (by omega), c5, Option.bind_eq_some_iff] at hb0
        obtain ⟨cs0, hcs0, _⟩ := hb0
        obtain ⟨_, hl0, hc0⟩ := World.cells?_some hcs0
        have h1 := hc0 0 (by omega)
        rw [List.getElem?_eq_getElem (by omega)] at h1
        simpa [Addr.add] using World.cell?_spot h1
      subst hsp
      have hc' : ∀ f, f < 5 → W.cell? ⟨b, off + (i * 5 + f), none⟩ = x.cells[f]? := fun f hf => by
        have := hc f hf
        rw [Addr.add_lit, Addr.add_lit, Nat.add_assoc] at this
        exact this
      exact ⟨x, b, off, rfl, cell_in (hc' 0 (by omega)), hc'⟩
    refine ⟨(List.range n).attach.map fun i => (each i.1 (List.mem_range.1 i.2)).choose, by simp, ⟨by simpa using hl, (fun e => by cases e), fun i hi => ?_⟩, hl, Nat.le_trans hl hm⟩
    have hi' : i < n := by simpa using hi
    have := (each i hi').choose_spec
    simp only [List.getElem_map, List.getElem_attach, List.getElem_range]
    exact this
end
end Go.Proofs.Ytekmgaigppenlaa

namespace Go.Proofs.Ytekmgaigppenlaa
open Go Go.RowKit

section
variable {Rep : (Nat → Prop) → World → Nat → List Nd → Prop}
set_option maxHeartbeats 8000000 in
set_option maxRecDepth 100000 in
theorem walkClears_any (O : ForestOk Rep) (M : ForestMore Rep) (A : Option Addr) (n c : Nat) (xs : List Ac) (A2 : Option Addr) (n2 c2 : Nat) (p : List Stp) (w : World) (hn : xs.length = n) (hm : n ≤ maxLen) (h : Acts w A xs) (hn2 : p.length = n2) (hR : RecIn RS w A2 c2 p) :
    Calls Try.prog 4 #[.slice A n c, .slice A2 n2 c2] w fun e w' => e = .returned (.bool true) ∧ Below w.heap.size w w' := by
  have H := Lib.hid h
  have Hn := Lib.hid hn
  have Hm := Lib.hid hm
  have HR := Lib.hid hR
  have HN2 := Lib.hid hn2
  clear h hn hm hR hn2
  go_enter Try.func4, Try.ntmps4
  go_wp2_with fail
  refine (awake16 w).mono ?_
  rintro e w0 ⟨rfl, hb0⟩
  go_wp2_with fail
  refine (great_any A n c xs w0 Hn.out Hm.out (H.out.below hb0)).mono ?_
  rintro e w1 ⟨⟨gr, rfl, hgr⟩, rfl⟩
  cases gr with
  | true =>
    go_wp2
    go_ret
    exact ⟨rfl, hb0⟩
  | false =>
    by_cases hl : (300 : Int) < n2
    · have z0 : decide ((300 : Int) < n2) = true := by rw [decide_eq_true_iff]; exact hl
      go_wp2
      go_ret
      exact ⟨rfl, hb0⟩
    · have hl3 : n2 ≤ 1000 := by omega
      have z0 : decide ((300 : Int) < n2) = false := by rw [decide_eq_false_iff_not]; exact hl
      have Hs := Lib.hid (hgr rfl)
      have Hb0 := Lib.hid hb0
      clear hgr hb0 hl
      go_wp2_with fail
      refine (built_any O A n c xs w0 Hn.out (H.out.below Hb0.out) Hs.out).mono ?_
      rintro e w1 ⟨b, rfl, hR, hb1⟩
      have Hg := Lib.hid (good_forest Hs.out)
      have HB1 := Lib.hid (Hb0.out.trans (hb1.mono Hb0.out.size))
      obtain ⟨l, hl⟩ : ∃ l, l = forest xs := ⟨_, rfl⟩
      have HF := Lib.hid hl
      rw [← hl] at hR Hg
      have HRep := Lib.hid hR
      clear hR hb1 hl Hb0
      go_wp2_with fail
      refine (wkClears O M HRep.out Hg.out HN2.out hl3 (HR.out.below HB1.out)).mono ?_
      rintro e w2 ⟨rfl, hb2⟩
      have HB2 := Lib.hid (HB1.out.trans (hb2.mono HB1.out.size))
      clear hb2
      go_wp2_with fail
      refine (refNodes A n c xs w2 Hn.out (H.out.below HB2.out) Hs.out).mono ?_
      rintro e w3 ⟨A3, c3, rfl, hN, hb3⟩
      rw [← HF.out] at hN ⊢
      have HNo := Lib.hid hN
      have HB3 := Lib.hid (HB2.out.trans (hb3.mono HB2.out.size))
      clear hN hb3
      go_wp2_with fail
      refine (rsClears Hg.out HNo.out HN2.out hl3 (HR.out.below HB3.out)).mono ?_
      rintro e w4 ⟨rfl, hb4⟩
      have HB4 := Lib.hid (HB3.out.trans (hb4.mono HB3.out.size))
      clear hb4
      obtain ⟨R, hRR⟩ : ∃ R, R = clB l p := ⟨_, rfl⟩
      rw [← hRR]
      clear hRR
      have z : (R == R) = true := by simp
      go_wp2
      go_ret
      exact ⟨rfl, HB4.out⟩
end
end Go.Proofs.Ytekmgaigppenlaa

namespace Go.Proofs.Ytekmgaigppenlaa
open Go Go.RowKit
theorem walkClears_here (A : Option Addr) (n c : Nat) (xs : List Ac) (A2 : Option Addr) (n2 c2 : Nat) (p : List Stp) (w : World) (hn : xs.length = n) (hm : n ≤ maxLen) (h : Acts w A xs) (hn2 : p.length = n2) (hR : RecIn RS w A2 c2 p) :
    Calls Try.prog 4 #[.slice A n c, .slice A2 n2 c2] w fun e w' => e = .returned (.bool true) ∧ Below w.heap.size w w' := walkClears_any arOk arMore A n c xs A2 n2 c2 p w hn hm h hn2 hR
end Go.Proofs.Ytekmgaigppenlaa

namespace Go.Proofs.Ytekmgaigppenlaa
open Go.ChangeShapes Go.WideShapes Go.ChangeAt Go.RowKit
open Go.ChangeMaps (open_string shut_string)

set_option maxRecDepth 100000 in
theorem walkClears_lifted (os : Os) (started : os.Started) (H : Type) (enc : TypeId × Value → H) :
    ReturnsInHanded {} Try.checked os 4 .any (Rows.walkClearsSpec.pre6 enc Try.prog Try.f4 Rows.walkClearsRow.domain false) (Rows.walkClearsSpec.post enc Try.prog Try.f4 false true false false) := by
  refine returnsInHanded_of_change (C := Try.checked) own started (by kernel_rfl) Try.func4
    (ChangeSpec.witness6 (enc := enc) (C := Try.checked) false ⟨#[], #[.slice none 0 0, .slice none 0 0], []⟩ 8 (by kernel_rfl) (by kernel_rfl) (by kernel_rfl) (by kernel_rfl)) ?_
  intro W base args ds gs before hval0 hW hcnd _
  have hval : ∀ (j : Nat) t v, Try.f4.params[j]? = some t → args[j]? = some v → Value.okWide Try.prog W .any base t v := hval0
  clear hval0 hcnd
  have hW' := hW
  obtain ⟨p, q, hA0, hV, rfl, hfz, hnd⟩ := hW
  have hA : DataW.TrodAll enc Try.prog W 0 (fun _ => true) true Try.f4.params.toList args.toList ds p := hA0
  rw [Try.params4] at hA hval
  obtain ⟨v0, vs0, d0, ds0, p0, q0, hargs, rfl, rfl, h0, r0⟩ := trodAll_cons hA
  obtain ⟨v1, vs1, d1, ds1, p1, q1, rfl, rfl, rfl, h1, r1⟩ := trodAll_cons r0
  obtain ⟨rfl, rfl, rfl⟩ := trodAll_nil r1
  obtain rfl : args = #[v0, v1] := by cases args; simp_all
  obtain ⟨rfl, rfl⟩ := trodVars_none hV
  obtain ⟨A0, n0, c0, rfl⟩ := okWide_slice Try.underlying34 (hval 0 34 v0 rfl rfl)
  have k0 := h0
  have lt0 : ∀ x ∈ p0, x.block < W.heap.size := by obtain ⟨m, hm⟩ := k0; exact DataW.trod_lt m _ _ _ hm
  obtain ⟨x0, l0, y0, z0, q0x⟩ : ∃ xs : List Ac, xs.length = n0 ∧ Acts W A0 xs ∧ n0 ≤ c0 ∧ n0 ≤ maxLen := by
    obtain ⟨fuel, hf⟩ := h0
    exact acts_in hf
  obtain ⟨A1, n1, c1, rfl⟩ := okWide_slice Try.underlying22 (hval 1 22 v1 rfl rfl)
  have k1 := h1
  have lt1 : ∀ x ∈ p1, x.block < W.heap.size := by obtain ⟨m, hm⟩ := k1; exact DataW.trod_lt m _ _ _ hm
  obtain ⟨x1, l1, y1, z1, q1x⟩ : ∃ xs : List Stp, xs.length = n1 ∧ RecIn RS W A1 c1 xs ∧ n1 ≤ c1 ∧ n1 ≤ maxLen := by
    obtain ⟨fuel, hf⟩ := h1
    exact steps_in hf
  clear hA0
  refine (walkClears_here A0 n0 c0 x0 A1 n1 c1 x1 W l0 q0x y0 l1 y1).mono fun e W' ⟨he, bel⟩ => ?_
  subst he
  exact ⟨_, rfl, _, _, _, [], _, [], hW', trodAll_mk1 (shut_bool Try.underlying4 _), (trodAll_cons_mk (Below.trod laidOut (by kernel_rfl) (of_decide_eq_true (by kernel_rfl)) k0 bel lt0) (trodAll_cons_mk (Below.trod laidOut (by kernel_rfl) (of_decide_eq_true (by kernel_rfl)) k1 bel lt1) trodAll_mk0)), rfl, bel.frame _, fun h => by cases h⟩

theorem walkClears_holds : Rows.WalkClearsSaid :=
  OpenClaim.holds_of_wide 4 Try.f4 rfl rfl rfl rfl rfl rfl rfl ⟨rfl, rfl, rfl, rfl, rfl⟩ rfl rfl rfl rfl rfl (by kernel_rfl) Try.func4 (by kernel_rfl)
    (of_decide_eq_true (by kernel_rfl)) (by unfold Func.isWrapper; rw [if_neg (by decide +kernel)]; exact ⟨rfl, rfl⟩)
    (fun os started H enc _ => walkClears_lifted os started H enc)
end Go.Proofs.Ytekmgaigppenlaa
