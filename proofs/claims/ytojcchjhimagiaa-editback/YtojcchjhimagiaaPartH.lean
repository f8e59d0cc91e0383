/-
  What towncrierref07.Before does.
  What towncrierlaw07.EditPlays does with an arena that keeps its promises: it answers true.
  The four statements of layer 7 answer true.
  Arguments that came in, opened: lists of texts and of numbers. Facts of the program that every row's proof wants.
  Proved: the law answers true for every input, and each argument reads afterwards as it read before. No condition.
-/
import Derived.Test.YtojcchjhimagiaaPartG
import Derived.Deep.DeepCutAuto
import Derived.Deep.CutBlock
import Derived.Test.YtojcchjhimagiaaProg
import Derived.Test.YtojcchjhimagiaaChecked
import Derived.ProofKit
import Derived.OpenShut
import Derived.Test.YtojcchjhimagiaaRows
import Derived.ChangeOld

namespace Go.Proofs.Ytojcchjhimagiaa
open Go Go.RowKit

section
variable {G : Nat → Prop} {w : World} {A : Option Addr} {k : Nat} {l : List Nd}
theorem own_numbers {w : World} {base : Nat} {v : Value} {xs ys : List Int} (h : w.ownsRow base 3 1 v (xs.length + ys.length) (xs.map (Value.int .i64) ++ ys.map (Value.int .i64))) : w.ownsRow base 3 1 v (xs ++ ys).length ((xs ++ ys).map (Value.int .i64)) := by
  rw [List.length_append, List.map_append]
  exact h
set_option maxHeartbeats 32000000 in
set_option maxRecDepth 100000 in
theorem rfBefore (n p c : Int) (hg : Good l) (hG : Fut G w.heap.size) (h : Nodes G w 0 A k l) :
    Calls Try.prog 12 #[.slice A l.length k, .int .i64 n, .int .i64 p, .int .i64 c] w (Gave G w (befL l n p c) (chkErr l n p c)) := by
  obtain ⟨i0, hi, hz0, hz1, hz2⟩ := info_parts Try.infoInt
  have Hi := Lib.hid hi
  have Hz0 := Lib.hid hz0
  have Hz1 := Lib.hid hz1
  have Hz2 := Lib.hid hz2
  have H := Lib.hid h
  have Hg := Lib.hid hg
  have HG := Lib.hid hG
  have hll := hg.len
  obtain ⟨E, hE⟩ : ∃ E, E = chkErr l n p c := ⟨_, rfl⟩
  obtain ⟨l', hl'⟩ : ∃ l', l' = befL l n p c := ⟨_, rfl⟩
  have C1 := rfCheck n p c hg h
  rw [← hE] at C1
  rw [← hE, ← hl']
  have HC1 := Lib.hid C1
  have HE := Lib.hid hE
  have HL := Lib.hid hl'
  clear h hg hG hE hl' C1 hi hz0 hz1 hz2
  go_enter Try.func12, Try.ntmps12
  go_wp2_with fail
  refine HC1.out.mono ?_
  rintro e w1 ⟨rfl, hb1⟩
  by_cases hz : E = 0
  · subst hz
    have hchk : chkErr l n p c = 0 := HE.out.symm
    have hlen' : l'.length = l.length := by rw [HL.out]; exact bef_len
    obtain ⟨hn, hp, -⟩ := chk_zero hchk
    have hg1 : Good (looseL l n) := good_loose Hg.out
    have hlv := leaves_is Hg.out hn
    have hmt := move_there Hg.out.tree hn
    have hml : (moveL l n).length ≤ 128 := Nat.le_trans (nodup_len (move_once Hg.out.tree hn) hmt) hll
    have hnk : kidsR (nd (looseL l n) p).kids (seatL l n c) (moveL l n) = newK l n p c := kidsR_is (loose_once Hg.out hchk) (fun h0 => by
      have := (hg1.tree.kid p (by rw [loose_there]; exact hp) 0 h0).1
      rw [there_zero] at this
      cases this) (seat_in Hg.out.tree hchk)
    have hbf := bef_is Hg.out hchk
    rw [← hnk, ← HL.out] at hbf
    have hko := loose_once Hg.out hchk
    have hkl : (nd (looseL l n) p).kids.length ≤ 200 := few_nd hg1.few p
    have hl1 : (looseL l n).length = l.length := loose_len n
    have hkind : moveL l n = if (nd l n).kind = 4 then (nd l n).kids else [n] := rfl
    have hseat : seatL l n c = if c = n then nextL (rowL l n) n else c := rfl
    obtain ⟨s, hs⟩ : ∃ s, s = seatL l n c := ⟨_, rfl⟩
    rw [← hs] at hbf hseat
    obtain ⟨mv, hmv⟩ : ∃ mv, mv = moveL l n := ⟨_, rfl⟩
    rw [← hmv] at hlv hmt hml hbf hkind
    obtain ⟨l1, hl1'⟩ : ∃ l1, l1 = looseL l n := ⟨_, rfl⟩
    rw [← hl1'] at hlv hbf hko hkl hg1 hl1
    obtain ⟨m, hm⟩ : ∃ m, m = mv.length := ⟨_, rfl⟩
    rw [← hm] at hml
    have Hlen := Lib.hid hlen'
    have Hn := Lib.hid hn
    have Hp := Lib.hid hp
    have Hg1 := Lib.hid hg1
    have Hlv := Lib.hid hlv
    have Hmt := Lib.hid hmt
    have Hbf := Lib.hid hbf
    have Hko := Lib.hid hko
    have Hkl := Lib.hid hkl
    have Hl1 := Lib.hid hl1
    have Hkind := Lib.hid hkind
    have Hseat := Lib.hid hseat
    have Hm := Lib.hid hm
    clear hlen' hn hp hg1 hlv hmt hbf hko hkl hl1 hkind hseat hm hnk hs hmv hl1' hchk HL HE HC1
    go_upto_if 29 with (fail)
    go_cut [3] (fun t wx => t = .int .i64 s ∧ Below w.heap.size w wx)
    case first =>
      by_cases hcn : c = n
      · have e0 := Hseat.out
        rw [if_pos hcn] at e0
        subst hcn
        have E0 := Lib.hid e0
        clear e0
        go_wp2_with fail
        refine (refNext c Hg.out (H.out.below hb1)).mono ?_
        rintro e w2 ⟨rfl, rfl⟩
        go_wp2
        go_meet
        exact ⟨by rw [E0.out], hb1⟩
      · have e0 := Hseat.out
        rw [if_neg hcn] at e0
        subst e0
        have z0 : (s == n) = false := by simpa using hcn
        clear hcn
        go_wp2
        go_meet
        exact ⟨rfl, hb1⟩
    case rest =>
      obtain ⟨rfl, hb2⟩ := hcut
      have B2 := Lib.hid hb2
      clear hb2 hb1
      obtain ⟨mn, hmn, hmnl⟩ := there_at Hn.out
      subst hmn
      go_wp2_with fail
      refine (copy_any l A k wc (Nat.le_trans hll (by decide)) (fun d hd => Nat.le_trans (Hg.out.few d hd) (by decide)) (HG.out.mono B2.out.size) (H.out.below B2.out)).mono ?_
      rintro e w3 ⟨A3, c3, rfl, hN3, hb3⟩
      obtain ⟨g, kv, rfl, hgB, hgw, hkv, -, c0, -, -, -, -, -, -, -, c8⟩ := hN3.nine hmnl
      obtain ⟨Ak, ck, rfl, hLk⟩ := hkv.list
      obtain ⟨d, hd⟩ : ∃ d, d = nd l ((mn : Int) + 1) := ⟨_, rfl⟩
      rw [← hd] at c0 c8 hLk Hkind
      have hdl : d.kids.length ≤ 200 := by rw [hd]; exact few_nd Hg.out.few _
      have hBW : Below w3.heap.size w3 (w3.alloc (.cells #[.int .i64 ((mn : Int) + 1)] 3)) := (Below.refl _ w3).alloc (Nat.le_refl _) _
      have hX3 : Has (w3.alloc (.cells #[.int .i64 ((mn : Int) + 1)] 3)) w3.heap.size (.cells #[.int .i64 ((mn : Int) + 1)] 3 (0, 0)) := Has.fresh _ _
      have x0 : (w3.alloc (.cells #[.int .i64 ((mn : Int) + 1)] 3)).cell? ⟨g, mn * 9, none⟩ = some (.int .i64 d.kind) := (hBW.cell (p := ⟨g, mn * 9, none⟩) hgw).trans c0
      have x8 : (w3.alloc (.cells #[.int .i64 ((mn : Int) + 1)] 3)).cell? ⟨g, mn * 9 + 8, none⟩ = some (.slice Ak d.kids.length ck) := (hBW.cell (p := ⟨g, mn * 9 + 8, none⟩) hgw).trans c8
      have hwg : w.heap.size ≤ g := Nat.le_trans B2.out.size hgB
      have N3 := Lib.hid ((hN3.below hBW).from_ (Nat.zero_le _))
      have B3 := Lib.hid ((B2.out.trans (hb3.mono B2.out.size)).trans (hBW.mono (B2.out.trans (hb3.mono B2.out.size)).size))
      have LK := Lib.hid (hLk.below hBW)
      have LL := Lib.hid (listLit (xs := [(mn : Int) + 1]) hX3)
      have hgW : g < (w3.alloc (.cells #[.int .i64 ((mn : Int) + 1)] 3)).heap.size := Nat.lt_of_lt_of_le hgw hBW.size
      clear hN3 hb3 hkv c0 c8 hLk hBW hX3 hd B2
      go_upto_if 43 with (fail)
      obtain ⟨g3, hg3⟩ : ∃ g3, g3 = w3.heap.size := ⟨_, rfl⟩
      have hgg : g < g3 := by rw [hg3]; exact hgw
      rw [← hg3] at LL
      rw [← hg3]
      obtain ⟨W, hW⟩ : ∃ W, W = (w3.alloc (.cells #[.int .i64 ((mn : Int) + 1)] 3)) := ⟨_, rfl⟩
      rw [← hW] at x0 x8 N3 B3 LK LL hgW
      rw [← hW]
      clear hW hg3 hgw
      go_cut [12] (fun t wx => ∃ Am cm, t = .slice Am m cm ∧ ListIn wx Am cm mv ∧ (∀ b' off s, Am = some ⟨b', off, s⟩ → g < b') ∧ Below W.heap.size W wx)
      case first =>
        by_cases h4 : d.kind = 4
        · have z4 : (d.kind == 4) = true := by simpa using h4
          have em := Hkind.out
          rw [if_pos h4] at em
          subst em
          rw [← Hm.out] at x8 hdl
          have hown : (W.alloc (.cells #[] 3)).ownsRow W.heap.size 3 1 (.slice (some ⟨W.heap.size, 0, none⟩) 0 0) 0 [] := World.ownsRow_lit W #[] 0 (Nat.le_refl _) (Nat.zero_le _) rfl
          have hgv : Gives (W.alloc (.cells #[] 3)) 1 (.slice Ak m ck) m (d.kids.map (Value.int .i64)) := nums_gives (LK.out.nums.below ((Below.refl _ _).alloc (Nat.le_refl _) _)) Hm.out LK.out.nil
          have x8' : (W.alloc (.cells #[] 3)).cell? ⟨g, mn * 9 + 8, none⟩ = some (.slice Ak m ck) := (((Below.refl _ W).alloc (Nat.le_refl _) _).cell (p := ⟨g, mn * 9 + 8, none⟩) hgW).trans x8
          have Hown := Lib.hid hown
          have Hgv := Lib.hid hgv
          clear hown hgv h4
          go_wp2_with (at_builtin; refine wpList_append_gives rfl (.tmp 44) (.tmp 50) 43 rfl W.heap.size 3 i0 _ 1 8 Try.underlying43 Hi.out Hz0.out Hz1.out Hz2.out rfl (by decide) (.slice (some ⟨W.heap.size, 0, none⟩) 0 0) 0 [] rfl Hown.out _ m (d.kids.map (Value.int .i64)) rfl Hgv.out (kids_one d.kids) (by unfold maxLen; omega) (by omega) (by simp) ?_; intro v2 w2 ho2 hg2; obtain ⟨A5, c5, rfl, hc5⟩ := own_form (by rw [Nat.zero_add] at ho2; exact ho2); obtain ⟨hk2, hb2, hs2⟩ := kids_new (G := fun _ => True) (by rw [← Hm.out]; exact ho2) hg2 (fun _ _ => trivial))
          go_meet
          rw [Nat.zero_add, List.nil_append] at ho2
          have ho3 : w2.ownsRow W.heap.size 3 1 (.slice A5 m c5) d.kids.length (d.kids.map (Value.int .i64)) := by rw [← Hm.out]; exact ho2
          obtain ⟨A6, c6, e6, hL6, hA6⟩ := own_list ho3
          obtain ⟨rfl, rfl⟩ : A5 = A6 ∧ c5 = c6 := by injection e6 with e1 _ e3; exact ⟨e1, e3⟩
          exact ⟨A5, c5, rfl, hL6, fun b' off s e => Nat.lt_of_lt_of_le hgW (hA6 b' off s e).1, hb2⟩
        · have z4 : (d.kind == 4) = false := by simpa using h4
          have em := Hkind.out
          rw [if_neg h4] at em
          subst em
          have m1 : m = 1 := Hm.out
          subst m1
          clear h4
          go_wp2
          go_meet
          exact ⟨_, _, rfl, LL.out, fun b' off s e => by injection e with e; injection e with e1; omega, Below.refl _ _⟩
      case rest =>
        obtain ⟨Am, cm, rfl, hLm, hAm, hb4⟩ := hcut
        have hN4 := N3.out.below hb4
        have HAm := Lib.hid hAm
        have hB4 := B3.out.trans (hb4.mono B3.out.size)
        clear hAm LK LL x0 x8 hb4
        go_wp2_with fail
        go_loopw [13] (fun i wr => ∃ j : Nat, i = .int .i64 j ∧ j ≤ m ∧ Nodes G wr 0 (some ⟨g, 0, none⟩) c3 (leavesL l (mv.take j)) ∧ ListIn wr Am cm mv ∧ Below w.heap.size w wr) (fun i _ => m - (intOf i).toNat)
        case atStart => exact ⟨0, rfl, Nat.zero_le _, hN4, hLm, hB4⟩
        case round =>
          obtain ⟨j, rfl, hj, hNj, hLj, hbj⟩ := hrel
          clear hN4 hLm hB4
          by_cases hjm : (j : Int) < m
          · have hjk : j < mv.length := by rw [← Hm.out]; omega
            obtain ⟨b', off, rfl, hB, hc⟩ := hLj.nums j hjk
            obtain ⟨y, hy⟩ : ∃ y, y = mv[j] := ⟨_, rfl⟩
            rw [← hy] at hc
            have hty : thereB l y = true := Hmt.out y (by rw [hy]; exact List.getElem_mem hjk)
            obtain ⟨hgj, hlj⟩ := leaves_all (mv.take j) Hg.out fun x hx => Hmt.out x (List.mem_of_mem_take hx)
            have hsn : leavesL l (mv.take (j + 1)) = leaveL (leavesL l (mv.take j)) y := by
              rw [List.take_add_one, List.getElem?_eq_getElem hjk, ← hy]
              exact leaves_snoc _ _ _
            have C := rfLeave y hNj hgj (HG.out.mono hbj.size) (by rw [there_len hlj]; exact hty)
            rw [hlj, ← hsn] at C
            have HC := Lib.hid C
            have HLj := Lib.hid hLj
            clear C hsn hgj hlj hty hy hNj hjk hLj
            go_wp2_with fail
            refine HC.out.mono ?_
            rintro e w5 ⟨rfl, hN5, hk5⟩
            have hL5 : ListIn w5 (some ⟨b', off, none⟩) cm mv := HLj.out.kept hk5 fun _ b2 o2 s2 e2 _ e3 => by
              have := HAm.out b2 o2 s2 e2
              omega
            have hb5 : Below w.heap.size w w5 := below_then hbj hk5 hbj.size fun i hi e3 => by omega
            clear hk5
            go_wp2
            go_roundw
            case rel => exact ⟨j + 1, by go_num, by omega, hN5, hL5, hb5⟩
            case measure => simp [intOf]; omega
          · rw [List.take_of_length_le (by rw [← Hm.out]; omega), Hlv.out] at hNj
            obtain ⟨mp, hmp, hmpl⟩ := there_at Hp.out
            subst hmp
            have hmp1 : mp < l1.length := by rw [Hl1.out]; exact hmpl
            obtain ⟨g', kv1, e', -, hgw, hkv1, -, -, -, -, -, -, -, -, -, c8⟩ := hNj.nine hmp1
            obtain rfl : g = g' := by simpa using e'
            obtain ⟨Aw, cw, rfl, hLw⟩ := hkv1.list
            obtain ⟨K1, hK1⟩ : ∃ K1, K1 = (nd l1 ((mp : Int) + 1)).kids := ⟨_, rfl⟩
            rw [← hK1] at c8 hLw Hko Hkl Hbf
            obtain ⟨N, hN⟩ : ∃ N, N = K1.length := ⟨_, rfl⟩
            rw [← hN] at c8 Hkl
            have hNl := Hkl.out
            have HN := Lib.hid hN
            have NJ := Lib.hid hNj
            have LJ := Lib.hid hLj
            have LW := Lib.hid hLw
            have BJ := Lib.hid hbj
            clear hK1 hN hkv1 hNj hLj hLw hbj e'
            obtain ⟨WB, hWB⟩ : ∃ WB, WB = wr := ⟨_, rfl⟩
            rw [← hWB] at NJ LJ LW BJ hgw c8
            rw [← hWB]
            clear hWB
            go_wp2_with fail
            go_loopw [14, 16] (fun o i wx => ∃ (j : Nat) (ys : List Int), i = .int .i64 j ∧ j ≤ N ∧ ys = (K1.take j).flatMap (oneK s mv) ∧ wx.ownsRow WB.heap.size 3 1 o ys.length (ys.map (Value.int .i64)) ∧ Below WB.heap.size WB wx) (fun _ i _ => N - (intOf i).toNat)
            case atStart => exact ⟨0, [], rfl, Nat.zero_le _, rfl, World.ownsRow_nil _ _ _ _, Below.refl _ _⟩
            case round =>
              obtain ⟨j, ys, rfl, hj, hys, hown, hb⟩ := hrel
              have Hys := Lib.hid hys
              have hyl : ys.length ≤ N + m := by
                rw [hys, HN.out, Hm.out]
                exact oneK_part K1 s mv Hko.out j
              clear hys c8 hjm
              obtain ⟨Ao, co, rfl, hco⟩ := own_form hown
              by_cases hjn : (j : Int) < N
              · have hjk : j < K1.length := by rw [← HN.out]; omega
                obtain ⟨bw, offw, rfl, hBw, hc⟩ := LW.out.nums j hjk
                have hst := oneK_step (s := s) (ms := mv) hjk
                rw [← Hys.out] at hst
                obtain ⟨y, hy⟩ : ∃ y, y = K1[j] := ⟨_, rfl⟩
                rw [← hy] at hc hst
                have hc' : wr.cell? ⟨bw, offw + j, none⟩ = some (.int .i64 y) := (hb.cell (p := ⟨bw, offw + j, none⟩) hBw).trans hc
                have hyl2 : ((K1.take (j + 1)).flatMap (oneK s mv)).length ≤ N + m := by
                  rw [HN.out, Hm.out]
                  exact oneK_part K1 s mv Hko.out (j + 1)
                rw [hst] at hyl2
                have Hst := Lib.hid hst
                have hbw := hb.size
                clear hst hy hjk
                by_cases q : y = s
                · have e := Hst.out
                  have eo : oneK s mv y = mv ++ [y] := if_pos q
                  rw [eo, ← List.append_assoc] at e
                  rw [eo] at hyl2
                  simp only [List.length_append, List.length_cons, List.length_nil, ← Hm.out] at hyl2
                  have E := Lib.hid e
                  have zq : (y == s) = true := by simpa using q
                  have hgv : Gives wr 1 (.slice Am m cm) m (mv.map (Value.int .i64)) := nums_gives (LJ.out.below hb).nums Hm.out LJ.out.nil
                  have Hgv := Lib.hid hgv
                  clear q e eo Hst hgv
                  go_upto_region 21 with (at_builtin; refine wpList_append_gives rfl (.tmp 82) (.tmp 83) 43 rfl WB.heap.size 3 i0 _ 1 8 Try.underlying43 Hi.out Hz0.out Hz1.out Hz2.out rfl (by decide) (.slice Ao ys.length co) ys.length (ys.map (Value.int .i64)) rfl hown _ m (mv.map (Value.int .i64)) rfl Hgv.out (kids_one mv) (by unfold maxLen; omega) (by omega) hbw ?_; intro v2 w2 ho2 hg2; obtain ⟨A2, c2, rfl, hc2⟩ := own_form ho2; have hb2 : Below WB.heap.size WB w2 := hb.grown hg2 hbw (fun k hk => (hown.lt k hk).1); have hc3 : w2.cell? ⟨bw, offw + j, none⟩ = some (.int .i64 y) := (hb2.cell (p := ⟨bw, offw + j, none⟩) hBw).trans hc)
                  have hbw2 := hb2.size
                  have hgv2 : Gives (w2.alloc (.cells #[.int .i64 y] 3)) 1 (.slice (some ⟨w2.heap.size, 0, none⟩) 1 1) 1 [.int .i64 y] := .inr ⟨_, 1, rfl, rfl, World.news_of_block (Has.fresh _ _)⟩
                  have Hgv2 := Lib.hid hgv2
                  have ho3 : w2.ownsRow WB.heap.size 3 1 (.slice A2 (ys.length + m) c2) (ys.length + m) ((ys ++ mv).map (Value.int .i64)) := by rw [List.map_append]; exact ho2
                  clear hgv2 hg2 ho2 hown
                  go_wp2_with (at_builtin; refine wpList_append_gives rfl (.tmp 85) (.tmp 90) 43 rfl WB.heap.size 3 i0 _ 1 8 Try.underlying43 Hi.out Hz0.out Hz1.out Hz2.out rfl (by decide) (.slice A2 (ys.length + m) c2) (ys.length + m) ((ys ++ mv).map (Value.int .i64)) rfl (ho3.alloc _) _ 1 [.int .i64 y] rfl Hgv2.out (by intro u hu; obtain rfl := List.mem_singleton.1 hu; rfl) (by unfold maxLen; omega) (by omega) (by simp; omega) ?_; intro v5 w5 ho5 hg5; obtain ⟨A5, c5, rfl, hc5⟩ := own_form ho5; have hb5 : Below WB.heap.size WB w5 := (hb2.alloc hbw2 _).grown hg5 (by simp; omega) (fun k hk => (ho3.lt k hk).1))
                  go_roundw
                  case rel =>
                    have e1 : ys.length + m = (ys ++ mv).length := by rw [List.length_append, ← Hm.out]
                    rw [e1] at ho5
                    have ho6 := kids_more ho5
                    exact ⟨j + 1, (ys ++ mv) ++ [y], by go_num, by omega, E.out.symm, by rw [e1]; exact ho6, hb5⟩
                  case measure => simp [intOf]; omega
                · have e := Hst.out
                  have eo : oneK s mv y = [y] := if_neg q
                  rw [eo] at e
                  rw [eo] at hyl2
                  simp only [List.length_append, List.length_cons, List.length_nil] at hyl2
                  have E := Lib.hid e
                  have zq : (y == s) = false := by simpa using q
                  have hgv : Gives (wr.alloc (.cells #[.int .i64 y] 3)) 1 (.slice (some ⟨wr.heap.size, 0, none⟩) 1 1) 1 [.int .i64 y] := .inr ⟨_, 1, rfl, rfl, World.news_of_block (Has.fresh _ _)⟩
                  have Hgv := Lib.hid hgv
                  clear q e eo Hst hgv
                  go_wp2_with (at_builtin; refine wpList_append_gives rfl (.tmp 85) (.tmp 90) 43 rfl WB.heap.size 3 i0 _ 1 8 Try.underlying43 Hi.out Hz0.out Hz1.out Hz2.out rfl (by decide) (.slice Ao ys.length co) ys.length (ys.map (Value.int .i64)) rfl (hown.alloc _) _ 1 [.int .i64 y] rfl Hgv.out (by intro u hu; obtain rfl := List.mem_singleton.1 hu; rfl) (by unfold maxLen; omega) (by omega) (by simp; omega) ?_; intro v5 w5 ho5 hg5; obtain ⟨A5, c5, rfl, hc5⟩ := own_form ho5; have hb5 : Below WB.heap.size WB w5 := (hb.alloc hbw _).grown hg5 (by simp; omega) (fun k hk => (hown.lt k hk).1))
                  go_roundw
                  case rel =>
                    have ho6 := kids_more ho5
                    exact ⟨j + 1, ys ++ [y], by go_num, by omega, E.out.symm, ho6, hb5⟩
                  case measure => simp [intOf]; omega
              · have ey : ys = K1.flatMap (oneK s mv) := by rw [Hys.out, List.take_of_length_le (by rw [← HN.out]; omega)]
                have hkk : kidsR K1 s mv = ys ++ if s = 0 then mv else [] := by unfold kidsR; rw [← ey]
                obtain ⟨KK, hKK⟩ : ∃ KK, KK = kidsR K1 s mv := ⟨_, rfl⟩
                rw [← hKK] at hkk Hbf
                obtain ⟨NK, hNK⟩ : ∃ NK, NK = KK.length := ⟨_, rfl⟩
                have Hkk := Lib.hid hkk
                have HNK := Lib.hid hNK
                have hbw := hb.size
                clear ey hkk hKK hNK Hys
                go_upto_if 93 with (fail)
                go_cut [14] (fun t wx => ∃ Ak ck, t = .slice Ak NK ck ∧ wx.ownsRow WB.heap.size 3 1 (.slice Ak NK ck) KK.length (KK.map (Value.int .i64)) ∧ Below WB.heap.size WB wx)
                case first =>
                  by_cases h0 : s = 0
                  · have e := Hkk.out
                    rw [if_pos h0] at e
                    have E := Lib.hid e
                    have z0 : (s == 0) = true := by simpa using h0
                    have hgv : Gives wr 1 (.slice Am m cm) m (mv.map (Value.int .i64)) := nums_gives (LJ.out.below hb).nums Hm.out LJ.out.nil
                    have Hgv := Lib.hid hgv
                    clear h0 e hgv
                    go_wp2_with (at_builtin; refine wpList_append_gives rfl (.tmp 94) (.tmp 95) 43 rfl WB.heap.size 3 i0 _ 1 8 Try.underlying43 Hi.out Hz0.out Hz1.out Hz2.out rfl (by decide) (.slice Ao ys.length co) ys.length (ys.map (Value.int .i64)) rfl hown _ m (mv.map (Value.int .i64)) rfl Hgv.out (kids_one mv) (by unfold maxLen; omega) (by omega) hbw ?_; intro v2 w2 ho2 hg2; obtain ⟨A2, c2, rfl, hc2⟩ := own_form ho2; have hb2 : Below WB.heap.size WB w2 := hb.grown hg2 hbw (fun k hk => (hown.lt k hk).1))
                    go_meet
                    have e1 : ys.length + m = NK := by rw [HNK.out, E.out, List.length_append, ← Hm.out]
                    rw [e1] at ho2
                    refine ⟨A2, c2, by rw [e1], ?_, hb2⟩
                    rw [← HNK.out, E.out, List.map_append]
                    exact ho2
                  · have e := Hkk.out
                    rw [if_neg h0, List.append_nil] at e
                    subst e
                    have e1 := HNK.out
                    subst e1
                    have z0 : (s == 0) = false := by simpa using h0
                    clear h0
                    go_wp2
                    go_meet
                    exact ⟨Ao, co, rfl, hown, hb⟩
                case rest =>
                  obtain ⟨Ak, ck, rfl, hoK, hbK⟩ := hcut
                  have hNK := NJ.out.below hbK
                  have hLK := LJ.out.below hbK
                  have hBK := BJ.out.trans (hbK.mono BJ.out.size)
                  clear hown hb hbw LW
                  go_wp2_with fail
                  go_loopw [17] (fun i wx => ∃ j : Nat, i = .int .i64 j ∧ j ≤ m ∧ Nodes G wx 0 (some ⟨g, 0, none⟩) c3 (toPar l1 ((mp : Int) + 1) (mv.take j)) ∧ ListIn wx Am cm mv ∧ wx.ownsRow WB.heap.size 3 1 (.slice Ak NK ck) KK.length (KK.map (Value.int .i64)) ∧ Below w.heap.size w wx) (fun i _ => m - (intOf i).toNat)
                  case atStart => exact ⟨0, rfl, Nat.zero_le _, hNK, hLK, hoK, hBK⟩
                  case round =>
                    obtain ⟨j, rfl, hj, hNj, hLj, hoj, hbj⟩ := hrel
                    clear hNK hLK hoK hBK
                    have hlj : (toPar l1 ((mp : Int) + 1) (mv.take j)).length = l.length := by rw [toPar_length]; exact Hl1.out
                    by_cases hjm : (j : Int) < m
                    · have hjk : j < mv.length := by rw [← Hm.out]; omega
                      have HLj := Lib.hid hLj
                      obtain ⟨b', off, rfl, hB, hc⟩ := hLj.nums j hjk
                      obtain ⟨y, hy⟩ : ∃ y, y = mv[j] := ⟨_, rfl⟩
                      rw [← hy] at hc
                      have hty : thereB l y = true := Hmt.out y (by rw [hy]; exact List.getElem_mem hjk)
                      have hsn : toPar l1 ((mp : Int) + 1) (mv.take (j + 1)) = modN (toPar l1 ((mp : Int) + 1) (mv.take j)) y fun d => { d with parent := (mp : Int) + 1 } := by
                        rw [List.take_add_one, List.getElem?_eq_getElem hjk, ← hy]
                        exact toPar_snoc _ _ _ _
                      obtain ⟨my, hmy, hmyl⟩ := there_at hty
                      subst hmy
                      have hm' : my < (toPar l1 ((mp : Int) + 1) (mv.take j)).length := by rw [hlj]; exact hmyl
                      obtain ⟨⟨x, hx⟩, hz, hN4⟩ := hNj.turn (F := fun d => { d with parent := (mp : Int) + 1 }) (u := .int .i64 ((mp : Int) + 1)) (f := 1) hm' (by omega) (fun _ _ => rfl) (fun _ => rfl)
                      rw [← hsn] at hN4
                      have hks : Keeps (fun i => i = g) wr (wr.setCell ⟨g, my * 9 + 1, none⟩ (.int .i64 ((mp : Int) + 1))) := (Keeps.refl (fun i => i = g) _).storeAt (F := fun i => i = g) rfl _ _
                      have hL5 : ListIn (wr.setCell ⟨g, my * 9 + 1, none⟩ (.int .i64 ((mp : Int) + 1))) (some ⟨b', off, none⟩) cm mv := HLj.out.kept hks fun _ b2 o2 s2 e2 _ e3 => by
                        have := HAm.out b2 o2 s2 e2
                        omega
                      have ho5 := own_kept hoj hks fun g5 hg5 e5 => by
                        have := (hoj.lt g5 hg5).1
                        omega
                      have hb5 : Below w.heap.size w (wr.setCell ⟨g, my * 9 + 1, none⟩ (.int .i64 ((mp : Int) + 1))) := hbj.setCell hwg _
                      have F := Lib.hid (And.intro hN4 (And.intro hL5 (And.intro ho5 hb5)))
                      clear hsn hN4 hty hy hks hL5 ho5 hb5 hLj hNj hlj hm' HLj hoj
                      go_wp2
                      go_roundw
                      case rel => exact ⟨j + 1, by go_num, by omega, F.out.1, F.out.2.1, F.out.2.2.1, F.out.2.2.2⟩
                      case measure => simp [intOf]; omega
                    · rw [List.take_of_length_le (by rw [← Hm.out]; omega)] at hNj hlj
                      have hm' : mp < (toPar l1 ((mp : Int) + 1) mv).length := by rw [hlj]; exact hmpl
                      have hKids : Kids G wr (.slice Ak NK ck) KK := ⟨own_base hoj (Nat.zero_le _), fun i hi => HG.out i (Nat.le_trans BJ.out.size (hoj.lt i hi).1)⟩
                      obtain ⟨⟨x8, hx8⟩, hz8, hN5⟩ := hNj.kidsSet hm' hKids
                      rw [Hbf.out] at hN5
                      have F := Lib.hid (And.intro hN5 (hbj.setCell (p := ⟨g, mp * 9 + 8, none⟩) hwg (.slice Ak NK ck)))
                      clear hN5 hKids hNj hlj hLj hoj
                      go_wp2
                      go_ret2
                      exact ⟨some ⟨g, 0, none⟩, c3, by rw [Hlen.out]; rfl, F.out.1, F.out.2⟩
  · have el : l' = l := HL.out.trans (bef_err fun h => hz (HE.out.trans h))
    subst el
    have zE : (E != 0) = true := by simpa using hz
    clear hz
    go_wp2
    go_ret2
    exact ⟨A, k, rfl, H.out.below hb1, hb1⟩
end
end Go.Proofs.Ytojcchjhimagiaa

namespace Go.Proofs.Ytojcchjhimagiaa
open Go Go.RowKit

/-- A change. -/
structure Chg where
  kind : Int
  a : Int
  b : Int
  c : Int
def Chg.cells (x : Chg) : List Value := [.int .i64 x.kind, .int .i64 x.a, .int .i64 x.b, .int .i64 x.c]
def ChgAt (w : World) (A : Option Addr) (i : Nat) (x : Chg) : Prop := ∃ b off, A = some ⟨b, off, none⟩ ∧ b < w.heap.size ∧ ∀ f, f < 4 → w.cell? ⟨b, off + (i * 4 + f), none⟩ = x.cells[f]?
def Chgs (w : World) (A : Option Addr) (xs : List Chg) : Prop := ∀ i (h : i < xs.length), ChgAt w A i xs[i]
theorem Chgs.below {w w' : World} {A : Option Addr} {xs : List Chg} (h : Chgs w A xs) (hb : Below w.heap.size w w') : Chgs w' A xs := fun i hi => by
  obtain ⟨b, off, e, hB, hc⟩ := h i hi
  exact ⟨b, off, e, Nat.lt_of_lt_of_le hB hb.size, fun f hf => (hb.cell (p := ⟨b, off + (i * 4 + f), none⟩) hB).trans (hc f hf)⟩
section
variable {H : Type} {enc : TypeId × Value → H} {W : World} {sp : Nat → Bool} {held : Bool} {fuel : Nat} {cs : List Value} {y : DataW H × List MemPlace}
theorem chg_in (h : DataW.trod enc Try.prog W 0 sp held fuel 31 cs = some y) : ∃ x : Chg, cs = x.cells := by
  obtain ⟨xs, n, _, _, hlen, hxl, hf⟩ := DataW.trod_struct Try.underlying31 h
  have h4 : cs.length = 4 := hlen.trans (by kernel_rfl)
  have hxl' : xs.length = 4 := hxl
  have one : Try.prog.cellsOf 3 = 1 := by kernel_rfl
  have get : ∀ i, i < 4 → ∃ z, xs[i]? = some z := fun i hi => ⟨xs[i]'(by omega), List.getElem?_eq_getElem _⟩
  obtain ⟨z0, g0⟩ := get 0 (by omega)
  obtain ⟨z1, g1⟩ := get 1 (by omega)
  obtain ⟨z2, g2⟩ := get 2 (by omega)
  obtain ⟨z3, g3⟩ := get 3 (by omega)
  obtain ⟨a0, e0, _, _⟩ := DataW.trod_int Try.underlying3 ((hf 0 _ rfl).trans g0)
  obtain ⟨a1, e1, _, _⟩ := DataW.trod_int Try.underlying3 ((hf 1 _ rfl).trans g1)
  obtain ⟨a2, e2, _, _⟩ := DataW.trod_int Try.underlying3 ((hf 2 _ rfl).trans g2)
  obtain ⟨a3, e3, _, _⟩ := DataW.trod_int Try.underlying3 ((hf 3 _ rfl).trans g3)
  refine ⟨⟨a0, a1, a2, a3⟩, ?_⟩
  refine List.ext_getElem? fun i => ?_
  match i with
  | 0 => exact part_one e0 one
  | 1 => exact part_one e1 one
  | 2 => exact part_one e2 one
  | 3 => exact part_one e3 one
  | i + 4 => rw [List.getElem?_eq_none (by omega), List.getElem?_eq_none (by show 4 ≤ i + 4; omega)]
theorem chgs_in {A : Option Addr} {n cap : Nat} (h : DataW.trod enc Try.prog W 0 sp held fuel 23 [.slice A n cap] = some y) : ∃ xs : List Chg, xs.length = n ∧ Chgs W A xs ∧ n ≤ cap ∧ n ≤ maxLen := by
  have c4 : Try.prog.cellsOf 31 = 4 := by kernel_rfl
  rcases DataW.trod_slice Try.underlying23 h with ⟨hv, _⟩ | ⟨a, n', cap', elems, rest, m, _, hv, _, _, hl, hm, hlen, hel, _, _⟩
  · obtain ⟨rfl, rfl, rfl⟩ : A = none ∧ n = 0 ∧ cap = 0 := by simpa using hv
    exact ⟨[], rfl, fun i hi => absurd hi (Nat.not_lt_zero i), Nat.le_refl 0, Nat.zero_le _⟩
  · obtain ⟨rfl, rfl, rfl⟩ : A = some a ∧ n = n' ∧ cap = cap' := by simpa using hv
    have each : ∀ i, i < n → ∃ x, ChgAt W (some a) i x := fun i hi => by
      have hb := hel i hi
      rw [List.getElem?_eq_getElem (by omega), c4, Option.bind_eq_some_iff] at hb
      obtain ⟨cs, hcs, ht⟩ := hb
      obtain ⟨x, rfl⟩ := chg_in ht
      obtain ⟨_, _, hc⟩ := World.cells?_some hcs
      obtain ⟨b, off, spot⟩ := a
      have hs : spot = none := by
        have hb0 := hel 0 (by omega)
        rw [List.getElem?_eq_getElem (by omega), c4, Option.bind_eq_some_iff] at hb0
        obtain ⟨cs0, hcs0, _⟩ := hb0
        obtain ⟨_, hl0, hc0⟩ := World.cells?_some hcs0
        have h1 := hc0 0 (by omega)
        rw [List.getElem?_eq_getElem (by omega)] at h1
        simpa [Addr.add] using World.cell?_spot h1
      subst hs
      have hc' : ∀ f, f < 4 → W.cell? ⟨b, off + (i * 4 + f), none⟩ = x.cells[f]? := fun f hf => by
        have := hc f hf
        rw [Addr.add_lit, Addr.add_lit] at this
        rw [← this, Nat.add_assoc]
      exact ⟨x, b, off, rfl, cell_in (hc' 0 (by omega)), hc'⟩
    refine ⟨(List.range n).attach.map fun i => (each i.1 (List.mem_range.1 i.2)).choose, by simp, fun i hi => ?_, hl, Nat.le_trans hl hm⟩
    have hi' : i < n := by simpa using hi
    have := (each i hi').choose_spec
    simpa using this
end

section
variable {Rep : (Nat → Prop) → World → Nat → List Nd → Prop}
/-- A forest that is changed, and the document's list of the same nodes, apart from it. -/
structure Pair (Rep : (Nat → Prop) → World → Nat → List Nd → Prop) (w : World) (b : Nat) (A : Option Addr) (c : Nat) (l l' : List Nd) (v : World) : Prop where
  sets : ∃ S G : Nat → Prop, Live Rep w S b l v ∧ Nodes G v 0 A c l' ∧ ∀ i, G i → i < v.heap.size ∧ ¬ S i
section
variable {w v v' : World} {b c : Nat} {A : Option Addr} {l l' : List Nd}
theorem Pair.next (O : ForestOk Rep) (h : Pair Rep w b A c l l' v) (hb : Below v.heap.size v v') : Pair Rep w b A c l l' v' := by
  obtain ⟨S, G, h1, h2, h3⟩ := h.sets
  exact ⟨S, G, h1.next O hb, h2.below hb, fun i hi => ⟨Nat.lt_of_lt_of_le (h3 i hi).1 hb.size, (h3 i hi).2⟩⟩
theorem Pair.below (h : Pair Rep w b A c l l' v) : Below w.heap.size w v := by
  obtain ⟨S, G, h1, -⟩ := h.sets
  exact h1.below
/-- The program's call. -/
theorem pair_turned {S S' G : Nat → Prop} {l2 : List Nd} (h2 : Nodes G v 0 A c l') (h3 : ∀ i, G i → i < v.heap.size ∧ ¬ S i) (hL : Live Rep w S' b l2 v') (hn : ∀ i, i < v.heap.size → ¬ S i → ¬ S' i) (hk : Keeps S v v') : Pair Rep w b A c l2 l' v' :=
  ⟨S', G, hL, h2.keptG hk fun i hi _ hs => (h3 i hi).2 hs, fun i hi => ⟨Nat.lt_of_lt_of_le (h3 i hi).1 hk.grows, hn i (h3 i hi).1 (h3 i hi).2⟩⟩
/-- The document's. -/
theorem pair_gave (O : ForestOk Rep) {S G : Nat → Prop} {A2 : Option Addr} {c2 : Nat} {l2 : List Nd} (hL : Live Rep w S b l v) (h3 : ∀ i, G i → i < v.heap.size ∧ ¬ S i) (hN : Nodes (fun i => G i ∨ v.heap.size ≤ i) v' 0 A2 c2 l2) (hb : Below v.heap.size v v') : Pair Rep w b A2 c2 l l2 v' :=
  ⟨S, fun i => (G i ∨ v.heap.size ≤ i) ∧ i < v'.heap.size, hL.next O hb, hN.wide fun _ hi hlt => ⟨hi, hlt⟩, fun i hi => ⟨hi.2, fun hs => by
    rcases hi.1 with h | h
    · exact (h3 i h).2 hs
    · have := (hL.low i hs).2
      omega⟩⟩
end

set_option maxHeartbeats 16000000 in
set_option maxRecDepth 100000 in
theorem editPlays_any (O : ForestOk Rep) (M : ForestMore Rep) (A : Option Addr) (n c : Nat) (xs : List Ac) (A1 : Option Addr) (n1 c1 : Nat) (es : List Chg) (w : World) (hn : xs.length = n) (hm : n ≤ maxLen) (h : Acts w A xs) (hn1 : es.length = n1) (hm1 : n1 ≤ maxLen) (h1 : Chgs w A1 es) :
    Calls Try.prog 3 #[.slice A n c, .slice A1 n1 c1] w fun e w' => e = .returned (.bool true) ∧ Below w.heap.size w w' := by
  have hnot : ∀ (x : Bool) (w : World), (Op.unary .not (.bool x)).run Try.prog w = .ok (.bool (!x)) w := fun _ _ => rfl
  have H := Lib.hid h
  have Hn := Lib.hid hn
  have Hm := Lib.hid hm
  have H1 := Lib.hid h1
  have Hn1 := Lib.hid hn1
  have Hm1 := Lib.hid hm1
  clear h hn hm h1 hn1 hm1
  go_enter Try.func3, Try.ntmps3
  go_wp2_with fail
  refine (awake7_any O M w).mono ?_
  rintro e w0 ⟨rfl, hb0⟩
  go_wp2_with fail
  refine (great_any A n c xs w0 Hn.out Hm.out (H.out.below hb0)).mono ?_
  rintro e w1 ⟨⟨gr, rfl, hgr⟩, rfl⟩
  cases gr with
  | true =>
    go_wp2
    go_ret
    exact ⟨rfl, hb0⟩
  | false =>
    have Hs := Lib.hid (hgr rfl)
    have Hb0 := Lib.hid hb0
    clear hgr hb0
    by_cases hbig : 100 < n1
    · have zb : decide ((100 : Int) < n1) = true := decide_eq_true (by omega)
      clear hbig
      go_wp2
      go_ret
      exact ⟨rfl, Hb0.out⟩
    · have zb : decide ((100 : Int) < n1) = false := decide_eq_false (by omega)
      go_wp2_with fail
      refine (built_any O A n c xs w0 Hn.out (H.out.below Hb0.out) Hs.out).mono ?_
      rintro e w1 ⟨b, rfl, hR, hb1⟩
      have Hg := Lib.hid (good_forest Hs.out)
      obtain ⟨S, hLv⟩ := live_new O hR Hb0.out hb1
      have LV := Lib.hid hLv
      clear hR hb1 hLv Hb0
      go_wp2_with fail
      refine (refNodes A n c xs w1 Hn.out (H.out.below LV.out.below) Hs.out).mono ?_
      rintro e w2 ⟨A2, c2, rfl, hN2, hb2⟩
      have hP2 : Pair Rep w b A2 c2 (forest xs) (forest xs) w2 := ⟨S, fun i => w1.heap.size ≤ i ∧ i < w2.heap.size, LV.out.next O hb2, hN2.wide fun _ hi hlt => ⟨hi, hlt⟩, fun i hi => ⟨hi.2, fun hs => by
        have := (LV.out.low i hs).2
        omega⟩⟩
      obtain ⟨l0, hl0⟩ : ∃ l0, l0 = forest xs := ⟨_, rfl⟩
      rw [← hl0] at hP2 Hg
      rw [← hl0]
      have P2 := Lib.hid hP2
      clear hP2 hN2 hb2 LV H Hn Hs hl0
      go_wp2_with fail
      go_loopw [6, 7] (fun t i wr => ∃ (j : Nat) (l : List Nd) (Al : Option Addr) (cl : Nat), t = .slice Al l.length cl ∧ i = .int .i64 j ∧ j ≤ n1 ∧ Good l ∧ Pair Rep w b Al cl l l wr) (fun _ i _ => n1 - (intOf i).toNat)
      case atStart => exact ⟨0, l0, A2, c2, rfl, rfl, Nat.zero_le _, Hg.out, P2.out⟩
      case round =>
        obtain ⟨j, l, Al, cl, rfl, rfl, hj, hg, hP⟩ := hrel
        clear P2 Hg
        by_cases hjn : (j : Int) < n1
        · have hjl : j < es.length := by rw [Hn1.out]; omega
          obtain ⟨b', off, rfl, hB, hc⟩ := H1.out j hjl
          obtain ⟨x, hx⟩ : ∃ x, x = es[j] := ⟨_, rfl⟩
          rw [← hx] at hc
          have hbw := hP.below
          have hc' : ∀ f, f < 4 → wr.cell? ⟨b', off + j * 4 + f, none⟩ = x.cells[f]? := fun f hf => by
            rw [Nat.add_assoc]
            exact (hbw.cell (p := ⟨b', off + (j * 4 + f), none⟩) hB).trans (hc f hf)
          have d0 : wr.cell? ⟨b', off + j * 4, none⟩ = some (.int .i64 x.kind) := hc' 0 (by omega)
          have d1 : wr.cell? ⟨b', off + j * 4 + 1, none⟩ = some (.int .i64 x.a) := hc' 1 (by omega)
          have d2 : wr.cell? ⟨b', off + j * 4 + 2, none⟩ = some (.int .i64 x.b) := hc' 2 (by omega)
          have d3 : wr.cell? ⟨b', off + j * 4 + 3, none⟩ = some (.int .i64 x.c) := hc' 3 (by omega)
          have HP := Lib.hid hP
          have HG := Lib.hid hg
          clear hc hc' hx hjl hbw hP hg
          obtain ⟨kx, ax, bx, cx⟩ := x
          simp only at d0 d1 d2 d3
          go_upto_block 2 with (fail)
          have hbA : Below wr.heap.size wr (wr.alloc (.cells #[.int .i64 kx, .int .i64 ax, .int .i64 bx, .int .i64 cx] 31)) := (Below.refl _ wr).alloc (Nat.le_refl _) _
          have hX : Has (wr.alloc (.cells #[.int .i64 kx, .int .i64 ax, .int .i64 bx, .int .i64 cx] 31)) wr.heap.size (.cells #[.int .i64 kx, .int .i64 ax, .int .i64 bx, .int .i64 cx] 31 (0, 0)) := Has.fresh _ _
          have HX := Lib.hid hX
          have HP1 := Lib.hid (HP.out.next O hbA)
          obtain ⟨S, G, hL, hN, hG⟩ := HP.out.sets
          have hS : ¬ S wr.heap.size := fun hs => absurd (hL.low _ hs).2 (Nat.lt_irrefl _)
          have HS := Lib.hid hS
          have LV := Lib.hid (hL.next O hbA)
          have NN := Lib.hid (hN.below hbA)
          have HGG : Hid (∀ i, G i → i < (wr.alloc (.cells #[.int .i64 kx, .int .i64 ax, .int .i64 bx, .int .i64 cx] 31)).heap.size ∧ ¬ S i) := Lib.hid fun i hi => ⟨Nat.lt_of_lt_of_le (hG i hi).1 hbA.size, (hG i hi).2⟩
          obtain ⟨gb, hgb⟩ : ∃ gb, gb = wr.heap.size := ⟨_, rfl⟩
          obtain ⟨W, hW⟩ : ∃ W, W = (wr.alloc (.cells #[.int .i64 kx, .int .i64 ax, .int .i64 bx, .int .i64 cx] 31)) := ⟨_, rfl⟩
          rw [← hW] at HX HP1 LV NN HGG
          rw [← hgb] at HX HS
          rw [← hW, ← hgb]
          clear hbA hX hL hN hG hS hW hgb HP d0 d1 d2 d3
          have f0 : W.cell? ⟨gb, 0, none⟩ = some (.int .i64 kx) := HX.out.cell 0
          have f1 : W.cell? ⟨gb, 1, none⟩ = some (.int .i64 ax) := HX.out.cell 1
          have f2 : W.cell? ⟨gb, 2, none⟩ = some (.int .i64 bx) := HX.out.cell 2
          have f3 : W.cell? ⟨gb, 3, none⟩ = some (.int .i64 cx) := HX.out.cell 3
          go_cut [6, 9, 10] (fun t e q wx => ∃ (l2 : List Nd) (A2 : Option Addr) (c2 : Nat) (E : Int), t = .slice A2 l2.length c2 ∧ e = .int .i64 E ∧ q = .int .i64 E ∧ Good l2 ∧ Pair Rep w b A2 c2 l2 l2 wx)
          case first =>
            by_cases hk0 : kx = 0
            · subst hk0
              go_wp2_with fail
              refine (liveBefore O M ax bx cx LV.out HG.out).mono ?_
              rintro e w5 ⟨rfl, ⟨S5, hL5, hn5⟩, hk5⟩
              have hX5 := HX.out.kept hk5 HS.out
              have g1 : w5.cell? ⟨gb, 1, none⟩ = some (.int .i64 ax) := hX5.cell 1
              have g2 : w5.cell? ⟨gb, 2, none⟩ = some (.int .i64 bx) := hX5.cell 2
              have g3 : w5.cell? ⟨gb, 3, none⟩ = some (.int .i64 cx) := hX5.cell 3
              have N5 := Lib.hid (NN.out.keptG hk5 fun i hi _ hs => (HGG.out i hi).2 hs)
              have L5 := Lib.hid hL5
              have hG5 : ∀ i, G i → i < w5.heap.size ∧ ¬ S5 i := fun i hi => ⟨Nat.lt_of_lt_of_le (HGG.out i hi).1 hk5.grows, hn5 i (HGG.out i hi).1 (HGG.out i hi).2⟩
              have HG5 := Lib.hid hG5
              have N6 := Lib.hid (N5.out.wide (G' := fun i => G i ∨ w5.heap.size ≤ i) fun _ hi _ => .inl hi)
              clear hX5 hk5 hn5 hL5 hG5 f0 f1 f2 f3
              go_wp2_with fail
              refine (rfBefore ax bx cx HG.out (fun _ hi => .inr hi) N6.out).mono ?_
              rintro e w6 ⟨A6, c6, rfl, hN6, hb6⟩
              have P6 := Lib.hid (pair_gave O L5.out HG5.out hN6 hb6)
              clear hN6 hb6 g1 g2 g3
              go_wp2
              go_meet
              exact ⟨befL l ax bx cx, A6, c6, chkErr l ax bx cx, rfl, rfl, rfl, good_bef HG.out, P6.out⟩
            · have z0 : (kx == 0) = false := by simpa using hk0
              by_cases hk1 : kx = 1
              · subst hk1
                go_wp2_with fail
                refine (liveAppend O M ax bx LV.out HG.out).mono ?_
                rintro e w5 ⟨rfl, ⟨S5, hL5, hn5⟩, hk5⟩
                have hX5 := HX.out.kept hk5 HS.out
                have g1 : w5.cell? ⟨gb, 1, none⟩ = some (.int .i64 ax) := hX5.cell 1
                have g2 : w5.cell? ⟨gb, 2, none⟩ = some (.int .i64 bx) := hX5.cell 2
                have g3 : w5.cell? ⟨gb, 3, none⟩ = some (.int .i64 cx) := hX5.cell 3
                have N5 := Lib.hid (NN.out.keptG hk5 fun i hi _ hs => (HGG.out i hi).2 hs)
                have L5 := Lib.hid hL5
                have hG5 : ∀ i, G i → i < w5.heap.size ∧ ¬ S5 i := fun i hi => ⟨Nat.lt_of_lt_of_le (HGG.out i hi).1 hk5.grows, hn5 i (HGG.out i hi).1 (HGG.out i hi).2⟩
                have HG5 := Lib.hid hG5
                have N6 := Lib.hid (N5.out.wide (G' := fun i => G i ∨ w5.heap.size ≤ i) fun _ hi _ => .inl hi)
                clear hX5 hk5 hn5 hL5 hG5 f0 f1 f2 f3
                go_wp2_with fail
                refine (rfBefore ax bx 0 HG.out (fun _ hi => .inr hi) N6.out).mono ?_
                rintro e w6 ⟨A6, c6, rfl, hN6, hb6⟩
                have P6 := Lib.hid (pair_gave O L5.out HG5.out hN6 hb6)
                clear hN6 hb6 g1 g2 g3
                go_wp2
                go_meet
                exact ⟨befL l ax bx 0, A6, c6, chkErr l ax bx 0, rfl, rfl, rfl, good_bef HG.out, P6.out⟩
              · have z1 : (kx == 1) = false := by simpa using hk1
                by_cases hk2 : kx = 2
                · subst hk2
                  go_wp2_with fail
                  refine (liveRemove O M ax bx LV.out HG.out).mono ?_
                  rintro e w5 ⟨rfl, ⟨S5, hL5, hn5⟩, hk5⟩
                  have hX5 := HX.out.kept hk5 HS.out
                  have g1 : w5.cell? ⟨gb, 1, none⟩ = some (.int .i64 ax) := hX5.cell 1
                  have g2 : w5.cell? ⟨gb, 2, none⟩ = some (.int .i64 bx) := hX5.cell 2
                  have g3 : w5.cell? ⟨gb, 3, none⟩ = some (.int .i64 cx) := hX5.cell 3
                  have N5 := Lib.hid (NN.out.keptG hk5 fun i hi _ hs => (HGG.out i hi).2 hs)
                  have L5 := Lib.hid hL5
                  have hG5 : ∀ i, G i → i < w5.heap.size ∧ ¬ S5 i := fun i hi => ⟨Nat.lt_of_lt_of_le (HGG.out i hi).1 hk5.grows, hn5 i (HGG.out i hi).1 (HGG.out i hi).2⟩
                  have HG5 := Lib.hid hG5
                  have N6 := Lib.hid (N5.out.wide (G' := fun i => G i ∨ w5.heap.size ≤ i) fun _ hi _ => .inl hi)
                  clear hX5 hk5 hn5 hL5 hG5 f0 f1 f2 f3
                  go_wp2_with fail
                  refine (rfRemove ax bx HG.out (fun _ hi => .inr hi) N6.out).mono ?_
                  rintro e w6 ⟨A6, c6, rfl, hN6, hb6⟩
                  have P6 := Lib.hid (pair_gave O L5.out HG5.out hN6 hb6)
                  clear hN6 hb6 g1 g2 g3
                  go_wp2
                  go_meet
                  exact ⟨rmL l ax bx, A6, c6, rmErr l ax bx, rfl, rfl, rfl, good_rm HG.out, P6.out⟩
                · have z2 : (kx == 2) = false := by simpa using hk2
                  by_cases hk3 : kx = 3
                  · subst hk3
                    go_wp2_with fail
                    refine (liveClear O ax LV.out HG.out).mono ?_
                    rintro e w5 ⟨rfl, ⟨S5, hL5, hn5⟩, hk5⟩
                    have hX5 := HX.out.kept hk5 HS.out
                    have g1 : w5.cell? ⟨gb, 1, none⟩ = some (.int .i64 ax) := hX5.cell 1
                    have g2 : w5.cell? ⟨gb, 2, none⟩ = some (.int .i64 bx) := hX5.cell 2
                    have g3 : w5.cell? ⟨gb, 3, none⟩ = some (.int .i64 cx) := hX5.cell 3
                    have N5 := Lib.hid (NN.out.keptG hk5 fun i hi _ hs => (HGG.out i hi).2 hs)
                    have L5 := Lib.hid hL5
                    have hG5 : ∀ i, G i → i < w5.heap.size ∧ ¬ S5 i := fun i hi => ⟨Nat.lt_of_lt_of_le (HGG.out i hi).1 hk5.grows, hn5 i (HGG.out i hi).1 (HGG.out i hi).2⟩
                    have HG5 := Lib.hid hG5
                    have N6 := Lib.hid (N5.out.wide (G' := fun i => G i ∨ w5.heap.size ≤ i) fun _ hi _ => .inl hi)
                    clear hX5 hk5 hn5 hL5 hG5 f0 f1 f2 f3
                    go_wp2_with fail
                    refine (put_any l Al cl ax [] none 0 0 w5 (Nat.le_trans HG.out.len (by decide)) (fun d hd => Nat.le_trans (HG.out.few d hd) (by decide)) (fun _ hi => .inr hi) N6.out rfl (Nat.zero_le _) (Nat.le_refl _) (fun _ => rfl) (fun i hi => absurd hi (Nat.not_lt_zero i))).mono ?_
                    rintro e w6 ⟨A6, c6, rfl, hN6, hb6⟩
                    have P6 := Lib.hid (pair_gave O L5.out HG5.out hN6 hb6)
                    clear hN6 hb6 g1 g2 g3
                    go_wp2
                    go_meet
                    exact ⟨putL l ax [], A6, c6, putErr l ax [], rfl, rfl, rfl, good_put HG.out (Nat.zero_le _), P6.out⟩
                  · have z3 : (kx == 3) = false := by simpa using hk3
                    clear hk0 hk1 hk2 hk3
                    go_wp2
                    go_meet
                    exact ⟨l, Al, cl, 0, rfl, rfl, rfl, HG.out, HP1.out⟩
          case rest =>
            obtain ⟨l2, A3, c3, E, rfl, rfl, rfl, hg2, hp2⟩ := hcut
            have HP2 := Lib.hid hp2
            have HG2 := Lib.hid hg2
            clear hg2 hp2 f0 f1 f2 f3 HX HP1 LV NN HGG HS
            obtain ⟨S2, G2, hL2, hN2, -⟩ := HP2.out.sets
            have L2 := Lib.hid hL2
            have N2 := Lib.hid hN2
            clear hL2 hN2
            go_wp2_with fail
            refine (O.all S2 wc b l2 L2.out.rep HG2.out).mono ?_
            rintro e w7 ⟨A7, c7, rfl, hN7, hb7⟩
            have N7 := Lib.hid (hN7.wide (G' := fun _ => True) fun _ _ _ => trivial)
            have N8 := Lib.hid ((N2.out.below hb7).wide (G' := fun _ => True) fun _ _ _ => trivial)
            have P7 := Lib.hid (HP2.out.next O hb7)
            clear hN7 hb7
            go_wp2_with fail
            refine (same_any l2 l2 A7 A3 c7 c3 _ 0 w7 (Nat.le_trans HG2.out.len (by decide)) (fun d hd => Nat.le_trans (HG2.out.few d hd) (by decide)) N7.out N8.out).mono ?_
            rintro e w8 ⟨rfl, hb8⟩
            rw [sameL_refl]
            have P8 := Lib.hid (P7.out.next O hb8)
            clear hb8
            go_wp2
            go_roundw
            case rel => exact ⟨j + 1, l2, A3, c3, rfl, by go_num, by omega, HG2.out, P8.out⟩
            case measure => simp [intOf]; omega
        · go_wp2
          go_ret
          exact ⟨rfl, hP.below⟩
end
end Go.Proofs.Ytojcchjhimagiaa

namespace Go.Proofs.Ytojcchjhimagiaa
open Go Go.RowKit
theorem editPlays_here (A : Option Addr) (n c : Nat) (xs : List Ac) (A1 : Option Addr) (n1 c1 : Nat) (es : List Chg) (w : World) (hn : xs.length = n) (hm : n ≤ maxLen) (h : Acts w A xs) (hn1 : es.length = n1) (hm1 : n1 ≤ maxLen) (h1 : Chgs w A1 es) :
    Calls Try.prog 3 #[.slice A n c, .slice A1 n1 c1] w fun e w' => e = .returned (.bool true) ∧ Below w.heap.size w w' := editPlays_any arOk arMore A n c xs A1 n1 c1 es w hn hm h hn1 hm1 h1
theorem editBack_here (A : Option Addr) (n c : Nat) (xs : List Ac) (a a2 a3 : Int) (w : World) (hn : xs.length = n) (hm : n ≤ maxLen) (h : Acts w A xs) :
    Calls Try.prog 4 #[.slice A n c, .int .i64 a, .int .i64 a2, .int .i64 a3] w fun e w' => e = .returned (.bool true) ∧ Below w.heap.size w w' := editBack_any arOk arMore A n c xs a a2 a3 w hn hm h
theorem editApart_here (A : Option Addr) (n c : Nat) (xs : List Ac) (a a2 a3 : Int) (w : World) (hn : xs.length = n) (hm : n ≤ maxLen) (h : Acts w A xs) :
    Calls Try.prog 5 #[.slice A n c, .int .i64 a, .int .i64 a2, .int .i64 a3] w fun e w' => e = .returned (.bool true) ∧ Below w.heap.size w w' := editApart_any arOk arMore A n c xs a a2 a3 w hn hm h
theorem editOrder_here (A : Option Addr) (n c : Nat) (xs : List Ac) (a a2 a3 : Int) (w : World) (hn : xs.length = n) (hm : n ≤ maxLen) (h : Acts w A xs) :
    Calls Try.prog 6 #[.slice A n c, .int .i64 a, .int .i64 a2, .int .i64 a3] w fun e w' => e = .returned (.bool true) ∧ Below w.heap.size w w' := editOrder_any arOk arMore A n c xs a a2 a3 w hn hm h
end Go.Proofs.Ytojcchjhimagiaa

namespace Go.Proofs.Ytojcchjhimagiaa
open Go.ChangeShapes Go.WideShapes Go.ChangeAt Go.RowKit

theorem own : ownKnob Try.prog.godebug = none := by kernel_rfl
theorem laidOut : laidOutB Try.prog = true := by kernel_rfl
theorem ib {a : Int} (h : (Lit.int .i64 a).wf = true) : -9223372036854775808 ≤ a ∧ a ≤ 9223372036854775807 := by
  have h1 : IntKind.i64.min = -9223372036854775808 := rfl
  have h2 : IntKind.i64.max = 9223372036854775807 := rfl
  simp only [Lit.wf, Bool.and_eq_true, decide_eq_true_eq, h1, h2] at h
  exact h
theorem ib8 {a : Int} (h : (Lit.int .u8 a).wf = true) : 0 ≤ a ∧ a ≤ 255 := by
  have h1 : IntKind.u8.min = 0 := rfl
  have h2 : IntKind.u8.max = 255 := rfl
  simp only [Lit.wf, Bool.and_eq_true, decide_eq_true_eq, h1, h2] at h
  exact h
theorem ib16 {a : Int} (h : (Lit.int .u16 a).wf = true) : 0 ≤ a ∧ a ≤ 65535 := by
  have h1 : IntKind.u16.min = 0 := rfl
  have h2 : IntKind.u16.max = 65535 := rfl
  simp only [Lit.wf, Bool.and_eq_true, decide_eq_true_eq, h1, h2] at h
  exact h
end Go.Proofs.Ytojcchjhimagiaa

namespace Go.Proofs.Ytojcchjhimagiaa
open Go.ChangeShapes Go.WideShapes Go.ChangeAt Go.RowKit
open Go.ChangeMaps (open_string shut_string)

set_option maxRecDepth 100000 in
theorem editBack_lifted (os : Os) (started : os.Started) (H : Type) (enc : TypeId × Value → H) :
    ReturnsInHanded {} Try.checked os 4 .any (Rows.editBackSpec.pre6 enc Try.prog Try.f4 Rows.editBackRow.domain false) (Rows.editBackSpec.post enc Try.prog Try.f4 false true false false) := by
  refine returnsInHanded_of_change (C := Try.checked) own started (by kernel_rfl) Try.func4
    (ChangeSpec.witness6 (enc := enc) (C := Try.checked) false ⟨#[], #[.slice none 0 0, .int .i64 0, .int .i64 0, .int .i64 0], []⟩ 8 (by kernel_rfl) (by kernel_rfl) (by kernel_rfl) (by kernel_rfl)) ?_
  intro W base args ds gs before hval0 hW hcnd _
  have hval : ∀ (j : Nat) t v, Try.f4.params[j]? = some t → args[j]? = some v → Value.okWide Try.prog W .any base t v := hval0
  clear hval0 hcnd
  have hW' := hW
  obtain ⟨p, q, hA0, hV, rfl, hfz, hnd⟩ := hW
  have hA : DataW.TrodAll enc Try.prog W 0 (fun _ => true) true Try.f4.params.toList args.toList ds p := hA0
  rw [Try.params4] at hA hval
  obtain ⟨v0, vs0, d0, ds0, p0, q0, hargs, rfl, rfl, h0, r0⟩ := trodAll_cons hA
  obtain ⟨v1, vs1, d1, ds1, p1, q1, rfl, rfl, rfl, h1, r1⟩ := trodAll_cons r0
  obtain ⟨v2, vs2, d2, ds2, p2, q2, rfl, rfl, rfl, h2, r2⟩ := trodAll_cons r1
  obtain ⟨v3, vs3, d3, ds3, p3, q3, rfl, rfl, rfl, h3, r3⟩ := trodAll_cons r2
  obtain ⟨rfl, rfl, rfl⟩ := trodAll_nil r3
  obtain rfl : args = #[v0, v1, v2, v3] := by cases args; simp_all
  obtain ⟨rfl, rfl⟩ := trodVars_none hV
  obtain ⟨A0, n0, c0, rfl⟩ := okWide_slice Try.underlying22 (hval 0 22 v0 rfl rfl)
  have k0 := h0
  have lt0 : ∀ x ∈ p0, x.block < W.heap.size := by obtain ⟨m, hm⟩ := k0; exact DataW.trod_lt m _ _ _ hm
  obtain ⟨x0, l0, y0, z0, q0x⟩ : ∃ xs : List Ac, xs.length = n0 ∧ Acts W A0 xs ∧ n0 ≤ c0 ∧ n0 ≤ maxLen := by
    obtain ⟨fuel, hf⟩ := h0
    exact acts_in hf
  obtain ⟨a1, rfl, rfl, rfl, w1⟩ := open_int Try.underlying3 (hval 1 3 v1 rfl rfl) h1
  obtain ⟨a2, rfl, rfl, rfl, w2⟩ := open_int Try.underlying3 (hval 2 3 v2 rfl rfl) h2
  obtain ⟨a3, rfl, rfl, rfl, w3⟩ := open_int Try.underlying3 (hval 3 3 v3 rfl rfl) h3
  clear hA0
  refine (editBack_here A0 n0 c0 x0 a1 a2 a3 W l0 q0x y0).mono fun e W' ⟨he, bel⟩ => ?_
  subst he
  exact ⟨_, rfl, _, _, _, [], _, [], hW', trodAll_mk1 (shut_bool Try.underlying4 _), (trodAll_cons_mk (Below.trod laidOut (by kernel_rfl) (of_decide_eq_true (by kernel_rfl)) k0 bel lt0) (trodAll_cons_mk (shut_int Try.underlying3 w1) (trodAll_cons_mk (shut_int Try.underlying3 w2) (trodAll_cons_mk (shut_int Try.underlying3 w3) trodAll_mk0)))), rfl, bel.frame _, fun h => by cases h⟩

theorem editBack_holds : Rows.EditBackSaid :=
  OpenClaim.holds_of_wide 4 Try.f4 rfl rfl rfl rfl rfl rfl rfl ⟨rfl, rfl, rfl, rfl, rfl⟩ rfl rfl rfl rfl rfl (by kernel_rfl) Try.func4 (by kernel_rfl)
    (of_decide_eq_true (by kernel_rfl)) (by unfold Func.isWrapper; rw [if_neg (by decide +kernel)]; exact ⟨rfl, rfl⟩)
    (fun os started H enc _ => editBack_lifted os started H enc)
end Go.Proofs.Ytojcchjhimagiaa
