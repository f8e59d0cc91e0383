/-
  What towncrierlaw05.KinOrder does with an arena that keeps its promises: it answers true.
-/
import Derived.Test.YtkafaceanlkjjaaMc
import Derived.Test.YtkafaceanlkjjaaArf
namespace Go.Proofs.Ytkafaceanlkjjaa
open Go Go.RowKit

/-- A table of 200 numbers: just those of a list aren't 0. -/
structure Tab (ts : List Int) (xs : List Int) : Prop where
  len : ts.length = 200
  mark : ∀ j, j < 200 → (ts.getD j 0 ≠ 0 ↔ (j : Int) ∈ xs)
theorem Tab.zero : Tab (List.replicate 200 0) [] := ⟨List.length_replicate, fun j hj => by
  rw [List.getD_eq_getElem?_getD, List.getElem?_replicate, if_pos hj]
  simp⟩
theorem Tab.put {ts xs : List Int} (h : Tab ts xs) {q : Nat} (hq : q < 200) {y : Int} (hy : y ≠ 0) : Tab (ts.set q y) (xs ++ [(q : Int)]) := ⟨by rw [List.length_set]; exact h.len, fun j hj => by
  have hl := h.len
  by_cases e : q = j
  · subst e
    rw [List.getD_eq_getElem?_getD, List.getElem?_set_self (by omega)]
    simpa using hy
  · have := h.mark j hj
    rw [List.getD_eq_getElem?_getD] at this
    rw [List.getD_eq_getElem?_getD, List.getElem?_set_ne e, this, List.mem_append, List.mem_singleton]
    constructor
    · exact .inl
    · rintro (h' | h')
      · exact h'
      · omega⟩

theorem not_in_take {xs : List Int} (h : xs.Nodup) {j : Nat} (hj : j < xs.length) : xs[j] ∉ xs.take j := by
  intro hm
  obtain ⟨k, hk, e⟩ := List.mem_iff_getElem.1 hm
  rw [List.length_take] at hk
  rw [List.getElem_take] at e
  have := (List.getElem_inj h).1 e
  omega

/-- The forest, the list in tree order, and the table behind both. -/
structure Marks (Rep : (Nat → Prop) → World → Nat → List Nd → Prop) (w : World) (b : Nat) (l : List Nd) (A : Option Addr) (L : List Int) (g : Nat) (ts : List Int) (v : World) : Prop where
  rep : Rep (fun i => i < g) v b l
  nums : Nums v g A .i64 L
  tab : Has v g (.cells (ts.map (Value.int .i64)).toArray 3 (0, 0))
  below : Below w.heap.size w v
  late : w.heap.size ≤ g
section
variable {Rep : (Nat → Prop) → World → Nat → List Nd → Prop} {w v v' : World} {b g : Nat} {l : List Nd} {A : Option Addr} {L ts : List Int}
theorem Marks.next (O : ForestOk Rep) (h : Marks Rep w b l A L g ts v) (hb : Below v.heap.size v v') : Marks Rep w b l A L g ts v' :=
  ⟨O.since h.rep hb, h.nums.below (hb.mono (Nat.le_of_lt h.tab.inside)), h.tab.below hb h.tab.inside, h.below.trans (hb.mono h.below.size), h.late⟩
theorem Marks.store (O : ForestOk Rep) (h : Marks Rep w b l A L g ts v) (q : Nat) (y : Int) : Marks Rep w b l A L g (ts.set q y) (v.setCell ⟨g, q, none⟩ (.int .i64 y)) := by
  have k : Keeps (fun i => i = g) v (v.setCell ⟨g, q, none⟩ (.int .i64 y)) := Keeps.store (F := fun i => i = g) (p := ⟨g, q, none⟩) (Keeps.refl _ _) (.inl rfl) _
  have hg := h.tab.inside
  have kb : Below g v (v.setCell ⟨g, q, none⟩ (.int .i64 y)) := below_then (Below.refl g v) k (Nat.le_of_lt hg) fun i hi e => by omega
  refine ⟨O.keep h.rep k fun i hi _ e => by omega, h.nums.below kb, ?_, below_then h.below k h.below.size fun i hi e => ?_, h.late⟩
  · have := h.tab.stored q (.int .i64 y)
    rw [List.map_set]
    simpa using this
  · have := h.late
    omega
theorem Marks.cell (h : Marks Rep w b l A L g ts v) (hl : ts.length = 200) {q : Nat} (hq : q < 200) : v.cell? ⟨g, q, none⟩ = some (.int .i64 (ts.getD q 0)) ∧ v.frozen? ⟨g, q, none⟩ = false := by
  refine ⟨?_, h.tab.free q⟩
  rw [h.tab.cell q, List.getElem?_toArray, List.getElem?_map, List.getElem?_eq_getElem (by omega), List.getD_eq_getElem?_getD, List.getElem?_eq_getElem (by omega)]
  rfl

set_option linter.unusedSimpArgs false in
set_option maxHeartbeats 16000000 in
set_option maxRecDepth 100000 in
theorem kinOrder_law (O : ForestOk Rep) (M : ForestMore Rep) (A : Option Addr) (n c : Nat) (xs : List Ac) (id : Int) (w : World) (hn : xs.length = n) (hm : n ≤ maxLen) (h : Acts w A xs) :
    Calls Try.prog 4 #[.slice A n c, .int .i64 id] w fun e w' => e = .returned (.bool true) ∧ Below w.heap.size w w' := by
  have hnot : ∀ (x : Bool) (w : World), (Op.unary .not (.bool x)).run Try.prog w = .ok (.bool (!x)) w := fun _ _ => rfl
  obtain ⟨i0, hi, hz0, hz1, hz2⟩ := info_parts Try.infoInt
  have hbyt : i0.bytes * 200 ≤ 281474976710656 := by rw [hz2]; omega
  have hmax : 200 ≤ maxLen := by unfold maxLen; omega
  have Hi := Lib.hid hi
  have Hz0 := Lib.hid hz0
  have Hz1 := Lib.hid hz1
  have Hbyt := Lib.hid hbyt
  have Hmax := Lib.hid hmax
  have H := Lib.hid h
  have Hn := Lib.hid hn
  have Hm := Lib.hid hm
  clear h hn hm hi hz0 hz1 hz2 hbyt hmax
  go_enter Try.func4, Try.ntmps4
  go_wp2_with fail
  refine (awake5_any O M w).mono ?_
  rintro e w0 ⟨rfl, hb0⟩
  go_wp2_with fail
  refine (great_any A n c xs w0 Hn.out Hm.out (H.out.below hb0)).mono ?_
  rintro e w1 ⟨⟨gr, rfl, hgr⟩, rfl⟩
  cases gr with
  | true =>
    go_wp2
    go_ret
    exact ⟨rfl, hb0⟩
  | false =>
    have Hs := Lib.hid (hgr rfl)
    have Hb0 := Lib.hid hb0
    clear hgr hb0
    go_wp2_with fail
    refine (built_any O A n c xs w0 Hn.out (H.out.below Hb0.out) Hs.out).mono ?_
    rintro e w1 ⟨b, rfl, hR, hb1⟩
    have Hg := Lib.hid (good_forest Hs.out)
    obtain ⟨l, hl⟩ : ∃ l, l = forest xs := ⟨_, rfl⟩
    rw [← hl] at hR Hg
    have hO1 : One Rep w b l w1 := ⟨O.wide hR (S' := fun _ => True) fun _ _ _ => trivial, Hb0.out.trans (hb1.mono Hb0.out.size)⟩
    have O1 := Lib.hid hO1
    clear hR hb1 Hb0 hO1 hl Hs H Hn
    go_wp2_with fail
    refine (kinRoot O M id O1.out.rep Hg.out).mono ?_
    rintro e w2 ⟨rfl, hb2⟩
    have O2 := Lib.hid (O1.out.next O hb2)
    clear hb2 O1
    obtain ⟨r, hr⟩ : ∃ r, r = rootL l id := ⟨_, rfl⟩
    rw [← hr]
    have Hr := Lib.hid hr
    clear hr
    go_wp2_with fail
    refine (kinOrder O M r O2.out.rep Hg.out).mono ?_
    rintro e w3 ⟨v3, rfl, hP3, hb3⟩
    have O3 := Lib.hid (O2.out.next O hb3)
    obtain ⟨A3, c3, rfl, hL3⟩ := hP3.form
    obtain ⟨L, hL⟩ : ∃ L, L = ordL l r := ⟨_, rfl⟩
    rw [← hL] at hL3
    rw [← hL]
    have HL := Lib.hid hL
    have L3 := Lib.hid hL3
    obtain ⟨N, hN⟩ : ∃ N, N = L.length := ⟨_, rfl⟩
    rw [← hN]
    have HN := Lib.hid hN
    have hNl : N ≤ 128 := by rw [hN, hL]; exact Nat.le_trans (ordL_len Hg.out.tree r) Hg.out.len
    clear hL hN hL3 hP3 hb3 O2
    go_wp2_with (with_reducible refine wpList_make_full w3 rfl (.const (.int .i64 200)) (.const (.int .i64 200)) 32 rfl w3.heap.size 3 i0 _ 1 Try.underlying32 Hi.out Hz0.out Hz1.out .i64 .i64 _ _ 200 rfl rfl rfl rfl Hbyt.out Hmax.out (Nat.le_refl _) ?_; intro w4 ho4 hg4)
    have hb4 : Below w3.heap.size w3 w4 := (Below.refl _ w3).grown hg4 (Nat.le_refl _) (fun k hk => absurd hk (by simp))
    have hz4 : Has w4 w3.heap.size (.cells ((List.replicate 200 (0 : Int)).map (Value.int .i64)).toArray 3 (0, 0)) := by
      rw [show (Value.int IntKind.i64 0).cells = #[Value.int .i64 0] from rfl, Nat.mul_one, toList_madeCells_one] at ho4
      rcases ho4.2 with ⟨hv, _⟩ | ⟨g, cap, cur, hv, _, hh, _, _, hs, ht⟩
      · cases hv
      · obtain ⟨rfl, rfl⟩ : w3.heap.size = g ∧ 200 = cap := by injection hv with e1 _ e3; exact ⟨by simpa using e1, e3⟩
        rw [List.take_of_length_le (by rw [Array.length_toList, hs]; exact Nat.le_refl _)] at ht
        rw [List.map_replicate, ← ht]
        exact hh
    have hM4 : Marks Rep w b l A3 L w3.heap.size (List.replicate 200 0) w4 :=
      ⟨O.since (O.wide O3.out.rep fun i _ hlt => hlt) hb4, L3.out.nums.below hb4, hz4, O3.out.below.trans (hb4.mono O3.out.below.size), O3.out.below.size⟩
    have M4 := Lib.hid hM4
    obtain ⟨g, hg⟩ : ∃ g, g = w3.heap.size := ⟨_, rfl⟩
    rw [← hg] at M4
    rw [← hg]
    clear hz4 hb4 ho4 hg4 hM4 O3 L3 hg Hi Hz0 Hz1 Hbyt Hmax
    by_cases h0 : r = 0
    · have hN0 : N = 0 := by
        rw [HN.out, HL.out, h0, ordL_no (there_zero l)]
        rfl
      subst h0
      subst hN0
      go_loopw [9] (fun i wr => i = .int .i64 0 ∧ Below w.heap.size w wr) (fun _ _ => 0)
      case atStart => exact ⟨rfl, M4.out.below⟩
      case round =>
        obtain ⟨rfl, hb⟩ := hrel
        clear M4
        go_wp2_with fail
        go_loopw [12] (fun i wr => ∃ k : Nat, i = .int .i64 k ∧ k ≤ 129 ∧ Below w.heap.size w wr) (fun i _ => 129 - (intOf i).toNat)
        case atStart => exact ⟨1, rfl, by omega, hb⟩
        case round =>
          obtain ⟨k, rfl, hk, hb'⟩ := hrel
          by_cases hk8 : (k : Int) ≤ 128
          · go_wp2_with fail
            refine wp_region_way (late := []) (S := fun _ => True) (y := Way.takes [0, 1, 2, 3, 4, 5, 6, 7, 8, 9, 10, 11, 12, 13] .fin) (by kernel_rfl) (by kernel_rfl) rfl (by kernel_rfl) trivial (fun hHeld => ?_)
            simp only [Way.takes]
            (repeat (first | (refine way_skip (by simp only [List.getElem?_toArray, List.getElem?_cons_succ, List.getElem?_cons_zero]; rfl) (by rfl) hHeld ?_; (try simp only [Act.put, List.setIfInBounds_toArray, List.set_cons_zero, List.set_cons_succ])) | (refine way_pass (by simp only [List.getElem?_toArray, List.getElem?_cons_succ, List.getElem?_cons_zero]; rfl) (by rfl) hHeld ?_; (try simp only [Act.put, List.setIfInBounds_toArray, List.set_cons_zero, List.set_cons_succ])) | (refine way_take (v := ?_) (by simp only [List.getElem?_toArray, List.getElem?_cons_succ, List.getElem?_cons_zero]; rfl) (by rfl) ?_ hHeld ?_; rotate_left; (focus (intro w hSw; (try dsimp only at hSw); go_simp; (try with_reducible rfl); done)); (try simp only [Act.put, List.setIfInBounds_toArray, List.set_cons_zero, List.set_cons_succ]))))
            refine way_done ?_
            go_wp2
            go_roundw
            case rel => exact ⟨k + 1, by go_num, by omega, below_draws hb' 1⟩
            case measure => simp [intOf]; omega
          · go_wp2
            go_ret
            exact ⟨rfl, hb'⟩
    · have hth : thereB l id = true := by
        cases hq : thereB l id with
        | true => rfl
        | false => exact absurd (Hr.out.trans (rootL_no hq)) h0
      have hrt : thereB l r = true := by rw [Hr.out]; exact rootL_there Hg.out.tree hth
      have Hroot : Hid (∀ x ∈ L, rootL l x = r ∧ thereB l x = true) := Lib.hid fun x hx => by
        rw [HL.out] at hx
        have h1 := (ordL_mem Hg.out.tree).1 hx
        rw [Hr.out] at h1
        exact ⟨(rootL_of Hg.out.tree hth h1).trans Hr.out.symm, ordL_there Hg.out.tree hx⟩
      have Honce : Hid L.Nodup := Lib.hid (by rw [HL.out]; exact ordL_once Hg.out.tree r)
      have Hbeh : Hid (∀ j (hj : j < L.length), 0 < j → (nd l L[j]).parent ∈ L.take j) := Lib.hid (by
        obtain rfl := HL.out
        exact fun j hj h0 => ordL_behind Hg.out.tree hj h0)
      have Hin : Hid (∀ k : Int, k ∈ L ↔ r ∈ parL l k) := Lib.hid fun k => by rw [HL.out]; exact ordL_mem Hg.out.tree
      have zr1 : (r != 0) = true := by simpa using h0
      have zr2 : (r == 0) = false := by simpa using h0
      have hll := Hg.out.len
      clear hth hrt h0
      go_loopw [9] (fun i wr => ∃ (j : Nat) (ts : List Int), i = .int .i64 j ∧ j ≤ N ∧ Tab ts (L.take j) ∧ Marks Rep w b l A3 L g ts wr) (fun i _ => N - (intOf i).toNat)
      case atStart => exact ⟨0, _, rfl, Nat.zero_le _, Tab.zero, M4.out⟩
      case round =>
        obtain ⟨j, ts, rfl, hj, hT, hM⟩ := hrel
        clear M4
        by_cases hjN : (j : Int) < N
        · have hjL : j < L.length := by rw [← HN.out]; omega
          obtain ⟨b3, off3, rfl, hb3, c3'⟩ := hM.nums j hjL
          have hxr := Hroot.out L[j] (List.getElem_mem hjL)
          have hbh := Hbeh.out j hjL
          have hnt : L[j] ∉ L.take j := not_in_take Honce.out hjL
          have htk : L.take (j + 1) = L.take j ++ [L[j]] := by rw [List.take_add_one, List.getElem?_eq_getElem hjL]; rfl
          have hx1 := thereB_iff.1 hxr.2
          obtain ⟨q, hq⟩ : ∃ q : Nat, L[j] = (q : Int) := ⟨L[j].toNat, by omega⟩
          rw [hq] at c3' hxr hbh hnt htk hx1
          have hq1 : 1 ≤ q := by omega
          have hq2 : q ≤ 128 := by omega
          have ht0 : ts.getD q 0 = 0 := Decidable.byContradiction fun hne => hnt ((hT.mark q (by omega)).1 hne)
          have tq := (hM.cell hT.len (show q < 200 by omega)).1
          rw [ht0] at tq
          have hT' := hT.put (show q < 200 by omega) (show (j : Int) + 1 ≠ 0 by omega)
          have Hq := Lib.hid hq
          have Hxr := Lib.hid hxr
          have Hbh := Lib.hid hbh
          have Htk := Lib.hid htk
          have HM := Lib.hid hM
          have HT := Lib.hid hT
          have HT' := Lib.hid hT'
          have z1 : decide ((q : Int) < 1) = false := by rw [decide_eq_false_iff_not]; omega
          have z2 : decide ((200 : Int) ≤ (q : Int)) = false := by rw [decide_eq_false_iff_not]; omega
          have hqi : (q : Int) < 200 := by omega
          clear hxr hbh htk hM hT hT' hnt hx1 ht0 hq
          go_wp2_with fail
          refine (kinRoot O M q HM.out.rep Hg.out).mono ?_
          rintro e w5 ⟨rfl, hb5⟩
          rw [Hxr.out.1]
          have M5 := Lib.hid (HM.out.next O hb5)
          have M6 := Lib.hid (M5.out.store O q ((j : Int) + 1))
          obtain ⟨_, _, e5, -, c5⟩ := M5.out.nums j hjL
          cases e5
          obtain ⟨_, _, e6, -, c6⟩ := M6.out.nums j hjL
          cases e6
          rw [Hq.out] at c5 c6
          obtain ⟨t5, f5⟩ := M5.out.cell HT.out.len (show q < 200 by omega)
          clear hb5 HM c3' tq HT
          go_wp2_with fail
          refine (nodeYes M M6.out.rep Hg.out Hxr.out.2).mono ?_
          rintro e w7 ⟨A7, c7, rfl, -, hb7⟩
          obtain ⟨d, hd⟩ : ∃ d, d = nd l (q : Int) := ⟨_, rfl⟩
          rw [← hd] at Hbh
          rw [← hd]
          have M7 : Hid (Marks Rep w b l (some ⟨b3, off3, none⟩) L g (ts.set q ((j : Int) + 1)) (w7.alloc (.cells #[.int .i64 d.kind, .int .i64 d.parent, .int .i64 d.host, .int .i64 d.shadow, .int .i64 d.mode, .bool d.slot, .string d.name, .string d.want, .slice A7 d.kids.length c7] 41))) := Lib.hid (M6.out.next O (hb7.alloc hb7.size _))
          clear hb7 M6 M5 t5 f5 c5 c6 hd z1 z2 hqi
          by_cases hj0 : j = 0
          · subst hj0
            go_wp2
            go_roundw
            case rel => exact ⟨0 + 1, _, by go_num, by omega, by rw [Htk.out]; exact HT'.out, M7.out⟩
            case measure => simp [intOf]; omega
          · have hpin := Hbh.out (by omega)
            have hpt := (Hroot.out d.parent (List.mem_of_mem_take hpin)).2
            have hp1 := thereB_iff.1 hpt
            obtain ⟨p, hp⟩ : ∃ p : Nat, d.parent = (p : Int) := ⟨d.parent.toNat, by omega⟩
            rw [hp] at hpin hp1
            have hp2 : p < 200 := by omega
            have tp := (M7.out.cell HT'.out.len hp2).1
            have hne : (ts.set q ((j : Int) + 1)).getD p 0 ≠ 0 := (HT'.out.mark p hp2).2 (List.mem_append.2 (.inl hpin))
            obtain ⟨y, hy⟩ : ∃ y, y = (ts.set q ((j : Int) + 1)).getD p 0 := ⟨_, rfl⟩
            rw [← hy] at tp hne
            have y1 : (y == 0) = false := by simpa using hne
            have y2 : decide ((p : Int) < 1) = false := by rw [decide_eq_false_iff_not]; omega
            have y3 : decide ((200 : Int) ≤ (p : Int)) = false := by rw [decide_eq_false_iff_not]; omega
            have y4 : (0 : Int) < j := by omega
            have y5 : (p : Int) < 200 := by omega
            rw [hp] at tp M7
            clear hpin hpt hp1 hne hy
            go_wp2
            go_roundw
            case rel => exact ⟨j + 1, _, by go_num, by omega, by rw [Htk.out]; exact HT'.out, M7.out⟩
            case measure => simp [intOf]; omega
        · have htk : L.take j = L := List.take_of_length_le (by rw [← HN.out]; omega)
          rw [htk] at hT
          have HT := Lib.hid hT
          have HM := Lib.hid hM
          clear htk hT hM
          go_wp2_with fail
          go_loopw [12] (fun i wr => ∃ k : Nat, i = .int .i64 k ∧ 1 ≤ k ∧ k ≤ 129 ∧ Marks Rep w b l A3 L g ts wr) (fun i _ => 129 - (intOf i).toNat)
          case atStart => exact ⟨1, rfl, Nat.le_refl _, by omega, HM.out⟩
          case round =>
            obtain ⟨k, rfl, hk1, hk, hM⟩ := hrel
            clear HM
            by_cases hk8 : (k : Int) ≤ 128
            · have hmk := HT.out.mark k (by omega)
              rw [Hin.out] at hmk
              have tk := fun (w' : World) (h : Marks Rep w b l A3 L g ts w') => (h.cell HT.out.len (show k < 200 by omega)).1
              obtain ⟨y, hy⟩ : ∃ y, y = ts.getD k 0 := ⟨_, rfl⟩
              rw [← hy] at hmk tk
              have Tk := Lib.hid tk
              have k2 : (k : Int) < 200 := by omega
              have hdr : Below wr.heap.size wr wr.drew := (Below.refl _ wr).drew
              have Mr := Lib.hid (hM.next O hdr)
              have C := Lib.hid (kinAbove O M r k Mr.out.rep Hg.out)
              have t0 := tk wr hM
              clear tk hdr hM hy
              cases hx : hasB (parL l (k : Int)) r with
              | true =>
                have hy0 : y ≠ 0 := hmk.2 (of_decide_eq_true hx)
                have y1 : (y == 0) = false := by simpa using hy0
                have y2 : (y != 0) = true := by simpa using hy0
                rw [hx] at C
                clear hx hmk hy0
                go_wp2_with fail
                refine wp_region_way (late := []) (S := fun w' => w'.cell? ⟨g, k, none⟩ = some (.int .i64 y)) (y := Way.takes [0, 1, 2, 3, 4, 5, 6, 7, 8, 9, 10] (.run 11 (Way.takes [12, 13] .fin))) (by kernel_rfl) (by kernel_rfl) rfl (by kernel_rfl) t0 (fun hHeld => ?_)
                simp only [Way.takes]
                (repeat (first | (refine way_skip (by simp only [List.getElem?_toArray, List.getElem?_cons_succ, List.getElem?_cons_zero]; rfl) (by rfl) hHeld ?_; (try simp only [Act.put, List.setIfInBounds_toArray, List.set_cons_zero, List.set_cons_succ])) | (refine way_pass (by simp only [List.getElem?_toArray, List.getElem?_cons_succ, List.getElem?_cons_zero]; rfl) (by rfl) hHeld ?_; (try simp only [Act.put, List.setIfInBounds_toArray, List.set_cons_zero, List.set_cons_succ])) | (refine way_take (v := ?_) (by simp only [List.getElem?_toArray, List.getElem?_cons_succ, List.getElem?_cons_zero]; rfl) (by rfl) ?_ hHeld ?_; rotate_left; (focus (intro w hSw; (try dsimp only at hSw); go_simp; (try with_reducible rfl); done)); (try simp only [Act.put, List.setIfInBounds_toArray, List.set_cons_zero, List.set_cons_succ]))))
                refine way_run (by simp only [List.getElem?_toArray, List.getElem?_cons_succ, List.getElem?_cons_zero]; rfl) (by rfl) (fun K hK => ?_)
                go_simp
                refine C.out.mono ?_
                rintro e w5 ⟨rfl, hb5⟩
                have M5 := Lib.hid (Mr.out.next O hb5)
                have t5 := Tk.out w5 M5.out
                go_simp
                refine hK.out _ _ t5 (fun hHeld => ?_)
                clear hK K hb5 C
                (try simp only [Act.put, List.setIfInBounds_toArray, List.set_cons_zero, List.set_cons_succ])
                (repeat (first | (refine way_skip (by simp only [List.getElem?_toArray, List.getElem?_cons_succ, List.getElem?_cons_zero]; rfl) (by rfl) hHeld ?_; (try simp only [Act.put, List.setIfInBounds_toArray, List.set_cons_zero, List.set_cons_succ])) | (refine way_pass (by simp only [List.getElem?_toArray, List.getElem?_cons_succ, List.getElem?_cons_zero]; rfl) (by rfl) hHeld ?_; (try simp only [Act.put, List.setIfInBounds_toArray, List.set_cons_zero, List.set_cons_succ])) | (refine way_take (v := ?_) (by simp only [List.getElem?_toArray, List.getElem?_cons_succ, List.getElem?_cons_zero]; rfl) (by rfl) ?_ hHeld ?_; rotate_left; (focus (intro w hSw; (try dsimp only at hSw); go_simp; (try with_reducible rfl); done)); (try simp only [Act.put, List.setIfInBounds_toArray, List.set_cons_zero, List.set_cons_succ]))))
                refine way_done ?_
                go_wp2
                go_roundw
                case rel => exact ⟨k + 1, by go_num, by omega, by omega, M5.out⟩
                case measure => simp [intOf]; omega
              | false =>
                have hy0 : y = 0 := Decidable.byContradiction fun hne => of_decide_eq_false hx (hmk.1 hne)
                subst hy0
                rw [hx] at C
                clear hx hmk
                go_wp2_with fail
                refine wp_region_way (late := []) (S := fun w' => w'.cell? ⟨g, k, none⟩ = some (.int .i64 0)) (y := Way.takes [0, 1, 2, 3, 4, 5, 6, 7, 8, 9, 10] (.run 11 (Way.takes [12, 13] .fin))) (by kernel_rfl) (by kernel_rfl) rfl (by kernel_rfl) t0 (fun hHeld => ?_)
                simp only [Way.takes]
                (repeat (first | (refine way_skip (by simp only [List.getElem?_toArray, List.getElem?_cons_succ, List.getElem?_cons_zero]; rfl) (by rfl) hHeld ?_; (try simp only [Act.put, List.setIfInBounds_toArray, List.set_cons_zero, List.set_cons_succ])) | (refine way_pass (by simp only [List.getElem?_toArray, List.getElem?_cons_succ, List.getElem?_cons_zero]; rfl) (by rfl) hHeld ?_; (try simp only [Act.put, List.setIfInBounds_toArray, List.set_cons_zero, List.set_cons_succ])) | (refine way_take (v := ?_) (by simp only [List.getElem?_toArray, List.getElem?_cons_succ, List.getElem?_cons_zero]; rfl) (by rfl) ?_ hHeld ?_; rotate_left; (focus (intro w hSw; (try dsimp only at hSw); go_simp; (try with_reducible rfl); done)); (try simp only [Act.put, List.setIfInBounds_toArray, List.set_cons_zero, List.set_cons_succ]))))
                refine way_run (by simp only [List.getElem?_toArray, List.getElem?_cons_succ, List.getElem?_cons_zero]; rfl) (by rfl) (fun K hK => ?_)
                go_simp
                refine C.out.mono ?_
                rintro e w5 ⟨rfl, hb5⟩
                have M5 := Lib.hid (Mr.out.next O hb5)
                have t5 := Tk.out w5 M5.out
                go_simp
                refine hK.out _ _ t5 (fun hHeld => ?_)
                clear hK K hb5 C
                (try simp only [Act.put, List.setIfInBounds_toArray, List.set_cons_zero, List.set_cons_succ])
                (repeat (first | (refine way_skip (by simp only [List.getElem?_toArray, List.getElem?_cons_succ, List.getElem?_cons_zero]; rfl) (by rfl) hHeld ?_; (try simp only [Act.put, List.setIfInBounds_toArray, List.set_cons_zero, List.set_cons_succ])) | (refine way_pass (by simp only [List.getElem?_toArray, List.getElem?_cons_succ, List.getElem?_cons_zero]; rfl) (by rfl) hHeld ?_; (try simp only [Act.put, List.setIfInBounds_toArray, List.set_cons_zero, List.set_cons_succ])) | (refine way_take (v := ?_) (by simp only [List.getElem?_toArray, List.getElem?_cons_succ, List.getElem?_cons_zero]; rfl) (by rfl) ?_ hHeld ?_; rotate_left; (focus (intro w hSw; (try dsimp only at hSw); go_simp; (try with_reducible rfl); done)); (try simp only [Act.put, List.setIfInBounds_toArray, List.set_cons_zero, List.set_cons_succ]))))
                refine way_done ?_
                go_wp2
                go_roundw
                case rel => exact ⟨k + 1, by go_num, by omega, by omega, M5.out⟩
                case measure => simp [intOf]; omega
            · go_wp2
              go_ret
              exact ⟨rfl, hM.below⟩
end
end Go.Proofs.Ytkafaceanlkjjaa
