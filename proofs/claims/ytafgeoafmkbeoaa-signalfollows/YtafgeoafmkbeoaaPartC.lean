/-
  What towncrierlaw11.SignalFollows does: it answers true.
  Arguments that came in, opened: lists of texts and of numbers. Facts of the program that every row's proof wants.
  Proved: the law answers true for every input, and each argument reads afterwards as it read before. No condition.
-/
import Derived.Test.YtafgeoafmkbeoaaPartB
import Derived.Deep.DeepCutAuto
import Derived.Deep.CutBlock
import Derived.Test.YtafgeoafmkbeoaaProg
import Derived.Test.YtafgeoafmkbeoaaChecked
import Derived.ProofKit
import Derived.OpenShut
import Derived.Test.YtafgeoafmkbeoaaRows
import Derived.ChangeOld

namespace Go.Proofs.Ytafgeoafmkbeoaa
open Go Go.RowKit

theorem Try.infoInts : (Try.prog.info? 30).map (fun i => (i.zero, i.size, i.bytes)) = some (some (.slice none 0 0), 1, 24) := by kernel_rfl
theorem Try.infoBool : (Try.prog.info? 4).map (fun i => (i.zero, i.size, i.bytes)) = some (some (.bool false), 1, 1) := by kernel_rfl

/-- The lists that the signals follow, in a row of the law's own. -/
structure Fols (w0 w : World) (lab : Nat → Nat) (A : Option Addr) (c : Nat) (B : List Sg) (fvs : List Value) : Prop where
  row : w.ownsRow w0.heap.size 30 1 (.slice A B.length c) B.length fvs
  zero : ∀ g, (Value.slice A B.length c).ownBlock = some g → lab g = 0
  each : ∀ i, i < B.length → ∃ Ai ci, fvs[i]? = some (.slice Ai (B.getD i Sg.zero).follows.length ci) ∧ ListIn w0 Ai ci (B.getD i Sg.zero).follows
section
variable {w0 w w' : World} {lab lab' : Nat → Nat} {A : Option Addr} {c : Nat} {B B' : List Sg} {fvs : List Value} {F : Nat → Prop}
theorem Fols.kept (h : Fols w0 w lab A c B fvs) (k : Keeps F w w') (hF : ∀ g, lab g = 0 → (Value.slice A B.length c).ownBlock = some g → ¬ F g) (hl : ∀ i, i < w.heap.size → lab' i = lab i) : Fols w0 w' lab' A c B fvs :=
  ⟨own_kept h.row k fun g hg => hF g (h.zero g hg) hg, fun g hg => by rw [hl g (own_in h.row g hg)]; exact h.zero g hg, h.each⟩
theorem Fols.same (h : Fols w0 w lab A c B fvs) (hl : B'.length = B.length) (hf : ∀ i, i < B.length → (B'.getD i Sg.zero).follows = (B.getD i Sg.zero).follows) : Fols w0 w lab A c B' fvs :=
  ⟨by rw [hl]; exact h.row, by rw [hl]; exact h.zero, fun i hi => by
    rw [hl] at hi
    rw [hf i hi]
    exact h.each i hi⟩
theorem Fols.below (h : Fols w0 w lab A c B fvs) (hb : Below w.heap.size w w') : Fols w0 w' lab A c B fvs := h.kept (Keeps.of_below (F := fun i => w.heap.size ≤ i) hb fun _ _ h => h) (fun g _ hg => Nat.not_le.2 (own_in h.row g hg)) fun _ _ => rfl
/-- One list of the row. -/
theorem Fols.at_ (h : Fols w0 w lab A c B fvs) {i : Nat} (hi : i < B.length) : ∃ g Ai ci, A = some ⟨g, 0, none⟩ ∧ w.cell? ⟨g, i, none⟩ = some (.slice Ai (B.getD i Sg.zero).follows.length ci) ∧ ListIn w0 Ai ci (B.getD i Sg.zero).follows := by
  obtain ⟨Ai, ci, h1, h2⟩ := h.each i hi
  rcases h.row.2 with ⟨_, h0⟩ | ⟨g, cap, cur, hv, _, hh, _⟩
  · omega
  obtain ⟨rfl, rfl⟩ : A = some ⟨g, 0, none⟩ ∧ c = cap := by injection hv with e1 _ e3; exact ⟨e1, e3⟩
  exact ⟨g, Ai, ci, rfl, by rw [h.row.cellAt i (by omega), h1], h2⟩
theorem Fols.push {w3 : World} {b g cap nl : Nat} {y : Sg} {Al : Option Addr} {cl : Nat} (hH : Hold w0 lab w b (B ++ [y])) (h : Fols w0 w lab A c B fvs) (ho : w3.ownsRow w0.heap.size 30 1 (.slice (some ⟨g, 0, none⟩) (B.length + 1) cap) (B.length + 1) (fvs ++ [.slice Al nl cl]))
    (hg : w.grownBy w3 (Value.slice A B.length c).ownBlock) (hat : (Value.slice A B.length c).ownBlock = some g ∨ g = w.heap.size) (hy : nl = y.follows.length) (hL : ListIn w0 Al cl y.follows) :
    Hold w0 lab w3 b (B ++ [y]) ∧ Fols w0 w3 lab (some ⟨g, 0, none⟩) cap (B ++ [y]) (fvs ++ [.slice Al nl cl]) := by
  have hk := Keeps.of_grown hg
  have hfl : fvs.length = B.length := by have := h.row.1; omega
  refine ⟨hH.keep hk (fun i hi e => hi (h.zero i e)) fun i e => (h.row.lt i e).1, ⟨by rw [List.length_append]; exact ho, fun g' hg' => ?_, fun i hi => ?_⟩⟩
  · obtain rfl : g = g' := by simpa [Value.ownBlock] using hg'
    rcases hat with h1 | h1
    · exact h.zero g h1
    · by_cases e : lab g = 0
      · exact e
      · have := hH.brd.low g e
        omega
  · rw [List.length_append] at hi
    simp only [List.length_cons, List.length_nil] at hi
    by_cases e : i < B.length
    · have e2 : (B ++ [y]).getD i Sg.zero = B.getD i Sg.zero := by rw [List.getD_eq_getElem?_getD, List.getElem?_append_left e, List.getD_eq_getElem?_getD]
      rw [e2, List.getElem?_append_left (by omega)]
      exact h.each i e
    · obtain rfl : i = B.length := by omega
      have e2 : (B ++ [y]).getD B.length Sg.zero = y := by rw [List.getD_eq_getElem?_getD, List.getElem?_append_right (Nat.le_refl _), Nat.sub_self]; rfl
      rw [e2]
      refine ⟨Al, cl, ?_, hL⟩
      rw [List.getElem?_append_right (by omega), hfl, Nat.sub_self, hy]
      rfl
end
theorem follows_gv {B : List Sg} {ws : List Int} {i : Nat} (hi : i < B.length) : ((gvL B ws).1.getD i Sg.zero).follows = (B.getD i Sg.zero).follows := by
  rw [← sg_m, ← sg_m, gv_follows (sThere_m hi)]

/-- Which of the first k signals are given. -/
def wasL (B : List Sg) (k : Nat) : List Value := (List.range k).map fun (t : Nat) => Value.bool (sGiven B ((t : Int) + 1))
theorem wasL_succ (B : List Sg) (k : Nat) : wasL B (k + 1) = wasL B k ++ [Value.bool (sGiven B ((k : Int) + 1))] := by
  unfold wasL
  rw [List.range_succ, List.map_append]
  rfl
theorem wasL_get {B : List Sg} {k t : Nat} (ht : t < k) : (wasL B k)[t]? = some (.bool (sGiven B ((t : Int) + 1))) := by
  unfold wasL
  rw [List.getElem?_map, List.getElem?_range ht]
  rfl
section
set_option maxHeartbeats 32000000 in
set_option maxRecDepth 100000 in
theorem signalFollows_any (A : Option Addr) (n c : Nat) (xs : List Cal) (w : World) (hn : xs.length = n) (_hm : n ≤ maxLen) (h : Cals w A xs) :
    Calls Try.prog 6 #[.slice A n c] w fun e w' => e = .returned (.bool true) ∧ Below w.heap.size w w' := by
  have hnot : ∀ (x : Bool) (w : World), (Op.unary .not (.bool x)).run Try.prog w = .ok (.bool (!x)) w := fun _ _ => rfl
  obtain ⟨i0, hi, hz0, hz1, hz2⟩ := info_parts Try.infoInts
  have Hi := Lib.hid hi
  have Hz0 := Lib.hid hz0
  have Hz1 := Lib.hid hz1
  have Hz2 := Lib.hid hz2
  obtain ⟨j0, qi, qz0, qz1, qz2⟩ := info_parts Try.infoBool
  have Qi := Lib.hid qi
  have Qz0 := Lib.hid qz0
  have Qz1 := Lib.hid qz1
  have Qz2 := Lib.hid qz2
  have H := Lib.hid h
  have Hn := Lib.hid hn
  clear h hn hi hz0 hz1 hz2 qi qz0 qz1 qz2
  go_enter Try.func6, Try.ntmps6
  go_wp2_with fail
  refine (awake11 w).mono ?_
  rintro e w1 ⟨rfl, hb1⟩
  have Hb1 := Lib.hid hb1
  clear hb1
  by_cases hbig : (300 : Int) < n
  · have zb : decide ((n : Int) > 300) = true := decide_eq_true (by omega)
    go_wp2
    go_ret
    exact ⟨rfl, Hb1.out⟩
  · have zb : decide ((n : Int) > 300) = false := decide_eq_false (by omega)
    have hn3 : n ≤ 300 := by omega
    clear hbig
    go_wp2_with fail
    refine (sNew w1).mono ?_
    rintro e w2 ⟨rfl, hB2, hb2⟩
    have hH2 := hold_new (w0 := w) Hb1.out (Nat.le_refl _) hB2 hb2
    obtain ⟨b, hb⟩ : ∃ b, b = w1.heap.size := ⟨_, rfl⟩
    obtain ⟨lab0, hlab0⟩ : ∃ lab0 : Nat → Nat, lab0 = fun i => if i = w1.heap.size then 1 else 0 := ⟨_, rfl⟩
    rw [← hlab0, ← hb] at hH2
    rw [← hb]
    have HH2 := Lib.hid hH2
    clear hB2 hb2 hH2 hlab0 hb Hb1
    go_wp2_with fail
    go_loopw [4, 5] (fun f i wr => ∃ (j : Nat) (lab : Nat → Nat) (B : List Sg) (fA : Option Addr) (fc : Nat) (fvs : List Value), f = .slice fA B.length fc ∧ i = .int .i64 j ∧ j ≤ n ∧ Hold w lab wr b B ∧ Fols w wr lab fA fc B fvs ∧ Closed B [] ∧ Elder B ∧ Short B ∧ sCount B ≤ j) (fun _ i _ => n - (intOf i).toNat)
    case atStart => exact ⟨0, lab0, [], none, 0, [], rfl, rfl, Nat.zero_le _, HH2.out, ⟨World.ownsRow_nil _ _ _ _, (fun g hg => by cases hg), fun i hi => absurd hi (Nat.not_lt_zero i)⟩, closed_nil, elder_nil, short_nil, Nat.le_refl _⟩
    case round =>
      obtain ⟨j, lab, B, fA, fc, fvs, rfl, rfl, hj, hH, hF, hC, hE, hSh, hcnt⟩ := hrel
      have HSh := Lib.hid hSh
      clear hSh
      have HH := Lib.hid hH
      have HF := Lib.hid hF
      have HC := Lib.hid hC
      have HE := Lib.hid hE
      have hfew := hH.brd.few
      clear HH2 hH hF hC hE
      by_cases hjn : (j : Int) < n
      · have hjl : j < xs.length := by rw [Hn.out]; exact Int.ofNat_lt.1 hjn
        obtain ⟨b', off, Al, cl, rfl, hB, hL, d0, d1, d2, d3⟩ := H.out j hjl
        obtain ⟨x, hx⟩ : ∃ x, x = xs[j] := ⟨_, rfl⟩
        rw [← hx] at hL d0 d1 d2 d3
        replace d0 := (HH.out.below.cell (p := ⟨b', _, none⟩) hB).trans d0
        replace d1 := (HH.out.below.cell (p := ⟨b', _, none⟩) hB).trans d1
        replace d2 := (HH.out.below.cell (p := ⟨b', _, none⟩) hB).trans d2
        replace d3 := (HH.out.below.cell (p := ⟨b', _, none⟩) hB).trans d3
        obtain ⟨kx, ax, bx, lx⟩ := x
        simp only at hL d0 d1 d2 d3
        obtain ⟨nl, hnl⟩ : ∃ nl, nl = lx.length := ⟨_, rfl⟩
        rw [← hnl] at d3
        have HL := Lib.hid hL
        have Hnl := Lib.hid hnl
        clear hx hjl hB hL hnl
        go_upto_region 11 with (fail)
        have hbA : Below wr.heap.size wr (wr.alloc (.cells #[.int .i64 kx, .int .i64 ax, .int .i64 bx, .slice Al nl cl] 32)) := (Below.refl _ wr).alloc (Nat.le_refl _) _
        have hX : Has (wr.alloc (.cells #[.int .i64 kx, .int .i64 ax, .int .i64 bx, .slice Al nl cl] 32)) wr.heap.size (.cells #[.int .i64 kx, .int .i64 ax, .int .i64 bx, .slice Al nl cl] 32 (0, 0)) := Has.fresh _ _
        have HX := Lib.hid hX
        have HH1 := Lib.hid (HH.out.next hbA)
        have HF1 := Lib.hid (HF.out.below hbA)
        have hl0 : lab wr.heap.size = 0 := by
          by_cases e : lab wr.heap.size = 0
          · exact e
          · exact absurd (HH.out.brd.low _ e) (Nat.lt_irrefl _)
        have HL0 := Lib.hid hl0
        obtain ⟨gb, hgb⟩ : ∃ gb, gb = wr.heap.size := ⟨_, rfl⟩
        obtain ⟨W, hW⟩ : ∃ W, W = (wr.alloc (.cells #[.int .i64 kx, .int .i64 ax, .int .i64 bx, .slice Al nl cl] 32)) := ⟨_, rfl⟩
        rw [← hW] at HX HH1 HF1
        rw [← hgb] at HX HL0
        rw [← hW, ← hgb]
        clear hbA hX hl0 hgb hW HH HF d0 d1 d2 d3
        have f0 : W.cell? ⟨gb, 0, none⟩ = some (.int .i64 kx) := HX.out.cell 0
        have f1 : W.cell? ⟨gb, 1, none⟩ = some (.int .i64 ax) := HX.out.cell 1
        have f3 : W.cell? ⟨gb, 3, none⟩ = some (.slice Al nl cl) := HX.out.cell 3
        by_cases hbg : 20 < nl
        · have zg : decide ((nl : Int) > 20) = true := decide_eq_true (by omega)
          clear hbg
          go_wp2
          go_ret
          exact ⟨rfl, HH1.out.below⟩
        · have zg : decide ((nl : Int) > 20) = false := decide_eq_false (by omega)
          have hn20 : nl ≤ 20 := by omega
          clear hbg
          by_cases hk0 : kx = 0
          · subst hk0
            have CM : Hid (Calls Try.prog 9 #[ptrTo b, .slice Al nl cl] W fun e w' => e = .returned (.tuple #[.int .i64 (smNo B lx), .int .i64 (smErr B lx)]) ∧ Brd' lab W b (smL B lx) w') := Lib.hid (by
              rw [Hnl.out]
              exact sMake lx Al cl HH1.out.brd (HL.out.below HH1.out.below) (by rw [← Hnl.out]; omega))
            have hC' := closed_make (fs := lx) HE.out HC.out
            have hE' := elder_make (fs := lx) HE.out
            have hc' := sCount_make (B := B) (fs := lx)
            have hs' := short_make (fs := lx) HSh.out (by rw [← Hnl.out]; omega)
            by_cases hok : lx.all (sThere B) = true ∧ B.length < 64
            · have eN : smNo B lx = (B.length : Int) + 1 := by unfold smNo; rw [if_pos hok.1, if_pos hok.2]
              have eE : smErr B lx = 0 := by unfold smErr; rw [if_pos hok.1, if_pos hok.2]
              have eL : smL B lx = B ++ [⟨lx.any (sGiven B), lx, []⟩] := by unfold smL; rw [if_pos hok.1, if_pos hok.2]
              rw [eN, eE, eL] at CM
              rw [eL] at hC' hE' hc' hs'
              obtain ⟨y, hy⟩ : ∃ y : Sg, y = ⟨lx.any (sGiven B), lx, []⟩ := ⟨_, rfl⟩
              rw [← hy] at CM hC' hE' hc' hs'
              have HSh' := Lib.hid hs'
              have hyf : lx = y.follows := by rw [hy]
              have HC' := Lib.hid hC'
              have HE' := Lib.hid hE'
              have Hc' := Lib.hid hc'
              have Hyf := Lib.hid hyf
              clear hC' hE' hc' hs' hok eN eE eL hy hyf
              go_wp2_with fail
              refine CM.out.mono ?_
              rintro e w3 ⟨rfl, hB3⟩
              obtain ⟨lab3, h3, hl3, hk3⟩ := HH1.out.turn hB3
              have hX3 := HX.out.kept hk3 (fun e => e HL0.out)
              have g3 : w3.cell? ⟨gb, 3, none⟩ = some (.slice Al nl cl) := hX3.cell 3
              have hF3 := HF1.out.kept hk3 (fun g hg _ e => e hg) hl3
              obtain ⟨W3, hW3⟩ : ∃ W3, W3 = w3.alloc (.cells #[.slice Al nl cl] 30) := ⟨_, rfl⟩
              have hb3 : Below w3.heap.size w3 W3 := by rw [hW3]; exact (Below.refl _ _).alloc (Nat.le_refl _) _
              have hlit : Has W3 w3.heap.size (.cells #[.slice Al nl cl] 30 (0, 0)) := by rw [hW3]; exact Has.fresh _ _
              have H3 := h3.next hb3
              have F3 := hF3.below hb3
              have HP := Lib.hid fun g cap w4 ho hg hat => F3.push (w3 := w4) (g := g) (cap := cap) (nl := nl) (Al := Al) (cl := cl) H3 ho hg hat (by rw [Hnl.out, Hyf.out]) (by rw [← Hyf.out]; exact HL.out)
              have Hown := Lib.hid F3.row
              have Hnews := Lib.hid (show ∀ j u, [Value.slice Al nl cl][j]? = some u → W3.cell? ((⟨w3.heap.size, 0, none⟩ : Addr).add j) = some u from World.news_of_block hlit)
              have HWs : Hid (w.heap.size ≤ W3.heap.size) := Lib.hid H3.below.size
              have HW3 := Lib.hid hW3
              rw [HW3.out] at HP Hown Hnews HWs
              clear hB3 h3 hl3 hk3 hX3 hF3 hb3 hlit H3 F3 hW3 HW3 HH1 HF1 f0 f1 f3 HX
              go_wp2_with (at_builtin; refine wpList_append_lies _ rfl (.tmp 54) (.tmp 57) 49 rfl w.heap.size 30 i0 _ 1 24 Try.underlying49 Hi.out Hz0.out Hz1.out Hz2.out rfl (by decide) (.slice fA B.length fc) B.length fvs rfl Hown.out _ 1 1 [.slice Al nl cl] rfl rfl Hnews.out (by intro u hu; obtain rfl := List.mem_singleton.1 hu; rfl) (by decide) (by unfold maxLen; omega) (by omega) HWs.out _ rfl ?_; intro g cap w4 ho4 hg4 hat4 _; obtain ⟨p1, p2⟩ := HP.out g cap w4 ho4 hg4 hat4; have P1 := Lib.hid p1; have P2 := Lib.hid p2; clear p1 p2 ho4 hg4 hat4)
              go_roundw
              case rel => exact ⟨j + 1, lab3, B ++ [y], some ⟨g, 0, none⟩, cap, fvs ++ [.slice Al nl cl], by rw [List.length_append]; rfl, by go_num, by omega, P1.out, P2.out, HC'.out, HE'.out, HSh'.out, by rw [Hc'.out]; omega⟩
              case measure => simp [intOf]; omega
            · have eL : smL B lx = B := by
                unfold smL
                by_cases h1 : lx.all (sThere B) = true
                · rw [if_pos h1, if_neg fun h2 => hok ⟨h1, h2⟩]
                · rw [if_neg h1]
              have eE : smErr B lx ≠ 0 := by
                unfold smErr
                by_cases h1 : lx.all (sThere B) = true
                · rw [if_pos h1, if_neg fun h2 => hok ⟨h1, h2⟩]
                  decide
                · rw [if_neg h1]
                  decide
              rw [eL] at CM
              obtain ⟨er, her⟩ : ∃ er, er = smErr B lx := ⟨_, rfl⟩
              rw [← her] at CM eE
              have ze : (er == 0) = false := by simpa using eE
              clear hC' hE' hc' hs' hok eL her eE
              go_wp2_with fail
              refine CM.out.mono ?_
              rintro e w3 ⟨rfl, hB3⟩
              obtain ⟨lab3, h3, hl3, hk3⟩ := HH1.out.turn hB3
              have hF3 := HF1.out.kept hk3 (fun g hg _ e => e hg) hl3
              have P1 := Lib.hid h3
              have P2 := Lib.hid hF3
              clear hB3 h3 hl3 hk3 hF3 HH1 HF1 f0 f1 f3 HX
              go_wp2
              go_roundw
              case rel => exact ⟨j + 1, lab3, B, fA, fc, fvs, rfl, by go_num, by omega, P1.out, P2.out, HC.out, HE.out, HSh.out, by omega⟩
              case measure => simp [intOf]; omega
          · have z0 : (kx == 0) = false := by simpa using hk0
            by_cases hk2 : kx = 2
            · subst hk2
              obtain ⟨nB, hnB⟩ : ∃ nB, nB = B.length := ⟨_, rfl⟩
              have hnB64 : nB ≤ 64 := by omega
              have HnB := Lib.hid hnB
              rw [← hnB]
              clear hnB z0 hk0
              go_wp2_with fail
              clear f0 f1 f3
              go_loopw [9, 10] (fun v q wx => ∃ (k : Nat) (vA : Option Addr) (vc : Nat), v = .slice vA k vc ∧ q = .int .i64 k ∧ k ≤ nB ∧ wx.ownsRow w.heap.size 4 1 (.slice vA k vc) k (wasL B k) ∧ (∀ g, (Value.slice vA k vc).ownBlock = some g → lab g = 0) ∧ Hold w lab wx b B ∧ Fols w wx lab fA fc B fvs ∧ Has wx gb (.cells #[.int .i64 2, .int .i64 ax, .int .i64 bx, .slice Al nl cl] 32 (0, 0))) (fun _ q _ => nB - (intOf q).toNat)
              case atStart => exact ⟨0, none, 0, rfl, rfl, Nat.zero_le _, World.ownsRow_nil _ _ _ _, (fun g hg => by cases hg), HH1.out, HF1.out, HX.out⟩
              case round =>
                obtain ⟨k, vA, vc, rfl, rfl, hk, hv, hv0, hH, hF, hXr⟩ := hrel
                clear HH1 HF1 HX
                have HV := Lib.hid hv
                have HV0 := Lib.hid hv0
                have HH := Lib.hid hH
                have HF := Lib.hid hF
                have HX := Lib.hid hXr
                clear hv hv0 hH hF hXr
                by_cases hkn : (k : Int) < nB
                · have HG := Lib.hid (sIsGiven ((k : Int) + 1) HH.out.brd)
                  obtain ⟨gk, hgk⟩ : ∃ gk, gk = sGiven B ((k : Int) + 1) := ⟨_, rfl⟩
                  rw [← hgk] at HG
                  obtain ⟨W3, hW3⟩ : ∃ W3, W3 = wr.alloc (.cells #[.bool gk] 4) := ⟨_, rfl⟩
                  have hb3 : Below wr.heap.size wr W3 := by rw [hW3]; exact (Below.refl _ _).alloc (Nat.le_refl _) _
                  have hlit : Has W3 wr.heap.size (.cells #[.bool gk] 4 (0, 0)) := by rw [hW3]; exact Has.fresh _ _
                  have H3 := HH.out.next hb3
                  have F3 := HF.out.below hb3
                  have X3 := HX.out.below hb3 HX.out.inside
                  have V3 := own_below HV.out hb3
                  have HP : Hid (∀ g cap w4, w4.ownsRow w.heap.size 4 1 (.slice (some ⟨g, 0, none⟩) (k + 1) cap) (k + 1) (wasL B k ++ [.bool gk]) → W3.grownBy w4 (Value.slice vA k vc).ownBlock → ((Value.slice vA k vc).ownBlock = some g ∨ g = W3.heap.size) →
                      Hid (w4.ownsRow w.heap.size 4 1 (.slice (some ⟨g, 0, none⟩) (k + 1) cap) (k + 1) (wasL B (k + 1)) ∧ (∀ g', (Value.slice (some ⟨g, 0, none⟩) (k + 1) cap).ownBlock = some g' → lab g' = 0) ∧ Hold w lab w4 b B ∧ Fols w w4 lab fA fc B fvs ∧ Has w4 gb (.cells #[.int .i64 2, .int .i64 ax, .int .i64 bx, .slice Al nl cl] 32 (0, 0)))) := Lib.hid fun g cap w4 ho hg hat => by
                    have hk4 := Keeps.of_grown hg
                    refine Lib.hid ⟨by rw [wasL_succ, ← hgk]; exact ho, fun g' hg' => ?_, H3.keep hk4 (fun i hi e => hi (HV0.out i e)) fun i e => (HV.out.lt i e).1, F3.kept hk4 (fun g _ hg e => own_apart2 F3.row V3 (by decide) g e hg) fun _ _ => rfl, X3.kept hk4 (own_apart V3 X3 (by decide))⟩
                    obtain rfl : g = g' := by simpa [Value.ownBlock] using hg'
                    rcases hat with h1 | h1
                    · exact HV0.out g h1
                    · by_cases e : lab g = 0
                      · exact e
                      · have := H3.brd.low g e
                        omega
                  have HV3 := Lib.hid V3
                  have Hnews := Lib.hid (show ∀ j u, [Value.bool gk][j]? = some u → W3.cell? ((⟨wr.heap.size, 0, none⟩ : Addr).add j) = some u from World.news_of_block hlit)
                  have HWs : Hid (w.heap.size ≤ W3.heap.size) := Lib.hid H3.below.size
                  have HW3 := Lib.hid hW3
                  rw [HW3.out] at HP HV3 Hnews HWs
                  clear hb3 hlit H3 F3 X3 V3 hW3 HW3 hgk HH HF HX HV HV0
                  go_wp2_with fail
                  refine HG.out.mono ?_
                  rintro e w5 ⟨rfl, rfl⟩
                  go_wp2_with (at_builtin; refine wpList_append_lies _ rfl (.tmp 67) (.tmp 72) 45 rfl w.heap.size 4 j0 _ 1 1 Try.underlying45 Qi.out Qz0.out Qz1.out Qz2.out rfl (by decide) (.slice vA k vc) k (wasL B k) rfl HV3.out _ 1 1 [.bool gk] rfl rfl Hnews.out (by intro u hu; obtain rfl := List.mem_singleton.1 hu; rfl) (by decide) (by unfold maxLen; omega) (by omega) HWs.out _ rfl ?_; intro g cap w4 ho4 hg4 hat4 _; have P := HP.out g cap w4 ho4 hg4 hat4; clear ho4 hg4 hat4)
                  go_roundw
                  case rel => exact ⟨k + 1, some ⟨g, 0, none⟩, cap, rfl, by go_num, by omega, P.out.1, P.out.2.1, P.out.2.2.1, P.out.2.2.2.1, P.out.2.2.2.2⟩
                  case measure => simp [intOf]; omega
                · obtain rfl : k = nB := by omega
                  have f1 : wr.cell? ⟨gb, 1, none⟩ = some (.int .i64 ax) := HX.out.cell 1
                  have CG := Lib.hid (sGive ax HH.out.brd (by omega))
                  obtain ⟨ok, hok⟩ : ∃ ok, ok = sFree B ax := ⟨_, rfl⟩
                  rw [← hok] at CG
                  go_wp2_with fail
                  refine CG.out.mono ?_
                  rintro e w5 ⟨A5, c5, rfl, -, -, hB5, hk5⟩
                  obtain ⟨B', hB'⟩ : ∃ B', B' = sgL B ax := ⟨_, rfl⟩
                  rw [← hB'] at hB5
                  have hl5 : B'.length = k := by rw [hB', sg_len, HnB.out]
                  have H5 := Lib.hid (HH.out.keeps hB5 hk5)
                  have F5 := Lib.hid ((HF.out.kept hk5 (fun g hg _ e => e hg) fun _ _ => rfl).same (B' := B') (by rw [hl5, HnB.out]) fun i hi => by rw [hB']; exact follows_gv hi)
                  have V5 := Lib.hid (own_kept HV.out hk5 fun g hg e => e (HV0.out g hg))
                  have X5 := Lib.hid (HX.out.kept hk5 fun e => e HL0.out)
                  have hfit : ∀ t : Nat, t < k → sGiven B' ((t : Int) + 1) = ((sGiven B ((t : Int) + 1) || (ok && decide ((t : Int) + 1 = ax))) || (B'.getD t Sg.zero).follows.any (sGiven B')) := fun t ht => by
                    have ht' : t < B.length := by rw [← HnB.out]; exact ht
                    have := give_fits HC.out (sThere_m ht') ax
                    rw [hB', hok]
                    show sGiven (gvL B [ax]).1 _ = _
                    rw [this, sg_m]
                    unfold sgL
                    rw [follows_gv ht']
                  have Hfit := Lib.hid hfit
                  have HC' : Hid (Closed B' []) := Lib.hid (by rw [hB']; exact closed_give HC.out [ax])
                  have HE' : Hid (Elder B') := Lib.hid (by rw [hB']; exact elder_give HE.out [ax])
                  have Hc' : Hid (sCount B' ≤ j) := Lib.hid (by
                    have := sCount_gv B [ax]
                    rw [hB']
                    show sCount (gvL B [ax]).1 ≤ j
                    omega)
                  have Hl5 := Lib.hid hl5
                  have HSh' : Hid (Short B') := Lib.hid (by rw [hB']; exact short_gv B [ax] HSh.out)
                  have e1 : w5.cell? ⟨gb, 1, none⟩ = some (.int .i64 ax) := X5.out.cell 1
                  clear hB5 hk5 hB' hl5 hfit hok HH HF HV HV0 HX CG f1 HC HE hkn hk
                  go_wp2_with fail
                  go_loopw [13] (fun q wx => ∃ t : Nat, q = .int .i64 t ∧ t ≤ k ∧ w5 = wx) (fun q _ => k - (intOf q).toNat)
                  case atStart => exact ⟨0, rfl, Nat.zero_le _, rfl⟩
                  case round =>
                    obtain ⟨t, rfl, ht, rfl⟩ := hrel
                    by_cases htk : (t : Int) < k
                    · have htB : t < B'.length := by rw [Hl5.out]; omega
                      obtain ⟨vg, rfl, cw⟩ : ∃ vg, vA = some ⟨vg, 0, none⟩ ∧ w5.cell? ⟨vg, t, none⟩ = some (.bool (sGiven B ((t : Int) + 1))) := by
                        have hr := V5.out
                        rcases hr.2 with ⟨_, h0⟩ | ⟨g, cap, cur, hv, _, _, _⟩
                        · omega
                        · obtain ⟨rfl, rfl⟩ : vA = some ⟨g, 0, none⟩ ∧ vc = cap := by injection hv with e1 _ e3; exact ⟨e1, e3⟩
                          exact ⟨g, rfl, by rw [hr.cellAt t (by omega), wasL_get (by omega)]⟩
                      obtain ⟨fg, Ai, ci, rfl, cf, hLf⟩ := F5.out.at_ htB
                      have hLf5 := hLf.below H5.out.below
                      have hft := Hfit.out t (by omega)
                      obtain ⟨fk, hfk⟩ : ∃ fk, fk = (B'.getD t Sg.zero).follows := ⟨_, rfl⟩
                      rw [← hfk] at cf hLf5 hft
                      obtain ⟨p, hp⟩ : ∃ p, p = sGiven B ((t : Int) + 1) := ⟨_, rfl⟩
                      rw [← hp] at cw hft
                      obtain ⟨P, hP⟩ : ∃ P, P = (p || (ok && decide ((t : Int) + 1 = ax))) := ⟨_, rfl⟩
                      rw [← hP] at hft
                      have hfk1 := short_at HSh'.out htB
                      rw [← hfk] at hfk1
                      obtain ⟨nf, hnf⟩ : ∃ nf, nf = fk.length := ⟨_, rfl⟩
                      rw [← hnf] at hfk1
                      rw [← hnf] at cf
                      have Hnf := Lib.hid hnf
                      have Hft := Lib.hid hft
                      have HLf := Lib.hid hLf5
                      have HP := Lib.hid hP
                      clear hnf hft hLf5 hP hfk hp hLf htB
                      have htk' : (t : Int) < k := htk
                      go_upto_region 30 with (fail)
                      go_cut [14] (fun tt wx => tt = .bool P ∧ w5 = wx)
                      case first =>
                        by_cases hta : (t : Int) + 1 = ax
                        · have zt : ((t : Int) + 1 == ax) = true := by simpa using hta
                          have zd : decide ((t : Int) + 1 = ax) = true := decide_eq_true hta
                          have hP' : P = (p || ok) := by rw [HP.out, zd, Bool.and_true]
                          have HP' := Lib.hid hP'
                          clear hP' hta zd
                          cases p <;> cases ok
                          all_goals
                            have hPv := HP'.out
                            first | rw [Bool.or_true] at hPv | rw [Bool.or_false] at hPv
                            subst hPv
                            go_wp2
                            go_meet
                            exact ⟨rfl, rfl⟩
                        · have zt : ((t : Int) + 1 == ax) = false := by simpa using hta
                          have zd : decide ((t : Int) + 1 = ax) = false := decide_eq_false hta
                          have hP' : P = p := by rw [HP.out, zd, Bool.and_false, Bool.or_false]
                          have HP' := Lib.hid hP'
                          clear hP' hta zd
                          cases p <;> cases ok
                          all_goals
                            have hPv := HP'.out
                            subst hPv
                            go_wp2
                            go_meet
                            exact ⟨rfl, rfl⟩
                      case rest =>
                        obtain ⟨rfl, rfl⟩ := hcut
                        clear cw e1 HP
                        go_wp2_with fail
                        go_loopw [14, 15] (fun tt q wx => ∃ jj : Nat, tt = .bool (P || (fk.take jj).any (sGiven B')) ∧ q = .int .i64 jj ∧ jj ≤ nf ∧ w5 = wx) (fun _ q _ => nf - (intOf q).toNat)
                        case atStart => exact ⟨0, by simp, rfl, Nat.zero_le _, rfl⟩
                        case round =>
                          obtain ⟨jj, rfl, rfl, hjj, rfl⟩ := hrel
                          by_cases hjf : (jj : Int) < nf
                          · have hjk : jj < fk.length := by rw [← Hnf.out]; omega
                            obtain ⟨bk, offk, rfl, -, ck⟩ := HLf.out.nums jj hjk
                            have hat := any_take (B := B') hjk
                            obtain ⟨y, hy⟩ : ∃ y, y = fk[jj] := ⟨_, rfl⟩
                            rw [← hy] at ck hat
                            have HG := Lib.hid (sIsGiven y H5.out.brd)
                            have Hat := Lib.hid hat
                            clear hat hy hjk
                            cases hq : (P || (fk.take jj).any (sGiven B')) with
                            | true =>
                              have hq' : (P || (fk.take (jj + 1)).any (sGiven B')) = true := by rw [Hat.out, ← Bool.or_assoc, hq, Bool.true_or]
                              have Hq := Lib.hid hq'
                              clear hq hq' HG
                              go_wp2
                              go_roundw
                              case rel => exact ⟨jj + 1, by rw [Hq.out], by go_num, by omega, trivial⟩
                              case measure => simp [intOf]; omega
                            | false =>
                              have hq' : (P || (fk.take (jj + 1)).any (sGiven B')) = sGiven B' y := by rw [Hat.out, ← Bool.or_assoc, hq, Bool.false_or]
                              have Hq := Lib.hid hq'
                              clear hq hq'
                              go_wp2_with fail
                              refine HG.out.mono ?_
                              rintro e w6 ⟨rfl, rfl⟩
                              go_wp2
                              go_roundw
                              case rel => exact ⟨jj + 1, by rw [Hq.out], by go_num, by omega, trivial⟩
                              case measure => simp [intOf]; omega
                          · have htl : fk.take jj = fk := List.take_of_length_le (by rw [← Hnf.out]; omega)
                            rw [htl, ← Hft.out]
                            have HG := Lib.hid (sIsGiven ((t : Int) + 1) H5.out.brd)
                            clear htl
                            go_wp2_with fail
                            refine HG.out.mono ?_
                            rintro e w6 ⟨rfl, rfl⟩
                            go_wp2
                            go_roundw
                            case rel => exact ⟨t + 1, by go_num, by omega, trivial⟩
                            case measure => simp [intOf]; omega
                    · go_wp2
                      go_roundw
                      case rel => exact ⟨j + 1, lab, B', fA, fc, fvs, by rw [Hl5.out], by go_num, by omega, H5.out, F5.out, HC'.out, HE'.out, HSh'.out, by have := Hc'.out; omega⟩
                      case measure => simp [intOf]; omega
            · have z2 : (kx == 2) = false := by simpa using hk2
              clear hk0 hk2
              go_wp2
              go_roundw
              case rel => exact ⟨j + 1, lab, B, fA, fc, fvs, rfl, by go_num, by omega, HH1.out, HF1.out, HC.out, HE.out, HSh.out, by omega⟩
              case measure => simp [intOf]; omega
      · have HB := Lib.hid HH.out.below
        have HLn := Lib.hid (sLen HH.out.brd)
        clear HC HE
        go_wp2_with fail
        refine HLn.out.mono ?_
        rintro e w3 ⟨rfl, rfl⟩
        go_wp2
        go_ret
        exact ⟨rfl, HB.out⟩
end
end Go.Proofs.Ytafgeoafmkbeoaa

namespace Go.Proofs.Ytafgeoafmkbeoaa
open Go.ChangeShapes Go.WideShapes Go.ChangeAt Go.RowKit

theorem own : ownKnob Try.prog.godebug = none := by kernel_rfl
theorem laidOut : laidOutB Try.prog = true := by kernel_rfl
theorem ib {a : Int} (h : (Lit.int .i64 a).wf = true) : -9223372036854775808 ≤ a ∧ a ≤ 9223372036854775807 := by
  have h1 : IntKind.i64.min = -9223372036854775808 := rfl
  have h2 : IntKind.i64.max = 9223372036854775807 := rfl
  simp only [Lit.wf, Bool.and_eq_true, decide_eq_true_eq, h1, h2] at h
  exact h
theorem ib8 {a : Int} (h : (Lit.int .u8 a).wf = true) : 0 ≤ a ∧ a ≤ 255 := by
  have h1 : IntKind.u8.min = 0 := rfl
  have h2 : IntKind.u8.max = 255 := rfl
  simp only [Lit.wf, Bool.and_eq_true, decide_eq_true_eq, h1, h2] at h
  exact h
theorem ib16 {a : Int} (h : (Lit.int .u16 a).wf = true) : 0 ≤ a ∧ a ≤ 65535 := by
  have h1 : IntKind.u16.min = 0 := rfl
  have h2 : IntKind.u16.max = 65535 := rfl
  simp only [Lit.wf, Bool.and_eq_true, decide_eq_true_eq, h1, h2] at h
  exact h
end Go.Proofs.Ytafgeoafmkbeoaa

namespace Go.Proofs.Ytafgeoafmkbeoaa
open Go.ChangeShapes Go.WideShapes Go.ChangeAt Go.RowKit
open Go.ChangeMaps (open_string shut_string)

set_option maxRecDepth 100000 in
theorem signalFollows_lifted (os : Os) (started : os.Started) (H : Type) (enc : TypeId × Value → H) :
    ReturnsInHanded {} Try.checked os 6 .any (Rows.signalFollowsSpec.pre6 enc Try.prog Try.f6 Rows.signalFollowsRow.domain false) (Rows.signalFollowsSpec.post enc Try.prog Try.f6 false true false false) := by
  refine returnsInHanded_of_change (C := Try.checked) own started (by kernel_rfl) Try.func6
    (ChangeSpec.witness6 (enc := enc) (C := Try.checked) false ⟨#[], #[.slice none 0 0], []⟩ 8 (by kernel_rfl) (by kernel_rfl) (by kernel_rfl) (by kernel_rfl)) ?_
  intro W base args ds gs before hval0 hW hcnd _
  have hval : ∀ (j : Nat) t v, Try.f6.params[j]? = some t → args[j]? = some v → Value.okWide Try.prog W .any base t v := hval0
  clear hval0 hcnd
  have hW' := hW
  obtain ⟨p, q, hA0, hV, rfl, hfz, hnd⟩ := hW
  have hA : DataW.TrodAll enc Try.prog W 0 (fun _ => true) true Try.f6.params.toList args.toList ds p := hA0
  rw [Try.params6] at hA hval
  obtain ⟨v0, vs0, d0, ds0, p0, q0, hargs, rfl, rfl, h0, r0⟩ := trodAll_cons hA
  obtain ⟨rfl, rfl, rfl⟩ := trodAll_nil r0
  obtain rfl : args = #[v0] := by cases args; simp_all
  obtain ⟨rfl, rfl⟩ := trodVars_none hV
  obtain ⟨A0, n0, c0, rfl⟩ := okWide_slice Try.underlying22 (hval 0 22 v0 rfl rfl)
  have k0 := h0
  have lt0 : ∀ x ∈ p0, x.block < W.heap.size := by obtain ⟨m, hm⟩ := k0; exact DataW.trod_lt m _ _ _ hm
  obtain ⟨x0, l0, y0, z0, q0x⟩ : ∃ xs : List Cal, xs.length = n0 ∧ Cals W A0 xs ∧ n0 ≤ c0 ∧ n0 ≤ maxLen := by
    obtain ⟨fuel, hf⟩ := h0
    exact cals_in hf
  clear hA0
  refine (signalFollows_any A0 n0 c0 x0 W l0 q0x y0).mono fun e W' ⟨he, bel⟩ => ?_
  subst he
  exact ⟨_, rfl, _, _, _, [], _, [], hW', trodAll_mk1 (shut_bool Try.underlying4 _), (trodAll_cons_mk (Below.trod laidOut (by kernel_rfl) (of_decide_eq_true (by kernel_rfl)) k0 bel lt0) trodAll_mk0), rfl, bel.frame _, fun h => by cases h⟩

theorem signalFollows_holds : Rows.SignalFollowsSaid :=
  OpenClaim.holds_of_wide 6 Try.f6 rfl rfl rfl rfl rfl rfl rfl ⟨rfl, rfl, rfl, rfl, rfl⟩ rfl rfl rfl rfl rfl (by kernel_rfl) Try.func6 (by kernel_rfl)
    (of_decide_eq_true (by kernel_rfl)) (by unfold Func.isWrapper; rw [if_neg (by decide +kernel)]; exact ⟨rfl, rfl⟩)
    (fun os started H enc _ => signalFollows_lifted os started H enc)
end Go.Proofs.Ytafgeoafmkbeoaa
