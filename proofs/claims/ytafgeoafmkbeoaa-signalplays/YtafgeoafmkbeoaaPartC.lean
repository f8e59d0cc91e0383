/-
  What towncrierlaw11.SignalFollows does: it answers true.
  The document's board in memory (towncrierref11.Board); what There and Given do.
  What the document's Make does (towncrierref11.Board).
  What the document's Add does (towncrierref11.Board).
  What the document's Give does (towncrierref11.Board): of those that wait the last one is given; what follows it waits.
-/
import Derived.Test.YtafgeoafmkbeoaaPartB
import Derived.Deep.DeepCutAuto
import Derived.Deep.CutBlock

namespace Go.Proofs.Ytafgeoafmkbeoaa
open Go Go.RowKit

theorem Try.infoInts : (Try.prog.info? 30).map (fun i => (i.zero, i.size, i.bytes)) = some (some (.slice none 0 0), 1, 24) := by kernel_rfl
theorem Try.infoBool : (Try.prog.info? 4).map (fun i => (i.zero, i.size, i.bytes)) = some (some (.bool false), 1, 1) := by kernel_rfl

/-- The lists that the signals follow, in a row of the law's own. -/
structure Fols (w0 w : World) (lab : Nat → Nat) (A : Option Addr) (c : Nat) (B : List Sg) (fvs : List Value) : Prop where
  row : w.ownsRow w0.heap.size 30 1 (.slice A B.length c) B.length fvs
  zero : ∀ g, (Value.slice A B.length c).ownBlock = some g → lab g = 0
  each : ∀ i, i < B.length → ∃ Ai ci, fvs[i]? = some (.slice Ai (B.getD i Sg.zero).follows.length ci) ∧ ListIn w0 Ai ci (B.getD i Sg.zero).follows
section
variable {w0 w w' : World} {lab lab' : Nat → Nat} {A : Option Addr} {c : Nat} {B B' : List Sg} {fvs : List Value} {F : Nat → Prop}
theorem Fols.kept (h : Fols w0 w lab A c B fvs) (k : Keeps F w w') (hF : ∀ g, lab g = 0 → (Value.slice A B.length c).ownBlock = some g → ¬ F g) (hl : ∀ i, i < w.heap.size → lab' i = lab i) : Fols w0 w' lab' A c B fvs :=
  ⟨own_kept h.row k fun g hg => hF g (h.zero g hg) hg, fun g hg => by rw [hl g (own_in h.row g hg)]; exact h.zero g hg, h.each⟩
theorem Fols.same (h : Fols w0 w lab A c B fvs) (hl : B'.length = B.length) (hf : ∀ i, i < B.length → (B'.getD i Sg.zero).follows = (B.getD i Sg.zero).follows) : Fols w0 w lab A c B' fvs :=
  ⟨by rw [hl]; exact h.row, by rw [hl]; exact h.zero, fun i hi => by
    rw [hl] at hi
    rw [hf i hi]
    exact h.each i hi⟩
theorem Fols.below (h : Fols w0 w lab A c B fvs) (hb : Below w.heap.size w w') : Fols w0 w' lab A c B fvs := h.kept (Keeps.of_below (F := fun i => w.heap.size ≤ i) hb fun _ _ h => h) (fun g _ hg => Nat.not_le.2 (own_in h.row g hg)) fun _ _ => rfl
/-- One list of the row. -/
theorem Fols.at_ (h : Fols w0 w lab A c B fvs) {i : Nat} (hi : i < B.length) : ∃ g Ai ci, A = some ⟨g, 0, none⟩ ∧ w.cell? ⟨g, i, none⟩ = some (.slice Ai (B.getD i Sg.zero).follows.length ci) ∧ ListIn w0 Ai ci (B.getD i Sg.zero).follows := by
  obtain ⟨Ai, ci, h1, h2⟩ := h.each i hi
  rcases h.row.2 with ⟨_, h0⟩ | ⟨g, cap, cur, hv, _, hh, _⟩
  · omega
  obtain ⟨rfl, rfl⟩ : A = some ⟨g, 0, none⟩ ∧ c = cap := by injection hv with e1 _ e3; exact ⟨e1, e3⟩
  exact ⟨g, Ai, ci, rfl, by rw [h.row.cellAt i (by omega), h1], h2⟩
theorem Fols.push {w3 : World} {b g cap nl : Nat} {y : Sg} {Al : Option Addr} {cl : Nat} (hH : Hold w0 lab w b (B ++ [y])) (h : Fols w0 w lab A c B fvs) (ho : w3.ownsRow w0.heap.size 30 1 (.slice (some ⟨g, 0, none⟩) (B.length + 1) cap) (B.length + 1) (fvs ++ [.slice Al nl cl]))
    (hg : w.grownBy w3 (Value.slice A B.length c).ownBlock) (hat : (Value.slice A B.length c).ownBlock = some g ∨ g = w.heap.size) (hy : nl = y.follows.length) (hL : ListIn w0 Al cl y.follows) :
    Hold w0 lab w3 b (B ++ [y]) ∧ Fols w0 w3 lab (some ⟨g, 0, none⟩) cap (B ++ [y]) (fvs ++ [.slice Al nl cl]) := by
  have hk := Keeps.of_grown hg
  have hfl : fvs.length = B.length := by have := h.row.1; omega
  refine ⟨hH.keep hk (fun i hi e => hi (h.zero i e)) fun i e => (h.row.lt i e).1, ⟨by rw [List.length_append]; exact ho, fun g' hg' => ?_, fun i hi => ?_⟩⟩
  · obtain rfl : g = g' := by simpa [Value.ownBlock] using hg'
    rcases hat with h1 | h1
    · exact h.zero g h1
    · by_cases e : lab g = 0
      · exact e
      · have := hH.brd.low g e
        omega
  · rw [List.length_append] at hi
    simp only [List.length_cons, List.length_nil] at hi
    by_cases e : i < B.length
    · have e2 : (B ++ [y]).getD i Sg.zero = B.getD i Sg.zero := by rw [List.getD_eq_getElem?_getD, List.getElem?_append_left e, List.getD_eq_getElem?_getD]
      rw [e2, List.getElem?_append_left (by omega)]
      exact h.each i e
    · obtain rfl : i = B.length := by omega
      have e2 : (B ++ [y]).getD B.length Sg.zero = y := by rw [List.getD_eq_getElem?_getD, List.getElem?_append_right (Nat.le_refl _), Nat.sub_self]; rfl
      rw [e2]
      refine ⟨Al, cl, ?_, hL⟩
      rw [List.getElem?_append_right (by omega), hfl, Nat.sub_self, hy]
      rfl
end
theorem follows_gv {B : List Sg} {ws : List Int} {i : Nat} (hi : i < B.length) : ((gvL B ws).1.getD i Sg.zero).follows = (B.getD i Sg.zero).follows := by
  rw [← sg_m, ← sg_m, gv_follows (sThere_m hi)]

/-- Which of the first k signals are given. -/
def wasL (B : List Sg) (k : Nat) : List Value := (List.range k).map fun (t : Nat) => Value.bool (sGiven B ((t : Int) + 1))
theorem wasL_succ (B : List Sg) (k : Nat) : wasL B (k + 1) = wasL B k ++ [Value.bool (sGiven B ((k : Int) + 1))] := by
  unfold wasL
  rw [List.range_succ, List.map_append]
  rfl
theorem wasL_get {B : List Sg} {k t : Nat} (ht : t < k) : (wasL B k)[t]? = some (.bool (sGiven B ((t : Int) + 1))) := by
  unfold wasL
  rw [List.getElem?_map, List.getElem?_range ht]
  rfl
section
set_option maxHeartbeats 32000000 in
set_option maxRecDepth 100000 in
theorem signalFollows_any (A : Option Addr) (n c : Nat) (xs : List Cal) (w : World) (hn : xs.length = n) (_hm : n ≤ maxLen) (h : Cals w A xs) :
    Calls Try.prog 6 #[.slice A n c] w fun e w' => e = .returned (.bool true) ∧ Below w.heap.size w w' := by
  have hnot : ∀ (x : Bool) (w : World), (Op.unary .not (.bool x)).run Try.prog w = .ok (.bool (!x)) w := fun _ _ => rfl
  obtain ⟨i0, hi, hz0, hz1, hz2⟩ := info_parts Try.infoInts
  have Hi := Lib.hid hi
  have Hz0 := Lib.hid hz0
  have Hz1 := Lib.hid hz1
  have Hz2 := Lib.hid hz2
  obtain ⟨j0, qi, qz0, qz1, qz2⟩ := info_parts Try.infoBool
  have Qi := Lib.hid qi
  have Qz0 := Lib.hid qz0
  have Qz1 := Lib.hid qz1
  have Qz2 := Lib.hid qz2
  have H := Lib.hid h
  have Hn := Lib.hid hn
  clear h hn hi hz0 hz1 hz2 qi qz0 qz1 qz2
  go_enter Try.func6, Try.ntmps6
  go_wp2_with fail
  refine (awake11 w).mono ?_
  rintro e w1 ⟨rfl, hb1⟩
  have Hb1 := Lib.hid hb1
  clear hb1
  by_cases hbig : (300 : Int) < n
  · have zb : decide ((n : Int) > 300) = true := decide_eq_true (by omega)
    go_wp2
    go_ret
    exact ⟨rfl, Hb1.out⟩
  · have zb : decide ((n : Int) > 300) = false := decide_eq_false (by omega)
    have hn3 : n ≤ 300 := by omega
    clear hbig
    go_wp2_with fail
    refine (sNew w1).mono ?_
    rintro e w2 ⟨rfl, hB2, hb2⟩
    have hH2 := hold_new (w0 := w) Hb1.out (Nat.le_refl _) hB2 hb2
    obtain ⟨b, hb⟩ : ∃ b, b = w1.heap.size := ⟨_, rfl⟩
    obtain ⟨lab0, hlab0⟩ : ∃ lab0 : Nat → Nat, lab0 = fun i => if i = w1.heap.size then 1 else 0 := ⟨_, rfl⟩
    rw [← hlab0, ← hb] at hH2
    rw [← hb]
    have HH2 := Lib.hid hH2
    clear hB2 hb2 hH2 hlab0 hb Hb1
    go_wp2_with fail
    go_loopw [4, 5] (fun f i wr => ∃ (j : Nat) (lab : Nat → Nat) (B : List Sg) (fA : Option Addr) (fc : Nat) (fvs : List Value), f = .slice fA B.length fc ∧ i = .int .i64 j ∧ j ≤ n ∧ Hold w lab wr b B ∧ Fols w wr lab fA fc B fvs ∧ Closed B [] ∧ Elder B ∧ Short B ∧ sCount B ≤ j) (fun _ i _ => n - (intOf i).toNat)
    case atStart => exact ⟨0, lab0, [], none, 0, [], rfl, rfl, Nat.zero_le _, HH2.out, ⟨World.ownsRow_nil _ _ _ _, (fun g hg => by cases hg), fun i hi => absurd hi (Nat.not_lt_zero i)⟩, closed_nil, elder_nil, short_nil, Nat.le_refl _⟩
    case round =>
      obtain ⟨j, lab, B, fA, fc, fvs, rfl, rfl, hj, hH, hF, hC, hE, hSh, hcnt⟩ := hrel
      have HSh := Lib.hid hSh
      clear hSh
      have HH := Lib.hid hH
      have HF := Lib.hid hF
      have HC := Lib.hid hC
      have HE := Lib.hid hE
      have hfew := hH.brd.few
      clear HH2 hH hF hC hE
      by_cases hjn : (j : Int) < n
      · have hjl : j < xs.length := by rw [Hn.out]; exact Int.ofNat_lt.1 hjn
        obtain ⟨b', off, Al, cl, rfl, hB, hL, d0, d1, d2, d3⟩ := H.out j hjl
        obtain ⟨x, hx⟩ : ∃ x, x = xs[j] := ⟨_, rfl⟩
        rw [← hx] at hL d0 d1 d2 d3
        replace d0 := (HH.out.below.cell (p := ⟨b', _, none⟩) hB).trans d0
        replace d1 := (HH.out.below.cell (p := ⟨b', _, none⟩) hB).trans d1
        replace d2 := (HH.out.below.cell (p := ⟨b', _, none⟩) hB).trans d2
        replace d3 := (HH.out.below.cell (p := ⟨b', _, none⟩) hB).trans d3
        obtain ⟨kx, ax, bx, lx⟩ := x
        simp only at hL d0 d1 d2 d3
        obtain ⟨nl, hnl⟩ : ∃ nl, nl = lx.length := ⟨_, rfl⟩
        rw [← hnl] at d3
        have HL := Lib.hid hL
        have Hnl := Lib.hid hnl
        clear hx hjl hB hL hnl
        go_upto_region 11 with (fail)
        have hbA : Below wr.heap.size wr (wr.alloc (.cells #[.int .i64 kx, .int .i64 ax, .int .i64 bx, .slice Al nl cl] 32)) := (Below.refl _ wr).alloc (Nat.le_refl _) _
        have hX : Has (wr.alloc (.cells #[.int .i64 kx, .int .i64 ax, .int .i64 bx, .slice Al nl cl] 32)) wr.heap.size (.cells #[.int .i64 kx, .int .i64 ax, .int .i64 bx, .slice Al nl cl] 32 (0, 0)) := Has.fresh _ _
        have HX := Lib.hid hX
        have HH1 := Lib.hid (HH.out.next hbA)
        have HF1 := Lib.hid (HF.out.below hbA)
        have hl0 : lab wr.heap.size = 0 := by
          by_cases e : lab wr.heap.size = 0
          · exact e
          · exact absurd (HH.out.brd.low _ e) (Nat.lt_irrefl _)
        have HL0 := Lib.hid hl0
        obtain ⟨gb, hgb⟩ : ∃ gb, gb = wr.heap.size := ⟨_, rfl⟩
        obtain ⟨W, hW⟩ : ∃ W, W = (wr.alloc (.cells #[.int .i64 kx, .int .i64 ax, .int .i64 bx, .slice Al nl cl] 32)) := ⟨_, rfl⟩
        rw [← hW] at HX HH1 HF1
        rw [← hgb] at HX HL0
        rw [← hW, ← hgb]
        clear hbA hX hl0 hgb hW HH HF d0 d1 d2 d3
        have f0 : W.cell? ⟨gb, 0, none⟩ = some (.int .i64 kx) := HX.out.cell 0
        have f1 : W.cell? ⟨gb, 1, none⟩ = some (.int .i64 ax) := HX.out.cell 1
        have f3 : W.cell? ⟨gb, 3, none⟩ = some (.slice Al nl cl) := HX.out.cell 3
        by_cases hbg : 20 < nl
        · have zg : decide ((nl : Int) > 20) = true := decide_eq_true (by omega)
          clear hbg
          go_wp2
          go_ret
          exact ⟨rfl, HH1.out.below⟩
        · have zg : decide ((nl : Int) > 20) = false := decide_eq_false (by omega)
          have hn20 : nl ≤ 20 := by omega
          clear hbg
          by_cases hk0 : kx = 0
          · subst hk0
            have CM : Hid (Calls Try.prog 9 #[ptrTo b, .slice Al nl cl] W fun e w' => e = .returned (.tuple #[.int .i64 (smNo B lx), .int .i64 (smErr B lx)]) ∧ Brd' lab W b (smL B lx) w') := Lib.hid (by
              rw [Hnl.out]
              exact sMake lx Al cl HH1.out.brd (HL.out.below HH1.out.below) (by rw [← Hnl.out]; omega))
            have hC' := closed_make (fs := lx) HE.out HC.out
            have hE' := elder_make (fs := lx) HE.out
            have hc' := sCount_make (B := B) (fs := lx)
            have hs' := short_make (fs := lx) HSh.out (by rw [← Hnl.out]; omega)
            by_cases hok : lx.all (sThere B) = true ∧ B.length < 64
            · have eN : smNo B lx = (B.length : Int) + 1 := by unfold smNo; rw [if_pos hok.1, if_pos hok.2]
              have eE : smErr B lx = 0 := by unfold smErr; rw [if_pos hok.1, if_pos hok.2]
              have eL : smL B lx = B ++ [⟨lx.any (sGiven B), lx, []⟩] := by unfold smL; rw [if_pos hok.1, if_pos hok.2]
              rw [eN, eE, eL] at CM
              rw [eL] at hC' hE' hc' hs'
              obtain ⟨y, hy⟩ : ∃ y : Sg, y = ⟨lx.any (sGiven B), lx, []⟩ := ⟨_, rfl⟩
              rw [← hy] at CM hC' hE' hc' hs'
              have HSh' := Lib.hid hs'
              have hyf : lx = y.follows := by rw [hy]
              have HC' := Lib.hid hC'
              have HE' := Lib.hid hE'
              have Hc' := Lib.hid hc'
              have Hyf := Lib.hid hyf
              clear hC' hE' hc' hs' hok eN eE eL hy hyf
              go_wp2_with fail
              refine CM.out.mono ?_
              rintro e w3 ⟨rfl, hB3⟩
              obtain ⟨lab3, h3, hl3, hk3⟩ := HH1.out.turn hB3
              have hX3 := HX.out.kept hk3 (fun e => e HL0.out)
              have g3 : w3.cell? ⟨gb, 3, none⟩ = some (.slice Al nl cl) := hX3.cell 3
              have hF3 := HF1.out.kept hk3 (fun g hg _ e => e hg) hl3
              obtain ⟨W3, hW3⟩ : ∃ W3, W3 = w3.alloc (.cells #[.slice Al nl cl] 30) := ⟨_, rfl⟩
              have hb3 : Below w3.heap.size w3 W3 := by rw [hW3]; exact (Below.refl _ _).alloc (Nat.le_refl _) _
              have hlit : Has W3 w3.heap.size (.cells #[.slice Al nl cl] 30 (0, 0)) := by rw [hW3]; exact Has.fresh _ _
              have H3 := h3.next hb3
              have F3 := hF3.below hb3
              have HP := Lib.hid fun g cap w4 ho hg hat => F3.push (w3 := w4) (g := g) (cap := cap) (nl := nl) (Al := Al) (cl := cl) H3 ho hg hat (by rw [Hnl.out, Hyf.out]) (by rw [← Hyf.out]; exact HL.out)
              have Hown := Lib.hid F3.row
              have Hnews := Lib.hid (show ∀ j u, [Value.slice Al nl cl][j]? = some u → W3.cell? ((⟨w3.heap.size, 0, none⟩ : Addr).add j) = some u from World.news_of_block hlit)
              have HWs : Hid (w.heap.size ≤ W3.heap.size) := Lib.hid H3.below.size
              have HW3 := Lib.hid hW3
              rw [HW3.out] at HP Hown Hnews HWs
              clear hB3 h3 hl3 hk3 hX3 hF3 hb3 hlit H3 F3 hW3 HW3 HH1 HF1 f0 f1 f3 HX
              go_wp2_with (at_builtin; refine wpList_append_lies _ rfl (.tmp 54) (.tmp 57) 49 rfl w.heap.size 30 i0 _ 1 24 Try.underlying49 Hi.out Hz0.out Hz1.out Hz2.out rfl (by decide) (.slice fA B.length fc) B.length fvs rfl Hown.out _ 1 1 [.slice Al nl cl] rfl rfl Hnews.out (by intro u hu; obtain rfl := List.mem_singleton.1 hu; rfl) (by decide) (by unfold maxLen; omega) (by omega) HWs.out _ rfl ?_; intro g cap w4 ho4 hg4 hat4 _; obtain ⟨p1, p2⟩ := HP.out g cap w4 ho4 hg4 hat4; have P1 := Lib.hid p1; have P2 := Lib.hid p2; clear p1 p2 ho4 hg4 hat4)
              go_roundw
              case rel => exact ⟨j + 1, lab3, B ++ [y], some ⟨g, 0, none⟩, cap, fvs ++ [.slice Al nl cl], by rw [List.length_append]; rfl, by go_num, by omega, P1.out, P2.out, HC'.out, HE'.out, HSh'.out, by rw [Hc'.out]; omega⟩
              case measure => simp [intOf]; omega
            · have eL : smL B lx = B := by
                unfold smL
                by_cases h1 : lx.all (sThere B) = true
                · rw [if_pos h1, if_neg fun h2 => hok ⟨h1, h2⟩]
                · rw [if_neg h1]
              have eE : smErr B lx ≠ 0 := by
                unfold smErr
                by_cases h1 : lx.all (sThere B) = true
                · rw [if_pos h1, if_neg fun h2 => hok ⟨h1, h2⟩]
                  decide
                · rw [if_neg h1]
                  decide
              rw [eL] at CM
              obtain ⟨er, her⟩ : ∃ er, er = smErr B lx := ⟨_, rfl⟩
              rw [← her] at CM eE
              have ze : (er == 0) = false := by simpa using eE
              clear hC' hE' hc' hs' hok eL her eE
              go_wp2_with fail
              refine CM.out.mono ?_
              rintro e w3 ⟨rfl, hB3⟩
              obtain ⟨lab3, h3, hl3, hk3⟩ := HH1.out.turn hB3
              have hF3 := HF1.out.kept hk3 (fun g hg _ e => e hg) hl3
              have P1 := Lib.hid h3
              have P2 := Lib.hid hF3
              clear hB3 h3 hl3 hk3 hF3 HH1 HF1 f0 f1 f3 HX
              go_wp2
              go_roundw
              case rel => exact ⟨j + 1, lab3, B, fA, fc, fvs, rfl, by go_num, by omega, P1.out, P2.out, HC.out, HE.out, HSh.out, by omega⟩
              case measure => simp [intOf]; omega
          · have z0 : (kx == 0) = false := by simpa using hk0
            by_cases hk2 : kx = 2
            · subst hk2
              obtain ⟨nB, hnB⟩ : ∃ nB, nB = B.length := ⟨_, rfl⟩
              have hnB64 : nB ≤ 64 := by omega
              have HnB := Lib.hid hnB
              rw [← hnB]
              clear hnB z0 hk0
              go_wp2_with fail
              clear f0 f1 f3
              go_loopw [9, 10] (fun v q wx => ∃ (k : Nat) (vA : Option Addr) (vc : Nat), v = .slice vA k vc ∧ q = .int .i64 k ∧ k ≤ nB ∧ wx.ownsRow w.heap.size 4 1 (.slice vA k vc) k (wasL B k) ∧ (∀ g, (Value.slice vA k vc).ownBlock = some g → lab g = 0) ∧ Hold w lab wx b B ∧ Fols w wx lab fA fc B fvs ∧ Has wx gb (.cells #[.int .i64 2, .int .i64 ax, .int .i64 bx, .slice Al nl cl] 32 (0, 0))) (fun _ q _ => nB - (intOf q).toNat)
              case atStart => exact ⟨0, none, 0, rfl, rfl, Nat.zero_le _, World.ownsRow_nil _ _ _ _, (fun g hg => by cases hg), HH1.out, HF1.out, HX.out⟩
              case round =>
                obtain ⟨k, vA, vc, rfl, rfl, hk, hv, hv0, hH, hF, hXr⟩ := hrel
                clear HH1 HF1 HX
                have HV := Lib.hid hv
                have HV0 := Lib.hid hv0
                have HH := Lib.hid hH
                have HF := Lib.hid hF
                have HX := Lib.hid hXr
                clear hv hv0 hH hF hXr
                by_cases hkn : (k : Int) < nB
                · have HG := Lib.hid (sIsGiven ((k : Int) + 1) HH.out.brd)
                  obtain ⟨gk, hgk⟩ : ∃ gk, gk = sGiven B ((k : Int) + 1) := ⟨_, rfl⟩
                  rw [← hgk] at HG
                  obtain ⟨W3, hW3⟩ : ∃ W3, W3 = wr.alloc (.cells #[.bool gk] 4) := ⟨_, rfl⟩
                  have hb3 : Below wr.heap.size wr W3 := by rw [hW3]; exact (Below.refl _ _).alloc (Nat.le_refl _) _
                  have hlit : Has W3 wr.heap.size (.cells #[.bool gk] 4 (0, 0)) := by rw [hW3]; exact Has.fresh _ _
                  have H3 := HH.out.next hb3
                  have F3 := HF.out.below hb3
                  have X3 := HX.out.below hb3 HX.out.inside
                  have V3 := own_below HV.out hb3
                  have HP : Hid (∀ g cap w4, w4.ownsRow w.heap.size 4 1 (.slice (some ⟨g, 0, none⟩) (k + 1) cap) (k + 1) (wasL B k ++ [.bool gk]) → W3.grownBy w4 (Value.slice vA k vc).ownBlock → ((Value.slice vA k vc).ownBlock = some g ∨ g = W3.heap.size) →
                      Hid (w4.ownsRow w.heap.size 4 1 (.slice (some ⟨g, 0, none⟩) (k + 1) cap) (k + 1) (wasL B (k + 1)) ∧ (∀ g', (Value.slice (some ⟨g, 0, none⟩) (k + 1) cap).ownBlock = some g' → lab g' = 0) ∧ Hold w lab w4 b B ∧ Fols w w4 lab fA fc B fvs ∧ Has w4 gb (.cells #[.int .i64 2, .int .i64 ax, .int .i64 bx, .slice Al nl cl] 32 (0, 0)))) := Lib.hid fun g cap w4 ho hg hat => by
                    have hk4 := Keeps.of_grown hg
                    refine Lib.hid ⟨by rw [wasL_succ, ← hgk]; exact ho, fun g' hg' => ?_, H3.keep hk4 (fun i hi e => hi (HV0.out i e)) fun i e => (HV.out.lt i e).1, F3.kept hk4 (fun g _ hg e => own_apart2 F3.row V3 (by decide) g e hg) fun _ _ => rfl, X3.kept hk4 (own_apart V3 X3 (by decide))⟩
                    obtain rfl : g = g' := by simpa [Value.ownBlock] using hg'
                    rcases hat with h1 | h1
                    · exact HV0.out g h1
                    · by_cases e : lab g = 0
                      · exact e
                      · have := H3.brd.low g e
                        omega
                  have HV3 := Lib.hid V3
                  have Hnews := Lib.hid (show ∀ j u, [Value.bool gk][j]? = some u → W3.cell? ((⟨wr.heap.size, 0, none⟩ : Addr).add j) = some u from World.news_of_block hlit)
                  have HWs : Hid (w.heap.size ≤ W3.heap.size) := Lib.hid H3.below.size
                  have HW3 := Lib.hid hW3
                  rw [HW3.out] at HP HV3 Hnews HWs
                  clear hb3 hlit H3 F3 X3 V3 hW3 HW3 hgk HH HF HX HV HV0
                  go_wp2_with fail
                  refine HG.out.mono ?_
                  rintro e w5 ⟨rfl, rfl⟩
                  go_wp2_with (at_builtin; refine wpList_append_lies _ rfl (.tmp 67) (.tmp 72) 45 rfl w.heap.size 4 j0 _ 1 1 Try.underlying45 Qi.out Qz0.out Qz1.out Qz2.out rfl (by decide) (.slice vA k vc) k (wasL B k) rfl HV3.out _ 1 1 [.bool gk] rfl rfl Hnews.out (by intro u hu; obtain rfl := List.mem_singleton.1 hu; rfl) (by decide) (by unfold maxLen; omega) (by omega) HWs.out _ rfl ?_; intro g cap w4 ho4 hg4 hat4 _; have P := HP.out g cap w4 ho4 hg4 hat4; clear ho4 hg4 hat4)
                  go_roundw
                  case rel => exact ⟨k + 1, some ⟨g, 0, none⟩, cap, rfl, by go_num, by omega, P.out.1, P.out.2.1, P.out.2.2.1, P.out.2.2.2.1, P.out.2.2.2.2⟩
                  case measure => simp [intOf]; omega
                · obtain rfl : k = nB := by omega
                  have f1 : wr.cell? ⟨gb, 1, none⟩ = some (.int .i64 ax) := HX.out.cell 1
                  have CG := Lib.hid (sGive ax HH.out.brd (by omega))
                  obtain ⟨ok, hok⟩ : ∃ ok, ok = sFree B ax := ⟨_, rfl⟩
                  rw [← hok] at CG
                  go_wp2_with fail
                  refine CG.out.mono ?_
                  rintro e w5 ⟨A5, c5, rfl, -, -, hB5, hk5⟩
                  obtain ⟨B', hB'⟩ : ∃ B', B' = sgL B ax := ⟨_, rfl⟩
                  rw [← hB'] at hB5
                  have hl5 : B'.length = k := by rw [hB', sg_len, HnB.out]
                  have H5 := Lib.hid (HH.out.keeps hB5 hk5)
                  have F5 := Lib.hid ((HF.out.kept hk5 (fun g hg _ e => e hg) fun _ _ => rfl).same (B' := B') (by rw [hl5, HnB.out]) fun i hi => by rw [hB']; exact follows_gv hi)
                  have V5 := Lib.hid (own_kept HV.out hk5 fun g hg e => e (HV0.out g hg))
                  have X5 := Lib.hid (HX.out.kept hk5 fun e => e HL0.out)
                  have hfit : ∀ t : Nat, t < k → sGiven B' ((t : Int) + 1) = ((sGiven B ((t : Int) + 1) || (ok && decide ((t : Int) + 1 = ax))) || (B'.getD t Sg.zero).follows.any (sGiven B')) := fun t ht => by
                    have ht' : t < B.length := by rw [← HnB.out]; exact ht
                    have := give_fits HC.out (sThere_m ht') ax
                    rw [hB', hok]
                    show sGiven (gvL B [ax]).1 _ = _
                    rw [this, sg_m]
                    unfold sgL
                    rw [follows_gv ht']
                  have Hfit := Lib.hid hfit
                  have HC' : Hid (Closed B' []) := Lib.hid (by rw [hB']; exact closed_give HC.out [ax])
                  have HE' : Hid (Elder B') := Lib.hid (by rw [hB']; exact elder_give HE.out [ax])
                  have Hc' : Hid (sCount B' ≤ j) := Lib.hid (by
                    have := sCount_gv B [ax]
                    rw [hB']
                    show sCount (gvL B [ax]).1 ≤ j
                    omega)
                  have Hl5 := Lib.hid hl5
                  have HSh' : Hid (Short B') := Lib.hid (by rw [hB']; exact short_gv B [ax] HSh.out)
                  have e1 : w5.cell? ⟨gb, 1, none⟩ = some (.int .i64 ax) := X5.out.cell 1
                  clear hB5 hk5 hB' hl5 hfit hok HH HF HV HV0 HX CG f1 HC HE hkn hk
                  go_wp2_with fail
                  go_loopw [13] (fun q wx => ∃ t : Nat, q = .int .i64 t ∧ t ≤ k ∧ w5 = wx) (fun q _ => k - (intOf q).toNat)
                  case atStart => exact ⟨0, rfl, Nat.zero_le _, rfl⟩
                  case round =>
                    obtain ⟨t, rfl, ht, rfl⟩ := hrel
                    by_cases htk : (t : Int) < k
                    · have htB : t < B'.length := by rw [Hl5.out]; omega
                      obtain ⟨vg, rfl, cw⟩ : ∃ vg, vA = some ⟨vg, 0, none⟩ ∧ w5.cell? ⟨vg, t, none⟩ = some (.bool (sGiven B ((t : Int) + 1))) := by
                        have hr := V5.out
                        rcases hr.2 with ⟨_, h0⟩ | ⟨g, cap, cur, hv, _, _, _⟩
                        · omega
                        · obtain ⟨rfl, rfl⟩ : vA = some ⟨g, 0, none⟩ ∧ vc = cap := by injection hv with e1 _ e3; exact ⟨e1, e3⟩
                          exact ⟨g, rfl, by rw [hr.cellAt t (by omega), wasL_get (by omega)]⟩
                      obtain ⟨fg, Ai, ci, rfl, cf, hLf⟩ := F5.out.at_ htB
                      have hLf5 := hLf.below H5.out.below
                      have hft := Hfit.out t (by omega)
                      obtain ⟨fk, hfk⟩ : ∃ fk, fk = (B'.getD t Sg.zero).follows := ⟨_, rfl⟩
                      rw [← hfk] at cf hLf5 hft
                      obtain ⟨p, hp⟩ : ∃ p, p = sGiven B ((t : Int) + 1) := ⟨_, rfl⟩
                      rw [← hp] at cw hft
                      obtain ⟨P, hP⟩ : ∃ P, P = (p || (ok && decide ((t : Int) + 1 = ax))) := ⟨_, rfl⟩
                      rw [← hP] at hft
                      have hfk1 := short_at HSh'.out htB
                      rw [← hfk] at hfk1
                      obtain ⟨nf, hnf⟩ : ∃ nf, nf = fk.length := ⟨_, rfl⟩
                      rw [← hnf] at hfk1
                      rw [← hnf] at cf
                      have Hnf := Lib.hid hnf
                      have Hft := Lib.hid hft
                      have HLf := Lib.hid hLf5
                      have HP := Lib.hid hP
                      clear hnf hft hLf5 hP hfk hp hLf htB
                      have htk' : (t : Int) < k := htk
                      go_upto_region 30 with (fail)
                      go_cut [14] (fun tt wx => tt = .bool P ∧ w5 = wx)
                      case first =>
                        by_cases hta : (t : Int) + 1 = ax
                        · have zt : ((t : Int) + 1 == ax) = true := by simpa using hta
                          have zd : decide ((t : Int) + 1 = ax) = true := decide_eq_true hta
                          have hP' : P = (p || ok) := by rw [HP.out, zd, Bool.and_true]
                          have HP' := Lib.hid hP'
                          clear hP' hta zd
                          cases p <;> cases ok
                          all_goals
                            have hPv := HP'.out
                            first | rw [Bool.or_true] at hPv | rw [Bool.or_false] at hPv
                            subst hPv
                            go_wp2
                            go_meet
                            exact ⟨rfl, rfl⟩
                        · have zt : ((t : Int) + 1 == ax) = false := by simpa using hta
                          have zd : decide ((t : Int) + 1 = ax) = false := decide_eq_false hta
                          have hP' : P = p := by rw [HP.out, zd, Bool.and_false, Bool.or_false]
                          have HP' := Lib.hid hP'
                          clear hP' hta zd
                          cases p <;> cases ok
                          all_goals
                            have hPv := HP'.out
                            subst hPv
                            go_wp2
                            go_meet
                            exact ⟨rfl, rfl⟩
                      case rest =>
                        obtain ⟨rfl, rfl⟩ := hcut
                        clear cw e1 HP
                        go_wp2_with fail
                        go_loopw [14, 15] (fun tt q wx => ∃ jj : Nat, tt = .bool (P || (fk.take jj).any (sGiven B')) ∧ q = .int .i64 jj ∧ jj ≤ nf ∧ w5 = wx) (fun _ q _ => nf - (intOf q).toNat)
                        case atStart => exact ⟨0, by simp, rfl, Nat.zero_le _, rfl⟩
                        case round =>
                          obtain ⟨jj, rfl, rfl, hjj, rfl⟩ := hrel
                          by_cases hjf : (jj : Int) < nf
                          · have hjk : jj < fk.length := by rw [← Hnf.out]; omega
                            obtain ⟨bk, offk, rfl, -, ck⟩ := HLf.out.nums jj hjk
                            have hat := any_take (B := B') hjk
                            obtain ⟨y, hy⟩ : ∃ y, y = fk[jj] := ⟨_, rfl⟩
                            rw [← hy] at ck hat
                            have HG := Lib.hid (sIsGiven y H5.out.brd)
                            have Hat := Lib.hid hat
                            clear hat hy hjk
                            cases hq : (P || (fk.take jj).any (sGiven B')) with
                            | true =>
                              have hq' : (P || (fk.take (jj + 1)).any (sGiven B')) = true := by rw [Hat.out, ← Bool.or_assoc, hq, Bool.true_or]
                              have Hq := Lib.hid hq'
                              clear hq hq' HG
                              go_wp2
                              go_roundw
                              case rel => exact ⟨jj + 1, by rw [Hq.out], by go_num, by omega, trivial⟩
                              case measure => simp [intOf]; omega
                            | false =>
                              have hq' : (P || (fk.take (jj + 1)).any (sGiven B')) = sGiven B' y := by rw [Hat.out, ← Bool.or_assoc, hq, Bool.false_or]
                              have Hq := Lib.hid hq'
                              clear hq hq'
                              go_wp2_with fail
                              refine HG.out.mono ?_
                              rintro e w6 ⟨rfl, rfl⟩
                              go_wp2
                              go_roundw
                              case rel => exact ⟨jj + 1, by rw [Hq.out], by go_num, by omega, trivial⟩
                              case measure => simp [intOf]; omega
                          · have htl : fk.take jj = fk := List.take_of_length_le (by rw [← Hnf.out]; omega)
                            rw [htl, ← Hft.out]
                            have HG := Lib.hid (sIsGiven ((t : Int) + 1) H5.out.brd)
                            clear htl
                            go_wp2_with fail
                            refine HG.out.mono ?_
                            rintro e w6 ⟨rfl, rfl⟩
                            go_wp2
                            go_roundw
                            case rel => exact ⟨t + 1, by go_num, by omega, trivial⟩
                            case measure => simp [intOf]; omega
                    · go_wp2
                      go_roundw
                      case rel => exact ⟨j + 1, lab, B', fA, fc, fvs, by rw [Hl5.out], by go_num, by omega, H5.out, F5.out, HC'.out, HE'.out, HSh'.out, by have := Hc'.out; omega⟩
                      case measure => simp [intOf]; omega
            · have z2 : (kx == 2) = false := by simpa using hk2
              clear hk0 hk2
              go_wp2
              go_roundw
              case rel => exact ⟨j + 1, lab, B, fA, fc, fvs, rfl, by go_num, by omega, HH1.out, HF1.out, HC.out, HE.out, HSh.out, by omega⟩
              case measure => simp [intOf]; omega
      · have HB := Lib.hid HH.out.below
        have HLn := Lib.hid (sLen HH.out.brd)
        clear HC HE
        go_wp2_with fail
        refine HLn.out.mono ?_
        rintro e w3 ⟨rfl, rfl⟩
        go_wp2
        go_ret
        exact ⟨rfl, HB.out⟩
end
end Go.Proofs.Ytafgeoafmkbeoaa

namespace Go.Proofs.Ytafgeoafmkbeoaa
open Go Go.RowKit

/-- A signal's three cells. -/
def triple (r : Sg × Value × Value) : List Value := [.bool r.1.given, r.2.1, r.2.2]
def flat3 (rows : List (Sg × Value × Value)) : List Value := rows.flatMap triple
section
variable {rows : List (Sg × Value × Value)} {p p' : Sg × Value × Value} {i f : Nat} {u : Value}
theorem flat3_cons (p : Sg × Value × Value) (rows : List (Sg × Value × Value)) : flat3 (p :: rows) = triple p ++ flat3 rows := by simp [flat3]
theorem flat3_append (a b : List (Sg × Value × Value)) : flat3 (a ++ b) = flat3 a ++ flat3 b := by simp [flat3]
theorem triple_length (p : Sg × Value × Value) : (triple p).length = 3 := rfl
theorem flat3_length : ∀ rows : List (Sg × Value × Value), (flat3 rows).length = rows.length * 3
  | [] => rfl
  | p :: r => by rw [flat3_cons, List.length_append, flat3_length r, triple_length, List.length_cons]; omega
theorem flat3_get : ∀ {rows : List (Sg × Value × Value)} {i : Nat}, rows[i]? = some p → f < 3 → (flat3 rows)[i * 3 + f]? = (triple p)[f]?
  | [], i, h, _ => by simp at h
  | q :: r, 0, h, hf => by
    obtain rfl : q = p := by simpa using h
    rw [flat3_cons, List.getElem?_append_left (by rw [triple_length]; omega), Nat.zero_mul, Nat.zero_add]
  | q :: r, i + 1, h, hf => by
    rw [flat3_cons, List.getElem?_append_right (by rw [triple_length]; omega), triple_length, show (i + 1) * 3 + f - 3 = i * 3 + f by omega]
    exact flat3_get (by simpa using h) hf
theorem flat3_set : ∀ {rows : List (Sg × Value × Value)} {i : Nat}, rows[i]? = some p → f < 3 → triple p' = (triple p).set f u → flat3 (rows.set i p') = (flat3 rows).set (i * 3 + f) u
  | [], i, h, _, _ => by simp at h
  | q :: r, 0, h, hf, hc => by
    obtain rfl : q = p := by simpa using h
    rw [List.set_cons_zero, flat3_cons, flat3_cons, List.set_append_left _ _ (by rw [triple_length]; omega), Nat.zero_mul, Nat.zero_add, hc]
  | q :: r, i + 1, h, hf, hc => by
    rw [List.set_cons_succ, flat3_cons, flat3_cons, List.set_append_right _ _ (by rw [triple_length]; omega), triple_length, show (i + 1) * 3 + f - 3 = i * 3 + f by omega]
    rw [flat3_set (by simpa using h) hf hc]
end

/-- A list of numbers in blocks that G names. -/
def Lst (G : Nat → Prop) (w : World) (v : Value) (xs : List Int) : Prop := Pile 0 w v xs ∧ ∀ g, v.ownBlock = some g → G g
/-- The document's board at block x, its signals in a row (A, c); all blocks G names. -/
structure RefAt (G : Nat → Prop) (w : World) (x : Nat) (A : Option Addr) (c : Nat) (B : List Sg) : Prop where
  low : ∀ i, G i → i < w.heap.size
  few : B.length ≤ 64
  mine : G x
  head : Has w x (.cells #[.slice A B.length c] 29 (0, 0))
  rowMine : ∀ g, (Value.slice A B.length c).ownBlock = some g → G g
  rows : ∃ rows : List (Sg × Value × Value), rows.map Prod.fst = B ∧ w.ownsRow 0 71 3 (.slice A B.length c) B.length (flat3 rows) ∧ ∀ r ∈ rows, Lst G w r.2.1 r.1.follows ∧ Lst G w r.2.2 r.1.tags
def Ref (G : Nat → Prop) (w : World) (x : Nat) (B : List Sg) : Prop := ∃ A c, RefAt G w x A c B
/-- The board is turned: what it names anew is new. -/
def Ref' (G : Nat → Prop) (w : World) (x : Nat) (B' : List Sg) (w' : World) : Prop := ∃ G', Ref G' w' x B' ∧ (∀ i, i < w.heap.size → G' i → G i) ∧ Keeps G w w'

section
variable {G G' F : Nat → Prop} {w w' : World} {x c m g : Nat} {A : Option Addr} {B : List Sg} {v : Value} {xs : List Int} {id : Int}
theorem Lst.kept (h : Lst G w v xs) (k : Keeps F w w') (hF : ∀ i, G i → i < w.heap.size → ¬ F i) : Lst G w' v xs := ⟨h.1.kept k fun g hg => hF g (h.2 g hg) (h.1.lt g hg).2, h.2⟩
theorem Lst.wide (h : Lst G w v xs) (hG : ∀ i, G i → i < w.heap.size → G' i) : Lst G' w v xs := ⟨h.1, fun g hg => hG g (h.2 g hg) (h.1.lt g hg).2⟩
theorem Lst.aside {i : Nat} {u : Value} {cs : Array Value} {t : TypeId} {fr : Nat × Nat} (h : Lst G w v xs) (hg : Has w g (.cells cs t fr)) (ht : t ≠ 3) : Lst G (w.setCell ⟨g, i, none⟩ u) v xs :=
  ⟨h.1.kept (Keeps.storeAt (F := fun j => j = g) (Keeps.refl _ _) rfl i u) fun g' hg' e => by
    rcases h.1 with ⟨rfl, _⟩ | ⟨g2, cap, cur, rfl, _, hh, _⟩
    · cases hg'
    · obtain rfl : g2 = g' := by simpa [Value.ownBlock] using hg'
      exact Has.apart hg hh (fun e => ht (by injection e)) e.symm, h.2⟩
theorem RefAt.kept (h : RefAt G w x A c B) (k : Keeps F w w') (hF : ∀ i, G i → ¬ F i) : RefAt G w' x A c B := by
  obtain ⟨rows, h1, h2, h3⟩ := h.rows
  exact ⟨fun i hi => Nat.lt_of_lt_of_le (h.low i hi) k.grows, h.few, h.mine, h.head.kept k (hF x h.mine), h.rowMine, rows, h1, own_kept h2 k fun g hg => hF g (h.rowMine g hg), fun r hr => ⟨(h3 r hr).1.kept k fun i hi _ => hF i hi, (h3 r hr).2.kept k fun i hi _ => hF i hi⟩⟩
theorem RefAt.below (h : RefAt G w x A c B) (k : Below w.heap.size w w') : RefAt G w' x A c B :=
  h.kept (Keeps.of_below (F := fun i => w.heap.size ≤ i) k fun _ _ h => h) fun i hi => Nat.not_le.2 (h.low i hi)
theorem RefAt.drewN (h : RefAt G w x A c B) (n : Nat) : RefAt G (w.drewN n) x A c B := ⟨h.low, h.few, h.mine, h.head, h.rowMine, h.rows⟩
theorem Ref.kept (h : Ref G w x B) (k : Keeps F w w') (hF : ∀ i, G i → ¬ F i) : Ref G w' x B := by
  obtain ⟨A, c, h⟩ := h
  exact ⟨A, c, h.kept k hF⟩
theorem Ref.below (h : Ref G w x B) (k : Below w.heap.size w w') : Ref G w' x B := by
  obtain ⟨A, c, h⟩ := h
  exact ⟨A, c, h.below k⟩
theorem Ref.drewN (h : Ref G w x B) (n : Nat) : Ref G (w.drewN n) x B := by
  obtain ⟨A, c, h⟩ := h
  exact ⟨A, c, h.drewN n⟩
theorem Ref.low (h : Ref G w x B) : ∀ i, G i → i < w.heap.size := by
  obtain ⟨A, c, h⟩ := h
  exact h.low
theorem Ref.few (h : Ref G w x B) : B.length ≤ 64 := by
  obtain ⟨A, c, h⟩ := h
  exact h.few
theorem Ref.still (h : Ref G w x B) : Ref' G w x B w := ⟨G, h, fun _ _ h => h, Keeps.refl _ _⟩
theorem Ref.since (h : Ref G w x B) (hb : Below w.heap.size w w') : Ref' G w x B w' := ⟨G, h.below hb, fun _ _ h => h, Keeps.of_below hb fun i hi hle => by omega⟩
/-- A signal of it, cell by cell. -/
theorem RefAt.at_ (h : RefAt G w x A c B) (hm : m < B.length) : ∃ g fv tv, A = some ⟨g, 0, none⟩ ∧ G g ∧ (∃ cur, Has w g (.cells cur 71 (0, 0))) ∧ (∀ j, w.frozen? ⟨g, j, none⟩ = false) ∧ w.cell? ⟨g, m * 3, none⟩ = some (.bool (B.getD m Sg.zero).given) ∧ w.cell? ⟨g, m * 3 + 1, none⟩ = some fv ∧ w.cell? ⟨g, m * 3 + 2, none⟩ = some tv ∧
    Lst G w fv (B.getD m Sg.zero).follows ∧ Lst G w tv (B.getD m Sg.zero).tags := by
  obtain ⟨rows, h1, h2, h3⟩ := h.rows
  have hl : rows.length = B.length := by rw [← h1, List.length_map]
  have hm' : m < rows.length := by omega
  have hrm := h.rowMine
  rcases h2.2 with ⟨_, h0⟩ | ⟨g, cap, cur, hv, _, hh, _⟩
  · omega
  obtain ⟨rfl, rfl⟩ : A = some ⟨g, 0, none⟩ ∧ c = cap := by injection hv with e1 _ e3; exact ⟨e1, e3⟩
  have e : B.getD m Sg.zero = rows[m].1 := by rw [← h1, List.getD_eq_getElem?_getD, List.getElem?_map, List.getElem?_eq_getElem hm']; rfl
  have hc : ∀ f, f < 3 → w.cell? ⟨g, m * 3 + f, none⟩ = (triple rows[m])[f]? := fun f hf => by
    rw [h2.cellAt _ (by omega), flat3_get (List.getElem?_eq_getElem hm') hf]
  rw [e]
  exact ⟨g, rows[m].2.1, rows[m].2.2, rfl, hrm g rfl, ⟨cur, hh⟩, fun j => h2.frozenAt j, hc 0 (by omega), hc 1 (by omega), hc 2 (by omega), (h3 _ (List.getElem_mem hm')).1, (h3 _ (List.getElem_mem hm')).2⟩
/-- One cell of one signal is written. -/
theorem RefAt.store (h : RefAt G w x (some ⟨g, 0, none⟩) c B) (hm : m < B.length) {f : Nat} (hf : f < 3) {u : Value} {d : Sg → Sg}
    (hd : ∀ fv tv, Lst G w fv (B.getD m Sg.zero).follows → Lst G w tv (B.getD m Sg.zero).tags → ∃ fv' tv', triple (d (B.getD m Sg.zero), fv', tv') = (triple (B.getD m Sg.zero, fv, tv)).set f u ∧ Lst G w fv' (d (B.getD m Sg.zero)).follows ∧ Lst G w tv' (d (B.getD m Sg.zero)).tags) :
    RefAt G (w.setCell ⟨g, m * 3 + f, none⟩ u) x (some ⟨g, 0, none⟩) c (B.modify m d) := by
  obtain ⟨rows, h1, h2, h3⟩ := h.rows
  have hl : rows.length = B.length := by rw [← h1, List.length_map]
  have hm' : m < rows.length := by omega
  have e : B.getD m Sg.zero = rows[m].1 := by rw [← h1, List.getD_eq_getElem?_getD, List.getElem?_map, List.getElem?_eq_getElem hm']; rfl
  rw [e] at hd
  obtain ⟨fv', tv', k1, k2, k3⟩ := hd rows[m].2.1 rows[m].2.2 (h3 _ (List.getElem_mem hm')).1 (h3 _ (List.getElem_mem hm')).2
  have hg : ∃ cur, Has w g (.cells cur 71 (0, 0)) := by
    rcases h2.2 with ⟨hv, _⟩ | ⟨g', cap, cur, hv, _, hh, _⟩
    · cases hv
    · obtain rfl : g = g' := by injection hv with e1; simpa using e1
      exact ⟨cur, hh⟩
  obtain ⟨cur, hg⟩ := hg
  have hxg : x ≠ g := Has.apart h.head hg (by simp)
  have hlen : (B.modify m d).length = B.length := List.length_modify ..
  refine ⟨fun i hi => by simpa [World.setCell] using h.low i hi, by rw [hlen]; exact h.few, h.mine, ?_, by rw [hlen]; exact h.rowMine, rows.set m (d rows[m].1, fv', tv'), ?_, ?_, fun r hr => ?_⟩
  · rw [hlen]
    exact h.head.aside (p := ⟨g, m * 3 + f, none⟩) hxg u
  · rw [List.map_set, h1]
    refine List.ext_getElem? fun i => ?_
    rw [List.getElem?_set, List.getElem?_modify]
    by_cases ei : m = i
    · subst ei
      rw [if_pos rfl, if_pos hm]
      have : B[m]? = some rows[m].1 := by rw [← h1, List.getElem?_map, List.getElem?_eq_getElem hm']; rfl
      rw [this]
      simp
    · rw [if_neg ei]
      simp [ei]
  · rw [hlen]
    have := (h2.stored (m * 3 + f) u).1
    rw [flat3_set (List.getElem?_eq_getElem hm') hf k1]
    exact this
  · rcases List.mem_or_eq_of_mem_set hr with hr | rfl
    · exact ⟨(h3 r hr).1.aside hg (by decide), (h3 r hr).2.aside hg (by decide)⟩
    · exact ⟨k2.aside hg (by decide), k3.aside hg (by decide)⟩
end

section
variable {G : Nat → Prop} {w : World} {x : Nat} {B : List Sg}
theorem rThere (id : Int) (h : Ref G w x B) : Calls Try.prog 22 #[ptrTo x, .int .i64 id] w fun e w' => e = .returned (.bool (sThere B id)) ∧ w = w' := by
  obtain ⟨A, c, h⟩ := h
  have c0 := h.head.cell 0
  clear h
  by_cases h1 : 1 ≤ id
  · have z1 : decide (1 ≤ id) = true := decide_eq_true h1
    have z2 : decide (id ≥ 1) = true := decide_eq_true h1
    have e1 : sThere B id = decide (id ≤ (B.length : Int)) := by unfold sThere; rw [z1]; rfl
    rw [e1]
    clear e1
    go_enter Try.func22, Try.ntmps22
    go_wp2
    go_ret
    exact ⟨rfl, rfl⟩
  · have z1 : decide (1 ≤ id) = false := decide_eq_false h1
    have z2 : decide (id ≥ 1) = false := decide_eq_false h1
    have e1 : sThere B id = false := by unfold sThere; rw [z1]; rfl
    rw [e1]
    clear e1
    go_enter Try.func22, Try.ntmps22
    go_wp2
    go_ret
    exact ⟨rfl, rfl⟩
theorem rGiven (id : Int) (h : Ref G w x B) : Calls Try.prog 18 #[ptrTo x, .int .i64 id] w fun e w' => e = .returned (.bool (sGiven B id)) ∧ w = w' := by
  have HT := Lib.hid (rThere id h)
  obtain ⟨A, c, h⟩ := h
  cases ht : sThere B id with
  | false =>
    have e1 : sGiven B id = false := by unfold sGiven; rw [ht]; rfl
    rw [e1]
    rw [ht] at HT
    clear h ht e1
    go_enter Try.func18, Try.ntmps18
    go_wp2_with fail
    refine HT.out.mono ?_
    rintro e w1 ⟨rfl, rfl⟩
    go_wp2
    go_ret
    exact ⟨rfl, rfl⟩
  | true =>
    obtain ⟨m, rfl, hm⟩ := sThere_at ht
    rw [ht] at HT
    have hfew := h.few
    have c0 := h.head.cell 0
    rw [show (#[Value.slice A B.length c] : Array Value)[0]? = some (.slice A B.length c) from rfl] at c0
    obtain ⟨g, fv, tv, rfl, _, _, _, c1, _⟩ := h.at_ hm
    have e1 : sGiven B ((m : Int) + 1) = (B.getD m Sg.zero).given := by unfold sGiven; rw [ht, sg_m]; rfl
    rw [e1]
    obtain ⟨gv, hgv⟩ : ∃ gv, gv = (B.getD m Sg.zero).given := ⟨_, rfl⟩
    rw [← hgv] at c1
    rw [← hgv]
    clear h ht e1 hgv
    have e2 : (m : Int) + 1 - 1 = m := by omega
    go_enter Try.func18, Try.ntmps18
    go_wp2_with fail
    refine HT.out.mono ?_
    rintro e w1 ⟨rfl, rfl⟩
    go_wp2
    go_ret
    exact ⟨rfl, rfl⟩
end
end Go.Proofs.Ytafgeoafmkbeoaa

namespace Go.Proofs.Ytafgeoafmkbeoaa
open Go Go.RowKit

theorem Try.infoOne : (Try.prog.info? 71).map (fun i => (i.zero, i.size, i.bytes)) = some (some (.agg #[.bool false, .slice none 0 0, .slice none 0 0]), 3, 56) := by kernel_rfl
section
variable {G : Nat → Prop} {w W w3 : World} {x g cap c : Nat} {A : Option Addr} {B : List Sg} {s : Bool} {fs : List Int} {fv : Value} {rows : List (Sg × Value × Value)}
/-- A signal is put behind. -/
theorem RefAt.more (h : RefAt G w x A c B) (h1 : rows.map Prod.fst = B) (h2 : w.ownsRow 0 71 3 (.slice A B.length c) B.length (flat3 rows)) (h3 : ∀ r ∈ rows, Lst G w r.2.1 r.1.follows ∧ Lst G w r.2.2 r.1.tags) (hb : Below w.heap.size w W) (hf : Pile w.heap.size W fv fs) (hl : B.length < 64)
    (ho : w3.ownsRow 0 71 3 (.slice (some ⟨g, 0, none⟩) (B.length + 1) cap) (B.length + 1) (flat3 rows ++ [.bool s, fv, .slice none 0 0])) (hg : W.grownBy w3 (Value.slice A B.length c).ownBlock) (hat : (Value.slice A B.length c).ownBlock = some g ∨ g = W.heap.size) (hlt : g < w3.heap.size) :
    w3.cell? ⟨x, 0, none⟩ = some (.slice A B.length c) ∧ w3.frozen? ⟨x, 0, none⟩ = false ∧ (w3.setCell ⟨x, 0, none⟩ (.slice (some ⟨g, 0, none⟩) (B.length + 1) cap)).cell? ⟨x, 0, none⟩ = some (.slice (some ⟨g, 0, none⟩) (B.length + 1) cap) ∧
      Hid (Ref' G w x (B ++ [⟨s, fs, []⟩]) (w3.setCell ⟨x, 0, none⟩ (.slice (some ⟨g, 0, none⟩) (B.length + 1) cap))) := by
  have hk := Keeps.of_grown hg
  have hxl : x < w.heap.size := h.head.inside
  have hrow : ∀ i, (Value.slice A B.length c).ownBlock = some i → i < w.heap.size := fun i hi => own_in h2 i hi
  have hxr : ∀ i, (Value.slice A B.length c).ownBlock = some i → i ≠ x := fun i hi e => by
    rcases h2.2 with ⟨hv, _⟩ | ⟨g', _, _, hv, _, hh, _⟩
    · rw [hv] at hi
      cases hi
    · rw [hv] at hi
      obtain rfl : g' = i := by simpa [Value.ownBlock] using hi
      exact Has.apart hh h.head (by simp) e
  have hH3 : Has w3 x (.cells #[.slice A B.length c] 29 (0, 0)) := (h.head.below hb hxl).kept hk fun e => hxr x e rfl
  have hgx : g ≠ x := fun e => by
    rcases hat with hat | hat
    · exact hxr g hat e
    · have := hb.size
      omega
  have hkw : Keeps G w w3 := (Keeps.of_below (F := G) hb fun i hi hle => by omega).trans hk fun i _ hi => h.rowMine i hi
  have hkf : Keeps G w (w3.setCell ⟨x, 0, none⟩ (.slice (some ⟨g, 0, none⟩) (B.length + 1) cap)) := hkw.store (.inl h.mine) _
  have hst : Has (w3.setCell ⟨x, 0, none⟩ (.slice (some ⟨g, 0, none⟩) (B.length + 1) cap)) x (.cells #[.slice (some ⟨g, 0, none⟩) (B.length + 1) cap] 29 (0, 0)) := by
    have := hH3.stored 0 (.slice (some ⟨g, 0, none⟩) (B.length + 1) cap)
    simpa using this
  have hsz : (w3.setCell ⟨x, 0, none⟩ (.slice (some ⟨g, 0, none⟩) (B.length + 1) cap)).heap.size = w3.heap.size := by simp [World.setCell]
  have hrow3 : Keeps (fun i => i = x) w3 (w3.setCell ⟨x, 0, none⟩ (.slice (some ⟨g, 0, none⟩) (B.length + 1) cap)) := Keeps.store (F := fun i => i = x) (p := ⟨x, 0, none⟩) (Keeps.refl _ _) (.inl rfl) _
  obtain ⟨G', hG'⟩ : ∃ G' : Nat → Prop, ∀ i, G' i ↔ G i ∨ (w.heap.size ≤ i ∧ i < w3.heap.size) := ⟨_, fun _ => Iff.rfl⟩
  -- a list that lies elsewhere than the row and the board
  have old : ∀ v xs, Lst G w v xs → Lst G' (w3.setCell ⟨x, 0, none⟩ (.slice (some ⟨g, 0, none⟩) (B.length + 1) cap)) v xs := fun v xs hv => by
    have a1 : ∀ i, v.ownBlock = some i → (Value.slice A B.length c).ownBlock ≠ some i := fun i hi e => by
      rcases hv.1 with ⟨e1, _⟩ | ⟨g1, _, _, e1, _, hh1, _⟩
      · rw [e1] at hi
        cases hi
      · rw [e1] at hi
        obtain rfl : g1 = i := by simpa [Value.ownBlock] using hi
        rcases h2.2 with ⟨e2, _⟩ | ⟨g2, _, _, e2, _, hh2, _⟩
        · rw [e2] at e
          cases e
        · rw [e2] at e
          obtain rfl : g2 = g1 := by simpa [Value.ownBlock] using e
          exact Has.apart hh1 hh2 (by simp) rfl
    have b1 : Pile 0 W v xs := hv.1.below hb
    have b2 : Pile 0 w3 v xs := b1.kept hk fun i hi e => a1 i hi e
    have b3 := b2.kept hrow3 fun i hi e => by
      rcases hv.1 with ⟨e1, _⟩ | ⟨g1, _, _, e1, _, hh1, _⟩
      · rw [e1] at hi
        cases hi
      · rw [e1] at hi
        obtain rfl : g1 = i := by simpa [Value.ownBlock] using hi
        exact Has.apart hh1 h.head (by simp) e
    exact ⟨b3, fun i hi => (hG' i).2 (.inl (hv.2 i hi))⟩
  refine ⟨hH3.cell 0, hH3.free 0, hst.cell 0, Lib.hid ⟨G', ⟨some ⟨g, 0, none⟩, cap, ⟨fun i hi => ?_, by rw [List.length_append]; simp; omega, (hG' x).2 (.inl h.mine), ?_, fun g' hg' => ?_, rows ++ [(⟨s, fs, []⟩, fv, .slice none 0 0)], by rw [List.map_append, h1]; rfl, ?_, fun r hr => ?_⟩⟩, fun i hi h' => ?_, hkf⟩⟩
  · rw [hsz]
    rcases (hG' i).1 hi with h' | h'
    · exact Nat.lt_of_lt_of_le (h.low i h') hkw.grows
    · exact h'.2
  · rw [List.length_append]
    exact hst
  · obtain rfl : g = g' := by simpa [Value.ownBlock] using hg'
    rcases hat with hat | hat
    · exact (hG' g).2 (.inl (h.rowMine g hat))
    · exact (hG' g).2 (.inr ⟨by rw [hat]; exact hb.size, hlt⟩)
  · rw [List.length_append, flat3_append]
    exact own_kept ho hrow3 fun g' hg' e => by
      obtain rfl : g = g' := by simpa [Value.ownBlock] using hg'
      exact hgx e
  · rcases List.mem_append.1 hr with hr | hr
    · exact ⟨old _ _ (h3 r hr).1, old _ _ (h3 r hr).2⟩
    · obtain rfl := List.mem_singleton.1 hr
      refine ⟨⟨?_, fun i hi => (hG' i).2 (.inr ⟨(hf.lt i hi).1, Nat.lt_of_lt_of_le (hf.lt i hi).2 hk.grows⟩)⟩, Pile.nil _ _, fun i hi => by cases hi⟩
      have b2 : Pile w.heap.size w3 fv fs := hf.kept hk fun i hi e => by
        have := hrow i e
        have := (hf.lt i hi).1
        omega
      exact (b2.kept hrow3 fun i hi e => by have := (hf.lt i hi).1; omega).from_ (Nat.zero_le _)
  · rcases (hG' i).1 h' with h'' | h''
    · exact h''
    · omega

set_option maxHeartbeats 8000000 in
set_option maxRecDepth 100000 in
theorem rMake (fs : List Int) (A2 : Option Addr) (c2 : Nat) (h : Ref G w x B) (hL : ListIn w A2 c2 fs) (hfs : fs.length ≤ 1000) : Calls Try.prog 10 #[ptrTo x, .slice A2 fs.length c2] w fun e w' => e = .returned (.tuple #[.int .i64 (smNo B fs), .int .i64 (smErr B fs)]) ∧ Ref' G w x (smL B fs) w' := by
  have hnot : ∀ (x : Bool) (w : World), (Op.unary .not (.bool x)).run Try.prog w = .ok (.bool (!x)) w := fun _ _ => rfl
  obtain ⟨i0, hi, hz0, hz1, hz2⟩ := info_parts Try.infoOne
  have Hi := Lib.hid hi
  have Hz0 := Lib.hid hz0
  have Hz1 := Lib.hid hz1
  have Hz2 := Lib.hid hz2
  have hfew := h.few
  obtain ⟨RN, hRN⟩ : ∃ RN, RN = smNo B fs := ⟨_, rfl⟩
  obtain ⟨RE, hRE⟩ : ∃ RE, RE = smErr B fs := ⟨_, rfl⟩
  obtain ⟨RL, hRL⟩ : ∃ RL, RL = smL B fs := ⟨_, rfl⟩
  have r1 : fs.all (sThere B) = false → RN = 0 ∧ RE = 1 ∧ RL = B := fun e => by
    have e' : ¬ fs.all (sThere B) = true := by rw [e]; decide
    rw [hRN, hRE, hRL, smNo, smErr, smL, if_neg e', if_neg e', if_neg e']
    exact ⟨rfl, rfl, rfl⟩
  have r2 : fs.all (sThere B) = true → ¬ B.length < 64 → RN = 0 ∧ RE = 9 ∧ RL = B := fun e e2 => by
    rw [hRN, hRE, hRL, smNo, smErr, smL, if_pos e, if_pos e, if_pos e, if_neg e2, if_neg e2, if_neg e2]
    exact ⟨rfl, rfl, rfl⟩
  have r3 : fs.all (sThere B) = true → B.length < 64 → RN = (B.length : Int) + 1 ∧ RE = 0 ∧ RL = B ++ [⟨fs.any (sGiven B), fs, []⟩] := fun e e2 => by
    rw [hRN, hRE, hRL, smNo, smErr, smL, if_pos e, if_pos e, if_pos e, if_pos e2, if_pos e2, if_pos e2]
    exact ⟨rfl, rfl, rfl⟩
  rw [← hRN, ← hRE, ← hRL]
  obtain ⟨n, hn⟩ : ∃ n, n = fs.length := ⟨_, rfl⟩
  rw [← hn] at hfs
  rw [← hn]
  have Hn := Lib.hid hn
  have H := Lib.hid h
  have HL := Lib.hid hL
  have R1 := Lib.hid r1
  have R2 := Lib.hid r2
  have R3 := Lib.hid r3
  clear hi hz0 hz1 hz2 h hL hRN hRE hRL r1 r2 r3 hn
  go_enter Try.func10, Try.ntmps10
  go_wp2_with fail
  go_loopw [6, 7] (fun gv i wr => ∃ j : Nat, gv = .bool ((fs.take j).any (sGiven B)) ∧ i = .int .i64 j ∧ j ≤ n ∧ (fs.take j).all (sThere B) = true ∧ w = wr) (fun _ i _ => n - (intOf i).toNat)
  case atStart => exact ⟨0, rfl, rfl, Nat.zero_le _, rfl, rfl⟩
  case round =>
    obtain ⟨j, rfl, rfl, hj, hall, rfl⟩ := hrel
    have Hall := Lib.hid hall
    clear hall
    by_cases hjn : (j : Int) < n
    · have hjk : j < fs.length := by rw [← Hn.out]; omega
      obtain ⟨b', off, rfl, hB, hc⟩ := HL.out.nums j hjk
      have ht1 := all_take Hall.out hjk
      have ht2 := any_take (B := B) hjk
      have ht3 := all_not (B := B) hjk
      obtain ⟨y, hy⟩ : ∃ y, y = fs[j] := ⟨_, rfl⟩
      rw [← hy] at hc ht1 ht2 ht3
      have T1 := Lib.hid ht1
      have T2 := Lib.hid ht2
      have T3 := Lib.hid ht3
      have HT := Lib.hid (rThere y H.out)
      have HV := Lib.hid (rGiven y H.out)
      clear ht1 ht2 ht3 hy hB hjk
      obtain ⟨gv, hgv⟩ : ∃ gv, gv = (fs.take j).any (sGiven B) := ⟨_, rfl⟩
      rw [← hgv] at T2
      rw [← hgv]
      clear hgv
      cases hth : sThere B y with
      | false =>
        obtain ⟨rfl, rfl, rfl⟩ := R1.out (T3.out hth)
        rw [hth] at HT
        clear hth
        go_wp2_with fail
        refine HT.out.mono ?_
        rintro e w2 ⟨rfl, rfl⟩
        go_wp2
        go_ret2
        exact ⟨rfl, H.out.still⟩
      | true =>
        have t1 := T1.out
        rw [hth] at t1 HT
        have T1' := Lib.hid t1
        clear hth t1 T1 T3
        cases gv with
        | true =>
          go_wp2_with fail
          refine HT.out.mono ?_
          rintro e w2 ⟨rfl, rfl⟩
          go_wp2
          go_roundw
          case rel => exact ⟨j + 1, by rw [T2.out]; rfl, by go_num, by omega, T1'.out, trivial⟩
          case measure => simp [intOf]; omega
        | false =>
          go_wp2_with fail
          refine HT.out.mono ?_
          rintro e w2 ⟨rfl, rfl⟩
          go_wp2_with fail
          refine HV.out.mono ?_
          rintro e w2 ⟨rfl, rfl⟩
          go_wp2
          go_roundw
          case rel => exact ⟨j + 1, by rw [T2.out]; rfl, by go_num, by omega, T1'.out, trivial⟩
          case measure => simp [intOf]; omega
    · have htk : fs.take j = fs := List.take_of_length_le (by rw [← Hn.out]; omega)
      have hall := Hall.out
      rw [htk] at hall
      rw [htk]
      obtain ⟨A, c, hA⟩ := H.out
      have HA := Lib.hid hA
      have c0 := hA.head.cell 0
      rw [show (#[Value.slice A B.length c] : Array Value)[0]? = some (.slice A B.length c) from rfl] at c0
      obtain ⟨gv, hgv⟩ : ∃ gv, gv = fs.any (sGiven B) := ⟨_, rfl⟩
      rw [← hgv] at R3
      rw [← hgv]
      by_cases hfull : B.length < 64
      · obtain ⟨rfl, rfl, rfl⟩ := R3.out hall hfull
        have zf : decide ((B.length : Int) ≥ 64) = false := decide_eq_false (by omega)
        have HF' := Lib.hid hfull
        clear hall htk hgv Hall hfull hA
        go_wp2_with fail
        refine wp_region_way (late := [14]) (S := fun w' => w'.cell? ⟨x, 0, none⟩ = some (.slice A B.length c)) (y := Way.takes [0, 1, 2, 3, 4, 5, 7] (.run 6 (.run 8 (.take 9 (.run 10 (.run 11 (.run 12 (.run 13 (.run 14 .fin))))))))) (by kernel_rfl) (by kernel_rfl) rfl (by kernel_rfl) c0 (fun hHeld => ?_)
        simp only [Way.takes]
        (repeat (first | (refine way_skip (by simp only [List.getElem?_toArray, List.getElem?_cons_succ, List.getElem?_cons_zero]; rfl) (by rfl) hHeld ?_; (try simp only [Act.put, List.setIfInBounds_toArray, List.set_cons_zero, List.set_cons_succ])) | (refine way_pass (by simp only [List.getElem?_toArray, List.getElem?_cons_succ, List.getElem?_cons_zero]; rfl) (by rfl) hHeld ?_; (try simp only [Act.put, List.setIfInBounds_toArray, List.set_cons_zero, List.set_cons_succ])) | (refine way_take (v := ?_) (by simp only [List.getElem?_toArray, List.getElem?_cons_succ, List.getElem?_cons_zero]; rfl) (by rfl) ?_ hHeld ?_; rotate_left; (focus (intro w hSw; (try dsimp only at hSw); go_simp; (try with_reducible rfl); done)); (try simp only [Act.put, List.setIfInBounds_toArray, List.set_cons_zero, List.set_cons_succ]))))
        refine way_run (by simp only [List.getElem?_toArray, List.getElem?_cons_succ, List.getElem?_cons_zero]; rfl) (by rfl) (fun K hK => ?_)
        go_simp
        have hbE : Below w.heap.size w (w.alloc (.cells #[] 3)).drew := ((Below.refl _ w).alloc (Nat.le_refl _) _).drew
        have cE : (w.alloc (.cells #[] 3)).drew.cell? ⟨x, 0, none⟩ = some (.slice A B.length c) := (HA.out.below hbE).head.cell 0
        have hoE : (w.alloc (.cells #[] 3)).drew.ownsRow w.heap.size 3 1 (.slice (some ⟨w.heap.size, 0, none⟩) 0 0) 0 [] := own_empty w
        have hGE : Gives (w.alloc (.cells #[] 3)).drew 1 (.slice A2 n c2) n (fs.map (Value.int .i64)) := nums_gives (HL.out.below hbE).nums Hn.out HL.out.nil
        have HoE := Lib.hid hoE
        have HGE := Lib.hid hGE
        have HbE := Lib.hid hbE
        clear hbE hoE hGE
        refine hK.out _ _ cE (fun hHeld => ?_)
        clear hK K
        (try simp only [Act.put, List.setIfInBounds_toArray, List.set_cons_zero, List.set_cons_succ])
        refine way_run (by simp only [List.getElem?_toArray, List.getElem?_cons_succ, List.getElem?_cons_zero]; rfl) (by rfl) (fun K hK => ?_)
        refine wp_join (v := .slice (some ⟨w.heap.size, 0, none⟩) 0 0) (base := w.heap.size) (xs := []) (ys := fs) (.tmp 42) (.tmp 43) rfl rfl rfl HoE.out HGE.out Hn.out (by rw [← Hn.out]; simp; omega) (by simp) (fun v2 w2 ho2 hk2 hat2 => ?_)
        rw [List.nil_append] at ho2
        obtain ⟨A3, c3, rfl, -⟩ := own_form ho2
        rw [← Hn.out]
        have hP2 : Pile w.heap.size w2 (.slice A3 n c3) fs := by rw [Hn.out]; exact Pile.of_own ho2
        have hb2 : Below w.heap.size w w2 := below_then HbE.out hk2 HbE.out.size fun i hi e => by
          have : w.heap.size = i := by simpa [Value.ownBlock] using e
          omega
        have c2' : w2.cell? ⟨x, 0, none⟩ = some (.slice A B.length c) := (HA.out.below hb2).head.cell 0
        refine hK.out _ _ c2' (fun hHeld => ?_)
        clear hK K
        (try simp only [Act.put, List.setIfInBounds_toArray, List.set_cons_zero, List.set_cons_succ])
        (repeat (first | (refine way_skip (by simp only [List.getElem?_toArray, List.getElem?_cons_succ, List.getElem?_cons_zero]; rfl) (by rfl) hHeld ?_; (try simp only [Act.put, List.setIfInBounds_toArray, List.set_cons_zero, List.set_cons_succ])) | (refine way_pass (by simp only [List.getElem?_toArray, List.getElem?_cons_succ, List.getElem?_cons_zero]; rfl) (by rfl) hHeld ?_; (try simp only [Act.put, List.setIfInBounds_toArray, List.set_cons_zero, List.set_cons_succ])) | (refine way_take (v := ?_) (by simp only [List.getElem?_toArray, List.getElem?_cons_succ, List.getElem?_cons_zero]; rfl) (by rfl) ?_ hHeld ?_; rotate_left; (focus (intro w hSw; (try dsimp only at hSw); go_simp; (try with_reducible rfl); done)); (try simp only [Act.put, List.setIfInBounds_toArray, List.set_cons_zero, List.set_cons_succ]))))
        refine way_run (by simp only [List.getElem?_toArray, List.getElem?_cons_succ, List.getElem?_cons_zero]; rfl) (by rfl) (fun K hK => ?_)
        go_simp
        obtain ⟨rows, e1, e2, e3⟩ := HA.out.rows
        obtain ⟨W, hW⟩ : ∃ W, W = w2.alloc (.cells #[.bool gv, .slice A3 n c3, .slice none 0 0] 71) := ⟨_, rfl⟩
        have hb2W : Below w2.heap.size w2 W := by rw [hW]; exact (Below.refl _ w2).alloc (Nat.le_refl _) _
        have hlit : Has W w2.heap.size (.cells #[.bool gv, .slice A3 n c3, .slice none 0 0] 71 (0, 0)) := by rw [hW]; exact Has.fresh _ _
        have hbW : Below w.heap.size w W := hb2.trans (hb2W.mono hb2.size)
        have hPW : Pile w.heap.size W (.slice A3 n c3) fs := hP2.below hb2W
        have HC := Lib.hid fun g cap w3 ho hg hat hlt => HA.out.more (w3 := w3) (g := g) (cap := cap) (s := gv) e1 e2 e3 hbW hPW HF'.out ho hg hat hlt
        have hown : W.ownsRow 0 71 3 (.slice A B.length c) B.length (flat3 rows) := own_kept e2 (Keeps.of_below (F := fun i => w.heap.size ≤ i) hbW fun _ _ h => h) fun g hg => Nat.not_le.2 (own_in e2 g hg)
        have hnews : ∀ j u, [Value.bool gv, .slice A3 n c3, .slice none 0 0][j]? = some u → W.cell? ((⟨w2.heap.size, 0, none⟩ : Addr).add j) = some u := World.news_of_block hlit
        have hone : ∀ u ∈ [Value.bool gv, .slice A3 n c3, .slice none 0 0], u.oneCell' = true := fun u hu => by
          simp only [List.mem_cons, List.not_mem_nil, or_false] at hu
          rcases hu with rfl | rfl | rfl <;> rfl
        have cW : W.cell? ⟨x, 0, none⟩ = some (.slice A B.length c) := (HA.out.below hbW).head.cell 0
        rw [← hW]
        refine hK.out _ _ cW (fun hHeld => ?_)
        clear hK K
        (try simp only [Act.put, List.setIfInBounds_toArray, List.set_cons_zero, List.set_cons_succ])
        refine way_run (by simp only [List.getElem?_toArray, List.getElem?_cons_succ, List.getElem?_cons_zero]; rfl) (by rfl) (fun K hK => ?_)
        refine wp_append_lies _ (.tmp 40) (.tmp 46) 27 rfl 0 71 i0 _ 3 56 Try.underlying27 Hi.out Hz0.out Hz1.out Hz2.out rfl (by decide) (.slice A B.length c) B.length (flat3 rows) rfl hown ⟨w2.heap.size, 0, none⟩ 1 1 [.bool gv, .slice A3 n c3, .slice none 0 0] rfl rfl hnews hone (by decide) (by unfold maxLen; omega) (by omega) (Nat.zero_le _) _ rfl (fun g cap w3 ho3 hg3 hat hlt => ?_)
        obtain ⟨s1, s2, s3, HGK⟩ := HC.out g cap w3 ho3 hg3 hat hlt
        clear HC hown hnews hone e1 e2 e3 hW hlit hb2W hbW hPW ho3 hg3 hat hlt hP2 hb2 ho2 hk2 hat2 cW
        refine hK.out _ _ s1 (fun hHeld => ?_)
        clear hK K
        (try simp only [Act.put, List.setIfInBounds_toArray, List.set_cons_zero, List.set_cons_succ])
        refine way_run (by simp only [List.getElem?_toArray, List.getElem?_cons_succ, List.getElem?_cons_zero]; rfl) (by rfl) (fun K hK => ?_)
        go_simp
        refine hK.out _ _ s1 (fun hHeld => ?_)
        clear hK K
        (try simp only [Act.put, List.setIfInBounds_toArray, List.set_cons_zero, List.set_cons_succ])
        refine way_run (by simp only [List.getElem?_toArray, List.getElem?_cons_succ, List.getElem?_cons_zero]; rfl) (by rfl) (fun K hK => ?_)
        go_simp
        refine hK.out _ _ s1 (fun hHeld => ?_)
        clear hK K
        (try simp only [Act.put, List.setIfInBounds_toArray, List.set_cons_zero, List.set_cons_succ])
        refine way_last (by rfl) (by simp only [List.getElem?_toArray, List.getElem?_cons_succ, List.getElem?_cons_zero]; rfl) (by rfl) (fun K hK => ?_)
        go_simp
        refine hK.out _ _ ?_
        clear hK K
        refine way_done ?_
        go_wp2
        go_ret2
        exact ⟨rfl, HGK.out⟩
      · obtain ⟨rfl, rfl, hRL⟩ := R2.out hall hfull
        have zf : decide ((B.length : Int) ≥ 64) = true := decide_eq_true (by omega)
        have HE : Hid (Ref' G w x RL w) := Lib.hid (by rw [hRL]; exact H.out.still)
        clear hall htk hgv Hall hRL hfull hA
        go_wp2
        go_ret2
        exact ⟨rfl, HE.out⟩
end
end Go.Proofs.Ytafgeoafmkbeoaa

namespace Go.Proofs.Ytafgeoafmkbeoaa
open Go Go.RowKit

section
variable {G G' : Nat → Prop} {w : World} {x g c m : Nat} {A : Option Addr} {B : List Sg} {tag : Int}
theorem RefAt.wide (h : RefAt G w x A c B) (hG : ∀ i, G i → G' i) (hl : ∀ i, G' i → i < w.heap.size) : RefAt G' w x A c B := by
  obtain ⟨rows, h1, h2, h3⟩ := h.rows
  exact ⟨hl, h.few, hG x h.mine, h.head, fun g hg => hG g (h.rowMine g hg), rows, h1, h2, fun r hr => ⟨(h3 r hr).1.wide fun i hi _ => hG i hi, (h3 r hr).2.wide fun i hi _ => hG i hi⟩⟩
/-- The tags are another list, a new one. -/
theorem RefAt.tagsTo {W : World} {v : Value} {f : Sg → Sg} (h : RefAt G w x (some ⟨g, 0, none⟩) c B) (hm : m < B.length) (hb : Below w.heap.size w W) (hv : Pile w.heap.size W v (f (B.getD m Sg.zero)).tags) (hf : (f (B.getD m Sg.zero)).given = (B.getD m Sg.zero).given ∧ (f (B.getD m Sg.zero)).follows = (B.getD m Sg.zero).follows) :
    (∃ y, W.cell? ⟨g, m * 3 + 2, none⟩ = some y) ∧ W.frozen? ⟨g, m * 3 + 2, none⟩ = false ∧ Hid (Ref' G w x (B.modify m f) (W.setCell ⟨g, m * 3 + 2, none⟩ v)) := by
  have hbW := h.below hb
  obtain ⟨g', fv, tv, e, hGg, _, hz, _, _, c2, _⟩ := hbW.at_ hm
  obtain rfl : g = g' := by simpa using e
  obtain ⟨G', hG'⟩ : ∃ G' : Nat → Prop, ∀ i, G' i ↔ G i ∨ (w.heap.size ≤ i ∧ i < W.heap.size) := ⟨_, fun _ => Iff.rfl⟩
  have hW : RefAt G' W x (some ⟨g, 0, none⟩) c B := hbW.wide (fun i hi => (hG' i).2 (.inl hi)) fun i hi => by
    rcases (hG' i).1 hi with h' | h'
    · exact hbW.low i h'
    · exact h'.2
  refine ⟨⟨_, c2⟩, hz _, Lib.hid ⟨G', ⟨_, _, hW.store hm (f := 2) (u := v) (d := f) (by omega) fun fv tv h1 h2 => ⟨fv, v, ?_, ?_, hv.from_ (Nat.zero_le _), fun i hi => (hG' i).2 (.inr (hv.lt i hi))⟩⟩, fun i hi h' => ?_, (Keeps.of_below (F := G) hb fun i hi hle => by omega).store (p := ⟨g, m * 3 + 2, none⟩) (.inl hGg) _⟩⟩
  · simp only [triple, hf.1, List.set_cons_succ, List.set_cons_zero]
  · rw [hf.2]
    exact h1
  · rcases (hG' i).1 h' with h'' | h''
    · exact h''
    · omega

set_option maxHeartbeats 8000000 in
set_option maxRecDepth 100000 in
theorem rAdd (id tag : Int) (h : Ref G w x B) (hl : (sg B id).tags.length ≤ 900000) : Calls Try.prog 12 #[ptrTo x, .int .i64 id, .int .i64 tag] w fun e w' => e = .returned (.bool (sFree B id)) ∧ Ref' G w x (saL B id tag) w' := by
  have hnot : ∀ (x : Bool) (w : World), (Op.unary .not (.bool x)).run Try.prog w = .ok (.bool (!x)) w := fun _ _ => rfl
  have HT := Lib.hid (rThere id h)
  have HV := Lib.hid (rGiven id h)
  have hno : sFree B id = false → saL B id tag = B := fun e => by unfold saL; rw [if_neg (by rw [e]; decide)]
  cases ht : sThere B id with
  | false =>
    have e1 : sFree B id = false := by unfold sFree; rw [ht]; rfl
    rw [ht] at HT
    rw [e1, hno e1]
    have H := Lib.hid h.still
    clear h ht e1 hno hl
    go_enter Try.func12, Try.ntmps12
    go_wp2_with fail
    refine HT.out.mono ?_
    rintro e w1 ⟨rfl, rfl⟩
    go_wp2
    go_ret
    exact ⟨rfl, H.out⟩
  | true =>
    rw [ht] at HT
    have hfg : sFree B id = !sGiven B id := sFree_not ht
    cases hg : sGiven B id with
    | true =>
      rw [hg] at hfg HV
      have e1 : sFree B id = false := hfg
      rw [e1, hno e1]
      have H := Lib.hid h.still
      clear h ht e1 hno hl hg hfg
      go_enter Try.func12, Try.ntmps12
      go_wp2_with fail
      refine HT.out.mono ?_
      rintro e w1 ⟨rfl, rfl⟩
      go_wp2_with fail
      refine HV.out.mono ?_
      rintro e w1 ⟨rfl, rfl⟩
      go_wp2
      go_ret
      exact ⟨rfl, H.out⟩
    | false =>
      rw [hg] at hfg HV
      have e1 : sFree B id = true := hfg
      obtain ⟨m, rfl, hm⟩ := sThere_at ht
      obtain ⟨A, c, h⟩ := h
      rw [e1, saL_m e1]
      rw [sg_m] at hl
      have hfew := h.few
      have c0 := h.head.cell 0
      rw [show (#[Value.slice A B.length c] : Array Value)[0]? = some (.slice A B.length c) from rfl] at c0
      obtain ⟨g, fv, tv, rfl, _, _, _, _, _, c2, _, hTg⟩ := h.at_ hm
      have e2 : (m : Int) + 1 - 1 = m := by omega
      have HTg := Lib.hid hTg.1
      have HC := Lib.hid fun W v hb hv => h.tagsTo (W := W) (v := v) (f := fun y => ⟨y.given, y.follows, y.tags ++ [tag]⟩) hm hb hv ⟨rfl, rfl⟩
      obtain ⟨tg, htg⟩ : ∃ tg, tg = (B.getD m Sg.zero).tags := ⟨_, rfl⟩
      rw [← htg] at HTg hl
      simp only [← htg] at HC
      have H := Lib.hid h
      obtain ⟨n, hn⟩ : ∃ n, n = B.length := ⟨_, rfl⟩
      rw [← hn] at c0 hm hfew
      have hmn : (m : Int) < n := by omega
      have hm0 : (0 : Int) ≤ m := by omega
      have hmn' : ¬ (m : Int) < 0 := by omega
      have hmw : IntKind.i64.wrap (m : Int) = (m : Int) := wrap_small (by omega) (by omega)
      have HS0 : Hid (∀ W, Below w.heap.size w W → W.cell? ⟨x, 0, none⟩ = some (.slice (some ⟨g, 0, none⟩) n c) ∧ W.cell? ⟨g, m * 3 + 2, none⟩ = some tv) := Lib.hid fun W hb => ⟨(hb.cell (p := ⟨x, 0, none⟩) h.head.inside).trans c0, (hb.cell (p := ⟨g, m * 3 + 2, none⟩) (cell_in c2)).trans c2⟩
      clear h ht e1 hno hg hfg hTg htg hn
      go_enter Try.func12, Try.ntmps12
      go_wp2_with fail
      refine HT.out.mono ?_
      rintro e w1 ⟨rfl, rfl⟩
      go_wp2_with fail
      refine HV.out.mono ?_
      rintro e w1 ⟨rfl, rfl⟩
      go_wp2_with fail
      refine wp_region_way (late := [22]) (S := fun w' => w'.cell? ⟨x, 0, none⟩ = some (.slice (some ⟨g, 0, none⟩) n c) ∧ w'.cell? ⟨g, m * 3 + 2, none⟩ = some tv) (y := Way.takes [0, 1, 2, 3, 4, 5, 7, 8, 9, 10, 11, 12, 13, 14, 15, 17] (.fork 6 (.fork 16 (.run 18 (.run 19 (.run 20 (.run 21 (.run 22 .fin))))) 18 (.run 16 (.run 19 (.run 20 (.run 21 (.run 22 .fin)))))) 18 (.run 6 (.run 16 (.run 19 (.run 20 (.run 21 (.run 22 .fin)))))))) (by kernel_rfl) (by kernel_rfl) rfl (by kernel_rfl) ⟨c0, c2⟩ (fun hHeld => ?_)
      simp only [Way.takes]
      (repeat (first | (refine way_skip (by simp only [List.getElem?_toArray, List.getElem?_cons_succ, List.getElem?_cons_zero]; rfl) (by rfl) hHeld ?_; (try simp only [Act.put, List.setIfInBounds_toArray, List.set_cons_zero, List.set_cons_succ])) | (refine way_pass (by simp only [List.getElem?_toArray, List.getElem?_cons_succ, List.getElem?_cons_zero]; rfl) (by rfl) hHeld ?_; (try simp only [Act.put, List.setIfInBounds_toArray, List.set_cons_zero, List.set_cons_succ])) | (refine way_take (v := ?_) (by simp only [List.getElem?_toArray, List.getElem?_cons_succ, List.getElem?_cons_zero]; rfl) (by rfl) ?_ hHeld ?_; rotate_left; (focus (intro w hSw; (try dsimp only at hSw); go_simp; (try with_reducible rfl); done)); (try simp only [Act.put, List.setIfInBounds_toArray, List.set_cons_zero, List.set_cons_succ]))))
      have HG0 : Hid (∀ W, Below w.heap.size w W → Gives W 1 tv tg.length (tg.map (Value.int .i64))) := Lib.hid fun W hb => (HTg.out.below hb).gives
      have hE6 : Below w.heap.size w (w.alloc (.cells #[] 3)).drew := ((Below.refl _ w).alloc (Nat.le_refl _) _).drew
      have hE18 : Below w.heap.size w (w.alloc (.cells #[.int .i64 tag] 3)).drew := ((Below.refl _ w).alloc (Nat.le_refl _) _).drew
      have hE618 : Below w.heap.size w ((w.alloc (.cells #[] 3)).alloc (.cells #[.int .i64 tag] 3)).drew := (((Below.refl _ w).alloc (Nat.le_refl _) _).alloc (by simp) _).drew
      have hE186 : Below w.heap.size w ((w.alloc (.cells #[.int .i64 tag] 3)).alloc (.cells #[] 3)).drew := (((Below.refl _ w).alloc (Nat.le_refl _) _).alloc (by simp) _).drew
      have ho6 : (w.alloc (.cells #[] 3)).drew.ownsRow w.heap.size 3 1 (.slice (some ⟨w.heap.size, 0, none⟩) 0 0) 0 [] := own_empty w
      have ho618 : ((w.alloc (.cells #[] 3)).alloc (.cells #[.int .i64 tag] 3)).drew.ownsRow w.heap.size 3 1 (.slice (some ⟨w.heap.size, 0, none⟩) 0 0) 0 [] := own_below (own_empty w) ((Below.refl _ _).alloc (Nat.le_refl _) _).drew
      have ho186 : ((w.alloc (.cells #[.int .i64 tag] 3)).alloc (.cells #[] 3)).drew.ownsRow w.heap.size 3 1 (.slice (some ⟨w.heap.size + 1, 0, none⟩) 0 0) 0 [] := by
        have := own_base (B := w.heap.size) (own_empty (w.alloc (.cells #[.int .i64 tag] 3))) (by simp)
        rw [show (w.alloc (.cells #[.int .i64 tag] 3)).heap.size = w.heap.size + 1 by simp] at this
        exact this
      have hl618 : Has ((w.alloc (.cells #[] 3)).alloc (.cells #[.int .i64 tag] 3)).drew (w.heap.size + 1) (.cells #[.int .i64 tag] 3 (0, 0)) := by
        have := Has.fresh (w.alloc (.cells #[] 3)) (.cells #[.int .i64 tag] 3)
        rw [show (w.alloc (.cells #[] 3)).heap.size = w.heap.size + 1 by simp] at this
        exact this
      have hl186 : Has ((w.alloc (.cells #[.int .i64 tag] 3)).alloc (.cells #[] 3)).drew w.heap.size (.cells #[.int .i64 tag] 3 (0, 0)) := (Has.fresh w (.cells #[.int .i64 tag] 3)).more _
      have HE6 := Lib.hid hE6
      have HE18 := Lib.hid hE18
      have HE618 := Lib.hid hE618
      have HE186 := Lib.hid hE186
      have HO6 := Lib.hid ho6
      have HO618 := Lib.hid ho618
      have HO186 := Lib.hid ho186
      have HL618 := Lib.hid hl618
      have HL186 := Lib.hid hl186
      clear hE6 hE18 hE618 hE186 ho6 ho618 ho186 hl618 hl186 hHeld
      refine way_fork ?_ ?_
      · refine way_run (by simp only [List.getElem?_toArray, List.getElem?_cons_succ, List.getElem?_cons_zero]; rfl) (by rfl) (fun K hK => ?_)
        go_simp
        refine hK.out _ _ (HS0.out _ HE6.out) (fun hHeld => ?_)
        clear hK K hHeld
        (try simp only [Act.put, List.setIfInBounds_toArray, List.set_cons_zero, List.set_cons_succ])
        refine way_fork ?_ ?_
        · refine way_run (by simp only [List.getElem?_toArray, List.getElem?_cons_succ, List.getElem?_cons_zero]; rfl) (by rfl) (fun K hK => ?_)
          refine wp_join (v := .slice (some ⟨w.heap.size, 0, none⟩) 0 0) (X := tv) (base := w.heap.size) (xs := []) (ys := tg) (m := tg.length) (.tmp 22) (.tmp 31) rfl rfl rfl HO6.out (HG0.out _ HE6.out) rfl (by simp; omega) HE6.out.size (fun v2 w2 ho2 hk2 hat2 => ?_)
          rw [List.nil_append] at ho2
          have hb2 : Below w.heap.size w w2 := below_then HE6.out hk2 HE6.out.size fun i hi e => by
            have : w.heap.size = i := by simpa [Value.ownBlock] using e
            omega
          refine hK.out _ _ (HS0.out _ hb2) (fun hHeld => ?_)
          clear hK K hHeld
          (try simp only [Act.put, List.setIfInBounds_toArray, List.set_cons_zero, List.set_cons_succ])
          refine way_run (by simp only [List.getElem?_toArray, List.getElem?_cons_succ, List.getElem?_cons_zero]; rfl) (by rfl) (fun K hK => ?_)
          go_simp
          obtain ⟨W, hW⟩ : ∃ W, W = w2.alloc (.cells #[.int .i64 tag] 3) := ⟨_, rfl⟩
          obtain ⟨L, hL⟩ : ∃ L, L = w2.heap.size := ⟨_, rfl⟩
          have hbW : Below w2.heap.size w2 W := by rw [hW]; exact (Below.refl _ _).alloc (Nat.le_refl _) _
          have HT3 : Hid (W.ownsRow w.heap.size 3 1 v2 tg.length (tg.map (Value.int .i64)) ∧ Has W L (.cells #[.int .i64 tag] 3 (0, 0)) ∧ Below w.heap.size w W) := Lib.hid ⟨own_below ho2 hbW, by rw [hW, hL]; exact Has.fresh _ _, hb2.trans (hbW.mono hb2.size)⟩
          rw [← hW, ← hL]
          refine hK.out _ _ (HS0.out _ HT3.out.2.2) (fun hHeld => ?_)
          clear hK K hHeld hW hL hbW ho2 hk2 hat2 hb2
          (try simp only [Act.put, List.setIfInBounds_toArray, List.set_cons_zero, List.set_cons_succ])
          refine way_run (by simp only [List.getElem?_toArray, List.getElem?_cons_succ, List.getElem?_cons_zero]; rfl) (by rfl) (fun K hK => ?_)
          refine wp_join (v := v2) (X := .slice (some ⟨L, 0, none⟩) 1 1) (base := w.heap.size) (xs := tg) (ys := [tag]) (m := 1) (.tmp 32) (.tmp 34) rfl rfl rfl HT3.out.1 (nums_gives (c := 1) (listLit (xs := [tag]) HT3.out.2.1).nums rfl (fun e => by cases e)) rfl (by simp; omega) HT3.out.2.2.size (fun v5 w5 ho5 hk5 hat5 => ?_)
          have hb5 : Below w.heap.size w w5 := below_then HT3.out.2.2 hk5 HT3.out.2.2.size fun i hi e => by
            have := (HT3.out.1.lt i e).1
            omega
          obtain ⟨⟨y5, s1⟩, s2, HGK⟩ := HC.out w5 v5 hb5 (Pile.of_own ho5)
          obtain ⟨A5, c5, rfl, -⟩ := own_form ho5
          have HS5 := Lib.hid (HS0.out _ hb5)
          obtain ⟨n5, hn5⟩ : ∃ n5, n5 = (tg ++ [tag]).length := ⟨_, rfl⟩
          rw [← hn5] at HGK
          rw [← hn5]
          clear hn5 ho5 hk5 hat5 hb5 HT3 HC HG0 HS0
          refine hK.out _ _ HS5.out (fun hHeld => ?_)
          clear hK K
          (try simp only [Act.put, List.setIfInBounds_toArray, List.set_cons_zero, List.set_cons_succ])
          refine way_run (by simp only [List.getElem?_toArray, List.getElem?_cons_succ, List.getElem?_cons_zero]; rfl) (by rfl) (fun K hK => ?_)
          go_simp
          refine hK.out _ _ HS5.out (fun hHeld => ?_)
          clear hK K
          (try simp only [Act.put, List.setIfInBounds_toArray, List.set_cons_zero, List.set_cons_succ])
          refine way_run (by simp only [List.getElem?_toArray, List.getElem?_cons_succ, List.getElem?_cons_zero]; rfl) (by rfl) (fun K hK => ?_)
          go_simp
          refine hK.out _ _ HS5.out (fun hHeld => ?_)
          clear hK K
          (try simp only [Act.put, List.setIfInBounds_toArray, List.set_cons_zero, List.set_cons_succ])
          refine way_last (by rfl) (by simp only [List.getElem?_toArray, List.getElem?_cons_succ, List.getElem?_cons_zero]; rfl) (by rfl) (fun K hK => ?_)
          go_simp
          refine hK.out _ _ ?_
          clear hK K
          refine way_done ?_
          go_wp2
          go_ret
          exact ⟨rfl, HGK.out⟩
        · refine way_run (by simp only [List.getElem?_toArray, List.getElem?_cons_succ, List.getElem?_cons_zero]; rfl) (by rfl) (fun K hK => ?_)
          go_simp
          refine hK.out _ _ (HS0.out _ HE618.out) (fun hHeld => ?_)
          clear hK K hHeld
          (try simp only [Act.put, List.setIfInBounds_toArray, List.set_cons_zero, List.set_cons_succ])
          refine way_run (by simp only [List.getElem?_toArray, List.getElem?_cons_succ, List.getElem?_cons_zero]; rfl) (by rfl) (fun K hK => ?_)
          refine wp_join (v := .slice (some ⟨w.heap.size, 0, none⟩) 0 0) (X := tv) (base := w.heap.size) (xs := []) (ys := tg) (m := tg.length) (.tmp 22) (.tmp 31) rfl rfl rfl HO618.out (HG0.out _ HE618.out) rfl (by simp; omega) HE618.out.size (fun v2 w2 ho2 hk2 hat2 => ?_)
          rw [List.nil_append] at ho2
          have hb2 : Below w.heap.size w w2 := below_then HE618.out hk2 HE618.out.size fun i hi e => by
            have : w.heap.size = i := by simpa [Value.ownBlock] using e
            omega
          obtain ⟨W, hW⟩ : ∃ W, W = w2 := ⟨_, rfl⟩
          obtain ⟨L, hL⟩ : ∃ L, L = w.heap.size + 1 := ⟨_, rfl⟩
          have HT3 : Hid (W.ownsRow w.heap.size 3 1 v2 tg.length (tg.map (Value.int .i64)) ∧ Has W L (.cells #[.int .i64 tag] 3 (0, 0)) ∧ Below w.heap.size w W) := Lib.hid ⟨by rw [hW]; exact ho2, by
            rw [hW, hL]
            exact HL618.out.kept hk2 fun e => by
              have : w.heap.size = w.heap.size + 1 := Option.some.inj e
              omega, by rw [hW]; exact hb2⟩
          rw [← hW, ← hL]
          refine hK.out _ _ (HS0.out _ HT3.out.2.2) (fun hHeld => ?_)
          clear hK K hHeld hW hL ho2 hk2 hat2 hb2
          (try simp only [Act.put, List.setIfInBounds_toArray, List.set_cons_zero, List.set_cons_succ])
          refine way_run (by simp only [List.getElem?_toArray, List.getElem?_cons_succ, List.getElem?_cons_zero]; rfl) (by rfl) (fun K hK => ?_)
          refine wp_join (v := v2) (X := .slice (some ⟨L, 0, none⟩) 1 1) (base := w.heap.size) (xs := tg) (ys := [tag]) (m := 1) (.tmp 32) (.tmp 34) rfl rfl rfl HT3.out.1 (nums_gives (c := 1) (listLit (xs := [tag]) HT3.out.2.1).nums rfl (fun e => by cases e)) rfl (by simp; omega) HT3.out.2.2.size (fun v5 w5 ho5 hk5 hat5 => ?_)
          have hb5 : Below w.heap.size w w5 := below_then HT3.out.2.2 hk5 HT3.out.2.2.size fun i hi e => by
            have := (HT3.out.1.lt i e).1
            omega
          obtain ⟨⟨y5, s1⟩, s2, HGK⟩ := HC.out w5 v5 hb5 (Pile.of_own ho5)
          obtain ⟨A5, c5, rfl, -⟩ := own_form ho5
          have HS5 := Lib.hid (HS0.out _ hb5)
          obtain ⟨n5, hn5⟩ : ∃ n5, n5 = (tg ++ [tag]).length := ⟨_, rfl⟩
          rw [← hn5] at HGK
          rw [← hn5]
          clear hn5 ho5 hk5 hat5 hb5 HT3 HC HG0 HS0
          refine hK.out _ _ HS5.out (fun hHeld => ?_)
          clear hK K
          (try simp only [Act.put, List.setIfInBounds_toArray, List.set_cons_zero, List.set_cons_succ])
          refine way_run (by simp only [List.getElem?_toArray, List.getElem?_cons_succ, List.getElem?_cons_zero]; rfl) (by rfl) (fun K hK => ?_)
          go_simp
          refine hK.out _ _ HS5.out (fun hHeld => ?_)
          clear hK K
          (try simp only [Act.put, List.setIfInBounds_toArray, List.set_cons_zero, List.set_cons_succ])
          refine way_run (by simp only [List.getElem?_toArray, List.getElem?_cons_succ, List.getElem?_cons_zero]; rfl) (by rfl) (fun K hK => ?_)
          go_simp
          refine hK.out _ _ HS5.out (fun hHeld => ?_)
          clear hK K
          (try simp only [Act.put, List.setIfInBounds_toArray, List.set_cons_zero, List.set_cons_succ])
          refine way_last (by rfl) (by simp only [List.getElem?_toArray, List.getElem?_cons_succ, List.getElem?_cons_zero]; rfl) (by rfl) (fun K hK => ?_)
          go_simp
          refine hK.out _ _ ?_
          clear hK K
          refine way_done ?_
          go_wp2
          go_ret
          exact ⟨rfl, HGK.out⟩
      · refine way_run (by simp only [List.getElem?_toArray, List.getElem?_cons_succ, List.getElem?_cons_zero]; rfl) (by rfl) (fun K hK => ?_)
        go_simp
        refine hK.out _ _ (HS0.out _ HE18.out) (fun hHeld => ?_)
        clear hK K hHeld
        (try simp only [Act.put, List.setIfInBounds_toArray, List.set_cons_zero, List.set_cons_succ])
        refine way_run (by simp only [List.getElem?_toArray, List.getElem?_cons_succ, List.getElem?_cons_zero]; rfl) (by rfl) (fun K hK => ?_)
        go_simp
        refine hK.out _ _ (HS0.out _ HE186.out) (fun hHeld => ?_)
        clear hK K hHeld
        (try simp only [Act.put, List.setIfInBounds_toArray, List.set_cons_zero, List.set_cons_succ])
        refine way_run (by simp only [List.getElem?_toArray, List.getElem?_cons_succ, List.getElem?_cons_zero]; rfl) (by rfl) (fun K hK => ?_)
        refine wp_join (v := .slice (some ⟨w.heap.size + 1, 0, none⟩) 0 0) (X := tv) (base := w.heap.size) (xs := []) (ys := tg) (m := tg.length) (.tmp 22) (.tmp 31) rfl rfl rfl HO186.out (HG0.out _ HE186.out) rfl (by simp; omega) HE186.out.size (fun v2 w2 ho2 hk2 hat2 => ?_)
        rw [List.nil_append] at ho2
        have hb2 : Below w.heap.size w w2 := below_then HE186.out hk2 HE186.out.size fun i hi e => by
          have : w.heap.size + 1 = i := by simpa [Value.ownBlock] using e
          omega
        obtain ⟨W, hW⟩ : ∃ W, W = w2 := ⟨_, rfl⟩
        obtain ⟨L, hL⟩ : ∃ L, L = w.heap.size := ⟨_, rfl⟩
        have HT3 : Hid (W.ownsRow w.heap.size 3 1 v2 tg.length (tg.map (Value.int .i64)) ∧ Has W L (.cells #[.int .i64 tag] 3 (0, 0)) ∧ Below w.heap.size w W) := Lib.hid ⟨by rw [hW]; exact ho2, by
          rw [hW, hL]
          exact HL186.out.kept hk2 fun e => by
            have : w.heap.size + 1 = w.heap.size := Option.some.inj e
            omega, by rw [hW]; exact hb2⟩
        rw [← hW, ← hL]
        refine hK.out _ _ (HS0.out _ HT3.out.2.2) (fun hHeld => ?_)
        clear hK K hHeld hW hL ho2 hk2 hat2 hb2
        (try simp only [Act.put, List.setIfInBounds_toArray, List.set_cons_zero, List.set_cons_succ])
        refine way_run (by simp only [List.getElem?_toArray, List.getElem?_cons_succ, List.getElem?_cons_zero]; rfl) (by rfl) (fun K hK => ?_)
        refine wp_join (v := v2) (X := .slice (some ⟨L, 0, none⟩) 1 1) (base := w.heap.size) (xs := tg) (ys := [tag]) (m := 1) (.tmp 32) (.tmp 34) rfl rfl rfl HT3.out.1 (nums_gives (c := 1) (listLit (xs := [tag]) HT3.out.2.1).nums rfl (fun e => by cases e)) rfl (by simp; omega) HT3.out.2.2.size (fun v5 w5 ho5 hk5 hat5 => ?_)
        have hb5 : Below w.heap.size w w5 := below_then HT3.out.2.2 hk5 HT3.out.2.2.size fun i hi e => by
          have := (HT3.out.1.lt i e).1
          omega
        obtain ⟨⟨y5, s1⟩, s2, HGK⟩ := HC.out w5 v5 hb5 (Pile.of_own ho5)
        obtain ⟨A5, c5, rfl, -⟩ := own_form ho5
        have HS5 := Lib.hid (HS0.out _ hb5)
        obtain ⟨n5, hn5⟩ : ∃ n5, n5 = (tg ++ [tag]).length := ⟨_, rfl⟩
        rw [← hn5] at HGK
        rw [← hn5]
        clear hn5 ho5 hk5 hat5 hb5 HT3 HC HG0 HS0
        refine hK.out _ _ HS5.out (fun hHeld => ?_)
        clear hK K
        (try simp only [Act.put, List.setIfInBounds_toArray, List.set_cons_zero, List.set_cons_succ])
        refine way_run (by simp only [List.getElem?_toArray, List.getElem?_cons_succ, List.getElem?_cons_zero]; rfl) (by rfl) (fun K hK => ?_)
        go_simp
        refine hK.out _ _ HS5.out (fun hHeld => ?_)
        clear hK K
        (try simp only [Act.put, List.setIfInBounds_toArray, List.set_cons_zero, List.set_cons_succ])
        refine way_run (by simp only [List.getElem?_toArray, List.getElem?_cons_succ, List.getElem?_cons_zero]; rfl) (by rfl) (fun K hK => ?_)
        go_simp
        refine hK.out _ _ HS5.out (fun hHeld => ?_)
        clear hK K
        (try simp only [Act.put, List.setIfInBounds_toArray, List.set_cons_zero, List.set_cons_succ])
        refine way_last (by rfl) (by simp only [List.getElem?_toArray, List.getElem?_cons_succ, List.getElem?_cons_zero]; rfl) (by rfl) (fun K hK => ?_)
        go_simp
        refine hK.out _ _ ?_
        clear hK K
        refine way_done ?_
        go_wp2
        go_ret
        exact ⟨rfl, HGK.out⟩
end
end Go.Proofs.Ytafgeoafmkbeoaa

namespace Go.Proofs.Ytafgeoafmkbeoaa
open Go Go.RowKit

theorem snoc_of' {ws : List Int} (h : ws ≠ []) : ∃ vs k, ws = vs ++ [k] := ⟨ws.dropLast, ws.getLast h, (List.dropLast_concat_getLast h).symm⟩
section
variable {base : Nat} {w : World} {v X : Value} {xs ys : List Int} {m : Nat}
theorem wpList_join {ops : Array Oper} {rest : List Oper} {o : Oper} {a : Act} {Q : Exit → Act → World → Prop} (hgd : o.guard = none) (s x : Operand)
    (ho : o.op = .call { callee := .builtin .append, args := #[s, x], argTypes := #[30, 30] }) (hs : a.eval s = v) (hx : a.eval x = X)
    (hown : w.ownsRow base 3 1 v xs.length (xs.map (Value.int .i64))) (hG : Gives w 1 X m (ys.map (Value.int .i64))) (hm : m = ys.length) (hl : xs.length + ys.length ≤ 1000000) (hbase : base ≤ w.heap.size)
    (h : ∀ v' w', w'.ownsRow base 3 1 v' (xs ++ ys).length ((xs ++ ys).map (Value.int .i64)) → Keeps (fun i => v.ownBlock = some i) w w' → (∀ g, v'.ownBlock = some g → v.ownBlock = some g ∨ w.heap.size ≤ g) → wpList Try.prog ops Q rest (a.put o.dst v') w') : wpList Try.prog ops Q (o :: rest) a w :=
  wpList_plain hgd fun _ hK => wp_join s x ho hs hx hown hG hm hl hbase fun v' w' h2 h3 h4 => hK _ _ (h v' w' h2 h3 h4)
end

/-- What is told, who waits, and the board. -/
structure Gets (G : Nat → Prop) (w : World) (x : Nat) (RB : List Sg) (RO : List Int) (wr : World) (o a : Value) (D : List Sg) (O ws : List Int) (st : Nat) : Prop where
  brd : Ref G wr x D
  out : wr.ownsRow w.heap.size 3 1 o O.length (O.map (Value.int .i64))
  wait : Pile w.heap.size wr a ws
  apart : ∀ g, a.ownBlock = some g → o.ownBlock ≠ some g
  fin : (gvL D ws.reverse).1 = RB
  all : O ++ (gvL D ws.reverse).2 = RO
  there : ∀ k ∈ ws, sThere D k = true
  steps : st + gvSteps D ws.reverse ≤ 4097
  cnt : O.length + sCount D ≤ 900000
  keeps : Keeps G w wr
  low : ∀ i, G i → i < w.heap.size
  short : Short D

section
variable {G : Nat → Prop} {w : World} {x : Nat} {B : List Sg}
set_option maxHeartbeats 16000000 in
set_option maxRecDepth 100000 in
theorem rGive (id : Int) (h : Ref G w x B) (hcnt : sCount B ≤ 900000) (hsh : Short B) : Calls Try.prog 14 #[ptrTo x, .int .i64 id] w fun e w' => ∃ A' c', e = .returned (.tuple #[.slice A' (sgOut B id).length c', .bool (sFree B id)]) ∧ ListIn w' A' c' (sgOut B id) ∧ (∀ g off s, A' = some ⟨g, off, s⟩ → w.heap.size ≤ g) ∧ Ref G w' x (sgL B id) ∧ Keeps G w w' := by
  have hnot : ∀ (x : Bool) (w : World), (Op.unary .not (.bool x)).run Try.prog w = .ok (.bool (!x)) w := fun _ _ => rfl
  have HT := Lib.hid (rThere id h)
  have HV := Lib.hid (rGiven id h)
  have hno : sFree B id = false → sgL B id = B ∧ sgOut B id = [] := fun e => sgL_no e
  cases ht : sThere B id with
  | false =>
    have e1 : sFree B id = false := by unfold sFree; rw [ht]; rfl
    rw [ht] at HT
    rw [e1, (hno e1).1, (hno e1).2]
    have H := Lib.hid h
    clear h ht e1 hno hcnt hsh
    go_enter Try.func14, Try.ntmps14
    go_wp2_with fail
    refine HT.out.mono ?_
    rintro e w1 ⟨rfl, rfl⟩
    go_wp2
    go_ret2
    exact ⟨none, 0, rfl, listNone _, (fun _ _ _ e => by cases e), H.out, Keeps.refl _ _⟩
  | true =>
    rw [ht] at HT
    have hfg : sFree B id = !sGiven B id := sFree_not ht
    cases hg : sGiven B id with
    | true =>
      rw [hg] at hfg HV
      have e1 : sFree B id = false := hfg
      rw [e1, (hno e1).1, (hno e1).2]
      have H := Lib.hid h
      clear h ht e1 hno hcnt hg hfg hsh
      go_enter Try.func14, Try.ntmps14
      go_wp2_with fail
      refine HT.out.mono ?_
      rintro e w1 ⟨rfl, rfl⟩
      go_wp2_with fail
      refine HV.out.mono ?_
      rintro e w1 ⟨rfl, rfl⟩
      go_wp2
      go_ret2
      exact ⟨none, 0, rfl, listNone _, (fun _ _ _ e => by cases e), H.out, Keeps.refl _ _⟩
    | false =>
      rw [hg] at hfg HV
      have e1 : sFree B id = true := hfg
      rw [e1]
      have hfew := h.few
      obtain ⟨RB, hRB⟩ : ∃ RB, RB = sgL B id := ⟨_, rfl⟩
      obtain ⟨RO, hRO⟩ : ∃ RO, RO = sgOut B id := ⟨_, rfl⟩
      have hb0 : Below w.heap.size w (w.alloc (.cells #[.int .i64 id] 3)) := (Below.refl _ w).alloc (Nat.le_refl _) _
      have hst : 0 + gvSteps B ([id] : List Int).reverse ≤ 4097 := by
        have h1 := sLeft_le B
        have h2 : sLeft B * B.length ≤ 64 * 64 := Nat.mul_le_mul (by omega) (by omega)
        unfold gvSteps
        simp
        omega
      have hG0 : Gets G w x RB RO (w.alloc (.cells #[.int .i64 id] 3)) (.slice none 0 0) (.slice (some ⟨w.heap.size, 0, none⟩) 1 1) B [] [id] 0 :=
        ⟨h.below hb0, World.ownsRow_nil _ _ _ _, Pile.lit w [id] 1 rfl (by decide) (Nat.le_refl _), (fun g _ e => by cases e), by rw [hRB]; rfl, by rw [hRO]; rfl, (fun k hk => by rw [List.mem_singleton.1 hk]; exact ht), hst, by simpa using hcnt, Keeps.of_below hb0 fun i hi hle => by omega, h.low, hsh⟩
      rw [← hRB, ← hRO]
      have HG0 := Lib.hid hG0
      clear h ht e1 hno hg hfg hcnt hRB hRO hb0 hst hG0 hsh
      go_enter Try.func14, Try.ntmps14
      go_wp2_with fail
      refine HT.out.mono ?_
      rintro e w1 ⟨rfl, rfl⟩
      go_wp2_with fail
      refine HV.out.mono ?_
      rintro e w1 ⟨rfl, rfl⟩
      go_wp2_with fail
      go_loopw [6, 7, 8] (fun o a s wr => ∃ (D : List Sg) (O ws : List Int) (st : Nat), s = .int .i64 st ∧ Gets G w x RB RO wr o a D O ws st) (fun _ _ s _ => 10000 - (intOf s).toNat)
      case atStart => exact ⟨B, [], [id], 0, rfl, HG0.out⟩
      case round =>
        obtain ⟨D, O, ws, st, rfl, hG⟩ := hrel
        clear HG0
        obtain ⟨Ao, co, rfl, -⟩ := own_form hG.out
        obtain ⟨Aw, cw, rfl, hLw⟩ := hG.wait.form
        by_cases hws : ws = []
        · subst hws
          have e0 : O = RO := by have := hG.all; rw [List.reverse_nil, gv_nil, List.append_nil] at this; exact this
          have e2 : D = RB := by have := hG.fin; rw [List.reverse_nil, gv_nil] at this; exact this
          have HF : Hid (ListIn wr Ao co RO ∧ (∀ g off s, Ao = some ⟨g, off, s⟩ → w.heap.size ≤ g) ∧ Ref G wr x RB ∧ Keeps G w wr) := Lib.hid (by
            rw [← e0, ← e2]
            obtain ⟨A', c', ev, hLi⟩ := (Pile.of_own hG.out).form
            obtain ⟨rfl, rfl⟩ : Ao = A' ∧ co = c' := by injection ev with e1 _ e3; exact ⟨e1, e3⟩
            exact ⟨hLi, fun g off s e => (hG.out.lt g (by rw [e]; rfl)).1, hG.brd, hG.keeps⟩)
          clear hG hLw e2
          go_wp2
          go_ret2
          rw [e0]
          exact ⟨_, _, rfl, HF.out⟩
        · obtain ⟨vs, k, rfl⟩ := snoc_of' hws
          have hk : sThere D k = true := hG.there k (by simp)
          obtain ⟨bw, offw, rfl, -, cw0⟩ := hLw.nums vs.length (by simp)
          rw [List.getElem_append_right (Nat.le_refl _)] at cw0
          simp only [Nat.sub_self, List.getElem_singleton] at cw0
          have hlen : (vs ++ [k]).length = vs.length + 1 := by simp
          rw [hlen]
          have hWw := hG.wait
          rw [hlen] at hWw
          obtain ⟨gw, eg, hclip⟩ := hWw.clip rfl
          obtain ⟨rfl, rfl⟩ : bw = gw ∧ offw = 0 := by simpa using eg
          rw [Nat.zero_add] at cw0
          have hcap : vs.length + 1 ≤ cw := by have := hLw.cap; rw [hlen] at this; exact this
          have hstp := hG.steps
          rw [List.reverse_append, List.reverse_singleton, List.singleton_append] at hstp
          have hvl : vs.length ≤ 4097 := by
            unfold gvSteps at hstp
            simp only [List.length_cons, List.length_reverse] at hstp
            omega
          have hs4 : (st : Int) < 10000 := by omega
          have HVr := Lib.hid (rGiven k hG.brd)
          have HGs := Lib.hid hG
          have Hclip := Lib.hid hclip
          cases hgk : sGiven D k with
          | true =>
            rw [hgk] at HVr
            have hnf : sFree D k = false := by rw [sFree_not hk, hgk]; rfl
            have HN : Hid (Gets G w x RB RO wr (.slice Ao O.length co) (.slice (some ⟨bw, 0, none⟩) vs.length vs.length) D O vs (st + 1)) := Lib.hid ⟨hG.brd, hG.out, hclip, hG.apart, by
                have := hG.fin
                rw [List.reverse_append, List.reverse_singleton, List.singleton_append, gv_by hnf] at this
                exact this, by
                have := hG.all
                rw [List.reverse_append, List.reverse_singleton, List.singleton_append, gv_by hnf] at this
                exact this, fun y hy => hG.there y (by simp [hy]), by
                unfold gvSteps at hstp ⊢
                simp only [List.length_cons] at hstp
                omega, hG.cnt, hG.keeps, hG.low, hG.short⟩
            clear hG hgk hnf hclip hWw hLw hk hws hstp eg hlen
            go_wp2_with fail
            refine HVr.out.mono ?_
            rintro e w1 ⟨rfl, rfl⟩
            go_wp2
            go_roundw
            case rel => exact ⟨D, O, vs, st + 1, by go_num, HN.out⟩
            case measure => simp [intOf]; omega
          | false =>
            rw [hgk] at HVr
            have hf : sFree D k = true := by rw [sFree_not hk, hgk]; rfl
            obtain ⟨m, rfl, hm⟩ := sThere_at hk
            obtain ⟨A, c, hA⟩ := hG.brd
            obtain ⟨g, fv, tv, rfl, hGg, ⟨cur, hcur⟩, hz, c1, _, _, _, _⟩ := hA.at_ hm
            have hfewD := hA.few
            have hlow := hG.low
            have hgl : g < w.heap.size := hlow g hGg
            obtain ⟨n, hn⟩ : ∃ n, n = D.length := ⟨_, rfl⟩
            have c0 : wr.cell? ⟨x, 0, none⟩ = some (.slice (some ⟨g, 0, none⟩) n c) := by rw [hn]; exact hA.head.cell 0
            have z1 : wr.frozen? ⟨g, m * 3, none⟩ = false := hz _
            -- given, not told yet
            obtain ⟨D1, hD1⟩ : ∃ D1, D1 = D.modify m (fun y => (⟨true, y.follows, y.tags⟩ : Sg)) := ⟨_, rfl⟩
            have hD1l : D1.length = n := by rw [hD1, List.length_modify, hn]
            have hA1 : RefAt G (wr.setCell ⟨g, m * 3, none⟩ (.bool true)) x (some ⟨g, 0, none⟩) c D1 := by
              rw [hD1]
              exact hA.store hm (f := 0) (u := .bool true) (d := fun y => ⟨true, y.follows, y.tags⟩) (by omega) fun fv tv h1 h2 => ⟨fv, tv, rfl, h1, h2⟩
            have hm1 : m < D1.length := by rw [hD1l, hn]; exact hm
            have hx1 : D1.getD m Sg.zero = ⟨true, (D.getD m Sg.zero).follows, (D.getD m Sg.zero).tags⟩ := by rw [hD1, getD_modify hm, if_pos rfl]
            obtain ⟨g1, fv1, tv1, eg1, -, -, hz1, -, -, c21, -, hT1⟩ := hA1.at_ hm1
            obtain rfl : g = g1 := by simpa using eg1
            obtain ⟨tg, htg⟩ : ∃ tg, tg = (sg D ((m : Int) + 1)).tags := ⟨_, rfl⟩
            rw [hx1] at hT1
            rw [sg_m] at htg
            have hT1' : Lst G (wr.setCell ⟨g, m * 3, none⟩ (.bool true)) tv1 tg := by rw [htg]; exact hT1
            have c01 : (wr.setCell ⟨g, m * 3, none⟩ (.bool true)).cell? ⟨x, 0, none⟩ = some (.slice (some ⟨g, 0, none⟩) n c) := by rw [← hD1l]; exact hA1.head.cell 0
            have hmark : D1.modify m (fun y => (⟨true, y.follows, []⟩ : Sg)) = sMark D ((m : Int) + 1) := by
              rw [hD1, modify_twice, sMark_m]
              rfl
            have ho1 : (wr.setCell ⟨g, m * 3, none⟩ (.bool true)).ownsRow w.heap.size 3 1 (.slice Ao O.length co) O.length (O.map (Value.int .i64)) := own_kept hG.out (Keeps.store (F := fun i => i = g) (p := ⟨g, m * 3, none⟩) (Keeps.refl _ _) (.inl rfl) _) fun g' hg' e => by
              have := (hG.out.lt g' hg').1
              omega
            have hP1 : Pile w.heap.size (wr.setCell ⟨g, m * 3, none⟩ (.bool true)) (.slice (some ⟨bw, 0, none⟩) vs.length vs.length) vs := hclip.kept (Keeps.store (F := fun i => i = g) (p := ⟨g, m * 3, none⟩) (Keeps.refl _ _) (.inl rfl) _) fun g' hg' e => by
              have := (hclip.lt g' hg').1
              omega
            have hk1 : Keeps G w (wr.setCell ⟨g, m * 3, none⟩ (.bool true)) := hG.keeps.store (.inl hGg) _
            have hcm := sCount_mark (sFree_iff.1 hf).1
            rw [sg_m, ← htg] at hcm
            have hcnt := hG.cnt
            have HE : Hid (∀ v2 w2, w2.ownsRow w.heap.size 3 1 v2 (O ++ tg).length ((O ++ tg).map (Value.int .i64)) → Keeps (fun i => (Value.slice Ao O.length co).ownBlock = some i) (wr.setCell ⟨g, m * 3, none⟩ (.bool true)) w2 → (∀ g', v2.ownBlock = some g' → (Value.slice Ao O.length co).ownBlock = some g' ∨ (wr.setCell ⟨g, m * 3, none⟩ (.bool true)).heap.size ≤ g') →
                w2.cell? ⟨x, 0, none⟩ = some (.slice (some ⟨g, 0, none⟩) n c) ∧ (∃ y, w2.cell? ⟨g, m * 3 + 2, none⟩ = some y) ∧ w2.frozen? ⟨g, m * 3 + 2, none⟩ = false ∧ (w2.setCell ⟨g, m * 3 + 2, none⟩ (.slice none 0 0)).cell? ⟨x, 0, none⟩ = some (.slice (some ⟨g, 0, none⟩) n c) ∧
                Hid (RefAt G (w2.setCell ⟨g, m * 3 + 2, none⟩ (.slice none 0 0)) x (some ⟨g, 0, none⟩) c (sMark D ((m : Int) + 1)) ∧ (w2.setCell ⟨g, m * 3 + 2, none⟩ (.slice none 0 0)).ownsRow w.heap.size 3 1 v2 (O ++ tg).length ((O ++ tg).map (Value.int .i64)) ∧
                  Pile w.heap.size (w2.setCell ⟨g, m * 3 + 2, none⟩ (.slice none 0 0)) (.slice (some ⟨bw, 0, none⟩) vs.length vs.length) vs ∧ (∀ g', (Value.slice (some ⟨bw, 0, none⟩) vs.length vs.length).ownBlock = some g' → v2.ownBlock ≠ some g') ∧ Keeps G w (w2.setCell ⟨g, m * 3 + 2, none⟩ (.slice none 0 0)))) := Lib.hid fun v2 w2 ho2 hk2 hat2 => by
              have hnG : ∀ i, G i → ¬ (Value.slice Ao O.length co).ownBlock = some i := fun i hi e => by
                have h1 := (hG.out.lt i e).1
                have h2 := hlow i hi
                omega
              have hA2 : RefAt G w2 x (some ⟨g, 0, none⟩) c D1 := hA1.kept hk2 hnG
              have hA3 : RefAt G (w2.setCell ⟨g, m * 3 + 2, none⟩ (.slice none 0 0)) x (some ⟨g, 0, none⟩) c (sMark D ((m : Int) + 1)) := by
                rw [← hmark]
                exact hA2.store hm1 (f := 2) (u := .slice none 0 0) (d := fun y => ⟨true, y.follows, []⟩) (by omega) fun fv tv h1 h2 => ⟨fv, .slice none 0 0, by rw [hx1]; rfl, h1, Pile.nil _ _, fun g hg => by cases hg⟩
              obtain ⟨g2, fv2, tv2, eg2, -, -, hz2, -, -, c22, -, -⟩ := hA2.at_ hm1
              obtain rfl : g = g2 := by simpa using eg2
              have hsl : ∀ g', (Value.slice (some ⟨bw, 0, none⟩) vs.length vs.length).ownBlock = some g' → ¬ (Value.slice Ao O.length co).ownBlock = some g' := hG.apart
              refine ⟨by rw [← hD1l]; exact hA2.head.cell 0, ⟨_, c22⟩, hz2 _, by rw [← hD1l, show D1.length = (sMark D ((m : Int) + 1)).length by rw [sMark_length, hD1l, hn]]; exact hA3.head.cell 0, Lib.hid ⟨hA3, own_kept ho2 (Keeps.store (F := fun i => i = g) (p := ⟨g, m * 3 + 2, none⟩) (Keeps.refl _ _) (.inl rfl) _) fun g' hg' e => ?_, ?_, fun g' hg' e => ?_, ?_⟩⟩
              · have := (ho2.lt g' hg').1
                omega
              · exact (hP1.kept hk2 fun g' hg' e => hsl g' hg' e).kept (Keeps.store (F := fun i => i = g) (p := ⟨g, m * 3 + 2, none⟩) (Keeps.refl _ _) (.inl rfl) _) fun g' hg' e => by
                  have := (hP1.lt g' hg').1
                  omega
              · rcases hat2 g' e with h1 | h1
                · exact hsl g' hg' h1
                · have := (hP1.lt g' hg').2
                  omega
              · exact (hk1.trans hk2 fun i hi e => absurd e (fun e => by
                  have h1 := (hG.out.lt i e).1
                  omega)).store (.inl hGg) _
            have HO1 := Lib.hid ho1
            have HG1 := Lib.hid hT1'.1.gives
            have hjl : O.length + tg.length ≤ 1000000 := by omega
            have HS1 : Hid (w.heap.size ≤ (wr.setCell ⟨g, m * 3, none⟩ (.bool true)).heap.size) := Lib.hid hk1.grows
            have hfin := hG.fin
            have hall := hG.all
            rw [List.reverse_append, List.reverse_singleton, List.singleton_append, gv_go hf] at hfin hall
            rw [sg_m, ← htg, ← List.append_assoc] at hall
            have hgs := gv_steps (r := vs.reverse) hf
            have hmn : (m : Int) < n := by omega
            have hm0 : (0 : Int) ≤ m := by omega
            have e2 : (m : Int) + 1 - 1 = m := by omega
            have HFin := Lib.hid hfin
            have HAll := Lib.hid hall
            have Hst : Hid (st + 1 + gvSteps (sMark D ((m : Int) + 1)) (sFol D ((m : Int) + 1) ++ vs.reverse) ≤ 4097) := Lib.hid (by omega)
            have Hcnt : Hid ((O ++ tg).length + sCount (sMark D ((m : Int) + 1)) ≤ 900000) := Lib.hid (by rw [List.length_append]; omega)
            have Hsh := Lib.hid (short_mark (k := (m : Int) + 1) hG.short)
            have Hth : Hid (∀ y ∈ vs ++ (sFol D ((m : Int) + 1)).reverse, sThere (sMark D ((m : Int) + 1)) y = true) := Lib.hid fun y hy => by
              rw [sThere_len sMark_length]
              rcases List.mem_append.1 hy with hy | hy
              · exact hG.there y (by simp [hy])
              · exact (sFol_mem.1 (List.mem_reverse.1 hy)).1
            have Hlow := Lib.hid hlow
            have Hf := Lib.hid hf
            have Hn := Lib.hid hn
            clear hG hA hA1 hk hgk hf hws hlen hLw hWw hclip eg hstp hD1 hD1l hm1 hx1 hT1 hT1' hmark ho1 hP1 hk1 hcm hcnt hfin hall hgs htg hcur hz hz1 hn hGg hlow Hclip HGs eg1
            go_wp2_with fail
            refine HVr.out.mono ?_
            rintro e w1 ⟨rfl, rfl⟩
            go_wp2_with (at_builtin; refine wpList_join (v := .slice Ao O.length co) (X := tv1) (base := w.heap.size) (xs := O) (ys := tg) (m := tg.length) rfl (.tmp 57) (.tmp 66) rfl rfl rfl HO1.out HG1.out rfl hjl HS1.out ?_; intro v2 w2 ho2 hk2 hat2; obtain ⟨s1, ⟨y2, s2⟩, s3, s4, HK⟩ := HE.out v2 w2 ho2 hk2 hat2; obtain ⟨A2, c2, rfl, -⟩ := own_form ho2)
            have HK3 : Hid (RefAt G (w2.setCell ⟨g, m * 3 + 2, none⟩ (.slice none 0 0)) x (some ⟨g, 0, none⟩) c (sMark D ((m : Int) + 1)) ∧ (w2.setCell ⟨g, m * 3 + 2, none⟩ (.slice none 0 0)).ownsRow w.heap.size 3 1 (.slice A2 (O.length + tg.length) c2) (O ++ tg).length ((O ++ tg).map (Value.int .i64)) ∧
                  Pile w.heap.size (w2.setCell ⟨g, m * 3 + 2, none⟩ (.slice none 0 0)) (.slice (some ⟨bw, 0, none⟩) vs.length vs.length) vs ∧ (∀ g', (Value.slice (some ⟨bw, 0, none⟩) vs.length vs.length).ownBlock = some g' → (Value.slice A2 (O.length + tg.length) c2).ownBlock ≠ some g') ∧ Keeps G w (w2.setCell ⟨g, m * 3 + 2, none⟩ (.slice none 0 0))) := Lib.hid (by
              have := HK.out
              rw [List.length_append] at this
              rw [List.length_append]
              exact this)
            obtain ⟨W3, hW3⟩ : ∃ W3, W3 = w2.setCell ⟨g, m * 3 + 2, none⟩ (.slice none 0 0) := ⟨_, rfl⟩
            rw [← hW3] at HK3
            rw [← hW3]
            obtain ⟨C, hC⟩ : ∃ C, C = sMark D ((m : Int) + 1) := ⟨_, rfl⟩
            have hCl : C.length = n := by rw [hC, sMark_length, Hn.out]
            have hfol : ∀ j : Nat, j < n → (C.getD j Sg.zero).follows = (sg D ((j : Int) + 1)).follows := fun j hj => by
              have hj' : j < D.length := by rw [← Hn.out]; exact hj
              rw [hC, ← sg_m, sg_fol (sFree_iff.1 Hf.out).1 (sThere_m hj')]
            rw [← hC] at HFin HAll Hst Hcnt Hsh Hth HK3
            have HCl := Lib.hid hCl
            have Hfol := Lib.hid hfol
            have hfl : (sFol D ((m : Int) + 1)).length ≤ n := by rw [Hn.out]; exact sFolN_length _
            have hf0 : sFolN D ((m : Int) + 1) n = sFol D ((m : Int) + 1) := by rw [Hn.out]; rfl
            have Hfl := Lib.hid hfl
            have Hf0 := Lib.hid hf0
            have hn64 : n ≤ 64 := by rw [Hn.out]; exact hfewD
            clear hC hCl hfol hfl hf0 hW3 HK s1 s2 s3 s4 ho2 hk2 hat2 HE HO1 HG1 HS1 c0 c01 c1 c21 z1 y2 cw0 HVr
            go_loopw [7, 10] (fun a i w3 => ∃ (j : Nat) (R ws3 : List Int), i = .int .i64 j ∧ j ≤ n ∧ sFolN D ((m : Int) + 1) j ++ R = sFol D ((m : Int) + 1) ∧ ws3 = vs ++ R.reverse ∧ Pile w.heap.size w3 a ws3 ∧ RefAt G w3 x (some ⟨g, 0, none⟩) c C ∧ w3.ownsRow w.heap.size 3 1 (.slice A2 (O.length + tg.length) c2) (O ++ tg).length ((O ++ tg).map (Value.int .i64)) ∧
                (∀ g', a.ownBlock = some g' → (Value.slice A2 (O.length + tg.length) c2).ownBlock ≠ some g') ∧ Keeps G w w3) (fun _ i _ => (intOf i).toNat)
            case atStart => exact ⟨n, [], vs, rfl, Nat.le_refl _, by rw [Hf0.out, List.append_nil], by simp, HK3.out.2.2.1, HK3.out.1, HK3.out.2.1, HK3.out.2.2.2.1, HK3.out.2.2.2.2⟩
            case round =>
              obtain ⟨j, R, ws3, rfl, hj, hR, hw3, hPa, hRf, hOw, hap, hkp⟩ := hrel
              obtain ⟨Aa, ca, rfl, -⟩ := hPa.form
              clear HK3
              cases j with
              | zero =>
                have hN : Gets G w x RB RO wr (.slice A2 (O.length + tg.length) c2) (.slice Aa ws3.length ca) C (O ++ tg) ws3 (st + 1) := by
                  have hR' : R = sFol D ((m : Int) + 1) := by rw [← hR]; rfl
                  subst hR'
                  have hrev : ws3.reverse = sFol D ((m : Int) + 1) ++ vs.reverse := by rw [hw3, List.reverse_append, List.reverse_reverse]
                  exact ⟨⟨_, _, hRf⟩, hOw, hPa, hap, by rw [hrev]; exact HFin.out, by rw [hrev]; exact HAll.out, by rw [hw3]; exact Hth.out, by rw [hrev]; exact Hst.out, Hcnt.out, hkp, Hlow.out, Hsh.out⟩
                have HN := Lib.hid hN
                clear hN hPa hRf hOw hap hkp hw3 hR
                go_wp2
                go_roundw
                case rel => exact ⟨C, O ++ tg, ws3, st + 1, by go_num, HN.out⟩
                case measure => simp [intOf]; omega
              | succ j =>
                have ej : ((j + 1 : Nat) : Int) = (j : Int) + 1 := by omega
                rw [ej]
                have hjn : j < n := by omega
                have hjC : j < C.length := by rw [HCl.out]; exact hjn
                obtain ⟨g3, fv3, tv3, eg3, -, -, -, -, c31, -, hF3, -⟩ := hRf.at_ hjC
                obtain rfl : g = g3 := by simpa using eg3
                have c30 : wr.cell? ⟨x, 0, none⟩ = some (.slice (some ⟨g, 0, none⟩) n c) := by rw [← HCl.out]; exact hRf.head.cell 0
                have hfx := Hfol.out j hjn
                have hfs := short_at Hsh.out hjC
                rw [hfx] at hF3 hfs
                have hstep : sFolN D ((m : Int) + 1) (j + 1) = sFolN D ((m : Int) + 1) j ++ (if hasB (sg D ((j : Int) + 1)).follows ((m : Int) + 1) = true then [(j : Int) + 1] else []) := by
                  rw [sFolN]
                  congr 1
                  have : ((sg D ((j : Int) + 1)).follows.contains ((m : Int) + 1) = true) ↔ (hasB (sg D ((j : Int) + 1)).follows ((m : Int) + 1) = true) := by
                    unfold hasB
                    rw [List.contains_iff_mem, decide_eq_true_iff]
                  by_cases h : hasB (sg D ((j : Int) + 1)).follows ((m : Int) + 1) = true
                  · rw [if_pos (this.2 h), if_pos h]
                  · rw [if_neg fun h' => h (this.1 h'), if_neg h]
                obtain ⟨fx, hfxe⟩ : ∃ fx, fx = (sg D ((j : Int) + 1)).follows := ⟨_, rfl⟩
                rw [← hfxe] at hF3 hfs hstep
                obtain ⟨Af, cf, rfl, hLf⟩ := hF3.1.form
                have HH := Lib.hid (has_any fx Af fx.length cf ((m : Int) + 1) wr rfl (by omega) hLf.nums)
                have ej1 : (j : Int) + 1 - 1 = j := by omega
                have hjl1 : (j : Int) + 1 ≥ 1 := by omega
                have hjn' : (j : Int) < n := by omega
                have hRl : R.length ≤ n := by
                  have h1 := congrArg List.length hR
                  rw [List.length_append] at h1
                  have := Hfl.out
                  omega
                have hwl : ws3.length ≤ 1000000 := by rw [hw3, List.length_append, List.length_reverse]; omega
                have Hw3 := Lib.hid hw3
                clear hw3
                cases hb : hasB fx ((m : Int) + 1) with
                | false =>
                  rw [hb] at HH hstep
                  rw [if_neg (by decide), List.append_nil] at hstep
                  rw [hstep] at hR
                  have HX : Hid (Pile w.heap.size wr (.slice Aa ws3.length ca) ws3 ∧ RefAt G wr x (some ⟨g, 0, none⟩) c C ∧ wr.ownsRow w.heap.size 3 1 (.slice A2 (O.length + tg.length) c2) (O ++ tg).length ((O ++ tg).map (Value.int .i64)) ∧ (∀ g', (Value.slice Aa ws3.length ca).ownBlock = some g' → (Value.slice A2 (O.length + tg.length) c2).ownBlock ≠ some g') ∧ Keeps G w wr ∧ sFolN D ((m : Int) + 1) j ++ R = sFol D ((m : Int) + 1)) := Lib.hid ⟨hPa, hRf, hOw, hap, hkp, hR⟩
                  clear hPa hRf hOw hap hkp hR hF3 hLf hstep hb hfx hfs hjC ej hfxe eg3
                  go_wp2_with fail
                  refine HH.out.mono ?_
                  rintro e w4 ⟨rfl, rfl⟩
                  go_wp2
                  go_roundw
                  case rel => exact ⟨j, R, ws3, by go_num, by omega, HX.out.2.2.2.2.2, Hw3.out, HX.out.1, HX.out.2.1, HX.out.2.2.1, HX.out.2.2.2.1, HX.out.2.2.2.2.1⟩
                  case measure => first | (simp [intOf]; done) | (simp [intOf]; omega)
                | true =>
                  rw [hb] at HH hstep
                  rw [if_pos rfl] at hstep
                  rw [hstep, List.append_assoc, List.singleton_append] at hR
                  have hw3' : ws3 ++ [(j : Int) + 1] = vs ++ (((j : Int) + 1) :: R).reverse := by rw [Hw3.out, List.reverse_cons, List.append_assoc]
                  obtain ⟨W, hW⟩ : ∃ W, W = wr.alloc (.cells #[.int .i64 ((j : Int) + 1)] 3) := ⟨_, rfl⟩
                  have hbW : Below wr.heap.size wr W := by rw [hW]; exact (Below.refl _ _).alloc (Nat.le_refl _) _
                  have hlW : Has W wr.heap.size (.cells #[.int .i64 ((j : Int) + 1)] 3 (0, 0)) := by rw [hW]; exact Has.fresh _ _
                  have hPW := hPa.below hbW
                  have hS : w.heap.size ≤ W.heap.size := Nat.le_trans hkp.grows hbW.size
                  have HE : Hid (∀ g2 cap w4, Pile w.heap.size w4 (.slice (some ⟨g2, 0, none⟩) (ws3.length + 1) cap) (ws3 ++ [(j : Int) + 1]) → Keeps (fun i => (Value.slice Aa ws3.length ca).ownBlock = some i) W w4 → ((Value.slice Aa ws3.length ca).ownBlock = some g2 ∨ W.heap.size ≤ g2) →
                      Hid (RefAt G w4 x (some ⟨g, 0, none⟩) c C ∧ w4.ownsRow w.heap.size 3 1 (.slice A2 (O.length + tg.length) c2) (O ++ tg).length ((O ++ tg).map (Value.int .i64)) ∧ (∀ g', (Value.slice (some ⟨g2, 0, none⟩) (ws3.length + 1) cap).ownBlock = some g' → (Value.slice A2 (O.length + tg.length) c2).ownBlock ≠ some g') ∧ Keeps G w w4)) := Lib.hid fun g2 cap w4 hp4 hk4 hat4 => by
                    have hnG : ∀ i, G i → ¬ (Value.slice Aa ws3.length ca).ownBlock = some i := fun i hi e => by
                      have h1 := (hPa.lt i e).1
                      have h2 := Hlow.out i hi
                      omega
                    refine Lib.hid ⟨(hRf.below hbW).kept hk4 hnG, own_kept (own_below hOw hbW) hk4 fun g' hg' e => hap g' e hg', fun g' hg' e => ?_, (hkp.also (Keeps.of_below (F := G) hbW fun i hi hle => by omega)).trans hk4 fun i hi e => absurd e fun e => by
                      have h1 := (hPa.lt i e).1
                      omega⟩
                    obtain rfl : g2 = g' := by simpa [Value.ownBlock] using hg'
                    rcases hat4 with h1 | h1
                    · exact hap g2 h1 e
                    · have := own_in hOw g2 e
                      have := hbW.size
                      omega
                  have HPW := Lib.hid hPW
                  have HLW := Lib.hid hlW
                  have HSW := Lib.hid hS
                  have HRr := Lib.hid hR
                  have Hw3' := Lib.hid hw3'
                  clear hw3'
                  have HW := Lib.hid hW
                  rw [HW.out] at HPW HLW HSW HE
                  clear hPa hRf hOw hap hkp hR hF3 hLf hstep hb hfx hfs hjC ej hfxe eg3 hbW hlW hPW hS hW HW
                  go_wp2_with fail
                  refine HH.out.mono ?_
                  rintro e w5 ⟨rfl, rfl⟩
                  go_wp2_with (at_builtin; refine wpList_push rfl (.tmp 96) (.tmp 98) rfl rfl HPW.out rfl HLW.out hwl HSW.out ?_; intro g2 cap w4 hp4 hk4 hat4 _; have HX := HE.out g2 cap w4 hp4 hk4 hat4; have HP4 := Lib.hid hp4; clear hp4 hk4 hat4)
                  go_roundw
                  case rel => exact ⟨j, ((j : Int) + 1) :: R, ws3 ++ [(j : Int) + 1], by go_num, by omega, HRr.out, Hw3'.out, HP4.out, HX.out.1, HX.out.2.1, HX.out.2.2.1, HX.out.2.2.2⟩
                  case measure => first | (simp [intOf]; done) | (simp [intOf]; omega)
end
end Go.Proofs.Ytafgeoafmkbeoaa
