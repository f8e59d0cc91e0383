/-
  What towncrierlaw04.ArenaPlays does with an arena that keeps its promises: it answers true.
-/
import Derived.Test.YtlbaahfadfmffaaFy
namespace Go.Proofs.Ytlbaahfadfmffaa
open Go Go.RowKit

section
variable {Rep : (Nat → Prop) → World → Nat → List Nd → Prop}

/-- The program's forest and the document's, apart: in blocks from B on that S and G name. -/
structure Both (Rep : (Nat → Prop) → World → Nat → List Nd → Prop) (B : Nat) (w : World) (b : Nat) (A : Option Addr) (c : Nat) (l : List Nd) : Prop where
  sets : ∃ S G : Nat → Prop, Rep S w b l ∧ Nodes G w 0 A c l ∧ (∀ i, S i → B ≤ i ∧ i < w.heap.size) ∧ (∀ i, G i → i < w.heap.size) ∧ ∀ i, S i → ¬ G i

theorem Both.below (O : ForestOk Rep) {B b c : Nat} {w w' : World} {A : Option Addr} {l : List Nd} (h : Both Rep B w b A c l) (hb : Below w.heap.size w w') : Both Rep B w' b A c l := by
  obtain ⟨S, G, h1, h2, h3, h4, h5⟩ := h.sets
  exact ⟨S, G, O.below h1 hb, h2.below hb, fun i hi => ⟨(h3 i hi).1, Nat.lt_of_lt_of_le (h3 i hi).2 hb.size⟩, fun i hi => Nat.lt_of_lt_of_le (h4 i hi) hb.size, h5⟩

/-- A call on the program's. -/
theorem both_do (O : ForestOk Rep) {B b c : Nat} {w : World} {A : Option Addr} {l : List Nd} {x : Ac} {A1 : Option Addr} {c1 : Nat} {A2 : Option Addr} {c2 : Nat} (h : Both Rep B w b A c l) (hB : B ≤ w.heap.size) (hg : Good l) (hx1 : ListIn w A1 c1 x.n.kids) (hx : ActIn w x A2 c2) (hxl : x.l.length ≤ 200) :
    Calls Try.prog 9 #[at_ b, actVal x (.slice A1 x.n.kids.length c1) (.slice A2 x.l.length c2)] w fun e w' => e = .returned (.tuple #[.int .i64 (actNo l x), .int .i64 (actErr l x)]) ∧
      (∃ S G : Nat → Prop, Rep S w' b (actL l x) ∧ Nodes G w' 0 A c l ∧ (∀ i, S i → B ≤ i ∧ i < w'.heap.size) ∧ (∀ i, G i → i < w'.heap.size) ∧ ∀ i, S i → ¬ G i) ∧ Keeps (fun i => B ≤ i) w w' := by
  obtain ⟨S, G, h1, h2, h3, h4, h5⟩ := h.sets
  have hR : Rep (fun i => S i ∨ w.heap.size ≤ i) w b l := O.wide h1 fun i hi _ => .inl hi
  refine (do4_any O (fun i => S i ∨ w.heap.size ≤ i) w b l x A1 c1 A2 c2 hR hg (fun i hi => .inr hi) hx1 hx hxl).mono ?_
  rintro e w' ⟨rfl, hR', hk⟩
  refine ⟨rfl, ⟨fun i => (S i ∨ w.heap.size ≤ i) ∧ i < w'.heap.size, G, O.wide hR' fun i hi hlt => ⟨hi, hlt⟩, h2.keptG hk fun i hi hlt hh => ?_, fun i hi => ⟨?_, hi.2⟩, fun i hi => Nat.lt_of_lt_of_le (h4 i hi) hk.grows, fun i hi hG => ?_⟩, hk.wide fun i _ hi => ?_⟩
  · rcases hh with hh | hh
    · exact h5 i hh hi
    · omega
  · rcases hi.1 with hh | hh
    · exact (h3 i hh).1
    · omega
  · rcases hi.1 with hh | hh
    · exact h5 i hh hG
    · have := h4 i hG; omega
  · rcases hi with hh | hh
    · exact (h3 i hh).1
    · omega
/-- .. and on the document's. -/
theorem both_ref (O : ForestOk Rep) {B b c : Nat} {w : World} {A : Option Addr} {l : List Nd} {x : Ac} {kv : Value} {A2 : Option Addr} {c2 : Nat} (h : ∃ S G : Nat → Prop, Rep S w b (actL l x) ∧ Nodes G w 0 A c l ∧ (∀ i, S i → B ≤ i ∧ i < w.heap.size) ∧ (∀ i, G i → i < w.heap.size) ∧ ∀ i, S i → ¬ G i) (hg : Good l) (hx : ActIn w x A2 c2) (hxl : x.l.length ≤ 200) :
    Calls Try.prog 10 #[.slice A l.length c, actVal x kv (.slice A2 x.l.length c2)] w fun e w' => ∃ A' c', e = .returned (.tuple #[.slice A' (actL l x).length c', .int .i64 (actNo l x), .int .i64 (actErr l x)]) ∧ Both Rep B w' b A' c' (actL l x) ∧ Below w.heap.size w w' := by
  obtain ⟨S, G, h1, h2, h3, h4, h5⟩ := h
  refine (do_any l A c x kv A2 c2 w (Nat.le_trans hg.len (by omega)) (fun d hd => Nat.le_trans (hg.few d hd) (by omega)) (fun i hi => .inr hi) (Nat.le_trans hxl (by omega)) (h2.wide (G' := fun i => G i ∨ w.heap.size ≤ i) fun i hi _ => .inl hi) hx).mono ?_
  rintro e w' ⟨A', c', rfl, hN, hb⟩
  refine ⟨A', c', rfl, ⟨S, fun i => (G i ∨ w.heap.size ≤ i) ∧ i < w'.heap.size, O.below h1 hb, hN.wide fun i hi hlt => ⟨hi, hlt⟩, fun i hi => ⟨(h3 i hi).1, Nat.lt_of_lt_of_le (h3 i hi).2 hb.size⟩, fun i hi => hi.2, fun i hi hG => ?_⟩, hb⟩
  rcases hG.1 with hh | hh
  · exact h5 i hi hh
  · have := (h3 i hi).2; omega

set_option linter.unusedSimpArgs false in
set_option maxHeartbeats 32000000 in
set_option maxRecDepth 100000 in
theorem arenaPlays_any (O : ForestOk Rep) (M : ForestMore Rep) (hA : ∀ w : World, Calls Try.prog 6 #[] w fun e w' => e = .returned (.bool true) ∧ Below w.heap.size w w') (A : Option Addr) (n c : Nat) (xs : List Ac) (id : Int) (w : World) (hn : xs.length = n) (hm : n ≤ maxLen) (h : Acts w A xs) :
    Calls Try.prog 3 #[.slice A n c, .int .i64 id] w fun e w' => e = .returned (.bool true) ∧ Below w.heap.size w w' := by
  have hnot : ∀ (x : Bool) (w : World), (Op.unary .not (.bool x)).run Try.prog w = .ok (.bool (!x)) w := fun _ _ => rfl
  have H0 := Lib.hid h
  have Hn := Lib.hid hn
  have HA := Lib.hid hA
  clear h hn hA
  go_enter Try.func3, Try.ntmps3
  go_wp2_with fail
  refine (HA.out w).mono ?_
  rintro e w0 ⟨rfl, hb0⟩
  go_wp2_with fail
  refine (great_any A n c xs w0 Hn.out hm (H0.out.below hb0)).mono ?_
  rintro e w1 ⟨⟨gr, rfl, hgr⟩, rfl⟩
  cases gr with
  | true =>
    go_wp2
    go_ret
    exact ⟨rfl, hb0⟩
  | false =>
    have hsm := hgr rfl
    have Hsm := Lib.hid hsm
    have hn3 : n ≤ 300 := by rw [← Hn.out]; exact hsm.1
    clear hgr hsm
    go_wp2_with fail
    refine (O.new (fun i => w0.heap.size ≤ i) w0 (fun _ h => h)).mono ?_
    rintro e w1 ⟨b, rfl, hR1, hb1⟩
    have hB1 : Below w.heap.size w w1 := hb0.trans (hb1.mono hb0.size)
    have hBo : Both Rep w0.heap.size w1 b none 0 [] := ⟨fun i => w0.heap.size ≤ i ∧ i < w1.heap.size, fun _ => False, O.wide hR1 fun i hi hlt => ⟨hi, hlt⟩, Nodes.nil _ _, fun i hi => hi, fun i hi => hi.elim, fun _ _ h => h⟩
    have hws : w.heap.size ≤ w0.heap.size := hb0.size
    have hws1 : w0.heap.size ≤ w1.heap.size := hb1.size
    clear hR1 hb1 hb0
    go_wp2_with fail
    go_loopw [6, 7] (fun v i wr => ∃ (j : Nat) (A' : Option Addr) (c' : Nat), v = .slice A' (forest (xs.take j)).length c' ∧ i = .int .i64 j ∧ j ≤ n ∧ Both Rep w0.heap.size wr b A' c' (forest (xs.take j)) ∧ Below w.heap.size w wr ∧ w0.heap.size ≤ wr.heap.size) (fun _ i _ => n - (intOf i).toNat)
    case atStart => exact ⟨0, none, 0, rfl, rfl, Nat.zero_le _, hBo, hB1, hws1⟩
    case round =>
      obtain ⟨j, A', c', rfl, rfl, hj, hBo, hbr, hsz⟩ := hrel
      clear hB1
      by_cases hjn : (j : Int) < n
      · have hjx : j < xs.length := by rw [Hn.out]; omega
        obtain ⟨b', off, A1, c1, A2, c2, rfl, hlt, hc, hL, hAc⟩ := H0.out j hjx
        have hsn : forest (xs.take (j + 1)) = actL (forest (xs.take j)) xs[j] := by
          rw [List.take_add_one, List.getElem?_eq_getElem hjx]
          exact forest_snoc _ _
        have hxl : xs[j].l.length ≤ 200 := Hsm.out.2 _ (List.getElem_mem hjx)
        have hgd := good_take Hsm.out j
        obtain ⟨x, hx⟩ : ∃ x, x = xs[j] := ⟨_, rfl⟩
        rw [← hx] at hc hL hAc hsn hxl
        obtain ⟨l, hl⟩ : ∃ l, l = forest (xs.take j) := ⟨_, rfl⟩
        rw [← hl] at hBo hsn hgd
        rw [← hl]
        have hc' : ∀ f, f < 14 → w.cell? ⟨b', off + j * 14 + f, none⟩ = (actCells x (.slice A1 x.n.kids.length c1) (.slice A2 x.l.length c2))[f]? := fun f hf => by
          rw [Nat.add_assoc]
          exact hc f hf
        have hcr : ∀ f, f < 14 → wr.cell? ⟨b', off + j * 14 + f, none⟩ = (actCells x (.slice A1 x.n.kids.length c1) (.slice A2 x.l.length c2))[f]? := fun f hf => (hbr.cell (p := ⟨b', off + j * 14 + f, none⟩) hlt).trans (hc' f hf)
        have g0 : wr.cell? ⟨b', off + j * 14, none⟩ = some (.int .i64 x.kind) := hcr 0 (by omega)
        have g1 : wr.cell? ⟨b', off + j * 14 + 1, none⟩ = some (.int .i64 x.a) := hcr 1 (by omega)
        have g2 : wr.cell? ⟨b', off + j * 14 + 2, none⟩ = some (.int .i64 x.b) := hcr 2 (by omega)
        have g3 : wr.cell? ⟨b', off + j * 14 + 3, none⟩ = some (.string x.s) := hcr 3 (by omega)
        have g4 : wr.cell? ⟨b', off + j * 14 + 4, none⟩ = some (.int .i64 x.n.kind) := hcr 4 (by omega)
        have g5 : wr.cell? ⟨b', off + j * 14 + 5, none⟩ = some (.int .i64 x.n.parent) := hcr 5 (by omega)
        have g6 : wr.cell? ⟨b', off + j * 14 + 6, none⟩ = some (.int .i64 x.n.host) := hcr 6 (by omega)
        have g7 : wr.cell? ⟨b', off + j * 14 + 7, none⟩ = some (.int .i64 x.n.shadow) := hcr 7 (by omega)
        have g8 : wr.cell? ⟨b', off + j * 14 + 8, none⟩ = some (.int .i64 x.n.mode) := hcr 8 (by omega)
        have g9 : wr.cell? ⟨b', off + j * 14 + 9, none⟩ = some (.bool x.n.slot) := hcr 9 (by omega)
        have g10 : wr.cell? ⟨b', off + j * 14 + 10, none⟩ = some (.string x.n.name) := hcr 10 (by omega)
        have g11 : wr.cell? ⟨b', off + j * 14 + 11, none⟩ = some (.string x.n.want) := hcr 11 (by omega)
        have g12 : wr.cell? ⟨b', off + j * 14 + 12, none⟩ = some (.slice A1 x.n.kids.length c1) := hcr 12 (by omega)
        have g13 : wr.cell? ⟨b', off + j * 14 + 13, none⟩ = some (.slice A2 x.l.length c2) := hcr 13 (by omega)
        have C := both_do O hBo hsz hgd (hL.below hbr) (hAc.below hbr) hxl
        have C2 := fun (w5 : World) h5 h6 => both_ref (kv := .slice A1 x.n.kids.length c1) (A2 := A2) (c2 := c2) (w := w5) O (A := A') (c := c') (B := w0.heap.size) (b := b) (l := l) (x := x) h5 hgd h6 hxl
        unfold actVal at C C2
        have hgd' := good_act (x := x) hgd hxl
        have HC := Lib.hid C
        have HC2 := Lib.hid C2
        have Hsn := Lib.hid hsn
        have Hac := Lib.hid hAc
        have Hc' := Lib.hid hc'
        have Hgd' := Lib.hid hgd'
        clear C C2 hc hc' hcr hsn hx hL hAc hBo hl hgd'
        go_wp2_with fail
        refine HC.out.mono ?_
        rintro e w5 ⟨rfl, hS5, hk5⟩
        have hb5 : Below w.heap.size w w5 := below_then hbr hk5 hbr.size fun i hi hh => by omega
        have hc5 : ∀ f, f < 14 → w5.cell? ⟨b', off + j * 14 + f, none⟩ = (actCells x (.slice A1 x.n.kids.length c1) (.slice A2 x.l.length c2))[f]? := fun f hf => (hb5.cell (p := ⟨b', off + j * 14 + f, none⟩) hlt).trans (Hc'.out f hf)
        clear g0 g1 g2 g3 g4 g5 g6 g7 g8 g9 g10 g11 g12 g13
        have k0 : w5.cell? ⟨b', off + j * 14, none⟩ = some (.int .i64 x.kind) := hc5 0 (by omega)
        have k1 : w5.cell? ⟨b', off + j * 14 + 1, none⟩ = some (.int .i64 x.a) := hc5 1 (by omega)
        have k2 : w5.cell? ⟨b', off + j * 14 + 2, none⟩ = some (.int .i64 x.b) := hc5 2 (by omega)
        have k3 : w5.cell? ⟨b', off + j * 14 + 3, none⟩ = some (.string x.s) := hc5 3 (by omega)
        have k4 : w5.cell? ⟨b', off + j * 14 + 4, none⟩ = some (.int .i64 x.n.kind) := hc5 4 (by omega)
        have k5 : w5.cell? ⟨b', off + j * 14 + 5, none⟩ = some (.int .i64 x.n.parent) := hc5 5 (by omega)
        have k6 : w5.cell? ⟨b', off + j * 14 + 6, none⟩ = some (.int .i64 x.n.host) := hc5 6 (by omega)
        have k7 : w5.cell? ⟨b', off + j * 14 + 7, none⟩ = some (.int .i64 x.n.shadow) := hc5 7 (by omega)
        have k8 : w5.cell? ⟨b', off + j * 14 + 8, none⟩ = some (.int .i64 x.n.mode) := hc5 8 (by omega)
        have k9 : w5.cell? ⟨b', off + j * 14 + 9, none⟩ = some (.bool x.n.slot) := hc5 9 (by omega)
        have k10 : w5.cell? ⟨b', off + j * 14 + 10, none⟩ = some (.string x.n.name) := hc5 10 (by omega)
        have k11 : w5.cell? ⟨b', off + j * 14 + 11, none⟩ = some (.string x.n.want) := hc5 11 (by omega)
        have k12 : w5.cell? ⟨b', off + j * 14 + 12, none⟩ = some (.slice A1 x.n.kids.length c1) := hc5 12 (by omega)
        have k13 : w5.cell? ⟨b', off + j * 14 + 13, none⟩ = some (.slice A2 x.l.length c2) := hc5 13 (by omega)
        have C3 := HC2.out w5 hS5 (Hac.out.below hb5)
        have HC3 := Lib.hid C3
        have hs5 := hk5.grows
        clear hc5 C3 hS5 hk5
        go_wp2_with fail
        refine HC3.out.mono ?_
        rintro e w6 ⟨A6, c6, rfl, hBo6, hb6⟩
        obtain ⟨no, hno⟩ : ∃ no, no = actNo l x := ⟨_, rfl⟩
        obtain ⟨er, her⟩ : ∃ er, er = actErr l x := ⟨_, rfl⟩
        obtain ⟨l', hl'⟩ : ∃ l', l' = actL l x := ⟨_, rfl⟩
        rw [← hl'] at hBo6 Hsn Hgd'
        rw [← hno, ← her, ← hl']
        have hB6 : Below w.heap.size w w6 := hb5.trans (hb6.mono hb5.size)
        have hs6 := hb6.size
        obtain ⟨S6, G6, hR6, hN6, hS6a, hG6a, hd6⟩ := hBo6.sets
        have HBo := Lib.hid hBo6
        clear hno her hl' hb6 hb5 hBo6 k0 k1 k2 k3 k4 k5 k6 k7 k8 k9 k10 k11 k12 k13
        go_wp2_with fail
        refine (M.len S6 w6 b l' hR6 Hgd'.out).mono ?_
        rintro e w7 ⟨rfl, hb7⟩
        have hBo7 := HBo.out.below O hb7
        have hB7 : Below w.heap.size w w7 := hB6.trans (hb7.mono hB6.size)
        have hs7 := hb7.size
        clear hb7 hR6 hN6
        go_wp2
        go_roundw
        case rel => exact ⟨j + 1, A6, c6, by rw [Hsn.out], by go_num, by omega, by rw [Hsn.out]; exact hBo7, hB7, by omega⟩
        case measure => simp [intOf]; omega
      · have hfx : forest (xs.take j) = forest xs := by rw [List.take_of_length_le (by rw [Hn.out]; omega)]
        have hgd := good_forest Hsm.out
        rw [hfx] at hBo
        rw [hfx]
        obtain ⟨L, hL⟩ : ∃ L, L = forest xs := ⟨_, rfl⟩
        rw [← hL] at hBo hgd
        rw [← hL]
        have Hgd := Lib.hid hgd
        have HBo := Lib.hid hBo
        obtain ⟨S, G, hR, hN, hSa, hGa, hdis⟩ := hBo.sets
        have hlen := hgd.len
        clear hfx hL hgd hBo hSa hGa hdis
        go_wp2_with fail
        refine (M.node S wr b L id hR Hgd.out).mono ?_
        rintro e w7 ⟨d, Ad, cd, rfl, hd, hKd, hb7⟩
        obtain ⟨wP, hwP⟩ : ∃ wP, wP = wr := ⟨_, rfl⟩
        have hbP : Below wP.heap.size wP w7 := by rw [hwP]; exact hb7
        have hbW : Below w.heap.size w wP := by rw [hwP]; exact hbr
        have HBP := Lib.hid (show Both Rep w0.heap.size wP b A' c' L by rw [hwP]; exact HBo.out)
        have HwP := Lib.hid hwP
        clear hwP
        have hBo7 := HBo.out.below O hb7
        have hB7 : Below w.heap.size w w7 := hbr.trans (hb7.mono hbr.size)
        have hs7 : w0.heap.size ≤ w7.heap.size := Nat.le_trans hsz hb7.size
        have hN7 := hN.below hb7
        obtain ⟨B7, hB7'⟩ : ∃ B7, B7 = wr.heap.size := ⟨_, rfl⟩
        rw [← hB7'] at hKd
        have hs7' : B7 ≤ w7.heap.size := by rw [hB7']; exact hb7.size
        have hs0 : w0.heap.size ≤ B7 := by rw [hB7']; exact hsz
        obtain ⟨th, hth⟩ : ∃ th, th = thereB L id := ⟨_, rfl⟩
        rw [← hth] at hd
        rw [← hth]
        have hkl : d.kids.length ≤ 200 := by
          rw [hd]
          split
          · rename_i h1
            have h2 := nd_get (hth.symm.trans h1)
            exact Hgd.out.few _ (List.mem_of_getElem? h2)
          · exact Nat.zero_le _
        have HB7 := Lib.hid (show B7 = wP.heap.size by rw [hB7', HwP.out])
        have Hd := Lib.hid hd
        have Hth := Lib.hid hth
        have HN7 := Lib.hid hN7
        have HBo7 := Lib.hid hBo7
        have HKd := Lib.hid hKd
        clear hd hth hKd hN hR hN7 hBo7 hb7 HBo hB7'
        obtain ⟨w8, hw8⟩ : ∃ w8, w8 = w7.alloc (.cells #[.int .i64 d.kind, .int .i64 d.parent, .int .i64 d.host, .int .i64 d.shadow, .int .i64 d.mode, .bool d.slot, .string d.name, .string d.want, .slice Ad d.kids.length cd] 33) := ⟨_, rfl⟩
        obtain ⟨bn, hbn⟩ : ∃ bn, bn = w7.heap.size := ⟨_, rfl⟩
        have hbox : Has w8 bn (.cells #[.int .i64 d.kind, .int .i64 d.parent, .int .i64 d.host, .int .i64 d.shadow, .int .i64 d.mode, .bool d.slot, .string d.name, .string d.want, .slice Ad d.kids.length cd] 33 (0, 0)) := by rw [hw8, hbn]; exact Has.fresh _ _
        have hb8 : Below w7.heap.size w7 w8 := by rw [hw8]; exact (Below.refl _ w7).alloc (Nat.le_refl _) _
        have hbnB : B7 ≤ bn := by omega
        have Hw8 := Lib.hid hw8.symm
        have Hbn := Lib.hid hbn.symm
        clear hw8 hbn
        obtain ⟨Ax, cx, ex, -, hnumd⟩ := (HKd.out.below hb8).form
        obtain ⟨rfl, rfl⟩ : Ad = Ax ∧ cd = cx := by injection ex with e1 _ e3; exact ⟨e1, e3⟩
        have Hnd := Lib.hid hnumd
        clear ex hnumd
        go_wp2_with fail
        rw [Hw8.out, Hbn.out]
        cases th with
        | true =>
          have hdd : d = nd L id := by have := Hd.out; rwa [if_pos rfl] at this
          obtain ⟨m, hm1, hml⟩ := there_at Hth.out.symm
          subst hm1
          rw [nd_at hml] at hdd
          have hml' : (m : Int) < L.length := by omega
          have hw2 : IntKind.i64.wrap (m : Int) = (m : Int) := wrap_small (by omega) (by omega)
          obtain ⟨g, k, rfl, -, hKk, -, hck⟩ := (HN7.out.below hb8).at_ hml
          rw [← hdd] at hKk hck
          obtain ⟨Ak, ck, rfl, -, hnumk⟩ := hKk.form
          have hgi : g < w8.heap.size := (HN7.out.below hb8).inside _ _ _ rfl
          have S0 : (w8.cell? ⟨bn, 0, none⟩ = some (.int .i64 d.kind) ∧ w8.cell? ⟨bn, 1, none⟩ = some (.int .i64 d.parent) ∧ w8.cell? ⟨bn, 2, none⟩ = some (.int .i64 d.host) ∧ w8.cell? ⟨bn, 3, none⟩ = some (.int .i64 d.shadow) ∧ w8.cell? ⟨bn, 4, none⟩ = some (.int .i64 d.mode) ∧ w8.cell? ⟨bn, 5, none⟩ = some (.bool d.slot) ∧ w8.cell? ⟨bn, 6, none⟩ = some (.string d.name) ∧ w8.cell? ⟨bn, 7, none⟩ = some (.string d.want) ∧ w8.cell? ⟨bn, 8, none⟩ = some (.slice Ad d.kids.length cd)) ∧ (w8.cell? ⟨g, m * 9, none⟩ = some (.int .i64 d.kind) ∧ w8.cell? ⟨g, m * 9 + 1, none⟩ = some (.int .i64 d.parent) ∧ w8.cell? ⟨g, m * 9 + 2, none⟩ = some (.int .i64 d.host) ∧ w8.cell? ⟨g, m * 9 + 3, none⟩ = some (.int .i64 d.shadow) ∧ w8.cell? ⟨g, m * 9 + 4, none⟩ = some (.int .i64 d.mode) ∧ w8.cell? ⟨g, m * 9 + 5, none⟩ = some (.bool d.slot) ∧ w8.cell? ⟨g, m * 9 + 6, none⟩ = some (.string d.name) ∧ w8.cell? ⟨g, m * 9 + 7, none⟩ = some (.string d.want) ∧ w8.cell? ⟨g, m * 9 + 8, none⟩ = some (.slice Ak d.kids.length ck)) := ⟨⟨Has.cell hbox 0, Has.cell hbox 1, Has.cell hbox 2, Has.cell hbox 3, Has.cell hbox 4, Has.cell hbox 5, Has.cell hbox 6, Has.cell hbox 7, Has.cell hbox 8⟩, ⟨hck 0 (by omega), hck 1 (by omega), hck 2 (by omega), hck 3 (by omega), hck 4 (by omega), hck 5 (by omega), hck 6 (by omega), hck 7 (by omega), hck 8 (by omega)⟩⟩
          have C := one_any d.kind d.parent d.host d.shadow d.mode d.kind d.parent d.host d.shadow d.mode d.slot d.slot d.name d.want d.name d.want d.kids d.kids Ad Ak cd ck w8.drew (Nat.le_trans hkl (by omega)) Hnd.out hnumk
          have hone : oneB ⟨d.kind, d.parent, d.host, d.shadow, d.mode, d.slot, d.name, d.want, d.kids⟩ ⟨d.kind, d.parent, d.host, d.shadow, d.mode, d.slot, d.name, d.want, d.kids⟩ = true := oneB_refl d
          rw [hone] at C
          have HC := Lib.hid C
          have Hth' := Lib.hid Hth.out.symm
          clear C hone hck hKk hdd hnumk
          refine wp_region_way (late := []) (S := fun w' => (w'.cell? ⟨bn, 0, none⟩ = some (.int .i64 d.kind) ∧ w'.cell? ⟨bn, 1, none⟩ = some (.int .i64 d.parent) ∧ w'.cell? ⟨bn, 2, none⟩ = some (.int .i64 d.host) ∧ w'.cell? ⟨bn, 3, none⟩ = some (.int .i64 d.shadow) ∧ w'.cell? ⟨bn, 4, none⟩ = some (.int .i64 d.mode) ∧ w'.cell? ⟨bn, 5, none⟩ = some (.bool d.slot) ∧ w'.cell? ⟨bn, 6, none⟩ = some (.string d.name) ∧ w'.cell? ⟨bn, 7, none⟩ = some (.string d.want) ∧ w'.cell? ⟨bn, 8, none⟩ = some (.slice Ad d.kids.length cd)) ∧ (w'.cell? ⟨g, m * 9, none⟩ = some (.int .i64 d.kind) ∧ w'.cell? ⟨g, m * 9 + 1, none⟩ = some (.int .i64 d.parent) ∧ w'.cell? ⟨g, m * 9 + 2, none⟩ = some (.int .i64 d.host) ∧ w'.cell? ⟨g, m * 9 + 3, none⟩ = some (.int .i64 d.shadow) ∧ w'.cell? ⟨g, m * 9 + 4, none⟩ = some (.int .i64 d.mode) ∧ w'.cell? ⟨g, m * 9 + 5, none⟩ = some (.bool d.slot) ∧ w'.cell? ⟨g, m * 9 + 6, none⟩ = some (.string d.name) ∧ w'.cell? ⟨g, m * 9 + 7, none⟩ = some (.string d.want) ∧ w'.cell? ⟨g, m * 9 + 8, none⟩ = some (.slice Ak d.kids.length ck))) (y := Way.takes [0, 1, 2] (.run 3 (Way.takes [4, 5, 6, 7, 8, 9, 10, 11, 12, 13] (.run 14 (Way.takes [15, 16, 17, 18, 19, 20, 21, 22, 23] (.run 24 (Way.takes [25, 26, 27] .fin))))))) (by kernel_rfl) (by kernel_rfl) rfl (by kernel_rfl) S0 (fun hHeld => ?_)
          simp only [Way.takes]
          (repeat (first | (refine way_skip (by simp only [List.getElem?_toArray, List.getElem?_cons_succ, List.getElem?_cons_zero]; rfl) (by rfl) hHeld ?_; (try simp only [Act.put, List.setIfInBounds_toArray, List.set_cons_zero, List.set_cons_succ])) | (refine way_pass (by simp only [List.getElem?_toArray, List.getElem?_cons_succ, List.getElem?_cons_zero]; rfl) (by rfl) hHeld ?_; (try simp only [Act.put, List.setIfInBounds_toArray, List.set_cons_zero, List.set_cons_succ])) | (refine way_take (v := ?_) (by simp only [List.getElem?_toArray, List.getElem?_cons_succ, List.getElem?_cons_zero]; rfl) (by rfl) ?_ hHeld ?_; rotate_left; (focus (intro w hSw; (try dsimp only at hSw); go_simp; (try with_reducible rfl); done)); (try simp only [Act.put, List.setIfInBounds_toArray, List.set_cons_zero, List.set_cons_succ]))))
          refine way_run (by simp only [List.getElem?_toArray, List.getElem?_cons_succ, List.getElem?_cons_zero]; rfl) (by rfl) (fun K hK => ?_)
          go_simp
          refine (there_any L _ c' _ w8.drew).mono ?_
          rintro e w9 ⟨rfl, rfl⟩
          rw [Hth'.out]
          go_simp
          refine hK.out _ _ S0 (fun hHeld => ?_)
          clear hK K
          (try simp only [Act.put, List.setIfInBounds_toArray, List.set_cons_zero, List.set_cons_succ])
          (repeat (first | (refine way_skip (by simp only [List.getElem?_toArray, List.getElem?_cons_succ, List.getElem?_cons_zero]; rfl) (by rfl) hHeld ?_; (try simp only [Act.put, List.setIfInBounds_toArray, List.set_cons_zero, List.set_cons_succ])) | (refine way_pass (by simp only [List.getElem?_toArray, List.getElem?_cons_succ, List.getElem?_cons_zero]; rfl) (by rfl) hHeld ?_; (try simp only [Act.put, List.setIfInBounds_toArray, List.set_cons_zero, List.set_cons_succ])) | (refine way_take (v := ?_) (by simp only [List.getElem?_toArray, List.getElem?_cons_succ, List.getElem?_cons_zero]; rfl) (by rfl) ?_ hHeld ?_; rotate_left; (focus (intro w hSw; (try dsimp only at hSw); go_simp; (try with_reducible rfl); done)); (try simp only [Act.put, List.setIfInBounds_toArray, List.set_cons_zero, List.set_cons_succ]))))
          refine way_run (by simp only [List.getElem?_toArray, List.getElem?_cons_succ, List.getElem?_cons_zero]; rfl) (by rfl) (fun K hK => ?_)
          go_simp
          refine HC.out.mono ?_
          rintro e w9 ⟨rfl, hb9⟩
          have hb9' : Below w8.heap.size w8 w9 := ⟨hb9.os, hb9.tape, hb9.output, hb9.size, hb9.block⟩
          have T1 : ∀ i, w9.cell? ⟨bn, i, none⟩ = w8.cell? ⟨bn, i, none⟩ := fun i => hb9'.cell (p := ⟨bn, i, none⟩) hbox.inside
          have T2 : ∀ i, w9.cell? ⟨g, i, none⟩ = w8.cell? ⟨g, i, none⟩ := fun i => hb9'.cell (p := ⟨g, i, none⟩) hgi
          have S9 : (w9.cell? ⟨bn, 0, none⟩ = some (.int .i64 d.kind) ∧ w9.cell? ⟨bn, 1, none⟩ = some (.int .i64 d.parent) ∧ w9.cell? ⟨bn, 2, none⟩ = some (.int .i64 d.host) ∧ w9.cell? ⟨bn, 3, none⟩ = some (.int .i64 d.shadow) ∧ w9.cell? ⟨bn, 4, none⟩ = some (.int .i64 d.mode) ∧ w9.cell? ⟨bn, 5, none⟩ = some (.bool d.slot) ∧ w9.cell? ⟨bn, 6, none⟩ = some (.string d.name) ∧ w9.cell? ⟨bn, 7, none⟩ = some (.string d.want) ∧ w9.cell? ⟨bn, 8, none⟩ = some (.slice Ad d.kids.length cd)) ∧ (w9.cell? ⟨g, m * 9, none⟩ = some (.int .i64 d.kind) ∧ w9.cell? ⟨g, m * 9 + 1, none⟩ = some (.int .i64 d.parent) ∧ w9.cell? ⟨g, m * 9 + 2, none⟩ = some (.int .i64 d.host) ∧ w9.cell? ⟨g, m * 9 + 3, none⟩ = some (.int .i64 d.shadow) ∧ w9.cell? ⟨g, m * 9 + 4, none⟩ = some (.int .i64 d.mode) ∧ w9.cell? ⟨g, m * 9 + 5, none⟩ = some (.bool d.slot) ∧ w9.cell? ⟨g, m * 9 + 6, none⟩ = some (.string d.name) ∧ w9.cell? ⟨g, m * 9 + 7, none⟩ = some (.string d.want) ∧ w9.cell? ⟨g, m * 9 + 8, none⟩ = some (.slice Ak d.kids.length ck)) := ⟨⟨(T1 _).trans S0.1.1, (T1 _).trans S0.1.2.1, (T1 _).trans S0.1.2.2.1, (T1 _).trans S0.1.2.2.2.1, (T1 _).trans S0.1.2.2.2.2.1, (T1 _).trans S0.1.2.2.2.2.2.1, (T1 _).trans S0.1.2.2.2.2.2.2.1, (T1 _).trans S0.1.2.2.2.2.2.2.2.1, (T1 _).trans S0.1.2.2.2.2.2.2.2.2⟩, ⟨(T2 _).trans S0.2.1, (T2 _).trans S0.2.2.1, (T2 _).trans S0.2.2.2.1, (T2 _).trans S0.2.2.2.2.1, (T2 _).trans S0.2.2.2.2.2.1, (T2 _).trans S0.2.2.2.2.2.2.1, (T2 _).trans S0.2.2.2.2.2.2.2.1, (T2 _).trans S0.2.2.2.2.2.2.2.2.1, (T2 _).trans S0.2.2.2.2.2.2.2.2.2⟩⟩
          clear T1 T2 hb9
          go_simp
          refine hK.out _ _ S9 (fun hHeld => ?_)
          clear hK K
          (try simp only [Act.put, List.setIfInBounds_toArray, List.set_cons_zero, List.set_cons_succ])
          (repeat (first | (refine way_skip (by simp only [List.getElem?_toArray, List.getElem?_cons_succ, List.getElem?_cons_zero]; rfl) (by rfl) hHeld ?_; (try simp only [Act.put, List.setIfInBounds_toArray, List.set_cons_zero, List.set_cons_succ])) | (refine way_pass (by simp only [List.getElem?_toArray, List.getElem?_cons_succ, List.getElem?_cons_zero]; rfl) (by rfl) hHeld ?_; (try simp only [Act.put, List.setIfInBounds_toArray, List.set_cons_zero, List.set_cons_succ])) | (refine way_take (v := ?_) (by simp only [List.getElem?_toArray, List.getElem?_cons_succ, List.getElem?_cons_zero]; rfl) (by rfl) ?_ hHeld ?_; rotate_left; (focus (intro w hSw; (try dsimp only at hSw); go_simp; (try with_reducible rfl); done)); (try simp only [Act.put, List.setIfInBounds_toArray, List.set_cons_zero, List.set_cons_succ]))))
          refine way_done ?_
          have hKd9 := (HKd.out.below hb8).below hb9'
          have hBo9 := (HBo7.out.below O hb8).below O hb9'
          have hB9 : Below w.heap.size w w9 := (hB7.trans (hb8.mono hB7.size)).trans (hb9'.mono (hB7.trans (hb8.mono hB7.size)).size)
          have hbox9 := hbox.below hb9' hbox.inside
          have hs9 : bn < w9.heap.size := hbox9.inside
          clear S0 S9 hHeld
          have hbP9 : Below wP.heap.size wP w9 := (hbP.trans (hb8.mono hbP.size)).trans (hb9'.mono (hbP.trans (hb8.mono hbP.size)).size)
          clear hBo9 hb8 hb9' hB9 hbox hs9
          go_wp2_with fail
          go_loopw [15] (fun i wr' => ∃ (q : Nat) (ks : List Int), i = .int .i64 q ∧ q ≤ d.kids.length ∧ ks.length = d.kids.length ∧ Has wr' bn (.cells #[.int .i64 d.kind, .int .i64 d.parent, .int .i64 d.host, .int .i64 d.shadow, .int .i64 d.mode, .bool d.slot, .string d.name, .string d.want, .slice Ad d.kids.length cd] 33 (0, 0)) ∧ Kids (fun i => B7 ≤ i) wr' (.slice Ad d.kids.length cd) ks ∧ Below wP.heap.size wP wr') (fun i _ => d.kids.length - (intOf i).toNat)
          case atStart => exact ⟨0, d.kids, rfl, Nat.zero_le _, rfl, hbox9, hKd9, hbP9⟩
          case round =>
            clear hbox9 hKd9 hbP9
            obtain ⟨q, ks, rfl, hq, hksl, hbx, hkx, hbx9⟩ := hrel
            have c8 : wr.cell? ⟨bn, 8, none⟩ = some (.slice Ad d.kids.length cd) := Has.cell hbx 8
            have Hksl := Lib.hid hksl
            by_cases hql : (q : Int) < d.kids.length
            · have hqk : q < ks.length := by rw [Hksl.out]; omega
              obtain ⟨gk, rfl, hGk, -, ⟨x0, hx0⟩, hfz, hgk, hkw⟩ := hkx.write hqk 99
              have hne : bn ≠ gk := Has.apart hbx hgk (by simp)
              have Hgk := Lib.hid hgk
              clear hksl hgk
              go_wp2
              go_roundw
              case rel => exact ⟨q + 1, ks.set q 99, by go_num, by omega, by rw [List.length_set]; exact Hksl.out, Has.aside hbx hne _, hkw, hbx9.setCell (by rw [← HB7.out]; exact hGk) _⟩
              case measure => simp [intOf]; omega
            · have hBQ := HBP.out.below O hbx9
              obtain ⟨S5, G5, hR5, hN5, -, -, -⟩ := hBQ.sets
              obtain ⟨wQ, hwQ⟩ : ∃ wQ, wQ = wr := ⟨_, rfl⟩
              rw [← hwQ] at hR5 hN5 hBQ hbx9
              have HBQ := Lib.hid hBQ
              have hcc : wQ.cell? ⟨bn, 8, none⟩ = some (.slice Ad d.kids.length cd) := by rw [hwQ]; exact c8
              rw [← hwQ]
              clear hwQ hksl hbx hkx c8 hBQ Hksl
              go_wp2_with fail
              refine (O.all S5 wQ b L hR5 Hgd.out).mono ?_
              rintro e w5 ⟨A5, c5, rfl, hNA, hb5⟩
              have hN5' := hN5.below hb5
              go_wp2_with fail
              refine (same_any L L A5 _ c5 c' _ 0 w5 (by omega) (fun d hd => Nat.le_trans (Hgd.out.few d hd) (by omega)) (hNA.wide (G' := fun _ => True) fun _ _ _ => trivial) (hN5'.wide fun _ _ _ => trivial)).mono ?_
              rintro e w6 ⟨rfl, hb6⟩
              rw [sameL_refl]
              have hNA6 := hNA.below hb6
              have hbQ6 : Below wQ.heap.size wQ w6 := hb5.trans (hb6.mono hb5.size)
              have hbP6 : Below wP.heap.size wP wQ := hbx9
              clear hNA hN5' hN5 hR5 hb5 hb6 hbx9 hcc
              go_wp2_with fail
              go_loopw [17] (fun i wr' => ∃ (m : Nat) (L2 : List Nd), i = .int .i64 m ∧ m ≤ L.length ∧ L2.length = L.length ∧ (∀ i, (L2.getD i Nd.zero).kids.length = (L.getD i Nd.zero).kids.length) ∧ Nodes (fun i => wQ.heap.size ≤ i) wr' wQ.heap.size A5 c5 L2 ∧ Below wQ.heap.size wQ wr') (fun i _ => L.length - (intOf i).toNat)
              case atStart => exact ⟨0, L, rfl, Nat.zero_le _, rfl, fun _ => rfl, hNA6, hbQ6⟩
              case round =>
                clear hNA6 hbQ6
                obtain ⟨m, L2, rfl, hm2, hL2, hk2, hN2, hb2⟩ := hrel
                have HL2 := Lib.hid hL2
                have Hk2 := Lib.hid hk2
                clear hL2 hk2
                by_cases hml2 : (m : Int) < L.length
                · have hmL : m < L.length := by omega
                  have hm2' : m < L2.length := by rw [HL2.out]; exact hmL
                  obtain ⟨ga, rfl, hga⟩ := hN2.some_ hm2'
                  obtain ⟨⟨x0, hx0⟩, hz0, hN3⟩ := hN2.turn (F := fun d => { d with kind := 9 }) (u := .int .i64 9) (f := 0) hm2' (by omega) (fun _ _ => rfl) (fun _ => rfl)
                  rw [modN_at hm2'] at hN3
                  rw [Nat.add_zero] at hx0 hz0 hN3
                  have hkeep : ∀ i, ((L2.set m { L2[m] with kind := 9 }).getD i Nd.zero).kids.length = (L.getD i Nd.zero).kids.length := fun i => by
                    rw [← Hk2.out i, List.getD_eq_getElem?_getD, List.getD_eq_getElem?_getD]
                    by_cases e : m = i
                    · subst e
                      rw [List.getElem?_set_self hm2', List.getElem?_eq_getElem hm2']
                      rfl
                    · rw [List.getElem?_set_ne e]
                  have hlen3 : (L2.set m { L2[m] with kind := 9 }).length = L.length := by rw [List.length_set]; exact HL2.out
                  have hb3 : Below wQ.heap.size wQ (wr.setCell ⟨ga, m * 9, none⟩ (.int .i64 9)) := hb2.setCell hga _
                  have hklm : (L.getD m Nd.zero).kids.length ≤ 200 := by rw [getD_at hmL]; exact Hgd.out.few _ (List.getElem_mem hmL)
                  obtain ⟨lm, hlm⟩ : ∃ lm, lm = (L.getD m Nd.zero).kids.length := ⟨_, rfl⟩
                  rw [← hlm] at hklm
                  have Hlm := Lib.hid hlm
                  have HN3 := Lib.hid hN3
                  have Hkeep := Lib.hid hkeep
                  have Hlen3 := Lib.hid hlen3
                  clear hN3 hkeep hlen3 hlm hN2
                  go_wp2_with fail
                  go_loopw [18] (fun i wr' => ∃ (q : Nat) (L4 : List Nd), i = .int .i64 q ∧ q ≤ lm ∧ L4.length = L.length ∧ (∀ i, (L4.getD i Nd.zero).kids.length = (L.getD i Nd.zero).kids.length) ∧ Nodes (fun i => wQ.heap.size ≤ i) wr' wQ.heap.size (some ⟨ga, 0, none⟩) c5 L4 ∧ Below wQ.heap.size wQ wr') (fun i _ => lm - (intOf i).toNat)
                  case atStart => exact ⟨0, _, rfl, Nat.zero_le _, Hlen3.out, Hkeep.out, HN3.out, hb3⟩
                  case round =>
                    clear hb3 hx0 hz0
                    obtain ⟨q4, L4, rfl, hq4, hL4, hk4, hN4, hb4⟩ := hrel
                    have hm4 : m < L4.length := by rw [hL4]; exact hmL
                    have hk4m : L4[m].kids.length = lm := by rw [Hlm.out, ← hk4 m, getD_at hm4]
                    obtain ⟨g4, kv4, e4, -, hK4, -, hc4⟩ := hN4.at_ hm4
                    obtain rfl : ga = g4 := by simpa using e4
                    obtain ⟨Ak4, ck4, rfl, -, -⟩ := hK4.form
                    have c8 : wr.cell? ⟨ga, m * 9 + 8, none⟩ = some (.slice Ak4 lm ck4) := by rw [← hk4m]; exact hc4 8 (by omega)
                    have HL4 := Lib.hid hL4
                    have Hk4 := Lib.hid hk4
                    have Hk4m := Lib.hid hk4m
                    clear hL4 hk4 hc4 e4 hk4m
                    by_cases hql4 : (q4 : Int) < lm
                    · have hqk4 : q4 < L4[m].kids.length := by rw [Hk4m.out]; omega
                      obtain ⟨gk, rfl, hGk, -, ⟨x0, hx0⟩, hfz, hgk, -⟩ := hK4.write hqk4 99
                      obtain ⟨L5, hL5, hk5, hN5⟩ := hN4.written (g := gk) (j := q4) 99 hgk
                      have HN5 := Lib.hid hN5
                      have hL5' : L5.length = L.length := hL5.trans HL4.out
                      have hk5' : ∀ i, (L5.getD i Nd.zero).kids.length = (L.getD i Nd.zero).kids.length := fun i => (hk5 i).trans (Hk4.out i)
                      have HL5 := Lib.hid hL5'
                      have Hk5 := Lib.hid hk5'
                      clear hN5 hL5 hk5 hL5' hk5' hgk hK4 hN4
                      go_wp2
                      go_roundw
                      case rel => exact ⟨q4 + 1, L5, by go_num, by omega, HL5.out, Hk5.out, HN5.out, hb4.setCell hGk _⟩
                      case measure => simp [intOf]; omega
                    · clear hK4
                      go_wp2
                      go_roundw
                      case rel => exact ⟨m + 1, L4, by go_num, by omega, HL4.out, Hk4.out, hN4, hb4⟩
                      case measure => simp [intOf]; omega
                · have hBR := HBQ.out.below O hb2
                  obtain ⟨S8, G8, hR8, hN8, -, -, -⟩ := hBR.sets
                  clear hBR hN2
                  go_wp2_with fail
                  refine (O.all S8 wr b L hR8 Hgd.out).mono ?_
                  rintro e w8 ⟨A8, c8, rfl, hNA8, hb8⟩
                  have hN8' := hN8.below hb8
                  go_wp2_with fail
                  refine (same_any L L A8 _ c8 c' _ 0 w8 (by omega) (fun d hd => Nat.le_trans (Hgd.out.few d hd) (by omega)) (hNA8.wide (G' := fun _ => True) fun _ _ _ => trivial) (hN8'.wide fun _ _ _ => trivial)).mono ?_
                  rintro e w9 ⟨rfl, hb9⟩
                  rw [sameL_refl]
                  have hb29 : Below wQ.heap.size wQ w9 := (hb2.trans (hb8.mono hb2.size)).trans (hb9.mono (hb2.trans (hb8.mono hb2.size)).size)
                  have hbF : Below wP.heap.size wP w9 := hbP6.trans (hb29.mono hbP6.size)
                  clear hNA8 hN8' hN8 hR8 hb8 hb9
                  go_wp2
                  go_ret
                  exact ⟨rfl, hbW.trans (hbF.mono hbW.size)⟩
        | false =>
          have hdd : d = Nd.zero := by have := Hd.out; rwa [if_neg (by decide)] at this
          have S0 : (w8.cell? ⟨bn, 0, none⟩ = some (.int .i64 d.kind) ∧ w8.cell? ⟨bn, 1, none⟩ = some (.int .i64 d.parent) ∧ w8.cell? ⟨bn, 2, none⟩ = some (.int .i64 d.host) ∧ w8.cell? ⟨bn, 3, none⟩ = some (.int .i64 d.shadow) ∧ w8.cell? ⟨bn, 4, none⟩ = some (.int .i64 d.mode) ∧ w8.cell? ⟨bn, 5, none⟩ = some (.bool d.slot) ∧ w8.cell? ⟨bn, 6, none⟩ = some (.string d.name) ∧ w8.cell? ⟨bn, 7, none⟩ = some (.string d.want) ∧ w8.cell? ⟨bn, 8, none⟩ = some (.slice Ad d.kids.length cd)) := ⟨Has.cell hbox 0, Has.cell hbox 1, Has.cell hbox 2, Has.cell hbox 3, Has.cell hbox 4, Has.cell hbox 5, Has.cell hbox 6, Has.cell hbox 7, Has.cell hbox 8⟩
          have C := one_any d.kind d.parent d.host d.shadow d.mode 0 0 0 0 0 d.slot false d.name d.want ⟨#[]⟩ ⟨#[]⟩ d.kids [] Ad none cd 0 w8.drew (Nat.le_trans hkl (by omega)) Hnd.out (fun i hi => absurd hi (Nat.not_lt_zero i))
          have hone : oneB ⟨d.kind, d.parent, d.host, d.shadow, d.mode, d.slot, d.name, d.want, d.kids⟩ ⟨0, 0, 0, 0, 0, false, ⟨#[]⟩, ⟨#[]⟩, []⟩ = true := by rw [hdd]; exact oneB_refl Nd.zero
          rw [hone] at C
          have HC := Lib.hid C
          have Hth' := Lib.hid Hth.out.symm
          clear C hone hdd
          refine wp_region_way (late := []) (S := fun w' => (w'.cell? ⟨bn, 0, none⟩ = some (.int .i64 d.kind) ∧ w'.cell? ⟨bn, 1, none⟩ = some (.int .i64 d.parent) ∧ w'.cell? ⟨bn, 2, none⟩ = some (.int .i64 d.host) ∧ w'.cell? ⟨bn, 3, none⟩ = some (.int .i64 d.shadow) ∧ w'.cell? ⟨bn, 4, none⟩ = some (.int .i64 d.mode) ∧ w'.cell? ⟨bn, 5, none⟩ = some (.bool d.slot) ∧ w'.cell? ⟨bn, 6, none⟩ = some (.string d.name) ∧ w'.cell? ⟨bn, 7, none⟩ = some (.string d.want) ∧ w'.cell? ⟨bn, 8, none⟩ = some (.slice Ad d.kids.length cd))) (y := Way.takes [0, 1, 2] (.run 3 (Way.takes [4, 5, 6, 7, 8, 9, 10, 11, 12, 13] (.run 14 (Way.takes [15, 16, 17, 18, 19, 20, 21, 22, 23] (.run 24 (Way.takes [25, 26, 27] .fin))))))) (by kernel_rfl) (by kernel_rfl) rfl (by kernel_rfl) S0 (fun hHeld => ?_)
          simp only [Way.takes]
          (repeat (first | (refine way_skip (by simp only [List.getElem?_toArray, List.getElem?_cons_succ, List.getElem?_cons_zero]; rfl) (by rfl) hHeld ?_; (try simp only [Act.put, List.setIfInBounds_toArray, List.set_cons_zero, List.set_cons_succ])) | (refine way_pass (by simp only [List.getElem?_toArray, List.getElem?_cons_succ, List.getElem?_cons_zero]; rfl) (by rfl) hHeld ?_; (try simp only [Act.put, List.setIfInBounds_toArray, List.set_cons_zero, List.set_cons_succ])) | (refine way_take (v := ?_) (by simp only [List.getElem?_toArray, List.getElem?_cons_succ, List.getElem?_cons_zero]; rfl) (by rfl) ?_ hHeld ?_; rotate_left; (focus (intro w hSw; (try dsimp only at hSw); go_simp; (try with_reducible rfl); done)); (try simp only [Act.put, List.setIfInBounds_toArray, List.set_cons_zero, List.set_cons_succ]))))
          refine way_run (by simp only [List.getElem?_toArray, List.getElem?_cons_succ, List.getElem?_cons_zero]; rfl) (by rfl) (fun K hK => ?_)
          go_simp
          refine (there_any L _ c' _ w8.drew).mono ?_
          rintro e w9 ⟨rfl, rfl⟩
          rw [Hth'.out]
          go_simp
          refine hK.out _ _ S0 (fun hHeld => ?_)
          clear hK K
          (try simp only [Act.put, List.setIfInBounds_toArray, List.set_cons_zero, List.set_cons_succ])
          (repeat (first | (refine way_skip (by simp only [List.getElem?_toArray, List.getElem?_cons_succ, List.getElem?_cons_zero]; rfl) (by rfl) hHeld ?_; (try simp only [Act.put, List.setIfInBounds_toArray, List.set_cons_zero, List.set_cons_succ])) | (refine way_pass (by simp only [List.getElem?_toArray, List.getElem?_cons_succ, List.getElem?_cons_zero]; rfl) (by rfl) hHeld ?_; (try simp only [Act.put, List.setIfInBounds_toArray, List.set_cons_zero, List.set_cons_succ])) | (refine way_take (v := ?_) (by simp only [List.getElem?_toArray, List.getElem?_cons_succ, List.getElem?_cons_zero]; rfl) (by rfl) ?_ hHeld ?_; rotate_left; (focus (intro w hSw; (try dsimp only at hSw); go_simp; (try with_reducible rfl); done)); (try simp only [Act.put, List.setIfInBounds_toArray, List.set_cons_zero, List.set_cons_succ]))))
          refine way_run (by simp only [List.getElem?_toArray, List.getElem?_cons_succ, List.getElem?_cons_zero]; rfl) (by rfl) (fun K hK => ?_)
          go_simp
          refine HC.out.mono ?_
          rintro e w9 ⟨rfl, hb9⟩
          have hb9' : Below w8.heap.size w8 w9 := ⟨hb9.os, hb9.tape, hb9.output, hb9.size, hb9.block⟩
          have T1 : ∀ i, w9.cell? ⟨bn, i, none⟩ = w8.cell? ⟨bn, i, none⟩ := fun i => hb9'.cell (p := ⟨bn, i, none⟩) hbox.inside
          have S9 : (w9.cell? ⟨bn, 0, none⟩ = some (.int .i64 d.kind) ∧ w9.cell? ⟨bn, 1, none⟩ = some (.int .i64 d.parent) ∧ w9.cell? ⟨bn, 2, none⟩ = some (.int .i64 d.host) ∧ w9.cell? ⟨bn, 3, none⟩ = some (.int .i64 d.shadow) ∧ w9.cell? ⟨bn, 4, none⟩ = some (.int .i64 d.mode) ∧ w9.cell? ⟨bn, 5, none⟩ = some (.bool d.slot) ∧ w9.cell? ⟨bn, 6, none⟩ = some (.string d.name) ∧ w9.cell? ⟨bn, 7, none⟩ = some (.string d.want) ∧ w9.cell? ⟨bn, 8, none⟩ = some (.slice Ad d.kids.length cd)) := ⟨(T1 _).trans S0.1, (T1 _).trans S0.2.1, (T1 _).trans S0.2.2.1, (T1 _).trans S0.2.2.2.1, (T1 _).trans S0.2.2.2.2.1, (T1 _).trans S0.2.2.2.2.2.1, (T1 _).trans S0.2.2.2.2.2.2.1, (T1 _).trans S0.2.2.2.2.2.2.2.1, (T1 _).trans S0.2.2.2.2.2.2.2.2⟩
          clear T1 hb9
          go_simp
          refine hK.out _ _ S9 (fun hHeld => ?_)
          clear hK K
          (try simp only [Act.put, List.setIfInBounds_toArray, List.set_cons_zero, List.set_cons_succ])
          (repeat (first | (refine way_skip (by simp only [List.getElem?_toArray, List.getElem?_cons_succ, List.getElem?_cons_zero]; rfl) (by rfl) hHeld ?_; (try simp only [Act.put, List.setIfInBounds_toArray, List.set_cons_zero, List.set_cons_succ])) | (refine way_pass (by simp only [List.getElem?_toArray, List.getElem?_cons_succ, List.getElem?_cons_zero]; rfl) (by rfl) hHeld ?_; (try simp only [Act.put, List.setIfInBounds_toArray, List.set_cons_zero, List.set_cons_succ])) | (refine way_take (v := ?_) (by simp only [List.getElem?_toArray, List.getElem?_cons_succ, List.getElem?_cons_zero]; rfl) (by rfl) ?_ hHeld ?_; rotate_left; (focus (intro w hSw; (try dsimp only at hSw); go_simp; (try with_reducible rfl); done)); (try simp only [Act.put, List.setIfInBounds_toArray, List.set_cons_zero, List.set_cons_succ]))))
          refine way_done ?_
          have hKd9 := (HKd.out.below hb8).below hb9'
          have hBo9 := (HBo7.out.below O hb8).below O hb9'
          have hB9 : Below w.heap.size w w9 := (hB7.trans (hb8.mono hB7.size)).trans (hb9'.mono (hB7.trans (hb8.mono hB7.size)).size)
          have hbox9 := hbox.below hb9' hbox.inside
          have hs9 : bn < w9.heap.size := hbox9.inside
          clear S0 S9 hHeld
          have hbP9 : Below wP.heap.size wP w9 := (hbP.trans (hb8.mono hbP.size)).trans (hb9'.mono (hbP.trans (hb8.mono hbP.size)).size)
          clear hBo9 hb8 hb9' hB9 hbox hs9
          go_wp2_with fail
          go_loopw [15] (fun i wr' => ∃ (q : Nat) (ks : List Int), i = .int .i64 q ∧ q ≤ d.kids.length ∧ ks.length = d.kids.length ∧ Has wr' bn (.cells #[.int .i64 d.kind, .int .i64 d.parent, .int .i64 d.host, .int .i64 d.shadow, .int .i64 d.mode, .bool d.slot, .string d.name, .string d.want, .slice Ad d.kids.length cd] 33 (0, 0)) ∧ Kids (fun i => B7 ≤ i) wr' (.slice Ad d.kids.length cd) ks ∧ Below wP.heap.size wP wr') (fun i _ => d.kids.length - (intOf i).toNat)
          case atStart => exact ⟨0, d.kids, rfl, Nat.zero_le _, rfl, hbox9, hKd9, hbP9⟩
          case round =>
            clear hbox9 hKd9 hbP9
            obtain ⟨q, ks, rfl, hq, hksl, hbx, hkx, hbx9⟩ := hrel
            have c8 : wr.cell? ⟨bn, 8, none⟩ = some (.slice Ad d.kids.length cd) := Has.cell hbx 8
            have Hksl := Lib.hid hksl
            by_cases hql : (q : Int) < d.kids.length
            · have hqk : q < ks.length := by rw [Hksl.out]; omega
              obtain ⟨gk, rfl, hGk, -, ⟨x0, hx0⟩, hfz, hgk, hkw⟩ := hkx.write hqk 99
              have hne : bn ≠ gk := Has.apart hbx hgk (by simp)
              have Hgk := Lib.hid hgk
              clear hksl hgk
              go_wp2
              go_roundw
              case rel => exact ⟨q + 1, ks.set q 99, by go_num, by omega, by rw [List.length_set]; exact Hksl.out, Has.aside hbx hne _, hkw, hbx9.setCell (by rw [← HB7.out]; exact hGk) _⟩
              case measure => simp [intOf]; omega
            · have hBQ := HBP.out.below O hbx9
              obtain ⟨S5, G5, hR5, hN5, -, -, -⟩ := hBQ.sets
              obtain ⟨wQ, hwQ⟩ : ∃ wQ, wQ = wr := ⟨_, rfl⟩
              rw [← hwQ] at hR5 hN5 hBQ hbx9
              have HBQ := Lib.hid hBQ
              have hcc : wQ.cell? ⟨bn, 8, none⟩ = some (.slice Ad d.kids.length cd) := by rw [hwQ]; exact c8
              rw [← hwQ]
              clear hwQ hksl hbx hkx c8 hBQ Hksl
              go_wp2_with fail
              refine (O.all S5 wQ b L hR5 Hgd.out).mono ?_
              rintro e w5 ⟨A5, c5, rfl, hNA, hb5⟩
              have hN5' := hN5.below hb5
              go_wp2_with fail
              refine (same_any L L A5 _ c5 c' _ 0 w5 (by omega) (fun d hd => Nat.le_trans (Hgd.out.few d hd) (by omega)) (hNA.wide (G' := fun _ => True) fun _ _ _ => trivial) (hN5'.wide fun _ _ _ => trivial)).mono ?_
              rintro e w6 ⟨rfl, hb6⟩
              rw [sameL_refl]
              have hNA6 := hNA.below hb6
              have hbQ6 : Below wQ.heap.size wQ w6 := hb5.trans (hb6.mono hb5.size)
              have hbP6 : Below wP.heap.size wP wQ := hbx9
              clear hNA hN5' hN5 hR5 hb5 hb6 hbx9 hcc
              go_wp2_with fail
              go_loopw [17] (fun i wr' => ∃ (m : Nat) (L2 : List Nd), i = .int .i64 m ∧ m ≤ L.length ∧ L2.length = L.length ∧ (∀ i, (L2.getD i Nd.zero).kids.length = (L.getD i Nd.zero).kids.length) ∧ Nodes (fun i => wQ.heap.size ≤ i) wr' wQ.heap.size A5 c5 L2 ∧ Below wQ.heap.size wQ wr') (fun i _ => L.length - (intOf i).toNat)
              case atStart => exact ⟨0, L, rfl, Nat.zero_le _, rfl, fun _ => rfl, hNA6, hbQ6⟩
              case round =>
                clear hNA6 hbQ6
                obtain ⟨m, L2, rfl, hm2, hL2, hk2, hN2, hb2⟩ := hrel
                have HL2 := Lib.hid hL2
                have Hk2 := Lib.hid hk2
                clear hL2 hk2
                by_cases hml2 : (m : Int) < L.length
                · have hmL : m < L.length := by omega
                  have hm2' : m < L2.length := by rw [HL2.out]; exact hmL
                  obtain ⟨ga, rfl, hga⟩ := hN2.some_ hm2'
                  obtain ⟨⟨x0, hx0⟩, hz0, hN3⟩ := hN2.turn (F := fun d => { d with kind := 9 }) (u := .int .i64 9) (f := 0) hm2' (by omega) (fun _ _ => rfl) (fun _ => rfl)
                  rw [modN_at hm2'] at hN3
                  rw [Nat.add_zero] at hx0 hz0 hN3
                  have hkeep : ∀ i, ((L2.set m { L2[m] with kind := 9 }).getD i Nd.zero).kids.length = (L.getD i Nd.zero).kids.length := fun i => by
                    rw [← Hk2.out i, List.getD_eq_getElem?_getD, List.getD_eq_getElem?_getD]
                    by_cases e : m = i
                    · subst e
                      rw [List.getElem?_set_self hm2', List.getElem?_eq_getElem hm2']
                      rfl
                    · rw [List.getElem?_set_ne e]
                  have hlen3 : (L2.set m { L2[m] with kind := 9 }).length = L.length := by rw [List.length_set]; exact HL2.out
                  have hb3 : Below wQ.heap.size wQ (wr.setCell ⟨ga, m * 9, none⟩ (.int .i64 9)) := hb2.setCell hga _
                  have hklm : (L.getD m Nd.zero).kids.length ≤ 200 := by rw [getD_at hmL]; exact Hgd.out.few _ (List.getElem_mem hmL)
                  obtain ⟨lm, hlm⟩ : ∃ lm, lm = (L.getD m Nd.zero).kids.length := ⟨_, rfl⟩
                  rw [← hlm] at hklm
                  have Hlm := Lib.hid hlm
                  have HN3 := Lib.hid hN3
                  have Hkeep := Lib.hid hkeep
                  have Hlen3 := Lib.hid hlen3
                  clear hN3 hkeep hlen3 hlm hN2
                  go_wp2_with fail
                  go_loopw [18] (fun i wr' => ∃ (q : Nat) (L4 : List Nd), i = .int .i64 q ∧ q ≤ lm ∧ L4.length = L.length ∧ (∀ i, (L4.getD i Nd.zero).kids.length = (L.getD i Nd.zero).kids.length) ∧ Nodes (fun i => wQ.heap.size ≤ i) wr' wQ.heap.size (some ⟨ga, 0, none⟩) c5 L4 ∧ Below wQ.heap.size wQ wr') (fun i _ => lm - (intOf i).toNat)
                  case atStart => exact ⟨0, _, rfl, Nat.zero_le _, Hlen3.out, Hkeep.out, HN3.out, hb3⟩
                  case round =>
                    clear hb3 hx0 hz0
                    obtain ⟨q4, L4, rfl, hq4, hL4, hk4, hN4, hb4⟩ := hrel
                    have hm4 : m < L4.length := by rw [hL4]; exact hmL
                    have hk4m : L4[m].kids.length = lm := by rw [Hlm.out, ← hk4 m, getD_at hm4]
                    obtain ⟨g4, kv4, e4, -, hK4, -, hc4⟩ := hN4.at_ hm4
                    obtain rfl : ga = g4 := by simpa using e4
                    obtain ⟨Ak4, ck4, rfl, -, -⟩ := hK4.form
                    have c8 : wr.cell? ⟨ga, m * 9 + 8, none⟩ = some (.slice Ak4 lm ck4) := by rw [← hk4m]; exact hc4 8 (by omega)
                    have HL4 := Lib.hid hL4
                    have Hk4 := Lib.hid hk4
                    have Hk4m := Lib.hid hk4m
                    clear hL4 hk4 hc4 e4 hk4m
                    by_cases hql4 : (q4 : Int) < lm
                    · have hqk4 : q4 < L4[m].kids.length := by rw [Hk4m.out]; omega
                      obtain ⟨gk, rfl, hGk, -, ⟨x0, hx0⟩, hfz, hgk, -⟩ := hK4.write hqk4 99
                      obtain ⟨L5, hL5, hk5, hN5⟩ := hN4.written (g := gk) (j := q4) 99 hgk
                      have HN5 := Lib.hid hN5
                      have hL5' : L5.length = L.length := hL5.trans HL4.out
                      have hk5' : ∀ i, (L5.getD i Nd.zero).kids.length = (L.getD i Nd.zero).kids.length := fun i => (hk5 i).trans (Hk4.out i)
                      have HL5 := Lib.hid hL5'
                      have Hk5 := Lib.hid hk5'
                      clear hN5 hL5 hk5 hL5' hk5' hgk hK4 hN4
                      go_wp2
                      go_roundw
                      case rel => exact ⟨q4 + 1, L5, by go_num, by omega, HL5.out, Hk5.out, HN5.out, hb4.setCell hGk _⟩
                      case measure => simp [intOf]; omega
                    · clear hK4
                      go_wp2
                      go_roundw
                      case rel => exact ⟨m + 1, L4, by go_num, by omega, HL4.out, Hk4.out, hN4, hb4⟩
                      case measure => simp [intOf]; omega
                · have hBR := HBQ.out.below O hb2
                  obtain ⟨S8, G8, hR8, hN8, -, -, -⟩ := hBR.sets
                  clear hBR hN2
                  go_wp2_with fail
                  refine (O.all S8 wr b L hR8 Hgd.out).mono ?_
                  rintro e w8 ⟨A8, c8, rfl, hNA8, hb8⟩
                  have hN8' := hN8.below hb8
                  go_wp2_with fail
                  refine (same_any L L A8 _ c8 c' _ 0 w8 (by omega) (fun d hd => Nat.le_trans (Hgd.out.few d hd) (by omega)) (hNA8.wide (G' := fun _ => True) fun _ _ _ => trivial) (hN8'.wide fun _ _ _ => trivial)).mono ?_
                  rintro e w9 ⟨rfl, hb9⟩
                  rw [sameL_refl]
                  have hb29 : Below wQ.heap.size wQ w9 := (hb2.trans (hb8.mono hb2.size)).trans (hb9.mono (hb2.trans (hb8.mono hb2.size)).size)
                  have hbF : Below wP.heap.size wP w9 := hbP6.trans (hb29.mono hbP6.size)
                  clear hNA8 hN8' hN8 hR8 hb8 hb9
                  go_wp2
                  go_ret
                  exact ⟨rfl, hbW.trans (hbF.mono hbW.size)⟩
end
end Go.Proofs.Ytlbaahfadfmffaa
