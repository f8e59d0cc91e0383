/-
  What package slot's pick does with an arena that keeps its promises, for whatever function is handed in.
  What package slot's Slots and Of do with an arena that keeps its promises.
  What package slot's Assigned does with an arena that keeps its promises.
  What towncrierlaw09.awake does: it answers true.
  A list of numbers, cut: s[:k], s[k:].
  What package slot's opensUp, content and Flat do with an arena that keeps its promises.
  What package slot's Flat does with an arena that keeps its promises: it calls itself, and comes to an end.
-/
import Derived.Test.YtloncmhcdmjjgaaPartE
import Derived.Laws.EntriesVeiled
import Derived.Conc.MuLone
import Derived.Deep.DeepCutAuto

namespace Go.Proofs.Ytloncmhcdmjjgaa
open Go Go.RowKit

section
variable {Rep : (Nat → Prop) → World → Nat → List Nd → Prop} {S : Nat → Prop} {w : World} {b : Nat} {l : List Nd}
set_option maxHeartbeats 8000000 in
set_option maxRecDepth 100000 in
theorem slPick (O : ForestOk Rep) (M : ForestMore Rep) (fn : Nat) (cap : Array Value) (q : Int → Bool) (xs : List Int) (A : Option Addr) (n c : Nat) (hn : n = xs.length) (hl : n ≤ 1000000) (hL : ListIn w A c xs) (h : Rep S w b l) (hg : Good l)
    (hth : ∀ x ∈ xs, thereB l x = true)
    (hE : ∀ (x d : Value) (w : World), (callFunc fn (#[x, d] ++ cap)).run Try.prog w = .ok (.enter fn (#[x, d] ++ cap)) w)
    (hf : ∀ x ∈ xs, ∀ w1 A1 c1, Below w.heap.size w w1 → Rep S w1 b l → Calls Try.prog fn (#[.int .i64 x, (.agg #[.int .i64 (nd l x).kind, .int .i64 (nd l x).parent, .int .i64 (nd l x).host, .int .i64 (nd l x).shadow, .int .i64 (nd l x).mode, .bool (nd l x).slot, .string (nd l x).name, .string (nd l x).want, .slice A1 (nd l x).kids.length c1])] ++ cap) w1 fun e w2 => e = .returned (.bool (q x)) ∧ Below w1.heap.size w1 w2) :
    Calls Try.prog 31 #[at_ b, .slice A n c, .func (.func fn) #[] cap] w fun e w' => ∃ v, e = .returned v ∧ Pile w.heap.size w' v (xs.filter q) ∧ Below w.heap.size w w' := by
  have H := Lib.hid h
  have Hg := Lib.hid hg
  have Hn := Lib.hid hn
  have HL := Lib.hid hL
  have Hth := Lib.hid hth
  have Hf := Lib.hid hf
  clear h hg hn hL hth hf
  go_enter Try.func31, Try.ntmps31
  go_wp2_with fail
  go_loopw [7, 14] (fun o k wr => ∃ j : Nat, k = .int .i64 j ∧ j ≤ n ∧ Pile w.heap.size wr o ((xs.take j).filter q) ∧ Below w.heap.size w wr) (fun _ k _ => n - (intOf k).toNat)
  case atStart => exact ⟨0, rfl, Nat.zero_le _, Pile.nil _ _, Below.refl _ _⟩
  case round =>
    obtain ⟨j, rfl, hj, hPo, hbr⟩ := hrel
    obtain ⟨Ao, co, rfl, -⟩ := hPo.form
    by_cases hjn : (j : Int) < n
    · have hjk : j < xs.length := by rw [← Hn.out]; omega
      obtain ⟨b', off, rfl, hB, hc0⟩ := HL.out.nums j hjk
      have hc : wr.cell? ⟨b', off + j, none⟩ = some (.int .i64 xs[j]) := (hbr.cell (p := ⟨b', off + j, none⟩) hB).trans hc0
      have ht := Hth.out xs[j] (List.getElem_mem hjk)
      have hfx := Hf.out xs[j] (List.getElem_mem hjk)
      have htk : xs.take (j + 1) = xs.take j ++ [xs[j]] := by rw [List.take_add_one, List.getElem?_eq_getElem hjk]; rfl
      have hxl : ((xs.take j).filter q).length ≤ 1000000 := by
        have h1 := List.length_filter_le q (xs.take j)
        rw [List.length_take] at h1
        omega
      obtain ⟨y, hy⟩ : ∃ y, y = xs[j] := ⟨_, rfl⟩
      rw [← hy] at hc ht hfx htk
      have hst : (xs.take (j + 1)).filter q = (xs.take j).filter q ++ [y].filter q := by rw [htk, List.filter_append]
      obtain ⟨zs, hzs⟩ : ∃ zs, zs = (xs.take j).filter q := ⟨_, rfl⟩
      rw [← hzs] at hst hxl hPo
      rw [← hzs]
      have Ht := Lib.hid ht
      have Hst := Lib.hid hst
      have Hfx := Lib.hid hfx
      have HPo := Lib.hid hPo
      have Hbr := Lib.hid hbr
      have Hrep := Lib.hid (O.since H.out hbr)
      clear ht hst hc0 hy hzs hjk hfx htk hPo hbr hB
      go_wp2_with fail
      refine (nodeYes M Hrep.out Hg.out Ht.out).mono ?_
      rintro e w2 ⟨A1, c1, rfl, -, hb2⟩
      have hfy := Hfx.out
      obtain ⟨d, hd⟩ : ∃ d, d = nd l y := ⟨_, rfl⟩
      rw [← hd] at hfy
      rw [← hd]
      have hB2 : Below w.heap.size w w2 := Hbr.out.trans (hb2.mono Hbr.out.size)
      have hB3 : Below w.heap.size w (w2.alloc (.cells #[.int .i64 d.kind, .int .i64 d.parent, .int .i64 d.host, .int .i64 d.shadow, .int .i64 d.mode, .bool d.slot, .string d.name, .string d.want, .slice A1 d.kids.length c1] 39)) := hB2.alloc hB2.size _
      have hR3 : Rep S (w2.alloc (.cells #[.int .i64 d.kind, .int .i64 d.parent, .int .i64 d.host, .int .i64 d.shadow, .int .i64 d.mode, .bool d.slot, .string d.name, .string d.want, .slice A1 d.kids.length c1] 39)) b l := O.since (O.since Hrep.out hb2) ((Below.refl _ w2).alloc (Nat.le_refl _) _)
      have C := Lib.hid (hfy (w2.alloc (.cells #[.int .i64 d.kind, .int .i64 d.parent, .int .i64 d.host, .int .i64 d.shadow, .int .i64 d.mode, .bool d.slot, .string d.name, .string d.want, .slice A1 d.kids.length c1] 39)) A1 c1 hB3 hR3)
      have HP3 := Lib.hid ((HPo.out.below hb2).alloc (.cells #[.int .i64 d.kind, .int .i64 d.parent, .int .i64 d.host, .int .i64 d.shadow, .int .i64 d.mode, .bool d.slot, .string d.name, .string d.want, .slice A1 d.kids.length c1] 39))
      have HB3 := Lib.hid hB3
      have hE' := hE (.int .i64 y) (.agg #[.int .i64 d.kind, .int .i64 d.parent, .int .i64 d.host, .int .i64 d.shadow, .int .i64 d.mode, .bool d.slot, .string d.name, .string d.want, .slice A1 d.kids.length c1])
      clear hfy hd hB2 hB3 hR3 hb2 Hfx HPo Hbr Hrep hE
      go_wp2_with fail
      refine C.out.mono ?_
      rintro e w4 ⟨rfl, hb4⟩
      have hP4 : Pile w.heap.size w4 (.slice Ao zs.length co) zs := HP3.out.below hb4
      have hB4 : Below w.heap.size w w4 := HB3.out.trans (hb4.mono HB3.out.size)
      clear hb4 C HP3 HB3 hE'
      cases hq : q y with
      | true =>
        have hfin : zs ++ [y] = (xs.take (j + 1)).filter q := by rw [Hst.out, List.filter_cons_of_pos hq]; rfl
        have Hfin := Lib.hid hfin
        have hown : ∀ g, (Value.slice Ao zs.length co).ownBlock = some g → w.heap.size ≤ g ∧ g < w4.heap.size := hP4.lt
        have HP2 : Hid (Pile w.heap.size (w4.alloc (.cells #[.int .i64 y] 3)) (.slice Ao zs.length co) zs) := Lib.hid (hP4.alloc _)
        have HB2 : Hid (Has (w4.alloc (.cells #[.int .i64 y] 3)) w4.heap.size (.cells #[.int .i64 y] 3 (0, 0))) := Lib.hid (Has.fresh _ _)
        have HS2 : Hid (w.heap.size ≤ (w4.alloc (.cells #[.int .i64 y] 3)).heap.size) := Lib.hid (by have := hB4.size; simp; omega)
        have HE : Hid (∀ w5, Keeps (fun i => (Value.slice Ao zs.length co).ownBlock = some i) (w4.alloc (.cells #[.int .i64 y] 3)) w5 → Below w.heap.size w w5) := Lib.hid fun w5 hk5 =>
          below_then (hB4.alloc hB4.size _) hk5 (by have := hB4.size; simp; omega) fun i hi e => by have := (hown _ e).1; omega
        clear hfin hown hP4 hB4 hq Hst
        go_wp2_with (at_builtin; refine wpList_push rfl (.tmp 28) (.tmp 30) rfl rfl HP2.out rfl HB2.out hxl HS2.out ?_; intro g cap' w5 hp5 hk5 _ _)
        go_roundw
        case rel => exact ⟨j + 1, by go_num, by omega, by rw [← Hfin.out]; simpa using hp5, HE.out w5 hk5⟩
        case measure => simp [intOf]; omega
      | false =>
        have hfin : zs = (xs.take (j + 1)).filter q := by rw [Hst.out, List.filter_cons_of_neg (by rw [hq]; decide)]; simp
        have Hfin := Lib.hid hfin
        have HF : Hid (Pile w.heap.size w4 (.slice Ao zs.length co) zs ∧ Below w.heap.size w w4) := Lib.hid ⟨hP4, hB4⟩
        clear hfin hP4 hB4 hq Hst
        go_wp2
        go_roundw
        case rel => exact ⟨j + 1, by go_num, by omega, by rw [← Hfin.out]; exact HF.out.1, HF.out.2⟩
        case measure => simp [intOf]; omega
    · have he : (xs.take j).filter q = xs.filter q := by rw [List.take_of_length_le (by rw [← Hn.out]; omega)]
      rw [he] at hPo
      rw [he]
      clear he
      go_wp2
      go_ret
      exact ⟨_, rfl, hPo, hbr⟩
end
end Go.Proofs.Ytloncmhcdmjjgaa

namespace Go.Proofs.Ytloncmhcdmjjgaa
open Go Go.RowKit

section
variable {Rep : (Nat → Prop) → World → Nat → List Nd → Prop} {S : Nat → Prop} {w : World} {b : Nat} {l : List Nd}
theorem slSlots1 (x : Int) (d : Nd) (A1 : Option Addr) (c1 : Nat) (w : World) :
    Calls Try.prog 37 #[.int .i64 x, (.agg #[.int .i64 d.kind, .int .i64 d.parent, .int .i64 d.host, .int .i64 d.shadow, .int .i64 d.mode, .bool d.slot, .string d.name, .string d.want, .slice A1 d.kids.length c1])] w fun e w' => e = .returned (.bool d.slot) ∧ Below w.heap.size w w' := by
  have hb : Below w.heap.size w (w.alloc (.cells #[.int .i64 d.kind, .int .i64 d.parent, .int .i64 d.host, .int .i64 d.shadow, .int .i64 d.mode, .bool d.slot, .string d.name, .string d.want, .slice A1 d.kids.length c1] 39)) := (Below.refl _ w).alloc (Nat.le_refl _) _
  have hB := Lib.hid hb
  clear hb
  go_enter Try.func37, Try.ntmps37
  go_wp2
  go_ret
  exact ⟨rfl, hB.out⟩
set_option maxHeartbeats 1000000 in
theorem slSlots (O : ForestOk Rep) (M : ForestMore Rep) (id : Int) (h : Rep S w b l) (hg : Good l) :
    Calls Try.prog 15 #[at_ b, .int .i64 id] w fun e w' => ∃ v, e = .returned v ∧ Pile w.heap.size w' v (slotsL l id) ∧ Below w.heap.size w w' := by
  have C := Lib.hid (kinOrder O M id h hg)
  have H := Lib.hid h
  have Hg := Lib.hid hg
  have hRl : (ordL l id).length ≤ 1000000 := Nat.le_trans (Nat.le_trans (ordL_len hg.tree id) hg.len) (by decide)
  have hth : ∀ x ∈ ordL l id, thereB l x = true := fun x hx => ordL_there hg.tree hx
  have hsl : slotsL l id = (ordL l id).filter fun x => (nd l x).slot := rfl
  rw [hsl]
  obtain ⟨R, hR⟩ : ∃ R, R = ordL l id := ⟨_, rfl⟩
  rw [← hR] at hRl C hth
  rw [← hR]
  have Hth := Lib.hid hth
  clear h hg hR hsl hth
  go_enter Try.func15, Try.ntmps15
  go_wp2_with fail
  refine C.out.mono ?_
  rintro e w1 ⟨v, rfl, hP, hb⟩
  obtain ⟨A, c, rfl, hL⟩ := hP.form
  have HL := Lib.hid hL
  have Hb := Lib.hid hb
  have Hrep := Lib.hid (O.since H.out hb)
  clear C hP hL hb
  go_wp2_with fail
  refine (slPick O M 37 #[] (fun x => (nd l x).slot) R A R.length c rfl hRl HL.out Hrep.out Hg.out Hth.out (fun x d w => by rw [Array.append_empty]; exact MuLone.run_callFunc_enter Try.func37 (by kernel_rfl) rfl _ w) (fun x hx w1 A1 c1 hb hr => by rw [Array.append_empty]; exact slSlots1 x (nd l x) A1 c1 w1)).mono ?_
  rintro e w2 ⟨v, rfl, hP, hb2⟩
  have HF : Hid (Pile w.heap.size w2 v (R.filter fun x => (nd l x).slot) ∧ Below w.heap.size w w2) := Lib.hid ⟨hP.from_ Hb.out.size, Hb.out.trans (hb2.mono Hb.out.size)⟩
  obtain ⟨A2, c2, rfl, -⟩ := hP.form
  clear hP hb2 Hb Hrep
  go_wp2
  go_ret
  exact ⟨_, rfl, HF.out.1, HF.out.2⟩
theorem slOf1 (x : Int) (d e0 : Nd) (A1 A2 : Option Addr) (c1 c2 : Nat) {B : Nat} (w : World) (hB : Has w B (.cells #[.int .i64 e0.kind, .int .i64 e0.parent, .int .i64 e0.host, .int .i64 e0.shadow, .int .i64 e0.mode, .bool e0.slot, .string e0.name, .string e0.want, .slice A2 e0.kids.length c2] 39 (0, 0))) :
    Calls Try.prog 32 #[.int .i64 x, (.agg #[.int .i64 d.kind, .int .i64 d.parent, .int .i64 d.host, .int .i64 d.shadow, .int .i64 d.mode, .bool d.slot, .string d.name, .string d.want, .slice A1 d.kids.length c1]), .pointer (some ⟨B, 0, none⟩)] w fun e w' => e = .returned (.bool (d.name.toList == e0.want.toList)) ∧ Below w.heap.size w w' := by
  have hb : Below w.heap.size w (w.alloc (.cells #[.int .i64 d.kind, .int .i64 d.parent, .int .i64 d.host, .int .i64 d.shadow, .int .i64 d.mode, .bool d.slot, .string d.name, .string d.want, .slice A1 d.kids.length c1] 39)) := (Below.refl _ w).alloc (Nat.le_refl _) _
  have q7 : (w.alloc (.cells #[.int .i64 d.kind, .int .i64 d.parent, .int .i64 d.host, .int .i64 d.shadow, .int .i64 d.mode, .bool d.slot, .string d.name, .string d.want, .slice A1 d.kids.length c1] 39)).cell? ⟨B, 7, none⟩ = some (.string e0.want) := (hB.more _).cell 7
  have Hb := Lib.hid hb
  clear hb hB
  go_enter Try.func32, Try.ntmps32
  go_wp2
  go_ret
  exact ⟨rfl, Hb.out⟩
set_option maxHeartbeats 4000000 in
set_option maxRecDepth 100000 in
theorem slOf (O : ForestOk Rep) (M : ForestMore Rep) (id : Int) (h : Rep S w b l) (hg : Good l) :
    Calls Try.prog 10 #[at_ b, .int .i64 id] w fun e w' => e = .returned (.int .i64 (ofL l id)) ∧ Below w.heap.size w w' := by
  have hmf : ∀ (fn : Fn) (first cap : Array Value) (w : World), (Instr.makeFunc fn first cap).run Try.prog w = .ok (.func fn first cap) w := fun _ _ _ _ => rfl
  have H := Lib.hid h
  have Hg := Lib.hid hg
  obtain ⟨R, hR⟩ : ∃ R, R = ofL l id := ⟨_, rfl⟩
  rw [← hR]
  have HR := Lib.hid hR
  clear h hg hR
  go_enter Try.func10, Try.ntmps10
  go_wp2_with fail
  refine (M.node S w b l id H.out Hg.out).mono ?_
  rintro e w1 ⟨d, A1, c1, rfl, hd, -, hb1⟩
  obtain ⟨tb, htb⟩ : ∃ tb, tb = thereB l id := ⟨_, rfl⟩
  rw [← htb]
  have hb2 : Below w.heap.size w (w1.alloc (.cells #[.int .i64 d.kind, .int .i64 d.parent, .int .i64 d.host, .int .i64 d.shadow, .int .i64 d.mode, .bool d.slot, .string d.name, .string d.want, .slice A1 d.kids.length c1] 39)) := hb1.alloc hb1.size _
  by_cases hk : d.kind = 2
  · have ht : thereB l id = true := by
      cases ht : thereB l id with
      | true => rfl
      | false =>
        rw [ht, if_neg (by decide)] at hd
        rw [hd] at hk
        exact absurd hk (by decide)
    rw [ht, if_pos rfl] at hd
    have hof : R = headL (namedL l d.want (slotsL l (shOf l d.parent))) := by
      rw [HR.out, hd]
      exact ofL_at ht (by rw [← hd]; exact hk)
    have Hof := Lib.hid hof
    have zk : (d.kind != 2) = false := by simpa using hk
    have hbox : Has (w1.alloc (.cells #[.int .i64 d.kind, .int .i64 d.parent, .int .i64 d.host, .int .i64 d.shadow, .int .i64 d.mode, .bool d.slot, .string d.name, .string d.want, .slice A1 d.kids.length c1] 39)) w1.heap.size (.cells #[.int .i64 d.kind, .int .i64 d.parent, .int .i64 d.host, .int .i64 d.shadow, .int .i64 d.mode, .bool d.slot, .string d.name, .string d.want, .slice A1 d.kids.length c1] 39 (0, 0)) := Has.fresh _ _
    obtain ⟨g1, hg1⟩ : ∃ g, g = w1.heap.size := ⟨_, rfl⟩
    rw [← hg1] at hbox
    obtain ⟨W1, hW1⟩ : ∃ W, W = w1.alloc (.cells #[.int .i64 d.kind, .int .i64 d.parent, .int .i64 d.host, .int .i64 d.shadow, .int .i64 d.mode, .bool d.slot, .string d.name, .string d.want, .slice A1 d.kids.length c1] 39) := ⟨_, rfl⟩
    rw [← hW1] at hbox hb2
    have x0 : W1.cell? ⟨g1, 0, none⟩ = some (.int .i64 d.kind) := hbox.cell 0
    have x1 : W1.cell? ⟨g1, 1, none⟩ = some (.int .i64 d.parent) := hbox.cell 1
    have Hb2 := Lib.hid hb2
    have Hbox := Lib.hid hbox
    have Hrep := Lib.hid (O.since H.out hb2)
    have HW1 := Lib.hid hW1
    have Hg1 := Lib.hid hg1
    clear hd hof hbox hb1 hb2 ht htb hW1 hg1 HR hk
    go_upto_region 2 with fail
    rw [← HW1.out, ← Hg1.out]
    clear HW1 Hg1
    go_wp2_with fail
    refine (M.node S W1 b l d.parent Hrep.out Hg.out).mono ?_
    rintro e w3 ⟨d3, A3, c3, rfl, hd3, -, hb3⟩
    have hsh : shOf l d.parent = d3.shadow := by
      unfold shOf
      rw [hd3]
      split <;> rfl
    have hb4 : Below W1.heap.size W1 (w3.alloc (.cells #[.int .i64 d3.kind, .int .i64 d3.parent, .int .i64 d3.host, .int .i64 d3.shadow, .int .i64 d3.mode, .bool d3.slot, .string d3.name, .string d3.want, .slice A3 d3.kids.length c3] 39)) := hb3.alloc hb3.size _
    have hbox4 := Hbox.out.below hb4 Hbox.out.inside
    have HR4 := Lib.hid (O.since Hrep.out hb4)
    have Hb4 := Lib.hid (Hb2.out.trans (hb4.mono Hb2.out.size))
    have Hbox4 := Lib.hid hbox4
    have x3 : (w3.alloc (.cells #[.int .i64 d3.kind, .int .i64 d3.parent, .int .i64 d3.host, .int .i64 d3.shadow, .int .i64 d3.mode, .bool d3.slot, .string d3.name, .string d3.want, .slice A3 d3.kids.length c3] 39)).cell? ⟨w3.heap.size, 3, none⟩ = some (.int .i64 d3.shadow) := (Has.fresh w3 (.cells #[.int .i64 d3.kind, .int .i64 d3.parent, .int .i64 d3.host, .int .i64 d3.shadow, .int .i64 d3.mode, .bool d3.slot, .string d3.name, .string d3.want, .slice A3 d3.kids.length c3] 39)).cell 3
    rw [hsh] at Hof
    obtain ⟨tb3, htb3⟩ : ∃ tb, tb = thereB l d.parent := ⟨_, rfl⟩
    rw [← htb3]
    clear hd3 hsh hb3 hb4 hbox4 htb3 Hb2 Hbox Hrep x0 x1
    go_wp2_with fail
    refine (slSlots O M d3.shadow HR4.out Hg.out).mono ?_
    rintro e w5 ⟨v, rfl, hP, hb5⟩
    have hsl : (slotsL l d3.shadow).length ≤ 1000000 := Nat.le_trans (Nat.le_trans (slots_len Hg.out.tree d3.shadow) Hg.out.len) (by decide)
    have hth : ∀ x ∈ slotsL l d3.shadow, thereB l x = true := fun x hx => ordL_there Hg.out.tree (List.mem_filter.1 hx).1
    obtain ⟨xs, hxs⟩ : ∃ xs, xs = slotsL l d3.shadow := ⟨_, rfl⟩
    rw [← hxs] at hsl hth hP Hof
    obtain ⟨A5, c5, rfl, hL⟩ := hP.form
    have HL := Lib.hid hL
    have Hth := Lib.hid hth
    have HR5 := Lib.hid (O.since HR4.out hb5)
    have Hbox5 := Lib.hid (Hbox4.out.below hb5 Hbox4.out.inside)
    have Hb5 := Lib.hid (Hb4.out.trans (hb5.mono Hb4.out.size))
    clear hP hL hth hb5 hxs HR4 Hb4 Hbox4
    go_wp2_with fail
    refine (slPick O M 32 #[.pointer (some ⟨g1, 0, none⟩)] (fun x => (nd l x).name.toList == d.want.toList) xs A5 xs.length c5 rfl hsl HL.out HR5.out Hg.out Hth.out
      (fun x d w => MuLone.run_callFunc_enter Try.func32 (by kernel_rfl) rfl _ w)
      (fun x hx w6 A6 c6 hb6 hr6 => slOf1 x (nd l x) d A6 A1 c6 c1 w6 (Hbox5.out.below hb6 Hbox5.out.inside))).mono ?_
    rintro e w7 ⟨v, rfl, hP, hb7⟩
    have Hb7 := Lib.hid (Hb5.out.trans (hb7.mono Hb5.out.size))
    have hnl : (namedL l d.want xs).length ≤ 1000000 := Nat.le_trans (List.length_filter_le _ _) hsl
    have hnm : (xs.filter fun x => (nd l x).name.toList == d.want.toList) = namedL l d.want xs := rfl
    rw [hnm] at hP
    obtain ⟨zs, hzs⟩ : ∃ zs, zs = namedL l d.want xs := ⟨_, rfl⟩
    rw [← hzs] at hP Hof hnl
    obtain ⟨A7, c7, rfl, hL7⟩ := hP.form
    clear hnm hzs hP hb7 Hb5 Hbox5 HR5 HL Hth
    cases zs with
    | nil =>
      have e0 : R = 0 := Hof.out
      have E0 := Lib.hid e0
      clear e0 hL7
      go_wp2
      go_ret
      rw [E0.out]
      exact ⟨rfl, Hb7.out⟩
    | cons y r =>
      have e0 : R = y := Hof.out
      obtain ⟨b', off, rfl, -, hc⟩ := hL7.nums 0 (by simp)
      have hc' : w7.cell? ⟨b', off, none⟩ = some (.int .i64 y) := hc
      have E0 := Lib.hid e0
      obtain ⟨n, hn⟩ : ∃ n, n = r.length := ⟨_, rfl⟩
      rw [show (y :: r).length = n + 1 by rw [hn]; rfl] at hnl
      rw [show (y :: r).length = n + 1 by rw [hn]; rfl]
      have z1 : (((n : Int) + 1) == 0) = false := by rw [beq_eq_false_iff_ne]; omega
      clear e0 hL7 hc hn Hof
      go_wp2
      go_ret
      rw [E0.out]
      exact ⟨rfl, Hb7.out⟩
  · have e0 : R = 0 := by
      rw [HR.out]
      cases ht : thereB l id with
      | false => exact ofL_no ht
      | true =>
        rw [ht, if_pos rfl] at hd
        exact ofL_kind (by rw [← hd]; exact hk)
    have zk : (d.kind != 2) = true := by simpa using hk
    have x0 : (w1.alloc (.cells #[.int .i64 d.kind, .int .i64 d.parent, .int .i64 d.host, .int .i64 d.shadow, .int .i64 d.mode, .bool d.slot, .string d.name, .string d.want, .slice A1 d.kids.length c1] 39)).cell? ⟨w1.heap.size, 0, none⟩ = some (.int .i64 d.kind) := (Has.fresh w1 (.cells #[.int .i64 d.kind, .int .i64 d.parent, .int .i64 d.host, .int .i64 d.shadow, .int .i64 d.mode, .bool d.slot, .string d.name, .string d.want, .slice A1 d.kids.length c1] 39)).cell 0
    have E0 := Lib.hid e0
    have Hb2 := Lib.hid hb2
    clear e0 hd hk htb hb1 hb2 HR
    go_wp2
    go_ret
    rw [E0.out]
    exact ⟨rfl, Hb2.out⟩
end
end Go.Proofs.Ytloncmhcdmjjgaa

namespace Go.Proofs.Ytloncmhcdmjjgaa
open Go Go.RowKit

section
variable {Rep : (Nat → Prop) → World → Nat → List Nd → Prop} {S : Nat → Prop} {w : World} {b : Nat} {l : List Nd}
/-- The forest's pointer and a number, in two blocks. -/
structure Capt (w : World) (b : Nat) (a : Int) (B : Nat) : Prop where
  hp : Has w B (.cells #[at_ b] 25 (0, 0))
  hq : Has w (B + 1) (.cells #[.int .i64 a] 3 (0, 0))
theorem Capt.below {w' : World} {a : Int} {B : Nat} (h : Capt w b a B) (k : Below w.heap.size w w') : Capt w' b a B := ⟨h.hp.below k h.hp.inside, h.hq.below k h.hq.inside⟩
/-- What is read of the two. -/
def CaptS (b : Nat) (a : Int) (B : Nat) (w : World) : Prop := w.cell? ⟨B, 0, none⟩ = some (at_ b) ∧ w.cell? ⟨B + 1, 0, none⟩ = some (.int .i64 a)
theorem Capt.reads {a : Int} {B : Nat} (h : Capt w b a B) : CaptS b a B w := ⟨h.hp.cell 0, h.hq.cell 0⟩
set_option maxHeartbeats 2000000 in
theorem slAssigned1 (O : ForestOk Rep) (M : ForestMore Rep) (a x : Int) (d : Nd) (A1 : Option Addr) (c1 : Nat) {B : Nat} (h : Rep S w b l) (hg : Good l) (hc : Capt w b a B) :
    Calls Try.prog 34 #[.int .i64 x, (.agg #[.int .i64 d.kind, .int .i64 d.parent, .int .i64 d.host, .int .i64 d.shadow, .int .i64 d.mode, .bool d.slot, .string d.name, .string d.want, .slice A1 d.kids.length c1]), .pointer (some ⟨B, 0, none⟩), .pointer (some ⟨B + 1, 0, none⟩)] w fun e w' => e = .returned (.bool (ofL l x == a)) ∧ Below w.heap.size w w' := by
  obtain ⟨W, hW⟩ : ∃ W, W = w.alloc (.cells #[.int .i64 d.kind, .int .i64 d.parent, .int .i64 d.host, .int .i64 d.shadow, .int .i64 d.mode, .bool d.slot, .string d.name, .string d.want, .slice A1 d.kids.length c1] 39) := ⟨_, rfl⟩
  have hb : Below w.heap.size w W := by rw [hW]; exact (Below.refl _ w).alloc (Nat.le_refl _) _
  have HC := Lib.hid (hc.below hb)
  have HR := Lib.hid (O.since h hb)
  have Hb := Lib.hid hb
  have Hg := Lib.hid hg
  have HW := Lib.hid hW
  clear h hg hc hb hW
  go_enter Try.func34, Try.ntmps34
  go_upto_region 1 with fail
  rw [← HW.out]
  clear HW
  refine wp_region_way (late := []) (S := fun w' => w'.cell? ⟨B, 0, none⟩ = some (at_ b) ∧ w'.cell? ⟨B + 1, 0, none⟩ = some (.int .i64 a)) (y := Way.takes [0, 1, 3] (.run 2 (Way.takes [4, 5] .fin))) (by kernel_rfl) (by kernel_rfl) rfl (by kernel_rfl) HC.out.reads (fun hHeld => ?_)
  simp only [Way.takes]
  (repeat (first | (refine way_skip (by simp only [List.getElem?_toArray, List.getElem?_cons_succ, List.getElem?_cons_zero]; rfl) (by rfl) hHeld ?_; (try simp only [Act.put, List.setIfInBounds_toArray, List.set_cons_zero, List.set_cons_succ])) | (refine way_pass (by simp only [List.getElem?_toArray, List.getElem?_cons_succ, List.getElem?_cons_zero]; rfl) (by rfl) hHeld ?_; (try simp only [Act.put, List.setIfInBounds_toArray, List.set_cons_zero, List.set_cons_succ])) | (refine way_take (v := ?_) (by simp only [List.getElem?_toArray, List.getElem?_cons_succ, List.getElem?_cons_zero]; rfl) (by rfl) ?_ hHeld ?_; rotate_left; (focus (intro w hSw; (try dsimp only at hSw); go_simp; (try with_reducible rfl); done)); (try simp only [Act.put, List.setIfInBounds_toArray, List.set_cons_zero, List.set_cons_succ]))))
  have C := Lib.hid (slOf O M x (O.since HR.out ((Below.refl _ W).drew)) Hg.out)
  refine way_run (by simp only [List.getElem?_toArray, List.getElem?_cons_succ, List.getElem?_cons_zero]; rfl) (by rfl) (fun K hK => ?_)
  go_simp
  refine C.out.mono ?_
  rintro e w2 ⟨rfl, hb2⟩
  have hb2' : Below W.heap.size W w2 := ((Below.refl _ W).drew).trans hb2
  have hr2 := (HC.out.below hb2').reads
  have HB := Lib.hid (Hb.out.trans (hb2'.mono Hb.out.size))
  go_simp
  refine hK.out _ _ hr2 (fun hHeld => ?_)
  clear hK K hb2 hb2' C
  (try simp only [Act.put, List.setIfInBounds_toArray, List.set_cons_zero, List.set_cons_succ])
  (repeat (first | (refine way_skip (by simp only [List.getElem?_toArray, List.getElem?_cons_succ, List.getElem?_cons_zero]; rfl) (by rfl) hHeld ?_; (try simp only [Act.put, List.setIfInBounds_toArray, List.set_cons_zero, List.set_cons_succ])) | (refine way_pass (by simp only [List.getElem?_toArray, List.getElem?_cons_succ, List.getElem?_cons_zero]; rfl) (by rfl) hHeld ?_; (try simp only [Act.put, List.setIfInBounds_toArray, List.set_cons_zero, List.set_cons_succ])) | (refine way_take (v := ?_) (by simp only [List.getElem?_toArray, List.getElem?_cons_succ, List.getElem?_cons_zero]; rfl) (by rfl) ?_ hHeld ?_; rotate_left; (focus (intro w hSw; (try dsimp only at hSw); go_simp; (try with_reducible rfl); done)); (try simp only [Act.put, List.setIfInBounds_toArray, List.set_cons_zero, List.set_cons_succ]))))
  refine way_done ?_
  go_wp2
  go_ret
  exact ⟨rfl, HB.out⟩
set_option maxHeartbeats 8000000 in
set_option maxRecDepth 100000 in
theorem slAssigned (O : ForestOk Rep) (M : ForestMore Rep) (id : Int) (h : Rep S w b l) (hg : Good l) :
    Calls Try.prog 13 #[at_ b, .int .i64 id] w fun e w' => ∃ v, e = .returned v ∧ Pile w.heap.size w' v (asgL l id) ∧ Below w.heap.size w w' := by
  have hmf : ∀ (fn : Fn) (first cap : Array Value) (w : World), (Instr.makeFunc fn first cap).run Try.prog w = .ok (.func fn first cap) w := fun _ _ _ _ => rfl
  obtain ⟨W0, hW0⟩ : ∃ W, W = (w.alloc (.cells #[at_ b] 25)).alloc (.cells #[.int .i64 id] 3) := ⟨_, rfl⟩
  have hb0 : Below w.heap.size w W0 := by
    rw [hW0]
    exact ((Below.refl _ w).alloc (Nat.le_refl _) _).alloc (by simp) _
  obtain ⟨B, hB⟩ : ∃ B, B = w.heap.size := ⟨_, rfl⟩
  have hC : Capt W0 b id B := by
    rw [hB]
    refine ⟨?_, ?_⟩
    · rw [hW0]
      exact (Has.fresh _ _).more _
    · rw [hW0]
      have := Has.fresh (w.alloc (.cells #[at_ b] 25)) (.cells #[.int .i64 id] 3)
      rw [show (w.alloc (.cells #[at_ b] 25)).heap.size = w.heap.size + 1 by simp] at this
      exact this
  have hD : ∀ d, d = (if thereB l (rootL l id) = true then nd l (rootL l id) else Nd.zero) → d.host = hostL l id := fun d hd => by
    subst hd
    cases ht : thereB l id with
    | false =>
      rw [rootL_no ht, there_zero, if_neg (by decide), hostL_no ht]
      rfl
    | true =>
      rw [rootL_there hg.tree ht, if_pos rfl, hostL_at ht]
  have HD := Lib.hid hD
  have HST : Hid (∀ w', Below W0.heap.size W0 w' → CaptS b id B w') := Lib.hid fun w' hb => (hC.below hb).reads
  have HC := Lib.hid hC
  have HR0 := Lib.hid (O.since h hb0)
  have Hb0 := Lib.hid hb0
  have Hg := Lib.hid hg
  have HW0 := Lib.hid hW0
  have HBw := Lib.hid hB
  clear h hg hb0 hC hD hW0 hB
  go_enter Try.func13, Try.ntmps13
  go_upto_region 1 with fail
  rw [← HW0.out, ← HBw.out]
  clear HW0
  go_cut [5] (fun p wx => ∃ (g : Nat) (d : Nd) (A : Option Addr) (c : Nat), p = .pointer (some ⟨g, 0, none⟩) ∧ d.host = hostL l id ∧ Has wx g (.cells #[.int .i64 d.kind, .int .i64 d.parent, .int .i64 d.host, .int .i64 d.shadow, .int .i64 d.mode, .bool d.slot, .string d.name, .string d.want, .slice A d.kids.length c] 39 (0, 0)) ∧ Below W0.heap.size W0 wx)
  case first =>
    refine wp_region_way (late := []) (S := fun w' => w'.cell? ⟨B, 0, none⟩ = some (at_ b) ∧ w'.cell? ⟨B + 1, 0, none⟩ = some (.int .i64 id)) (y := Way.takes [0, 1, 2] (.fork 3 (.fork 4 (Way.takes [5, 6, 7] (.run 8 (.run 9 (Way.takes [10] .fin)))) 8 (.run 4 (Way.takes [5, 6, 7] (.run 9 (Way.takes [10] .fin))))) 8 (.run 3 (.run 4 (Way.takes [5, 6, 7] (.run 9 (Way.takes [10] .fin))))))) (by kernel_rfl) (by kernel_rfl) rfl (by kernel_rfl) (HST.out _ ((Below.refl _ W0).drew)) (fun hHeld => ?_)
    simp only [Way.takes]
    (repeat (first | (refine way_skip (by simp only [List.getElem?_toArray, List.getElem?_cons_succ, List.getElem?_cons_zero]; rfl) (by rfl) hHeld ?_; (try simp only [Act.put, List.setIfInBounds_toArray, List.set_cons_zero, List.set_cons_succ])) | (refine way_pass (by simp only [List.getElem?_toArray, List.getElem?_cons_succ, List.getElem?_cons_zero]; rfl) (by rfl) hHeld ?_; (try simp only [Act.put, List.setIfInBounds_toArray, List.set_cons_zero, List.set_cons_succ])) | (refine way_take (v := ?_) (by simp only [List.getElem?_toArray, List.getElem?_cons_succ, List.getElem?_cons_zero]; rfl) (by rfl) ?_ hHeld ?_; rotate_left; (focus (intro w hSw; (try dsimp only at hSw); go_simp; (try with_reducible rfl); done)); (try simp only [Act.put, List.setIfInBounds_toArray, List.set_cons_zero, List.set_cons_succ]))))
    have hbX0' : Below W0.heap.size W0 W0.drew := (Below.refl _ W0).drew
    obtain ⟨X0, hX0⟩ : ∃ X, X = W0.drew := ⟨_, rfl⟩
    rw [← hX0] at hbX0' hHeld
    rw [← hX0]
    have hbX0 := hbX0'
    clear hX0 hbX0'
    refine way_fork ?_ ?_
    · have CR := Lib.hid (kinRoot O M id (O.since HR0.out hbX0) Hg.out)
      refine way_run (by simp only [List.getElem?_toArray, List.getElem?_cons_succ, List.getElem?_cons_zero]; rfl) (by rfl) (fun K hK => ?_)
      go_simp
      refine CR.out.mono ?_
      rintro e X1 ⟨rfl, hb'⟩
      have hbX1 := hbX0.trans (hb'.mono hbX0.size)
      skip
      go_simp
      refine hK.out _ _ (HST.out _ hbX1) (fun hHeld => ?_)
      clear hK K CR hb' 
      skip
      (try simp only [Act.put, List.setIfInBounds_toArray, List.set_cons_zero, List.set_cons_succ])
      refine way_fork ?_ ?_
      · have CN := Lib.hid (M.node S X1 b l (rootL l id) (O.since HR0.out hbX1) Hg.out)
        refine way_run (by simp only [List.getElem?_toArray, List.getElem?_cons_succ, List.getElem?_cons_zero]; rfl) (by rfl) (fun K hK => ?_)
        go_simp
        refine CN.out.mono ?_
        rintro e X2 ⟨d, A1, c1, rfl, hd, -, hb'⟩
        have hbX2 := hbX1.trans (hb'.mono hbX1.size)
        skip
        have hdh := HD.out d hd
        obtain ⟨tb, htb⟩ : ∃ tb, tb = thereB l (rootL l id) := ⟨_, rfl⟩
        rw [← htb]
        have Hdh := Lib.hid hdh
        clear hd hdh htb
        go_simp
        refine hK.out _ _ (HST.out _ hbX2) (fun hHeld => ?_)
        clear hK K CN hb' 
        skip
        (try simp only [Act.put, List.setIfInBounds_toArray, List.set_cons_zero, List.set_cons_succ])
        (repeat (first | (refine way_skip (by simp only [List.getElem?_toArray, List.getElem?_cons_succ, List.getElem?_cons_zero]; rfl) (by rfl) hHeld ?_; (try simp only [Act.put, List.setIfInBounds_toArray, List.set_cons_zero, List.set_cons_succ])) | (refine way_pass (by simp only [List.getElem?_toArray, List.getElem?_cons_succ, List.getElem?_cons_zero]; rfl) (by rfl) hHeld ?_; (try simp only [Act.put, List.setIfInBounds_toArray, List.set_cons_zero, List.set_cons_succ])) | (refine way_take (v := ?_) (by simp only [List.getElem?_toArray, List.getElem?_cons_succ, List.getElem?_cons_zero]; rfl) (by rfl) ?_ hHeld ?_; rotate_left; (focus (intro w hSw; (try dsimp only at hSw); go_simp; (try with_reducible rfl); done)); (try simp only [Act.put, List.setIfInBounds_toArray, List.set_cons_zero, List.set_cons_succ]))))
        refine way_run (by simp only [List.getElem?_toArray, List.getElem?_cons_succ, List.getElem?_cons_zero]; rfl) (by rfl) (fun K hK => ?_)
        go_simp
        have hbX3' : Below W0.heap.size W0 (X2.alloc (.cells #[.int .i64 0, .int .i64 0, .int .i64 0, .int .i64 0, .int .i64 0, .bool false, .string ⟨#[]⟩, .string ⟨#[]⟩, .slice none 0 0] 39)) := hbX2.alloc hbX2.size _
        refine hK.out _ _ (HST.out _ hbX3') (fun hHeld => ?_)
        clear hK K
        (try simp only [Act.put, List.setIfInBounds_toArray, List.set_cons_zero, List.set_cons_succ])
        have hz : Has (X2.alloc (.cells #[.int .i64 0, .int .i64 0, .int .i64 0, .int .i64 0, .int .i64 0, .bool false, .string ⟨#[]⟩, .string ⟨#[]⟩, .slice none 0 0] 39)) X2.heap.size (.cells #[.int .i64 0, .int .i64 0, .int .i64 0, .int .i64 0, .int .i64 0, .bool false, .string ⟨#[]⟩, .string ⟨#[]⟩, .slice none 0 0] 39 (0, 0)) := Has.fresh _ _
        obtain ⟨X3, hX3⟩ : ∃ V, V = X2.alloc (.cells #[.int .i64 0, .int .i64 0, .int .i64 0, .int .i64 0, .int .i64 0, .bool false, .string ⟨#[]⟩, .string ⟨#[]⟩, .slice none 0 0] 39) := ⟨_, rfl⟩
        rw [← hX3] at hz hbX3' hHeld
        rw [← hX3]
        obtain ⟨g, hgg⟩ : ∃ g, g = X2.heap.size := ⟨_, rfl⟩
        rw [← hgg] at hz
        rw [← hgg]
        have hgW : W0.heap.size ≤ g := by rw [hgg]; exact hbX2.size
        have hbX3 := hbX3'
        clear hX3 hgg hbX3'
        obtain ⟨⟨y0, y1, y2, y3, y4, y5, y6, y7, y8⟩, q0, q1, q2, q3, q4, q5, q6, q7, q8⟩ := box_nine hz
        have hs := box_stored hz (.int .i64 d.kind) (.int .i64 d.parent) (.int .i64 d.host) (.int .i64 d.shadow) (.int .i64 d.mode) (.bool d.slot) (.string d.name) (.string d.want) (.slice A1 d.kids.length c1)
        have hkb := keepsBox X3 g (.int .i64 d.kind) (.int .i64 d.parent) (.int .i64 d.host) (.int .i64 d.shadow) (.int .i64 d.mode) (.bool d.slot) (.string d.name) (.string d.want) (.slice A1 d.kids.length c1)
        have hbs := below_then hbX3 hkb hbX3.size fun i hi e => by omega
        have HS := Lib.hid hs
        have HBS := Lib.hid hbs
        clear hz hs hbs hkb
        refine way_run (by simp only [List.getElem?_toArray, List.getElem?_cons_succ, List.getElem?_cons_zero]; rfl) (by rfl) (fun K hK => ?_)
        go_simp
        refine hK.out _ _ (HST.out _ HBS.out) (fun hHeld => ?_)
        clear hK K y0 y1 y2 y3 y4 y5 y6 y7 y8 q0 q1 q2 q3 q4 q5 q6 q7 q8
        (try simp only [Act.put, List.setIfInBounds_toArray, List.set_cons_zero, List.set_cons_succ])
        (repeat (first | (refine way_skip (by simp only [List.getElem?_toArray, List.getElem?_cons_succ, List.getElem?_cons_zero]; rfl) (by rfl) hHeld ?_; (try simp only [Act.put, List.setIfInBounds_toArray, List.set_cons_zero, List.set_cons_succ])) | (refine way_pass (by simp only [List.getElem?_toArray, List.getElem?_cons_succ, List.getElem?_cons_zero]; rfl) (by rfl) hHeld ?_; (try simp only [Act.put, List.setIfInBounds_toArray, List.set_cons_zero, List.set_cons_succ])) | (refine way_take (v := ?_) (by simp only [List.getElem?_toArray, List.getElem?_cons_succ, List.getElem?_cons_zero]; rfl) (by rfl) ?_ hHeld ?_; rotate_left; (focus (intro w hSw; (try dsimp only at hSw); go_simp; (try with_reducible rfl); done)); (try simp only [Act.put, List.setIfInBounds_toArray, List.set_cons_zero, List.set_cons_succ]))))
        refine way_done ?_
        go_wp2_with fail
        go_meet
        exact ⟨g, d, A1, c1, rfl, Hdh.out, HS.out, HBS.out⟩
      · refine way_run (by simp only [List.getElem?_toArray, List.getElem?_cons_succ, List.getElem?_cons_zero]; rfl) (by rfl) (fun K hK => ?_)
        go_simp
        have hbX2' : Below W0.heap.size W0 (X1.alloc (.cells #[.int .i64 0, .int .i64 0, .int .i64 0, .int .i64 0, .int .i64 0, .bool false, .string ⟨#[]⟩, .string ⟨#[]⟩, .slice none 0 0] 39)) := hbX1.alloc hbX1.size _
        refine hK.out _ _ (HST.out _ hbX2') (fun hHeld => ?_)
        clear hK K
        (try simp only [Act.put, List.setIfInBounds_toArray, List.set_cons_zero, List.set_cons_succ])
        have hz : Has (X1.alloc (.cells #[.int .i64 0, .int .i64 0, .int .i64 0, .int .i64 0, .int .i64 0, .bool false, .string ⟨#[]⟩, .string ⟨#[]⟩, .slice none 0 0] 39)) X1.heap.size (.cells #[.int .i64 0, .int .i64 0, .int .i64 0, .int .i64 0, .int .i64 0, .bool false, .string ⟨#[]⟩, .string ⟨#[]⟩, .slice none 0 0] 39 (0, 0)) := Has.fresh _ _
        obtain ⟨X2, hX2⟩ : ∃ V, V = X1.alloc (.cells #[.int .i64 0, .int .i64 0, .int .i64 0, .int .i64 0, .int .i64 0, .bool false, .string ⟨#[]⟩, .string ⟨#[]⟩, .slice none 0 0] 39) := ⟨_, rfl⟩
        rw [← hX2] at hz hbX2' hHeld
        rw [← hX2]
        obtain ⟨g, hgg⟩ : ∃ g, g = X1.heap.size := ⟨_, rfl⟩
        rw [← hgg] at hz
        rw [← hgg]
        have hgW : W0.heap.size ≤ g := by rw [hgg]; exact hbX1.size
        have hbX2 := hbX2'
        clear hX2 hgg hbX2'
        have CN := Lib.hid (M.node S X2 b l (rootL l id) (O.since HR0.out hbX2) Hg.out)
        refine way_run (by simp only [List.getElem?_toArray, List.getElem?_cons_succ, List.getElem?_cons_zero]; rfl) (by rfl) (fun K hK => ?_)
        go_simp
        refine CN.out.mono ?_
        rintro e X3 ⟨d, A1, c1, rfl, hd, -, hb'⟩
        have hbX3 := hbX2.trans (hb'.mono hbX2.size)
        have hz' := hz.below hb' hz.inside
        have hdh := HD.out d hd
        obtain ⟨tb, htb⟩ : ∃ tb, tb = thereB l (rootL l id) := ⟨_, rfl⟩
        rw [← htb]
        have Hdh := Lib.hid hdh
        clear hd hdh htb
        go_simp
        refine hK.out _ _ (HST.out _ hbX3) (fun hHeld => ?_)
        clear hK K CN hb' hz
        have hz := hz'; clear hz'
        (try simp only [Act.put, List.setIfInBounds_toArray, List.set_cons_zero, List.set_cons_succ])
        (repeat (first | (refine way_skip (by simp only [List.getElem?_toArray, List.getElem?_cons_succ, List.getElem?_cons_zero]; rfl) (by rfl) hHeld ?_; (try simp only [Act.put, List.setIfInBounds_toArray, List.set_cons_zero, List.set_cons_succ])) | (refine way_pass (by simp only [List.getElem?_toArray, List.getElem?_cons_succ, List.getElem?_cons_zero]; rfl) (by rfl) hHeld ?_; (try simp only [Act.put, List.setIfInBounds_toArray, List.set_cons_zero, List.set_cons_succ])) | (refine way_take (v := ?_) (by simp only [List.getElem?_toArray, List.getElem?_cons_succ, List.getElem?_cons_zero]; rfl) (by rfl) ?_ hHeld ?_; rotate_left; (focus (intro w hSw; (try dsimp only at hSw); go_simp; (try with_reducible rfl); done)); (try simp only [Act.put, List.setIfInBounds_toArray, List.set_cons_zero, List.set_cons_succ]))))
        obtain ⟨⟨y0, y1, y2, y3, y4, y5, y6, y7, y8⟩, q0, q1, q2, q3, q4, q5, q6, q7, q8⟩ := box_nine hz
        have hs := box_stored hz (.int .i64 d.kind) (.int .i64 d.parent) (.int .i64 d.host) (.int .i64 d.shadow) (.int .i64 d.mode) (.bool d.slot) (.string d.name) (.string d.want) (.slice A1 d.kids.length c1)
        have hkb := keepsBox X3 g (.int .i64 d.kind) (.int .i64 d.parent) (.int .i64 d.host) (.int .i64 d.shadow) (.int .i64 d.mode) (.bool d.slot) (.string d.name) (.string d.want) (.slice A1 d.kids.length c1)
        have hbs := below_then hbX3 hkb hbX3.size fun i hi e => by omega
        have HS := Lib.hid hs
        have HBS := Lib.hid hbs
        clear hz hs hbs hkb
        refine way_run (by simp only [List.getElem?_toArray, List.getElem?_cons_succ, List.getElem?_cons_zero]; rfl) (by rfl) (fun K hK => ?_)
        go_simp
        refine hK.out _ _ (HST.out _ HBS.out) (fun hHeld => ?_)
        clear hK K y0 y1 y2 y3 y4 y5 y6 y7 y8 q0 q1 q2 q3 q4 q5 q6 q7 q8
        (try simp only [Act.put, List.setIfInBounds_toArray, List.set_cons_zero, List.set_cons_succ])
        (repeat (first | (refine way_skip (by simp only [List.getElem?_toArray, List.getElem?_cons_succ, List.getElem?_cons_zero]; rfl) (by rfl) hHeld ?_; (try simp only [Act.put, List.setIfInBounds_toArray, List.set_cons_zero, List.set_cons_succ])) | (refine way_pass (by simp only [List.getElem?_toArray, List.getElem?_cons_succ, List.getElem?_cons_zero]; rfl) (by rfl) hHeld ?_; (try simp only [Act.put, List.setIfInBounds_toArray, List.set_cons_zero, List.set_cons_succ])) | (refine way_take (v := ?_) (by simp only [List.getElem?_toArray, List.getElem?_cons_succ, List.getElem?_cons_zero]; rfl) (by rfl) ?_ hHeld ?_; rotate_left; (focus (intro w hSw; (try dsimp only at hSw); go_simp; (try with_reducible rfl); done)); (try simp only [Act.put, List.setIfInBounds_toArray, List.set_cons_zero, List.set_cons_succ]))))
        refine way_done ?_
        go_wp2_with fail
        go_meet
        exact ⟨g, d, A1, c1, rfl, Hdh.out, HS.out, HBS.out⟩
    · refine way_run (by simp only [List.getElem?_toArray, List.getElem?_cons_succ, List.getElem?_cons_zero]; rfl) (by rfl) (fun K hK => ?_)
      go_simp
      have hbX1' : Below W0.heap.size W0 (X0.alloc (.cells #[.int .i64 0, .int .i64 0, .int .i64 0, .int .i64 0, .int .i64 0, .bool false, .string ⟨#[]⟩, .string ⟨#[]⟩, .slice none 0 0] 39)) := hbX0.alloc hbX0.size _
      refine hK.out _ _ (HST.out _ hbX1') (fun hHeld => ?_)
      clear hK K
      (try simp only [Act.put, List.setIfInBounds_toArray, List.set_cons_zero, List.set_cons_succ])
      have hz : Has (X0.alloc (.cells #[.int .i64 0, .int .i64 0, .int .i64 0, .int .i64 0, .int .i64 0, .bool false, .string ⟨#[]⟩, .string ⟨#[]⟩, .slice none 0 0] 39)) X0.heap.size (.cells #[.int .i64 0, .int .i64 0, .int .i64 0, .int .i64 0, .int .i64 0, .bool false, .string ⟨#[]⟩, .string ⟨#[]⟩, .slice none 0 0] 39 (0, 0)) := Has.fresh _ _
      obtain ⟨X1, hX1⟩ : ∃ V, V = X0.alloc (.cells #[.int .i64 0, .int .i64 0, .int .i64 0, .int .i64 0, .int .i64 0, .bool false, .string ⟨#[]⟩, .string ⟨#[]⟩, .slice none 0 0] 39) := ⟨_, rfl⟩
      rw [← hX1] at hz hbX1' hHeld
      rw [← hX1]
      obtain ⟨g, hgg⟩ : ∃ g, g = X0.heap.size := ⟨_, rfl⟩
      rw [← hgg] at hz
      rw [← hgg]
      have hgW : W0.heap.size ≤ g := by rw [hgg]; exact hbX0.size
      have hbX1 := hbX1'
      clear hX1 hgg hbX1'
      have CR := Lib.hid (kinRoot O M id (O.since HR0.out hbX1) Hg.out)
      refine way_run (by simp only [List.getElem?_toArray, List.getElem?_cons_succ, List.getElem?_cons_zero]; rfl) (by rfl) (fun K hK => ?_)
      go_simp
      refine CR.out.mono ?_
      rintro e X2 ⟨rfl, hb'⟩
      have hbX2 := hbX1.trans (hb'.mono hbX1.size)
      have hz' := hz.below hb' hz.inside
      go_simp
      refine hK.out _ _ (HST.out _ hbX2) (fun hHeld => ?_)
      clear hK K CR hb' hz
      have hz := hz'; clear hz'
      (try simp only [Act.put, List.setIfInBounds_toArray, List.set_cons_zero, List.set_cons_succ])
      have CN := Lib.hid (M.node S X2 b l (rootL l id) (O.since HR0.out hbX2) Hg.out)
      refine way_run (by simp only [List.getElem?_toArray, List.getElem?_cons_succ, List.getElem?_cons_zero]; rfl) (by rfl) (fun K hK => ?_)
      go_simp
      refine CN.out.mono ?_
      rintro e X3 ⟨d, A1, c1, rfl, hd, -, hb'⟩
      have hbX3 := hbX2.trans (hb'.mono hbX2.size)
      have hz' := hz.below hb' hz.inside
      have hdh := HD.out d hd
      obtain ⟨tb, htb⟩ : ∃ tb, tb = thereB l (rootL l id) := ⟨_, rfl⟩
      rw [← htb]
      have Hdh := Lib.hid hdh
      clear hd hdh htb
      go_simp
      refine hK.out _ _ (HST.out _ hbX3) (fun hHeld => ?_)
      clear hK K CN hb' hz
      have hz := hz'; clear hz'
      (try simp only [Act.put, List.setIfInBounds_toArray, List.set_cons_zero, List.set_cons_succ])
      (repeat (first | (refine way_skip (by simp only [List.getElem?_toArray, List.getElem?_cons_succ, List.getElem?_cons_zero]; rfl) (by rfl) hHeld ?_; (try simp only [Act.put, List.setIfInBounds_toArray, List.set_cons_zero, List.set_cons_succ])) | (refine way_pass (by simp only [List.getElem?_toArray, List.getElem?_cons_succ, List.getElem?_cons_zero]; rfl) (by rfl) hHeld ?_; (try simp only [Act.put, List.setIfInBounds_toArray, List.set_cons_zero, List.set_cons_succ])) | (refine way_take (v := ?_) (by simp only [List.getElem?_toArray, List.getElem?_cons_succ, List.getElem?_cons_zero]; rfl) (by rfl) ?_ hHeld ?_; rotate_left; (focus (intro w hSw; (try dsimp only at hSw); go_simp; (try with_reducible rfl); done)); (try simp only [Act.put, List.setIfInBounds_toArray, List.set_cons_zero, List.set_cons_succ]))))
      obtain ⟨⟨y0, y1, y2, y3, y4, y5, y6, y7, y8⟩, q0, q1, q2, q3, q4, q5, q6, q7, q8⟩ := box_nine hz
      have hs := box_stored hz (.int .i64 d.kind) (.int .i64 d.parent) (.int .i64 d.host) (.int .i64 d.shadow) (.int .i64 d.mode) (.bool d.slot) (.string d.name) (.string d.want) (.slice A1 d.kids.length c1)
      have hkb := keepsBox X3 g (.int .i64 d.kind) (.int .i64 d.parent) (.int .i64 d.host) (.int .i64 d.shadow) (.int .i64 d.mode) (.bool d.slot) (.string d.name) (.string d.want) (.slice A1 d.kids.length c1)
      have hbs := below_then hbX3 hkb hbX3.size fun i hi e => by omega
      have HS := Lib.hid hs
      have HBS := Lib.hid hbs
      clear hz hs hbs hkb
      refine way_run (by simp only [List.getElem?_toArray, List.getElem?_cons_succ, List.getElem?_cons_zero]; rfl) (by rfl) (fun K hK => ?_)
      go_simp
      refine hK.out _ _ (HST.out _ HBS.out) (fun hHeld => ?_)
      clear hK K y0 y1 y2 y3 y4 y5 y6 y7 y8 q0 q1 q2 q3 q4 q5 q6 q7 q8
      (try simp only [Act.put, List.setIfInBounds_toArray, List.set_cons_zero, List.set_cons_succ])
      (repeat (first | (refine way_skip (by simp only [List.getElem?_toArray, List.getElem?_cons_succ, List.getElem?_cons_zero]; rfl) (by rfl) hHeld ?_; (try simp only [Act.put, List.setIfInBounds_toArray, List.set_cons_zero, List.set_cons_succ])) | (refine way_pass (by simp only [List.getElem?_toArray, List.getElem?_cons_succ, List.getElem?_cons_zero]; rfl) (by rfl) hHeld ?_; (try simp only [Act.put, List.setIfInBounds_toArray, List.set_cons_zero, List.set_cons_succ])) | (refine way_take (v := ?_) (by simp only [List.getElem?_toArray, List.getElem?_cons_succ, List.getElem?_cons_zero]; rfl) (by rfl) ?_ hHeld ?_; rotate_left; (focus (intro w hSw; (try dsimp only at hSw); go_simp; (try with_reducible rfl); done)); (try simp only [Act.put, List.setIfInBounds_toArray, List.set_cons_zero, List.set_cons_succ]))))
      refine way_done ?_
      go_wp2_with fail
      go_meet
      exact ⟨g, d, A1, c1, rfl, Hdh.out, HS.out, HBS.out⟩
  case rest =>
    obtain ⟨g, d, A1, c1, rfl, hdh, hbox, hbx⟩ := hcut
    have hC1 := HC.out.below hbx
    have p0 : wc.cell? ⟨B, 0, none⟩ = some (at_ b) := hC1.reads.1
    have x2 : wc.cell? ⟨g, 2, none⟩ = some (.int .i64 d.host) := hbox.cell 2
    have HC1 := Lib.hid hC1
    have HR1 := Lib.hid (O.since HR0.out hbx)
    have Hb1 := Lib.hid (Hb0.out.trans (hbx.mono Hb0.out.size))
    have Hdh := Lib.hid hdh
    clear hC1 hbx hbox hdh HR0 Hb0 HC HST HD
    go_wp2_with fail
    refine (M.node S wc b l d.host HR1.out Hg.out).mono ?_
    rintro e w3 ⟨d3, A3, c3, rfl, hd3, hk3, hb3⟩
    have hkids : d3.kids = kidsOf l (hostL l id) := by
      rw [hd3, Hdh.out]
      unfold kidsOf
      split <;> rfl
    have hth : ∀ x ∈ d3.kids, thereB l x = true := fun x hx => by
      rw [hkids] at hx
      obtain ⟨q1, q2⟩ := kidsOf_mem hx
      exact (Hg.out.tree.kid _ q1 x q2).1
    have hkl : d3.kids.length ≤ 1000000 := by
      rw [hkids]
      exact Nat.le_trans (kidsOf_len Hg.out.few _) (by decide)
    have hfin : asgL l id = d3.kids.filter fun k => ofL l k == id := by
      rw [hkids]
      rfl
    have hb4 : Below wc.heap.size wc (w3.alloc (.cells #[.int .i64 d3.kind, .int .i64 d3.parent, .int .i64 d3.host, .int .i64 d3.shadow, .int .i64 d3.mode, .bool d3.slot, .string d3.name, .string d3.want, .slice A3 d3.kids.length c3] 39)) := hb3.alloc hb3.size _
    have p4 : (w3.alloc (.cells #[.int .i64 d3.kind, .int .i64 d3.parent, .int .i64 d3.host, .int .i64 d3.shadow, .int .i64 d3.mode, .bool d3.slot, .string d3.name, .string d3.want, .slice A3 d3.kids.length c3] 39)).cell? ⟨B, 0, none⟩ = some (at_ b) := (HC1.out.below hb4).reads.1
    have x8 : (w3.alloc (.cells #[.int .i64 d3.kind, .int .i64 d3.parent, .int .i64 d3.host, .int .i64 d3.shadow, .int .i64 d3.mode, .bool d3.slot, .string d3.name, .string d3.want, .slice A3 d3.kids.length c3] 39)).cell? ⟨w3.heap.size, 8, none⟩ = some (.slice A3 d3.kids.length c3) := (Has.fresh w3 (.cells #[.int .i64 d3.kind, .int .i64 d3.parent, .int .i64 d3.host, .int .i64 d3.shadow, .int .i64 d3.mode, .bool d3.slot, .string d3.name, .string d3.want, .slice A3 d3.kids.length c3] 39)).cell 8
    have hP4 : Pile wc.heap.size (w3.alloc (.cells #[.int .i64 d3.kind, .int .i64 d3.parent, .int .i64 d3.host, .int .i64 d3.shadow, .int .i64 d3.mode, .bool d3.slot, .string d3.name, .string d3.want, .slice A3 d3.kids.length c3] 39)) (.slice A3 d3.kids.length c3) d3.kids := (Pile.of_kids hk3 fun g hg _ => hg).alloc _
    have hL4 : ListIn (w3.alloc (.cells #[.int .i64 d3.kind, .int .i64 d3.parent, .int .i64 d3.host, .int .i64 d3.shadow, .int .i64 d3.mode, .bool d3.slot, .string d3.name, .string d3.want, .slice A3 d3.kids.length c3] 39)) A3 c3 d3.kids := by
      obtain ⟨A, c, eA, hL⟩ := hP4.form
      obtain ⟨rfl, rfl⟩ : A3 = A ∧ c3 = c := by injection eA with e1 _ e3; exact ⟨e1, e3⟩
      exact hL
    have HL4 := Lib.hid hL4
    have HC4 := Lib.hid (HC1.out.below hb4)
    have HR4 := Lib.hid (O.since HR1.out hb4)
    have Hb4 := Lib.hid (Hb1.out.trans (hb4.mono Hb1.out.size))
    have Hfin := Lib.hid hfin
    have Hth := Lib.hid hth
    obtain ⟨tb, htb⟩ : ∃ tb, tb = thereB l d.host := ⟨_, rfl⟩
    rw [← htb]
    clear hd3 hk3 hb3 hkids hth hfin hb4 hP4 hL4 htb Hdh HR1 Hb1 HC1 p0 x2
    go_wp2_with fail
    refine (slPick O M 34 #[.pointer (some ⟨B, 0, none⟩), .pointer (some ⟨B + 1, 0, none⟩)] (fun k => ofL l k == id) d3.kids A3 d3.kids.length c3 rfl hkl HL4.out HR4.out Hg.out Hth.out
      (fun x d w => MuLone.run_callFunc_enter Try.func34 (by kernel_rfl) rfl _ w)
      (fun x hx w6 A6 c6 hb6 hr6 => slAssigned1 O M id x (nd l x) A6 c6 hr6 Hg.out (HC4.out.below hb6))).mono ?_
    rintro e w7 ⟨v, rfl, hP, hb7⟩
    have hbF := Hb4.out.trans (hb7.mono Hb4.out.size)
    have HF : Hid (Pile w.heap.size w7 v (d3.kids.filter fun k => ofL l k == id) ∧ Below w.heap.size w w7) := Lib.hid ⟨hP.from_ Hb4.out.size, hbF⟩
    obtain ⟨A7, c7, rfl, -⟩ := hP.form
    clear hP hb7 hbF Hb4 HR4 HC4 HL4
    go_wp2
    go_ret
    rw [Hfin.out]
    exact ⟨_, rfl, HF.out.1, HF.out.2⟩
end
end Go.Proofs.Ytloncmhcdmjjgaa

namespace Go.Proofs.Ytloncmhcdmjjgaa
open Go Go.RowKit

/-- A slot. -/
def slotEl : Nd := ⟨2, 0, 0, 0, 0, true, ⟨#[]⟩, ⟨#[]⟩, []⟩
theorem slotEl_err (n : Nat) (h : n < 128) : mkErr n slotEl = 0 := by
  have := mkErr_rest (n := n) (k := 2) (pa := 0) (ho := 0) (sh := 0) (m := 0) (sl := true) (na := ⟨#[]⟩) (wa := ⟨#[]⟩) (ks := []) (by omega) (by omega) (by omega) (by
    rw [okName_empty empty_is]
    simp)
  rw [if_neg (by omega)] at this
  exact this
theorem openEl_err (n : Nat) (h : n < 128) : mkErr n (shadeNd 1) = 0 := by
  have := mkErr_rest (n := n) (k := 3) (pa := 0) (ho := 0) (sh := 0) (m := 1) (sl := false) (na := ⟨#[]⟩) (wa := ⟨#[]⟩) (ks := []) (by omega) (by omega) (by omega) (by
    rw [okName_empty empty_is, empty_is]
    simp)
  rw [if_neg (by omega)] at this
  exact this
/-- The calls of the document's example. -/
def actE9 : Ac := ⟨0, 0, 0, ⟨#[]⟩, elem, []⟩
def actS9 : Ac := ⟨0, 0, 0, ⟨#[]⟩, shadeNd 1, []⟩
def actT9 : Ac := ⟨0, 0, 0, ⟨#[]⟩, slotEl, []⟩
def actP9 : Ac := ⟨1, 1, 0, ⟨#[]⟩, Nd.zero, [2]⟩
def actI9 : Ac := ⟨2, 1, 3, ⟨#[]⟩, Nd.zero, []⟩
def actQ9 : Ac := ⟨1, 3, 0, ⟨#[]⟩, Nd.zero, [4]⟩
def acts9 : List Ac := [actE9, actE9, actS9, actT9, actP9, actI9, actQ9]
theorem acts9_small : Small acts9 := by
  unfold Small
  decide
theorem acts9_forest : forest acts9 = putL (tieL (putL [elem, elem, shadeNd 1, slotEl] 1 [2]) 1 3) 3 [4] := by
  have e3 : mkL [elem, elem] (shadeNd 1) = [elem, elem, shadeNd 1] := by
    unfold mkL
    rw [if_pos (openEl_err _ (by simp))]
    rfl
  have e4 : mkL [elem, elem, shadeNd 1] slotEl = [elem, elem, shadeNd 1, slotEl] := by
    unfold mkL
    rw [if_pos (slotEl_err _ (by simp))]
    rfl
  show putL (tieL (putL (mkL (mkL (mkL (mkL [] elem) elem) (shadeNd 1)) slotEl) 1 [2]) 1 3) 3 [4] = _
  rw [two_elems, e3, e4]
theorem acts9_of : ofL (forest acts9) 2 = 4 := by rw [acts9_forest]; decide +kernel
theorem acts9_asg : asgL (forest acts9) 4 = [2] := by rw [acts9_forest]; decide +kernel
theorem acts9_in (w : World) : Acts (((w.alloc (.cells #[.int .i64 2] 3)).alloc (.cells #[.int .i64 4] 3)).alloc (.cells #[.int .i64 0, .int .i64 0, .int .i64 0, .string ⟨#[]⟩, .int .i64 2, .int .i64 0, .int .i64 0, .int .i64 0, .int .i64 0, .bool false, .string ⟨#[]⟩, .string ⟨#[]⟩, .slice none 0 0, .slice none 0 0, .int .i64 0, .int .i64 0, .int .i64 0, .string ⟨#[]⟩, .int .i64 2, .int .i64 0, .int .i64 0, .int .i64 0, .int .i64 0, .bool false, .string ⟨#[]⟩, .string ⟨#[]⟩, .slice none 0 0, .slice none 0 0, .int .i64 0, .int .i64 0, .int .i64 0, .string ⟨#[]⟩, .int .i64 3, .int .i64 0, .int .i64 0, .int .i64 0, .int .i64 1, .bool false, .string ⟨#[]⟩, .string ⟨#[]⟩, .slice none 0 0, .slice none 0 0, .int .i64 0, .int .i64 0, .int .i64 0, .string ⟨#[]⟩, .int .i64 2, .int .i64 0, .int .i64 0, .int .i64 0, .int .i64 0, .bool true, .string ⟨#[]⟩, .string ⟨#[]⟩, .slice none 0 0, .slice none 0 0, .int .i64 1, .int .i64 1, .int .i64 0, .string ⟨#[]⟩, .int .i64 0, .int .i64 0, .int .i64 0, .int .i64 0, .int .i64 0, .bool false, .string ⟨#[]⟩, .string ⟨#[]⟩, .slice none 0 0, .slice (some ⟨w.heap.size, 0, none⟩) 1 1, .int .i64 2, .int .i64 1, .int .i64 3, .string ⟨#[]⟩, .int .i64 0, .int .i64 0, .int .i64 0, .int .i64 0, .int .i64 0, .bool false, .string ⟨#[]⟩, .string ⟨#[]⟩, .slice none 0 0, .slice none 0 0, .int .i64 1, .int .i64 3, .int .i64 0, .string ⟨#[]⟩, .int .i64 0, .int .i64 0, .int .i64 0, .int .i64 0, .int .i64 0, .bool false, .string ⟨#[]⟩, .string ⟨#[]⟩, .slice none 0 0, .slice (some ⟨w.heap.size + 1, 0, none⟩) 1 1] 43)) (some ⟨w.heap.size + 2, 0, none⟩) acts9 := by
  have h1 : Has (((w.alloc (.cells #[.int .i64 2] 3)).alloc (.cells #[.int .i64 4] 3)).alloc (.cells #[.int .i64 0, .int .i64 0, .int .i64 0, .string ⟨#[]⟩, .int .i64 2, .int .i64 0, .int .i64 0, .int .i64 0, .int .i64 0, .bool false, .string ⟨#[]⟩, .string ⟨#[]⟩, .slice none 0 0, .slice none 0 0, .int .i64 0, .int .i64 0, .int .i64 0, .string ⟨#[]⟩, .int .i64 2, .int .i64 0, .int .i64 0, .int .i64 0, .int .i64 0, .bool false, .string ⟨#[]⟩, .string ⟨#[]⟩, .slice none 0 0, .slice none 0 0, .int .i64 0, .int .i64 0, .int .i64 0, .string ⟨#[]⟩, .int .i64 3, .int .i64 0, .int .i64 0, .int .i64 0, .int .i64 1, .bool false, .string ⟨#[]⟩, .string ⟨#[]⟩, .slice none 0 0, .slice none 0 0, .int .i64 0, .int .i64 0, .int .i64 0, .string ⟨#[]⟩, .int .i64 2, .int .i64 0, .int .i64 0, .int .i64 0, .int .i64 0, .bool true, .string ⟨#[]⟩, .string ⟨#[]⟩, .slice none 0 0, .slice none 0 0, .int .i64 1, .int .i64 1, .int .i64 0, .string ⟨#[]⟩, .int .i64 0, .int .i64 0, .int .i64 0, .int .i64 0, .int .i64 0, .bool false, .string ⟨#[]⟩, .string ⟨#[]⟩, .slice none 0 0, .slice (some ⟨w.heap.size, 0, none⟩) 1 1, .int .i64 2, .int .i64 1, .int .i64 3, .string ⟨#[]⟩, .int .i64 0, .int .i64 0, .int .i64 0, .int .i64 0, .int .i64 0, .bool false, .string ⟨#[]⟩, .string ⟨#[]⟩, .slice none 0 0, .slice none 0 0, .int .i64 1, .int .i64 3, .int .i64 0, .string ⟨#[]⟩, .int .i64 0, .int .i64 0, .int .i64 0, .int .i64 0, .int .i64 0, .bool false, .string ⟨#[]⟩, .string ⟨#[]⟩, .slice none 0 0, .slice (some ⟨w.heap.size + 1, 0, none⟩) 1 1] 43)) w.heap.size (.cells #[.int .i64 2] 3 (0, 0)) := ((Has.fresh _ _).more _).more _
  have h1' : Has (((w.alloc (.cells #[.int .i64 2] 3)).alloc (.cells #[.int .i64 4] 3)).alloc (.cells #[.int .i64 0, .int .i64 0, .int .i64 0, .string ⟨#[]⟩, .int .i64 2, .int .i64 0, .int .i64 0, .int .i64 0, .int .i64 0, .bool false, .string ⟨#[]⟩, .string ⟨#[]⟩, .slice none 0 0, .slice none 0 0, .int .i64 0, .int .i64 0, .int .i64 0, .string ⟨#[]⟩, .int .i64 2, .int .i64 0, .int .i64 0, .int .i64 0, .int .i64 0, .bool false, .string ⟨#[]⟩, .string ⟨#[]⟩, .slice none 0 0, .slice none 0 0, .int .i64 0, .int .i64 0, .int .i64 0, .string ⟨#[]⟩, .int .i64 3, .int .i64 0, .int .i64 0, .int .i64 0, .int .i64 1, .bool false, .string ⟨#[]⟩, .string ⟨#[]⟩, .slice none 0 0, .slice none 0 0, .int .i64 0, .int .i64 0, .int .i64 0, .string ⟨#[]⟩, .int .i64 2, .int .i64 0, .int .i64 0, .int .i64 0, .int .i64 0, .bool true, .string ⟨#[]⟩, .string ⟨#[]⟩, .slice none 0 0, .slice none 0 0, .int .i64 1, .int .i64 1, .int .i64 0, .string ⟨#[]⟩, .int .i64 0, .int .i64 0, .int .i64 0, .int .i64 0, .int .i64 0, .bool false, .string ⟨#[]⟩, .string ⟨#[]⟩, .slice none 0 0, .slice (some ⟨w.heap.size, 0, none⟩) 1 1, .int .i64 2, .int .i64 1, .int .i64 3, .string ⟨#[]⟩, .int .i64 0, .int .i64 0, .int .i64 0, .int .i64 0, .int .i64 0, .bool false, .string ⟨#[]⟩, .string ⟨#[]⟩, .slice none 0 0, .slice none 0 0, .int .i64 1, .int .i64 3, .int .i64 0, .string ⟨#[]⟩, .int .i64 0, .int .i64 0, .int .i64 0, .int .i64 0, .int .i64 0, .bool false, .string ⟨#[]⟩, .string ⟨#[]⟩, .slice none 0 0, .slice (some ⟨w.heap.size + 1, 0, none⟩) 1 1] 43)) (w.heap.size + 1) (.cells #[.int .i64 4] 3 (0, 0)) := by
    have := (Has.fresh (w.alloc (.cells #[.int .i64 2] 3)) (.cells #[.int .i64 4] 3)).more (.cells #[.int .i64 0, .int .i64 0, .int .i64 0, .string ⟨#[]⟩, .int .i64 2, .int .i64 0, .int .i64 0, .int .i64 0, .int .i64 0, .bool false, .string ⟨#[]⟩, .string ⟨#[]⟩, .slice none 0 0, .slice none 0 0, .int .i64 0, .int .i64 0, .int .i64 0, .string ⟨#[]⟩, .int .i64 2, .int .i64 0, .int .i64 0, .int .i64 0, .int .i64 0, .bool false, .string ⟨#[]⟩, .string ⟨#[]⟩, .slice none 0 0, .slice none 0 0, .int .i64 0, .int .i64 0, .int .i64 0, .string ⟨#[]⟩, .int .i64 3, .int .i64 0, .int .i64 0, .int .i64 0, .int .i64 1, .bool false, .string ⟨#[]⟩, .string ⟨#[]⟩, .slice none 0 0, .slice none 0 0, .int .i64 0, .int .i64 0, .int .i64 0, .string ⟨#[]⟩, .int .i64 2, .int .i64 0, .int .i64 0, .int .i64 0, .int .i64 0, .bool true, .string ⟨#[]⟩, .string ⟨#[]⟩, .slice none 0 0, .slice none 0 0, .int .i64 1, .int .i64 1, .int .i64 0, .string ⟨#[]⟩, .int .i64 0, .int .i64 0, .int .i64 0, .int .i64 0, .int .i64 0, .bool false, .string ⟨#[]⟩, .string ⟨#[]⟩, .slice none 0 0, .slice (some ⟨w.heap.size, 0, none⟩) 1 1, .int .i64 2, .int .i64 1, .int .i64 3, .string ⟨#[]⟩, .int .i64 0, .int .i64 0, .int .i64 0, .int .i64 0, .int .i64 0, .bool false, .string ⟨#[]⟩, .string ⟨#[]⟩, .slice none 0 0, .slice none 0 0, .int .i64 1, .int .i64 3, .int .i64 0, .string ⟨#[]⟩, .int .i64 0, .int .i64 0, .int .i64 0, .int .i64 0, .int .i64 0, .bool false, .string ⟨#[]⟩, .string ⟨#[]⟩, .slice none 0 0, .slice (some ⟨w.heap.size + 1, 0, none⟩) 1 1] 43)
    rw [show (w.alloc (.cells #[.int .i64 2] 3)).heap.size = w.heap.size + 1 by simp] at this
    exact this
  have h2 : Has (((w.alloc (.cells #[.int .i64 2] 3)).alloc (.cells #[.int .i64 4] 3)).alloc (.cells #[.int .i64 0, .int .i64 0, .int .i64 0, .string ⟨#[]⟩, .int .i64 2, .int .i64 0, .int .i64 0, .int .i64 0, .int .i64 0, .bool false, .string ⟨#[]⟩, .string ⟨#[]⟩, .slice none 0 0, .slice none 0 0, .int .i64 0, .int .i64 0, .int .i64 0, .string ⟨#[]⟩, .int .i64 2, .int .i64 0, .int .i64 0, .int .i64 0, .int .i64 0, .bool false, .string ⟨#[]⟩, .string ⟨#[]⟩, .slice none 0 0, .slice none 0 0, .int .i64 0, .int .i64 0, .int .i64 0, .string ⟨#[]⟩, .int .i64 3, .int .i64 0, .int .i64 0, .int .i64 0, .int .i64 1, .bool false, .string ⟨#[]⟩, .string ⟨#[]⟩, .slice none 0 0, .slice none 0 0, .int .i64 0, .int .i64 0, .int .i64 0, .string ⟨#[]⟩, .int .i64 2, .int .i64 0, .int .i64 0, .int .i64 0, .int .i64 0, .bool true, .string ⟨#[]⟩, .string ⟨#[]⟩, .slice none 0 0, .slice none 0 0, .int .i64 1, .int .i64 1, .int .i64 0, .string ⟨#[]⟩, .int .i64 0, .int .i64 0, .int .i64 0, .int .i64 0, .int .i64 0, .bool false, .string ⟨#[]⟩, .string ⟨#[]⟩, .slice none 0 0, .slice (some ⟨w.heap.size, 0, none⟩) 1 1, .int .i64 2, .int .i64 1, .int .i64 3, .string ⟨#[]⟩, .int .i64 0, .int .i64 0, .int .i64 0, .int .i64 0, .int .i64 0, .bool false, .string ⟨#[]⟩, .string ⟨#[]⟩, .slice none 0 0, .slice none 0 0, .int .i64 1, .int .i64 3, .int .i64 0, .string ⟨#[]⟩, .int .i64 0, .int .i64 0, .int .i64 0, .int .i64 0, .int .i64 0, .bool false, .string ⟨#[]⟩, .string ⟨#[]⟩, .slice none 0 0, .slice (some ⟨w.heap.size + 1, 0, none⟩) 1 1] 43)) (w.heap.size + 2) (.cells #[.int .i64 0, .int .i64 0, .int .i64 0, .string ⟨#[]⟩, .int .i64 2, .int .i64 0, .int .i64 0, .int .i64 0, .int .i64 0, .bool false, .string ⟨#[]⟩, .string ⟨#[]⟩, .slice none 0 0, .slice none 0 0, .int .i64 0, .int .i64 0, .int .i64 0, .string ⟨#[]⟩, .int .i64 2, .int .i64 0, .int .i64 0, .int .i64 0, .int .i64 0, .bool false, .string ⟨#[]⟩, .string ⟨#[]⟩, .slice none 0 0, .slice none 0 0, .int .i64 0, .int .i64 0, .int .i64 0, .string ⟨#[]⟩, .int .i64 3, .int .i64 0, .int .i64 0, .int .i64 0, .int .i64 1, .bool false, .string ⟨#[]⟩, .string ⟨#[]⟩, .slice none 0 0, .slice none 0 0, .int .i64 0, .int .i64 0, .int .i64 0, .string ⟨#[]⟩, .int .i64 2, .int .i64 0, .int .i64 0, .int .i64 0, .int .i64 0, .bool true, .string ⟨#[]⟩, .string ⟨#[]⟩, .slice none 0 0, .slice none 0 0, .int .i64 1, .int .i64 1, .int .i64 0, .string ⟨#[]⟩, .int .i64 0, .int .i64 0, .int .i64 0, .int .i64 0, .int .i64 0, .bool false, .string ⟨#[]⟩, .string ⟨#[]⟩, .slice none 0 0, .slice (some ⟨w.heap.size, 0, none⟩) 1 1, .int .i64 2, .int .i64 1, .int .i64 3, .string ⟨#[]⟩, .int .i64 0, .int .i64 0, .int .i64 0, .int .i64 0, .int .i64 0, .bool false, .string ⟨#[]⟩, .string ⟨#[]⟩, .slice none 0 0, .slice none 0 0, .int .i64 1, .int .i64 3, .int .i64 0, .string ⟨#[]⟩, .int .i64 0, .int .i64 0, .int .i64 0, .int .i64 0, .int .i64 0, .bool false, .string ⟨#[]⟩, .string ⟨#[]⟩, .slice none 0 0, .slice (some ⟨w.heap.size + 1, 0, none⟩) 1 1] 43 (0, 0)) := by
    have := Has.fresh ((w.alloc (.cells #[.int .i64 2] 3)).alloc (.cells #[.int .i64 4] 3)) (.cells #[.int .i64 0, .int .i64 0, .int .i64 0, .string ⟨#[]⟩, .int .i64 2, .int .i64 0, .int .i64 0, .int .i64 0, .int .i64 0, .bool false, .string ⟨#[]⟩, .string ⟨#[]⟩, .slice none 0 0, .slice none 0 0, .int .i64 0, .int .i64 0, .int .i64 0, .string ⟨#[]⟩, .int .i64 2, .int .i64 0, .int .i64 0, .int .i64 0, .int .i64 0, .bool false, .string ⟨#[]⟩, .string ⟨#[]⟩, .slice none 0 0, .slice none 0 0, .int .i64 0, .int .i64 0, .int .i64 0, .string ⟨#[]⟩, .int .i64 3, .int .i64 0, .int .i64 0, .int .i64 0, .int .i64 1, .bool false, .string ⟨#[]⟩, .string ⟨#[]⟩, .slice none 0 0, .slice none 0 0, .int .i64 0, .int .i64 0, .int .i64 0, .string ⟨#[]⟩, .int .i64 2, .int .i64 0, .int .i64 0, .int .i64 0, .int .i64 0, .bool true, .string ⟨#[]⟩, .string ⟨#[]⟩, .slice none 0 0, .slice none 0 0, .int .i64 1, .int .i64 1, .int .i64 0, .string ⟨#[]⟩, .int .i64 0, .int .i64 0, .int .i64 0, .int .i64 0, .int .i64 0, .bool false, .string ⟨#[]⟩, .string ⟨#[]⟩, .slice none 0 0, .slice (some ⟨w.heap.size, 0, none⟩) 1 1, .int .i64 2, .int .i64 1, .int .i64 3, .string ⟨#[]⟩, .int .i64 0, .int .i64 0, .int .i64 0, .int .i64 0, .int .i64 0, .bool false, .string ⟨#[]⟩, .string ⟨#[]⟩, .slice none 0 0, .slice none 0 0, .int .i64 1, .int .i64 3, .int .i64 0, .string ⟨#[]⟩, .int .i64 0, .int .i64 0, .int .i64 0, .int .i64 0, .int .i64 0, .bool false, .string ⟨#[]⟩, .string ⟨#[]⟩, .slice none 0 0, .slice (some ⟨w.heap.size + 1, 0, none⟩) 1 1] 43)
    rw [show ((w.alloc (.cells #[.int .i64 2] 3)).alloc (.cells #[.int .i64 4] 3)).heap.size = w.heap.size + 2 by simp] at this
    exact this
  have h3 := acts_lit (rows := [(actE9, (none, 0), none, 0), (actE9, (none, 0), none, 0), (actS9, (none, 0), none, 0), (actT9, (none, 0), none, 0), (actP9, (none, 0), some ⟨w.heap.size, 0, none⟩, 1), (actI9, (none, 0), none, 0), (actQ9, (none, 0), some ⟨w.heap.size + 1, 0, none⟩, 1)]) h2 (by
    intro r hr
    have eE : ListIn (((w.alloc (.cells #[.int .i64 2] 3)).alloc (.cells #[.int .i64 4] 3)).alloc (.cells #[.int .i64 0, .int .i64 0, .int .i64 0, .string ⟨#[]⟩, .int .i64 2, .int .i64 0, .int .i64 0, .int .i64 0, .int .i64 0, .bool false, .string ⟨#[]⟩, .string ⟨#[]⟩, .slice none 0 0, .slice none 0 0, .int .i64 0, .int .i64 0, .int .i64 0, .string ⟨#[]⟩, .int .i64 2, .int .i64 0, .int .i64 0, .int .i64 0, .int .i64 0, .bool false, .string ⟨#[]⟩, .string ⟨#[]⟩, .slice none 0 0, .slice none 0 0, .int .i64 0, .int .i64 0, .int .i64 0, .string ⟨#[]⟩, .int .i64 3, .int .i64 0, .int .i64 0, .int .i64 0, .int .i64 1, .bool false, .string ⟨#[]⟩, .string ⟨#[]⟩, .slice none 0 0, .slice none 0 0, .int .i64 0, .int .i64 0, .int .i64 0, .string ⟨#[]⟩, .int .i64 2, .int .i64 0, .int .i64 0, .int .i64 0, .int .i64 0, .bool true, .string ⟨#[]⟩, .string ⟨#[]⟩, .slice none 0 0, .slice none 0 0, .int .i64 1, .int .i64 1, .int .i64 0, .string ⟨#[]⟩, .int .i64 0, .int .i64 0, .int .i64 0, .int .i64 0, .int .i64 0, .bool false, .string ⟨#[]⟩, .string ⟨#[]⟩, .slice none 0 0, .slice (some ⟨w.heap.size, 0, none⟩) 1 1, .int .i64 2, .int .i64 1, .int .i64 3, .string ⟨#[]⟩, .int .i64 0, .int .i64 0, .int .i64 0, .int .i64 0, .int .i64 0, .bool false, .string ⟨#[]⟩, .string ⟨#[]⟩, .slice none 0 0, .slice none 0 0, .int .i64 1, .int .i64 3, .int .i64 0, .string ⟨#[]⟩, .int .i64 0, .int .i64 0, .int .i64 0, .int .i64 0, .int .i64 0, .bool false, .string ⟨#[]⟩, .string ⟨#[]⟩, .slice none 0 0, .slice (some ⟨w.heap.size + 1, 0, none⟩) 1 1] 43)) none 0 actE9.n.kids ∧ ActIn (((w.alloc (.cells #[.int .i64 2] 3)).alloc (.cells #[.int .i64 4] 3)).alloc (.cells #[.int .i64 0, .int .i64 0, .int .i64 0, .string ⟨#[]⟩, .int .i64 2, .int .i64 0, .int .i64 0, .int .i64 0, .int .i64 0, .bool false, .string ⟨#[]⟩, .string ⟨#[]⟩, .slice none 0 0, .slice none 0 0, .int .i64 0, .int .i64 0, .int .i64 0, .string ⟨#[]⟩, .int .i64 2, .int .i64 0, .int .i64 0, .int .i64 0, .int .i64 0, .bool false, .string ⟨#[]⟩, .string ⟨#[]⟩, .slice none 0 0, .slice none 0 0, .int .i64 0, .int .i64 0, .int .i64 0, .string ⟨#[]⟩, .int .i64 3, .int .i64 0, .int .i64 0, .int .i64 0, .int .i64 1, .bool false, .string ⟨#[]⟩, .string ⟨#[]⟩, .slice none 0 0, .slice none 0 0, .int .i64 0, .int .i64 0, .int .i64 0, .string ⟨#[]⟩, .int .i64 2, .int .i64 0, .int .i64 0, .int .i64 0, .int .i64 0, .bool true, .string ⟨#[]⟩, .string ⟨#[]⟩, .slice none 0 0, .slice none 0 0, .int .i64 1, .int .i64 1, .int .i64 0, .string ⟨#[]⟩, .int .i64 0, .int .i64 0, .int .i64 0, .int .i64 0, .int .i64 0, .bool false, .string ⟨#[]⟩, .string ⟨#[]⟩, .slice none 0 0, .slice (some ⟨w.heap.size, 0, none⟩) 1 1, .int .i64 2, .int .i64 1, .int .i64 3, .string ⟨#[]⟩, .int .i64 0, .int .i64 0, .int .i64 0, .int .i64 0, .int .i64 0, .bool false, .string ⟨#[]⟩, .string ⟨#[]⟩, .slice none 0 0, .slice none 0 0, .int .i64 1, .int .i64 3, .int .i64 0, .string ⟨#[]⟩, .int .i64 0, .int .i64 0, .int .i64 0, .int .i64 0, .int .i64 0, .bool false, .string ⟨#[]⟩, .string ⟨#[]⟩, .slice none 0 0, .slice (some ⟨w.heap.size + 1, 0, none⟩) 1 1] 43)) actE9 none 0 := ⟨listNone _, Nat.zero_le _, Nat.zero_le _, Nat.zero_le _, Nat.le_refl _, fun _ => rfl, (listNone _).nums⟩
    have eS : ListIn (((w.alloc (.cells #[.int .i64 2] 3)).alloc (.cells #[.int .i64 4] 3)).alloc (.cells #[.int .i64 0, .int .i64 0, .int .i64 0, .string ⟨#[]⟩, .int .i64 2, .int .i64 0, .int .i64 0, .int .i64 0, .int .i64 0, .bool false, .string ⟨#[]⟩, .string ⟨#[]⟩, .slice none 0 0, .slice none 0 0, .int .i64 0, .int .i64 0, .int .i64 0, .string ⟨#[]⟩, .int .i64 2, .int .i64 0, .int .i64 0, .int .i64 0, .int .i64 0, .bool false, .string ⟨#[]⟩, .string ⟨#[]⟩, .slice none 0 0, .slice none 0 0, .int .i64 0, .int .i64 0, .int .i64 0, .string ⟨#[]⟩, .int .i64 3, .int .i64 0, .int .i64 0, .int .i64 0, .int .i64 1, .bool false, .string ⟨#[]⟩, .string ⟨#[]⟩, .slice none 0 0, .slice none 0 0, .int .i64 0, .int .i64 0, .int .i64 0, .string ⟨#[]⟩, .int .i64 2, .int .i64 0, .int .i64 0, .int .i64 0, .int .i64 0, .bool true, .string ⟨#[]⟩, .string ⟨#[]⟩, .slice none 0 0, .slice none 0 0, .int .i64 1, .int .i64 1, .int .i64 0, .string ⟨#[]⟩, .int .i64 0, .int .i64 0, .int .i64 0, .int .i64 0, .int .i64 0, .bool false, .string ⟨#[]⟩, .string ⟨#[]⟩, .slice none 0 0, .slice (some ⟨w.heap.size, 0, none⟩) 1 1, .int .i64 2, .int .i64 1, .int .i64 3, .string ⟨#[]⟩, .int .i64 0, .int .i64 0, .int .i64 0, .int .i64 0, .int .i64 0, .bool false, .string ⟨#[]⟩, .string ⟨#[]⟩, .slice none 0 0, .slice none 0 0, .int .i64 1, .int .i64 3, .int .i64 0, .string ⟨#[]⟩, .int .i64 0, .int .i64 0, .int .i64 0, .int .i64 0, .int .i64 0, .bool false, .string ⟨#[]⟩, .string ⟨#[]⟩, .slice none 0 0, .slice (some ⟨w.heap.size + 1, 0, none⟩) 1 1] 43)) none 0 actS9.n.kids ∧ ActIn (((w.alloc (.cells #[.int .i64 2] 3)).alloc (.cells #[.int .i64 4] 3)).alloc (.cells #[.int .i64 0, .int .i64 0, .int .i64 0, .string ⟨#[]⟩, .int .i64 2, .int .i64 0, .int .i64 0, .int .i64 0, .int .i64 0, .bool false, .string ⟨#[]⟩, .string ⟨#[]⟩, .slice none 0 0, .slice none 0 0, .int .i64 0, .int .i64 0, .int .i64 0, .string ⟨#[]⟩, .int .i64 2, .int .i64 0, .int .i64 0, .int .i64 0, .int .i64 0, .bool false, .string ⟨#[]⟩, .string ⟨#[]⟩, .slice none 0 0, .slice none 0 0, .int .i64 0, .int .i64 0, .int .i64 0, .string ⟨#[]⟩, .int .i64 3, .int .i64 0, .int .i64 0, .int .i64 0, .int .i64 1, .bool false, .string ⟨#[]⟩, .string ⟨#[]⟩, .slice none 0 0, .slice none 0 0, .int .i64 0, .int .i64 0, .int .i64 0, .string ⟨#[]⟩, .int .i64 2, .int .i64 0, .int .i64 0, .int .i64 0, .int .i64 0, .bool true, .string ⟨#[]⟩, .string ⟨#[]⟩, .slice none 0 0, .slice none 0 0, .int .i64 1, .int .i64 1, .int .i64 0, .string ⟨#[]⟩, .int .i64 0, .int .i64 0, .int .i64 0, .int .i64 0, .int .i64 0, .bool false, .string ⟨#[]⟩, .string ⟨#[]⟩, .slice none 0 0, .slice (some ⟨w.heap.size, 0, none⟩) 1 1, .int .i64 2, .int .i64 1, .int .i64 3, .string ⟨#[]⟩, .int .i64 0, .int .i64 0, .int .i64 0, .int .i64 0, .int .i64 0, .bool false, .string ⟨#[]⟩, .string ⟨#[]⟩, .slice none 0 0, .slice none 0 0, .int .i64 1, .int .i64 3, .int .i64 0, .string ⟨#[]⟩, .int .i64 0, .int .i64 0, .int .i64 0, .int .i64 0, .int .i64 0, .bool false, .string ⟨#[]⟩, .string ⟨#[]⟩, .slice none 0 0, .slice (some ⟨w.heap.size + 1, 0, none⟩) 1 1] 43)) actS9 none 0 := ⟨listNone _, Nat.zero_le _, Nat.zero_le _, Nat.zero_le _, Nat.le_refl _, fun _ => rfl, (listNone _).nums⟩
    have eT : ListIn (((w.alloc (.cells #[.int .i64 2] 3)).alloc (.cells #[.int .i64 4] 3)).alloc (.cells #[.int .i64 0, .int .i64 0, .int .i64 0, .string ⟨#[]⟩, .int .i64 2, .int .i64 0, .int .i64 0, .int .i64 0, .int .i64 0, .bool false, .string ⟨#[]⟩, .string ⟨#[]⟩, .slice none 0 0, .slice none 0 0, .int .i64 0, .int .i64 0, .int .i64 0, .string ⟨#[]⟩, .int .i64 2, .int .i64 0, .int .i64 0, .int .i64 0, .int .i64 0, .bool false, .string ⟨#[]⟩, .string ⟨#[]⟩, .slice none 0 0, .slice none 0 0, .int .i64 0, .int .i64 0, .int .i64 0, .string ⟨#[]⟩, .int .i64 3, .int .i64 0, .int .i64 0, .int .i64 0, .int .i64 1, .bool false, .string ⟨#[]⟩, .string ⟨#[]⟩, .slice none 0 0, .slice none 0 0, .int .i64 0, .int .i64 0, .int .i64 0, .string ⟨#[]⟩, .int .i64 2, .int .i64 0, .int .i64 0, .int .i64 0, .int .i64 0, .bool true, .string ⟨#[]⟩, .string ⟨#[]⟩, .slice none 0 0, .slice none 0 0, .int .i64 1, .int .i64 1, .int .i64 0, .string ⟨#[]⟩, .int .i64 0, .int .i64 0, .int .i64 0, .int .i64 0, .int .i64 0, .bool false, .string ⟨#[]⟩, .string ⟨#[]⟩, .slice none 0 0, .slice (some ⟨w.heap.size, 0, none⟩) 1 1, .int .i64 2, .int .i64 1, .int .i64 3, .string ⟨#[]⟩, .int .i64 0, .int .i64 0, .int .i64 0, .int .i64 0, .int .i64 0, .bool false, .string ⟨#[]⟩, .string ⟨#[]⟩, .slice none 0 0, .slice none 0 0, .int .i64 1, .int .i64 3, .int .i64 0, .string ⟨#[]⟩, .int .i64 0, .int .i64 0, .int .i64 0, .int .i64 0, .int .i64 0, .bool false, .string ⟨#[]⟩, .string ⟨#[]⟩, .slice none 0 0, .slice (some ⟨w.heap.size + 1, 0, none⟩) 1 1] 43)) none 0 actT9.n.kids ∧ ActIn (((w.alloc (.cells #[.int .i64 2] 3)).alloc (.cells #[.int .i64 4] 3)).alloc (.cells #[.int .i64 0, .int .i64 0, .int .i64 0, .string ⟨#[]⟩, .int .i64 2, .int .i64 0, .int .i64 0, .int .i64 0, .int .i64 0, .bool false, .string ⟨#[]⟩, .string ⟨#[]⟩, .slice none 0 0, .slice none 0 0, .int .i64 0, .int .i64 0, .int .i64 0, .string ⟨#[]⟩, .int .i64 2, .int .i64 0, .int .i64 0, .int .i64 0, .int .i64 0, .bool false, .string ⟨#[]⟩, .string ⟨#[]⟩, .slice none 0 0, .slice none 0 0, .int .i64 0, .int .i64 0, .int .i64 0, .string ⟨#[]⟩, .int .i64 3, .int .i64 0, .int .i64 0, .int .i64 0, .int .i64 1, .bool false, .string ⟨#[]⟩, .string ⟨#[]⟩, .slice none 0 0, .slice none 0 0, .int .i64 0, .int .i64 0, .int .i64 0, .string ⟨#[]⟩, .int .i64 2, .int .i64 0, .int .i64 0, .int .i64 0, .int .i64 0, .bool true, .string ⟨#[]⟩, .string ⟨#[]⟩, .slice none 0 0, .slice none 0 0, .int .i64 1, .int .i64 1, .int .i64 0, .string ⟨#[]⟩, .int .i64 0, .int .i64 0, .int .i64 0, .int .i64 0, .int .i64 0, .bool false, .string ⟨#[]⟩, .string ⟨#[]⟩, .slice none 0 0, .slice (some ⟨w.heap.size, 0, none⟩) 1 1, .int .i64 2, .int .i64 1, .int .i64 3, .string ⟨#[]⟩, .int .i64 0, .int .i64 0, .int .i64 0, .int .i64 0, .int .i64 0, .bool false, .string ⟨#[]⟩, .string ⟨#[]⟩, .slice none 0 0, .slice none 0 0, .int .i64 1, .int .i64 3, .int .i64 0, .string ⟨#[]⟩, .int .i64 0, .int .i64 0, .int .i64 0, .int .i64 0, .int .i64 0, .bool false, .string ⟨#[]⟩, .string ⟨#[]⟩, .slice none 0 0, .slice (some ⟨w.heap.size + 1, 0, none⟩) 1 1] 43)) actT9 none 0 := ⟨listNone _, Nat.zero_le _, Nat.zero_le _, Nat.zero_le _, Nat.le_refl _, fun _ => rfl, (listNone _).nums⟩
    have eI : ListIn (((w.alloc (.cells #[.int .i64 2] 3)).alloc (.cells #[.int .i64 4] 3)).alloc (.cells #[.int .i64 0, .int .i64 0, .int .i64 0, .string ⟨#[]⟩, .int .i64 2, .int .i64 0, .int .i64 0, .int .i64 0, .int .i64 0, .bool false, .string ⟨#[]⟩, .string ⟨#[]⟩, .slice none 0 0, .slice none 0 0, .int .i64 0, .int .i64 0, .int .i64 0, .string ⟨#[]⟩, .int .i64 2, .int .i64 0, .int .i64 0, .int .i64 0, .int .i64 0, .bool false, .string ⟨#[]⟩, .string ⟨#[]⟩, .slice none 0 0, .slice none 0 0, .int .i64 0, .int .i64 0, .int .i64 0, .string ⟨#[]⟩, .int .i64 3, .int .i64 0, .int .i64 0, .int .i64 0, .int .i64 1, .bool false, .string ⟨#[]⟩, .string ⟨#[]⟩, .slice none 0 0, .slice none 0 0, .int .i64 0, .int .i64 0, .int .i64 0, .string ⟨#[]⟩, .int .i64 2, .int .i64 0, .int .i64 0, .int .i64 0, .int .i64 0, .bool true, .string ⟨#[]⟩, .string ⟨#[]⟩, .slice none 0 0, .slice none 0 0, .int .i64 1, .int .i64 1, .int .i64 0, .string ⟨#[]⟩, .int .i64 0, .int .i64 0, .int .i64 0, .int .i64 0, .int .i64 0, .bool false, .string ⟨#[]⟩, .string ⟨#[]⟩, .slice none 0 0, .slice (some ⟨w.heap.size, 0, none⟩) 1 1, .int .i64 2, .int .i64 1, .int .i64 3, .string ⟨#[]⟩, .int .i64 0, .int .i64 0, .int .i64 0, .int .i64 0, .int .i64 0, .bool false, .string ⟨#[]⟩, .string ⟨#[]⟩, .slice none 0 0, .slice none 0 0, .int .i64 1, .int .i64 3, .int .i64 0, .string ⟨#[]⟩, .int .i64 0, .int .i64 0, .int .i64 0, .int .i64 0, .int .i64 0, .bool false, .string ⟨#[]⟩, .string ⟨#[]⟩, .slice none 0 0, .slice (some ⟨w.heap.size + 1, 0, none⟩) 1 1] 43)) none 0 actI9.n.kids ∧ ActIn (((w.alloc (.cells #[.int .i64 2] 3)).alloc (.cells #[.int .i64 4] 3)).alloc (.cells #[.int .i64 0, .int .i64 0, .int .i64 0, .string ⟨#[]⟩, .int .i64 2, .int .i64 0, .int .i64 0, .int .i64 0, .int .i64 0, .bool false, .string ⟨#[]⟩, .string ⟨#[]⟩, .slice none 0 0, .slice none 0 0, .int .i64 0, .int .i64 0, .int .i64 0, .string ⟨#[]⟩, .int .i64 2, .int .i64 0, .int .i64 0, .int .i64 0, .int .i64 0, .bool false, .string ⟨#[]⟩, .string ⟨#[]⟩, .slice none 0 0, .slice none 0 0, .int .i64 0, .int .i64 0, .int .i64 0, .string ⟨#[]⟩, .int .i64 3, .int .i64 0, .int .i64 0, .int .i64 0, .int .i64 1, .bool false, .string ⟨#[]⟩, .string ⟨#[]⟩, .slice none 0 0, .slice none 0 0, .int .i64 0, .int .i64 0, .int .i64 0, .string ⟨#[]⟩, .int .i64 2, .int .i64 0, .int .i64 0, .int .i64 0, .int .i64 0, .bool true, .string ⟨#[]⟩, .string ⟨#[]⟩, .slice none 0 0, .slice none 0 0, .int .i64 1, .int .i64 1, .int .i64 0, .string ⟨#[]⟩, .int .i64 0, .int .i64 0, .int .i64 0, .int .i64 0, .int .i64 0, .bool false, .string ⟨#[]⟩, .string ⟨#[]⟩, .slice none 0 0, .slice (some ⟨w.heap.size, 0, none⟩) 1 1, .int .i64 2, .int .i64 1, .int .i64 3, .string ⟨#[]⟩, .int .i64 0, .int .i64 0, .int .i64 0, .int .i64 0, .int .i64 0, .bool false, .string ⟨#[]⟩, .string ⟨#[]⟩, .slice none 0 0, .slice none 0 0, .int .i64 1, .int .i64 3, .int .i64 0, .string ⟨#[]⟩, .int .i64 0, .int .i64 0, .int .i64 0, .int .i64 0, .int .i64 0, .bool false, .string ⟨#[]⟩, .string ⟨#[]⟩, .slice none 0 0, .slice (some ⟨w.heap.size + 1, 0, none⟩) 1 1] 43)) actI9 none 0 := ⟨listNone _, Nat.zero_le _, Nat.zero_le _, Nat.zero_le _, Nat.le_refl _, fun _ => rfl, (listNone _).nums⟩
    have eP : ListIn (((w.alloc (.cells #[.int .i64 2] 3)).alloc (.cells #[.int .i64 4] 3)).alloc (.cells #[.int .i64 0, .int .i64 0, .int .i64 0, .string ⟨#[]⟩, .int .i64 2, .int .i64 0, .int .i64 0, .int .i64 0, .int .i64 0, .bool false, .string ⟨#[]⟩, .string ⟨#[]⟩, .slice none 0 0, .slice none 0 0, .int .i64 0, .int .i64 0, .int .i64 0, .string ⟨#[]⟩, .int .i64 2, .int .i64 0, .int .i64 0, .int .i64 0, .int .i64 0, .bool false, .string ⟨#[]⟩, .string ⟨#[]⟩, .slice none 0 0, .slice none 0 0, .int .i64 0, .int .i64 0, .int .i64 0, .string ⟨#[]⟩, .int .i64 3, .int .i64 0, .int .i64 0, .int .i64 0, .int .i64 1, .bool false, .string ⟨#[]⟩, .string ⟨#[]⟩, .slice none 0 0, .slice none 0 0, .int .i64 0, .int .i64 0, .int .i64 0, .string ⟨#[]⟩, .int .i64 2, .int .i64 0, .int .i64 0, .int .i64 0, .int .i64 0, .bool true, .string ⟨#[]⟩, .string ⟨#[]⟩, .slice none 0 0, .slice none 0 0, .int .i64 1, .int .i64 1, .int .i64 0, .string ⟨#[]⟩, .int .i64 0, .int .i64 0, .int .i64 0, .int .i64 0, .int .i64 0, .bool false, .string ⟨#[]⟩, .string ⟨#[]⟩, .slice none 0 0, .slice (some ⟨w.heap.size, 0, none⟩) 1 1, .int .i64 2, .int .i64 1, .int .i64 3, .string ⟨#[]⟩, .int .i64 0, .int .i64 0, .int .i64 0, .int .i64 0, .int .i64 0, .bool false, .string ⟨#[]⟩, .string ⟨#[]⟩, .slice none 0 0, .slice none 0 0, .int .i64 1, .int .i64 3, .int .i64 0, .string ⟨#[]⟩, .int .i64 0, .int .i64 0, .int .i64 0, .int .i64 0, .int .i64 0, .bool false, .string ⟨#[]⟩, .string ⟨#[]⟩, .slice none 0 0, .slice (some ⟨w.heap.size + 1, 0, none⟩) 1 1] 43)) none 0 actP9.n.kids ∧ ActIn (((w.alloc (.cells #[.int .i64 2] 3)).alloc (.cells #[.int .i64 4] 3)).alloc (.cells #[.int .i64 0, .int .i64 0, .int .i64 0, .string ⟨#[]⟩, .int .i64 2, .int .i64 0, .int .i64 0, .int .i64 0, .int .i64 0, .bool false, .string ⟨#[]⟩, .string ⟨#[]⟩, .slice none 0 0, .slice none 0 0, .int .i64 0, .int .i64 0, .int .i64 0, .string ⟨#[]⟩, .int .i64 2, .int .i64 0, .int .i64 0, .int .i64 0, .int .i64 0, .bool false, .string ⟨#[]⟩, .string ⟨#[]⟩, .slice none 0 0, .slice none 0 0, .int .i64 0, .int .i64 0, .int .i64 0, .string ⟨#[]⟩, .int .i64 3, .int .i64 0, .int .i64 0, .int .i64 0, .int .i64 1, .bool false, .string ⟨#[]⟩, .string ⟨#[]⟩, .slice none 0 0, .slice none 0 0, .int .i64 0, .int .i64 0, .int .i64 0, .string ⟨#[]⟩, .int .i64 2, .int .i64 0, .int .i64 0, .int .i64 0, .int .i64 0, .bool true, .string ⟨#[]⟩, .string ⟨#[]⟩, .slice none 0 0, .slice none 0 0, .int .i64 1, .int .i64 1, .int .i64 0, .string ⟨#[]⟩, .int .i64 0, .int .i64 0, .int .i64 0, .int .i64 0, .int .i64 0, .bool false, .string ⟨#[]⟩, .string ⟨#[]⟩, .slice none 0 0, .slice (some ⟨w.heap.size, 0, none⟩) 1 1, .int .i64 2, .int .i64 1, .int .i64 3, .string ⟨#[]⟩, .int .i64 0, .int .i64 0, .int .i64 0, .int .i64 0, .int .i64 0, .bool false, .string ⟨#[]⟩, .string ⟨#[]⟩, .slice none 0 0, .slice none 0 0, .int .i64 1, .int .i64 3, .int .i64 0, .string ⟨#[]⟩, .int .i64 0, .int .i64 0, .int .i64 0, .int .i64 0, .int .i64 0, .bool false, .string ⟨#[]⟩, .string ⟨#[]⟩, .slice none 0 0, .slice (some ⟨w.heap.size + 1, 0, none⟩) 1 1] 43)) actP9 (some ⟨w.heap.size, 0, none⟩) 1 := ⟨listNone _, Nat.zero_le _, Nat.zero_le _, Nat.zero_le _, Nat.le_refl _, (fun e => by cases e), (listLit (xs := [2]) h1).nums⟩
    have eQ : ListIn (((w.alloc (.cells #[.int .i64 2] 3)).alloc (.cells #[.int .i64 4] 3)).alloc (.cells #[.int .i64 0, .int .i64 0, .int .i64 0, .string ⟨#[]⟩, .int .i64 2, .int .i64 0, .int .i64 0, .int .i64 0, .int .i64 0, .bool false, .string ⟨#[]⟩, .string ⟨#[]⟩, .slice none 0 0, .slice none 0 0, .int .i64 0, .int .i64 0, .int .i64 0, .string ⟨#[]⟩, .int .i64 2, .int .i64 0, .int .i64 0, .int .i64 0, .int .i64 0, .bool false, .string ⟨#[]⟩, .string ⟨#[]⟩, .slice none 0 0, .slice none 0 0, .int .i64 0, .int .i64 0, .int .i64 0, .string ⟨#[]⟩, .int .i64 3, .int .i64 0, .int .i64 0, .int .i64 0, .int .i64 1, .bool false, .string ⟨#[]⟩, .string ⟨#[]⟩, .slice none 0 0, .slice none 0 0, .int .i64 0, .int .i64 0, .int .i64 0, .string ⟨#[]⟩, .int .i64 2, .int .i64 0, .int .i64 0, .int .i64 0, .int .i64 0, .bool true, .string ⟨#[]⟩, .string ⟨#[]⟩, .slice none 0 0, .slice none 0 0, .int .i64 1, .int .i64 1, .int .i64 0, .string ⟨#[]⟩, .int .i64 0, .int .i64 0, .int .i64 0, .int .i64 0, .int .i64 0, .bool false, .string ⟨#[]⟩, .string ⟨#[]⟩, .slice none 0 0, .slice (some ⟨w.heap.size, 0, none⟩) 1 1, .int .i64 2, .int .i64 1, .int .i64 3, .string ⟨#[]⟩, .int .i64 0, .int .i64 0, .int .i64 0, .int .i64 0, .int .i64 0, .bool false, .string ⟨#[]⟩, .string ⟨#[]⟩, .slice none 0 0, .slice none 0 0, .int .i64 1, .int .i64 3, .int .i64 0, .string ⟨#[]⟩, .int .i64 0, .int .i64 0, .int .i64 0, .int .i64 0, .int .i64 0, .bool false, .string ⟨#[]⟩, .string ⟨#[]⟩, .slice none 0 0, .slice (some ⟨w.heap.size + 1, 0, none⟩) 1 1] 43)) none 0 actQ9.n.kids ∧ ActIn (((w.alloc (.cells #[.int .i64 2] 3)).alloc (.cells #[.int .i64 4] 3)).alloc (.cells #[.int .i64 0, .int .i64 0, .int .i64 0, .string ⟨#[]⟩, .int .i64 2, .int .i64 0, .int .i64 0, .int .i64 0, .int .i64 0, .bool false, .string ⟨#[]⟩, .string ⟨#[]⟩, .slice none 0 0, .slice none 0 0, .int .i64 0, .int .i64 0, .int .i64 0, .string ⟨#[]⟩, .int .i64 2, .int .i64 0, .int .i64 0, .int .i64 0, .int .i64 0, .bool false, .string ⟨#[]⟩, .string ⟨#[]⟩, .slice none 0 0, .slice none 0 0, .int .i64 0, .int .i64 0, .int .i64 0, .string ⟨#[]⟩, .int .i64 3, .int .i64 0, .int .i64 0, .int .i64 0, .int .i64 1, .bool false, .string ⟨#[]⟩, .string ⟨#[]⟩, .slice none 0 0, .slice none 0 0, .int .i64 0, .int .i64 0, .int .i64 0, .string ⟨#[]⟩, .int .i64 2, .int .i64 0, .int .i64 0, .int .i64 0, .int .i64 0, .bool true, .string ⟨#[]⟩, .string ⟨#[]⟩, .slice none 0 0, .slice none 0 0, .int .i64 1, .int .i64 1, .int .i64 0, .string ⟨#[]⟩, .int .i64 0, .int .i64 0, .int .i64 0, .int .i64 0, .int .i64 0, .bool false, .string ⟨#[]⟩, .string ⟨#[]⟩, .slice none 0 0, .slice (some ⟨w.heap.size, 0, none⟩) 1 1, .int .i64 2, .int .i64 1, .int .i64 3, .string ⟨#[]⟩, .int .i64 0, .int .i64 0, .int .i64 0, .int .i64 0, .int .i64 0, .bool false, .string ⟨#[]⟩, .string ⟨#[]⟩, .slice none 0 0, .slice none 0 0, .int .i64 1, .int .i64 3, .int .i64 0, .string ⟨#[]⟩, .int .i64 0, .int .i64 0, .int .i64 0, .int .i64 0, .int .i64 0, .bool false, .string ⟨#[]⟩, .string ⟨#[]⟩, .slice none 0 0, .slice (some ⟨w.heap.size + 1, 0, none⟩) 1 1] 43)) actQ9 (some ⟨w.heap.size + 1, 0, none⟩) 1 := ⟨listNone _, Nat.zero_le _, Nat.zero_le _, Nat.zero_le _, Nat.le_refl _, (fun e => by cases e), (listLit (xs := [4]) h1').nums⟩
    simp only [List.mem_cons, List.not_mem_nil, or_false] at hr
    rcases hr with rfl | rfl | rfl | rfl | rfl | rfl | rfl
    · exact eE
    · exact eE
    · exact eS
    · exact eT
    · exact eP
    · exact eI
    · exact eQ)
  exact h3

section
variable {Rep : (Nat → Prop) → World → Nat → List Nd → Prop}
set_option maxHeartbeats 4000000 in
set_option maxRecDepth 100000 in
theorem awake9_any (O : ForestOk Rep) (M : ForestMore Rep) (w : World) : Calls Try.prog 6 #[] w fun e w' => e = .returned (.bool true) ∧ Below w.heap.size w w' := by
  have hA := acts9_in (w.alloc (.cells #[.int .i64 2, .int .i64 0, .int .i64 0, .int .i64 0, .int .i64 0, .bool false, .string ⟨#[]⟩, .string ⟨#[]⟩, .slice none 0 0] 39))
  rw [show (w.alloc (.cells #[.int .i64 2, .int .i64 0, .int .i64 0, .int .i64 0, .int .i64 0, .bool false, .string ⟨#[]⟩, .string ⟨#[]⟩, .slice none 0 0] 39)).heap.size = w.heap.size + 1 by simp] at hA
  have HA := Lib.hid hA
  have Hg := Lib.hid (good_forest acts9_small)
  have H1 := Lib.hid acts9_of
  have H2 := Lib.hid acts9_asg
  obtain ⟨l, hl⟩ : ∃ l, l = forest acts9 := ⟨_, rfl⟩
  have HL := Lib.hid hl
  rw [← hl] at H1 H2 Hg
  clear hl hA
  go_enter Try.func6, Try.ntmps6
  go_wp2_with fail
  refine (built_any O _ 7 7 acts9 _ rfl HA.out acts9_small).mono ?_
  rintro e w1 ⟨b, rfl, hR, hb1⟩
  rw [← HL.out] at hR
  have hB1 : Below w.heap.size w w1 := Below.trans (((((Below.refl _ w).alloc (Nat.le_refl _) _).alloc (by simp) _).alloc (by simp; omega) _).alloc (by simp; omega) _) (hb1.mono (by simp; omega))
  have HB1 := Lib.hid hB1
  have HR := Lib.hid (O.wide hR (S' := fun _ => True) fun _ _ _ => trivial)
  clear hR hb1 HA HL hB1
  go_wp2_with fail
  refine (slOf O M 2 HR.out Hg.out).mono ?_
  rintro e w2 ⟨rfl, hb2⟩
  rw [H1.out]
  have HB2 := Lib.hid (HB1.out.trans (hb2.mono HB1.out.size))
  have HR2 := Lib.hid (O.since HR.out hb2)
  clear hb2
  go_wp2_with fail
  refine (slAssigned O M 4 HR2.out Hg.out).mono ?_
  rintro e w3 ⟨v3, rfl, hP3, hb3⟩
  rw [H2.out] at hP3
  have HB3 := Lib.hid (HB2.out.trans (hb3.mono HB2.out.size))
  obtain ⟨A3, c3, rfl, -⟩ := hP3.form
  have P3 := Lib.hid hP3
  clear hb3 hP3
  go_wp2_with fail
  have hb4 : Below w3.heap.size w3 (w3.alloc (.cells #[.int .i64 2] 3)) := (Below.refl _ w3).alloc (Nat.le_refl _) _
  have hl4 : ListIn (w3.alloc (.cells #[.int .i64 2] 3)) (some ⟨w3.heap.size, 0, none⟩) 1 [2] := listLit (xs := [2]) (Has.fresh w3 _)
  obtain ⟨A4, c4, e4, hL4⟩ := (P3.out.below hb4).form
  obtain ⟨rfl, rfl⟩ : A3 = A4 ∧ c3 = c4 := by injection e4 with e1 _ e3; exact ⟨e1, e3⟩
  refine (ints_any [2] [2] A3 _ 1 1 c3 1 _ rfl rfl (by decide) hL4.nums hl4.nums).mono ?_
  rintro e w5 ⟨rfl, hb5⟩
  rw [sameInts_self]
  have HB5 := Lib.hid (HB3.out.trans ((hb4.trans (hb5.mono hb4.size)).mono HB3.out.size))
  clear hb4 hb5 hL4 hl4 e4
  go_wp2
  go_ret
  exact ⟨rfl, HB5.out⟩
end
end Go.Proofs.Ytloncmhcdmjjgaa

namespace Go.Proofs.Ytloncmhcdmjjgaa
open Go Go.RowKit

theorem Pile.of_own {base : Nat} {w : World} {v : Value} {xs : List Int} (h : w.ownsRow base 3 1 v xs.length (xs.map (Value.int .i64))) : Pile base w v xs :=
  Pile.of_kids (G := fun g => base ≤ g) ⟨own_base h (Nat.zero_le _), fun g hg => (h.lt g hg).1⟩ fun _ hg _ => hg
theorem own_below {w w' : World} {base n size : Nat} {e : TypeId} {v : Value} {us : List Value} (h : w.ownsRow base e size v n us) (k : Below w.heap.size w w') : w'.ownsRow base e size v n us :=
  own_kept h (Keeps.of_below (F := fun i => w.heap.size ≤ i) k fun _ _ h => h) fun g hg => Nat.not_le.2 (own_in h g hg)
section
variable {w : World}
/-- What a cut gives. -/
theorem elem_ints : Try.prog.elem 32 = 3 := by kernel_rfl
theorem cut_low (A : Option Addr) (N k a : Nat) (ha : a ≤ k) (w : World) : (Instr.slice 32 (.slice A N k) none (some (.int .i64 (a : Int))) none).run Try.prog w = .ok (.slice A a k) w := by
  have hu : Try.prog.underlying 32 = some (.slice (Try.prog.elem 32)) := by rw [elem_ints]; exact Try.underlying32
  have hs : (sizeOf (Try.prog.elem 32)).run Try.prog w = .ok 1 w := by kernel_rfl
  rw [run_slice_h _ _ _ _ _ hu _ _ (by omega) (by omega), hs]
  simp only [Result.andThen, sliced, Int.toNat_natCast, Nat.sub_zero, Nat.zero_mul]
  by_cases h : k = 0
  · rw [if_pos h]
  · rw [if_neg h]
    cases A with
    | none => rfl
    | some x => simp [Addr.add]
theorem cut_high (A : Option Addr) (N k a : Nat) (ha : a ≤ N) (w : World) : (Instr.slice 32 (.slice A N k) (some (.int .i64 (a : Int))) none none).run Try.prog w = .ok (.slice (if k = a then A else A.map (·.add a)) (N - a) (k - a)) w := by
  have hu : Try.prog.underlying 32 = some (.slice (Try.prog.elem 32)) := by rw [elem_ints]; exact Try.underlying32
  have hs : (sizeOf (Try.prog.elem 32)).run Try.prog w = .ok 1 w := by kernel_rfl
  rw [run_slice_l _ _ _ _ _ hu _ _ (by omega) (by omega), hs]
  simp only [Result.andThen, sliced, Int.toNat_natCast, Nat.mul_one]
theorem ListIn.low {A : Option Addr} {k : Nat} {xa xb : List Int} (h : ListIn w A k (xa ++ xb)) : ListIn w A k xa := by
  refine ⟨Nat.le_trans (by simp) h.cap, h.nil, fun i hi => ?_⟩
  have := h.nums i (by rw [List.length_append]; omega)
  rwa [List.getElem_append_left hi] at this
theorem ListIn.high {A : Option Addr} {k : Nat} {xa xb : List Int} (h : ListIn w A k (xa ++ xb)) : ListIn w (if k = xa.length then A else A.map (·.add xa.length)) (k - xa.length) xb := by
  have hc := h.cap
  rw [List.length_append] at hc
  refine ⟨by omega, fun e => ?_, fun i hi => ?_⟩
  · by_cases hk : k = xa.length
    · omega
    · rw [if_neg hk] at e
      have : A = none := by cases A with
        | none => rfl
        | some x => cases e
      have := h.nil this
      omega
  · obtain ⟨g, off, rfl, hg, hcell⟩ := h.nums (xa.length + i) (by rw [List.length_append]; omega)
    rw [List.getElem_append_right (by omega)] at hcell
    simp only [Nat.add_sub_cancel_left] at hcell
    refine ⟨g, off + xa.length, ?_, hg, by rw [Nat.add_assoc]; exact hcell⟩
    rw [if_neg (by omega)]
    simp [Addr.add]
end
end Go.Proofs.Ytloncmhcdmjjgaa

namespace Go.Proofs.Ytloncmhcdmjjgaa
open Go Go.RowKit

theorem up_is {l : List Nd} {i : Int} {d1 d2 : Nd} (T : Tree l) (h1 : d1 = (if thereB l i = true then nd l i else Nd.zero)) (h2 : d2 = (if thereB l (rootL l i) = true then nd l (rootL l i) else Nd.zero)) : upB l i = (d1.slot && (d2.kind == 3)) := by
  unfold upB
  cases ht : thereB l i with
  | false =>
    rw [ht, if_neg (by decide)] at h1
    rw [h1]
    rfl
  | true =>
    rw [ht, if_pos rfl] at h1
    rw [rootL_there T ht, if_pos rfl] at h2
    rw [h1, h2]
    rfl
section
variable {Rep : (Nat → Prop) → World → Nat → List Nd → Prop} {S : Nat → Prop} {w : World} {b : Nat} {l : List Nd}
set_option maxHeartbeats 4000000 in
set_option maxRecDepth 100000 in
theorem slOpens (O : ForestOk Rep) (M : ForestMore Rep) (id : Int) (h : Rep S w b l) (hg : Good l) :
    Calls Try.prog 39 #[at_ b, .int .i64 id] w fun e w' => e = .returned (.bool (upB l id)) ∧ Below w.heap.size w w' := by
  have H := Lib.hid h
  have Hg := Lib.hid hg
  obtain ⟨R, hR⟩ : ∃ R, R = upB l id := ⟨_, rfl⟩
  rw [← hR]
  have HR := Lib.hid hR
  clear h hg hR
  go_enter Try.func39, Try.ntmps39
  go_wp2_with fail
  refine (M.node S w b l id H.out Hg.out).mono ?_
  rintro e w1 ⟨d, A1, c1, rfl, hd, -, hb1⟩
  obtain ⟨tb, htb⟩ : ∃ tb, tb = thereB l id := ⟨_, rfl⟩
  rw [← htb]
  have hb2 : Below w.heap.size w (w1.alloc (.cells #[.int .i64 d.kind, .int .i64 d.parent, .int .i64 d.host, .int .i64 d.shadow, .int .i64 d.mode, .bool d.slot, .string d.name, .string d.want, .slice A1 d.kids.length c1] 39)) := hb1.alloc hb1.size _
  have hbox : Has (w1.alloc (.cells #[.int .i64 d.kind, .int .i64 d.parent, .int .i64 d.host, .int .i64 d.shadow, .int .i64 d.mode, .bool d.slot, .string d.name, .string d.want, .slice A1 d.kids.length c1] 39)) w1.heap.size (.cells #[.int .i64 d.kind, .int .i64 d.parent, .int .i64 d.host, .int .i64 d.shadow, .int .i64 d.mode, .bool d.slot, .string d.name, .string d.want, .slice A1 d.kids.length c1] 39 (0, 0)) := Has.fresh _ _
  have Hd := Lib.hid hd
  have Hb2 := Lib.hid hb2
  have Hbox := Lib.hid hbox
  have Hrep := Lib.hid (O.since H.out hb2)
  clear hd hb1 hb2 hbox htb
  go_wp2_with fail
  refine (kinRoot O M id Hrep.out Hg.out).mono ?_
  rintro e w3 ⟨rfl, hb3⟩
  have Hb3 := Lib.hid (Hb2.out.trans (hb3.mono Hb2.out.size))
  have Hbox3 := Lib.hid (Hbox.out.below hb3 Hbox.out.inside)
  have Hrep3 := Lib.hid (O.since Hrep.out hb3)
  clear hb3 Hb2 Hbox Hrep
  go_wp2_with fail
  refine (M.node S w3 b l (rootL l id) Hrep3.out Hg.out).mono ?_
  rintro e w4 ⟨d2, A2, c2, rfl, hd2, -, hb4⟩
  have hfin := up_is Hg.out.tree Hd.out hd2
  obtain ⟨tb2, htb2⟩ : ∃ tb, tb = thereB l (rootL l id) := ⟨_, rfl⟩
  rw [← htb2]
  have hb5 : Below w3.heap.size w3 (w4.alloc (.cells #[.int .i64 d2.kind, .int .i64 d2.parent, .int .i64 d2.host, .int .i64 d2.shadow, .int .i64 d2.mode, .bool d2.slot, .string d2.name, .string d2.want, .slice A2 d2.kids.length c2] 39)) := hb4.alloc hb4.size _
  have Hb5 := Lib.hid (Hb3.out.trans (hb5.mono Hb3.out.size))
  have x5 : (w4.alloc (.cells #[.int .i64 d2.kind, .int .i64 d2.parent, .int .i64 d2.host, .int .i64 d2.shadow, .int .i64 d2.mode, .bool d2.slot, .string d2.name, .string d2.want, .slice A2 d2.kids.length c2] 39)).cell? ⟨w1.heap.size, 5, none⟩ = some (.bool d.slot) := (Hbox3.out.below hb5 Hbox3.out.inside).cell 5
  have x0 : (w4.alloc (.cells #[.int .i64 d2.kind, .int .i64 d2.parent, .int .i64 d2.host, .int .i64 d2.shadow, .int .i64 d2.mode, .bool d2.slot, .string d2.name, .string d2.want, .slice A2 d2.kids.length c2] 39)).cell? ⟨w4.heap.size, 0, none⟩ = some (.int .i64 d2.kind) := (Has.fresh w4 (.cells #[.int .i64 d2.kind, .int .i64 d2.parent, .int .i64 d2.host, .int .i64 d2.shadow, .int .i64 d2.mode, .bool d2.slot, .string d2.name, .string d2.want, .slice A2 d2.kids.length c2] 39)).cell 0
  have Hfin := Lib.hid hfin
  clear hd2 hfin htb2 hb4 hb5 Hbox3 Hb3 Hrep3 Hd
  cases hs : d.slot with
  | false =>
    have e0 : R = false := by rw [HR.out, Hfin.out, hs]; rfl
    have E0 := Lib.hid e0
    rw [hs] at x5
    clear e0 hs
    go_wp2
    go_ret
    rw [E0.out]
    exact ⟨rfl, Hb5.out⟩
  | true =>
    have e0 : R = (d2.kind == 3) := by rw [HR.out, Hfin.out, hs]; rfl
    have E0 := Lib.hid e0
    rw [hs] at x5
    clear e0 hs
    go_wp2
    go_ret
    rw [E0.out]
    exact ⟨rfl, Hb5.out⟩
theorem slContent1 (x : Int) (d : Nd) (A1 : Option Addr) (c1 : Nat) (w : World) :
    Calls Try.prog 61 #[.int .i64 x, (.agg #[.int .i64 d.kind, .int .i64 d.parent, .int .i64 d.host, .int .i64 d.shadow, .int .i64 d.mode, .bool d.slot, .string d.name, .string d.want, .slice A1 d.kids.length c1])] w fun e w' => e = .returned (.bool (d.kind == 2)) ∧ Below w.heap.size w w' := by
  have hb : Below w.heap.size w (w.alloc (.cells #[.int .i64 d.kind, .int .i64 d.parent, .int .i64 d.host, .int .i64 d.shadow, .int .i64 d.mode, .bool d.slot, .string d.name, .string d.want, .slice A1 d.kids.length c1] 39)) := (Below.refl _ w).alloc (Nat.le_refl _) _
  have hB := Lib.hid hb
  clear hb
  go_enter Try.func61, Try.ntmps61
  go_wp2
  go_ret
  exact ⟨rfl, hB.out⟩
set_option maxHeartbeats 4000000 in
set_option maxRecDepth 100000 in
theorem slContent (O : ForestOk Rep) (M : ForestMore Rep) (id : Int) (h : Rep S w b l) (hg : Good l) :
    Calls Try.prog 40 #[at_ b, .int .i64 id] w fun e w' => ∃ v, e = .returned v ∧ Pile w.heap.size w' v (conL l id) ∧ Below w.heap.size w w' := by
  have C := Lib.hid (slAssigned O M id h hg)
  have H := Lib.hid h
  have Hg := Lib.hid hg
  have hal : (asgL l id).length ≤ 1000000 := Nat.le_trans (Nat.le_trans (List.length_filter_le _ _) (kidsOf_len hg.few _)) (by decide)
  obtain ⟨R, hR⟩ : ∃ R, R = conL l id := ⟨_, rfl⟩
  rw [← hR]
  unfold conL at hR
  obtain ⟨as0, has⟩ : ∃ as0, as0 = asgL l id := ⟨_, rfl⟩
  rw [← has] at hR C hal
  have HR := Lib.hid hR
  clear h hg hR has
  go_enter Try.func40, Try.ntmps40
  go_wp2_with fail
  refine C.out.mono ?_
  rintro e w1 ⟨v, rfl, hP, hb⟩
  obtain ⟨A, c, rfl, -⟩ := hP.form
  have HP := Lib.hid hP
  have Hb := Lib.hid hb
  have Hrep := Lib.hid (O.since H.out hb)
  clear C hP hb
  cases as0 with
  | cons y r =>
    have e0 : R = y :: r := by
      have := HR.out
      rw [if_neg (by simp)] at this
      exact this
    have E0 := Lib.hid e0
    obtain ⟨n, hn⟩ : ∃ n, n = r.length := ⟨_, rfl⟩
    rw [show (y :: r).length = n + 1 by rw [hn]; rfl] at hal HP
    rw [show (y :: r).length = n + 1 by rw [hn]; rfl]
    have z1 : decide ((0 : Int) < (n : Int) + 1) = true := decide_eq_true (by omega)
    have z2 : (0 : Int) < (n : Int) + 1 := by omega
    clear e0 hn HR
    go_wp2
    go_ret
    rw [E0.out]
    exact ⟨_, rfl, HP.out, Hb.out⟩
  | nil =>
    have e0 : R = elsOf l (kidsOf l id) := by
      have := HR.out
      rw [if_pos rfl] at this
      exact this
    have E0 := Lib.hid e0
    clear e0 HR HP
    go_wp2_with fail
    refine (M.node S w1 b l id Hrep.out Hg.out).mono ?_
    rintro e w3 ⟨d3, A3, c3, rfl, hd3, hk3, hb3⟩
    have hkids : d3.kids = kidsOf l id := by
      rw [hd3]
      unfold kidsOf
      split <;> rfl
    have hth : ∀ x ∈ d3.kids, thereB l x = true := fun x hx => by
      rw [hkids] at hx
      obtain ⟨q1, q2⟩ := kidsOf_mem hx
      exact (Hg.out.tree.kid _ q1 x q2).1
    have hkl : d3.kids.length ≤ 1000000 := by
      rw [hkids]
      exact Nat.le_trans (kidsOf_len Hg.out.few _) (by decide)
    have hfin : elsOf l (kidsOf l id) = d3.kids.filter fun k => (nd l k).kind == 2 := by
      rw [hkids]
      rfl
    have hb4 : Below w1.heap.size w1 (w3.alloc (.cells #[.int .i64 d3.kind, .int .i64 d3.parent, .int .i64 d3.host, .int .i64 d3.shadow, .int .i64 d3.mode, .bool d3.slot, .string d3.name, .string d3.want, .slice A3 d3.kids.length c3] 39)) := hb3.alloc hb3.size _
    have x8 : (w3.alloc (.cells #[.int .i64 d3.kind, .int .i64 d3.parent, .int .i64 d3.host, .int .i64 d3.shadow, .int .i64 d3.mode, .bool d3.slot, .string d3.name, .string d3.want, .slice A3 d3.kids.length c3] 39)).cell? ⟨w3.heap.size, 8, none⟩ = some (.slice A3 d3.kids.length c3) := (Has.fresh w3 (.cells #[.int .i64 d3.kind, .int .i64 d3.parent, .int .i64 d3.host, .int .i64 d3.shadow, .int .i64 d3.mode, .bool d3.slot, .string d3.name, .string d3.want, .slice A3 d3.kids.length c3] 39)).cell 8
    have hP4 : Pile w1.heap.size (w3.alloc (.cells #[.int .i64 d3.kind, .int .i64 d3.parent, .int .i64 d3.host, .int .i64 d3.shadow, .int .i64 d3.mode, .bool d3.slot, .string d3.name, .string d3.want, .slice A3 d3.kids.length c3] 39)) (.slice A3 d3.kids.length c3) d3.kids := (Pile.of_kids hk3 fun g hg _ => hg).alloc _
    have hL4 : ListIn (w3.alloc (.cells #[.int .i64 d3.kind, .int .i64 d3.parent, .int .i64 d3.host, .int .i64 d3.shadow, .int .i64 d3.mode, .bool d3.slot, .string d3.name, .string d3.want, .slice A3 d3.kids.length c3] 39)) A3 c3 d3.kids := by
      obtain ⟨A, c, eA, hL⟩ := hP4.form
      obtain ⟨rfl, rfl⟩ : A3 = A ∧ c3 = c := by injection eA with e1 _ e3; exact ⟨e1, e3⟩
      exact hL
    have HL4 := Lib.hid hL4
    have HR4 := Lib.hid (O.since Hrep.out hb4)
    have Hb4 := Lib.hid (Hb.out.trans (hb4.mono Hb.out.size))
    have Hfin := Lib.hid hfin
    have Hth := Lib.hid hth
    obtain ⟨tb, htb⟩ : ∃ tb, tb = thereB l id := ⟨_, rfl⟩
    rw [← htb]
    clear hd3 hk3 hb3 hkids hth hfin hb4 hP4 hL4 htb Hrep Hb
    go_wp2_with fail
    refine (slPick O M 61 #[] (fun k => (nd l k).kind == 2) d3.kids A3 d3.kids.length c3 rfl hkl HL4.out HR4.out Hg.out Hth.out
      (fun x d w => by rw [Array.append_empty]; exact MuLone.run_callFunc_enter Try.func61 (by kernel_rfl) rfl _ w)
      (fun x hx w6 A6 c6 hb6 hr6 => by rw [Array.append_empty]; exact slContent1 x (nd l x) A6 c6 w6)).mono ?_
    rintro e w7 ⟨v, rfl, hP, hb7⟩
    have HF : Hid (Pile w.heap.size w7 v (d3.kids.filter fun k => (nd l k).kind == 2) ∧ Below w.heap.size w w7) := Lib.hid ⟨hP.from_ Hb4.out.size, Hb4.out.trans (hb7.mono Hb4.out.size)⟩
    obtain ⟨A7, c7, rfl, -⟩ := hP.form
    clear hP hb7 Hb4 HR4 HL4
    go_wp2
    go_ret
    rw [E0.out, Hfin.out]
    exact ⟨_, rfl, HF.out.1, HF.out.2⟩
end
end Go.Proofs.Ytloncmhcdmjjgaa

namespace Go.Proofs.Ytloncmhcdmjjgaa
open Go Go.RowKit

section
variable {Rep : (Nat → Prop) → World → Nat → List Nd → Prop} {S : Nat → Prop} {w : World} {b : Nat} {l : List Nd}
set_option maxHeartbeats 8000000 in
set_option maxRecDepth 100000 in
theorem flat_any (O : ForestOk Rep) (M : ForestMore Rep) (hg : Good l) : ∀ (m : Nat) (w : World) (id : Int), rkL l id < m → Rep S w b l →
    Calls Try.prog 17 #[at_ b, .int .i64 id] w fun e w' => ∃ v, e = .returned v ∧ Pile w.heap.size w' v (flatL l id) ∧ Below w.heap.size w w' := by
  intro m
  induction m with
  | zero => intro w id hm; exact absurd hm (Nat.not_lt_zero _)
  | succ m ih =>
    intro w id hm h
    have hnot : ∀ (x : Bool) (w : World), (Op.unary .not (.bool x)).run Try.prog w = .ok (.bool (!x)) w := fun _ _ => rfl
    obtain ⟨i0, hi, hz0, hz1, hz2⟩ := info_parts Try.infoInt
    have Hi := Lib.hid hi
    have Hz0 := Lib.hid hz0
    have Hz1 := Lib.hid hz1
    have Hz2 := Lib.hid hz2
    have H := Lib.hid h
    have Hg := Lib.hid hg
    have IH := Lib.hid ih
    have hno : upB l id = false → flatL l id = [] := fun h => flatL_no h
    have hyes : upB l id = true → flatL l id = (conL l id).flatMap (oneL l) := fun h => flatL_step hg.tree h
    have hrk : ∀ k ∈ conL l id, rkL l k < m := fun k hk => by have := con_rk hg.tree hk; omega
    have hFl := flatL_len hg.tree hg.len hg.few id
    have hcl : (conL l id).length ≤ 200 := con_len hg.few id
    obtain ⟨R, hR⟩ : ∃ R, R = flatL l id := ⟨_, rfl⟩
    rw [← hR] at hno hyes hFl
    rw [← hR]
    have Hno := Lib.hid hno
    have Hyes := Lib.hid hyes
    have Hrk := Lib.hid hrk
    have HFl := Lib.hid hFl
    clear hi hz0 hz1 hz2 h hg ih hm hno hyes hrk hR hFl
    go_enter Try.func17, Try.ntmps17
    go_wp2_with fail
    refine (slOpens O M id H.out Hg.out).mono ?_
    rintro e w1 ⟨rfl, hb1⟩
    have Hb1 := Lib.hid hb1
    have HR1 := Lib.hid (O.since H.out hb1)
    clear hb1
    cases hu : upB l id with
    | false =>
      have e0 := Hno.out hu
      have E0 := Lib.hid e0
      clear e0 hu
      go_wp2
      go_ret
      rw [E0.out]
      exact ⟨_, rfl, Pile.nil _ _, Hb1.out⟩
    | true =>
      have e0 := Hyes.out hu
      have E0 := Lib.hid e0
      clear e0 hu Hno Hyes
      go_wp2_with fail
      refine (slContent O M id HR1.out Hg.out).mono ?_
      rintro e w2 ⟨v, rfl, hP, hb2⟩
      obtain ⟨A, c, rfl, hL⟩ := hP.form
      obtain ⟨cs, hcs⟩ : ∃ cs, cs = conL l id := ⟨_, rfl⟩
      rw [← hcs] at hL hcl E0 Hrk
      rw [← hcs]
      obtain ⟨n, hn⟩ : ∃ n, n = cs.length := ⟨_, rfl⟩
      rw [← hn] at hcl
      rw [← hn]
      have Hn := Lib.hid hn
      have HL := Lib.hid hL
      have HR2 := Lib.hid (O.since HR1.out hb2)
      have Hb2 := Lib.hid (Hb1.out.trans (hb2.mono Hb1.out.size))
      have Hs2 := Lib.hid Hb2.out.size
      clear hP hL hb2 hcs hn HR1 Hb1
      go_wp2_with fail
      go_loopw [5, 16] (fun o k wr => ∃ (j : Nat) (xs : List Int), k = .int .i64 j ∧ j ≤ n ∧ xs = (cs.take j).flatMap (oneL l) ∧ wr.ownsRow w2.heap.size 3 1 o xs.length (xs.map (Value.int .i64)) ∧ Below w2.heap.size w2 wr) (fun _ k _ => n - (intOf k).toNat)
      case atStart => exact ⟨0, [], rfl, Nat.zero_le _, rfl, World.ownsRow_nil _ _ _ _, Below.refl _ _⟩
      case round =>
        obtain ⟨j, xs, rfl, hj, hxs, hown, hbr⟩ := hrel
        have Hxs := Lib.hid hxs
        clear hxs
        obtain ⟨Ao, co, rfl, hco⟩ := own_form hown
        by_cases hjn : (j : Int) < n
        · have hjk : j < cs.length := by rw [← Hn.out]; omega
          obtain ⟨b', off, rfl, hB, hc0⟩ := HL.out.nums j hjk
          have hc : wr.cell? ⟨b', off + j, none⟩ = some (.int .i64 cs[j]) := (hbr.cell (p := ⟨b', off + j, none⟩) hB).trans hc0
          have hst := flat_step (f := oneL l) hjk
          have hroom := flat_room (f := oneL l) hjk
          have hrk := Hrk.out cs[j] (List.getElem_mem hjk)
          rw [← Hxs.out] at hst hroom
          have hroom' : xs.length + (oneL l cs[j]).length ≤ 25600 := by
            have := HFl.out
            rw [E0.out] at this
            omega
          obtain ⟨y, hy⟩ : ∃ y, y = cs[j] := ⟨_, rfl⟩
          rw [← hy] at hc hst hroom' hrk
          have Hst := Lib.hid hst
          have Hroom := Lib.hid hroom'
          have Hrky := Lib.hid hrk
          have Hown := Lib.hid hown
          have Hbr := Lib.hid hbr
          have HRr := Lib.hid (O.since HR2.out hbr)
          clear hst hroom hroom' hrk hy hc0 hB hjk hown hbr
          go_wp2_with fail
          refine (slOpens O M y HRr.out Hg.out).mono ?_
          rintro e w4 ⟨rfl, hb4⟩
          have hR4 := O.since HRr.out hb4
          have hB4 : Below w2.heap.size w2 w4 := Hbr.out.trans (hb4.mono Hbr.out.size)
          have ho4 : w4.ownsRow w2.heap.size 3 1 (.slice Ao xs.length co) xs.length (xs.map (Value.int .i64)) := own_below Hown.out hb4
          cases hu : upB l y with
          | true =>
            have e1 := Hst.out
            have e2 := Hroom.out
            rw [oneL_up hu] at e1 e2
            have C := Lib.hid (IH.out w4 y Hrky.out hR4)
            have E1 := Lib.hid e1
            have E2 := Lib.hid e2
            have HB4 := Lib.hid hB4
            have HO4 := Lib.hid ho4
            clear hu e1 e2 hR4 hB4 ho4 hb4 Hst Hroom Hrky Hown Hbr HRr
            go_wp2_with fail
            refine C.out.mono ?_
            rintro e w5 ⟨v5, rfl, hP5, hb5⟩
            obtain ⟨A5, c5, rfl, hL5⟩ := hP5.form
            obtain ⟨ys, hys⟩ : ∃ ys, ys = flatL l y := ⟨_, rfl⟩
            rw [← hys] at hL5 E1 E2
            rw [← hys]
            obtain ⟨k, hk⟩ : ∃ k, k = ys.length := ⟨_, rfl⟩
            rw [← hk] at E2
            rw [← hk]
            have hgv : Gives w5 1 (.slice A5 k c5) k (ys.map (Value.int .i64)) := nums_gives hL5.nums hk hL5.nil
            have Hgv := Lib.hid hgv
            have Hk := Lib.hid hk
            have hown : w5.ownsRow w2.heap.size 3 1 (.slice Ao xs.length co) xs.length (xs.map (Value.int .i64)) := own_below HO4.out hb5
            have hb : Below w2.heap.size w2 w5 := HB4.out.trans (hb5.mono HB4.out.size)
            have hbw := hb.size
            have hsum := E2.out
            clear hP5 hb5 hL5 hys hk hgv C HB4 HO4 E2
            go_wp2_with (at_builtin; refine wpList_append_gives rfl (.tmp 23) (.tmp 26) 32 rfl w2.heap.size 3 i0 _ 1 8 Try.underlying32 Hi.out Hz0.out Hz1.out Hz2.out rfl (by decide) (.slice Ao xs.length co) xs.length (xs.map (Value.int .i64)) rfl hown _ k (ys.map (Value.int .i64)) rfl Hgv.out (kids_one ys) (by unfold maxLen; omega) (by omega) hbw ?_; intro v2 w6 ho2 hg2; obtain ⟨A2, c2, rfl, hc2⟩ := own_form ho2; have hb2 : Below w2.heap.size w2 w6 := hb.grown hg2 hbw (fun k hk => (hown.lt k hk).1))
            go_roundw
            case rel => exact ⟨j + 1, xs ++ ys, by go_num, by omega, E1.out.symm, by rw [List.length_append, List.map_append, ← Hk.out]; exact ho2, hb2⟩
            case measure => simp [intOf]; omega
          | false =>
            have e1 := Hst.out
            have e2 := Hroom.out
            rw [oneL_not hu] at e1 e2
            have E1 := Lib.hid e1
            have hsum : xs.length + 1 ≤ 25600 := e2
            have hbw := hB4.size
            have hgv : Gives (w4.alloc (.cells #[.int .i64 y] 3)) 1 (.slice (some ⟨w4.heap.size, 0, none⟩) 1 1) 1 [.int .i64 y] := .inr ⟨_, 1, rfl, rfl, World.news_of_block (Has.fresh _ _)⟩
            have Hgv := Lib.hid hgv
            clear hu e1 e2 hgv hR4 hb4 Hst Hroom Hrky Hown Hbr HRr
            go_wp2_with (at_builtin; refine wpList_append_gives rfl (.tmp 28) (.tmp 30) 32 rfl w2.heap.size 3 i0 _ 1 8 Try.underlying32 Hi.out Hz0.out Hz1.out Hz2.out rfl (by decide) (.slice Ao xs.length co) xs.length (xs.map (Value.int .i64)) rfl (ho4.alloc _) _ 1 [.int .i64 y] rfl Hgv.out (by intro u hu; obtain rfl := List.mem_singleton.1 hu; rfl) (by unfold maxLen; omega) (by omega) (by simp; omega) ?_; intro v2 w6 ho2 hg2; obtain ⟨A2, c2, rfl, hc2⟩ := own_form ho2; have hb2 : Below w2.heap.size w2 w6 := (hB4.alloc hbw _).grown hg2 (by simp; omega) (fun k hk => (ho4.lt k hk).1))
            go_roundw
            case rel => exact ⟨j + 1, xs ++ [y], by go_num, by omega, E1.out.symm, by have := kids_more ho2; simpa using this, hb2⟩
            case measure => simp [intOf]; omega
        · have e : xs = R := by rw [Hxs.out, E0.out, List.take_of_length_le (by rw [← Hn.out]; omega)]
          have hP := (Pile.of_own hown).from_ Hs2.out
          rw [e] at hP
          have HP := Lib.hid hP
          rw [e]
          clear e hP hown
          go_wp2
          go_ret
          exact ⟨_, rfl, HP.out, Hb2.out.trans (hbr.mono Hs2.out)⟩
theorem slFlat (O : ForestOk Rep) (M : ForestMore Rep) (id : Int) (h : Rep S w b l) (hg : Good l) :
    Calls Try.prog 17 #[at_ b, .int .i64 id] w fun e w' => ∃ v, e = .returned v ∧ Pile w.heap.size w' v (flatL l id) ∧ Below w.heap.size w w' := flat_any O M hg _ w id (Nat.lt_succ_self _) h
end
end Go.Proofs.Ytloncmhcdmjjgaa
