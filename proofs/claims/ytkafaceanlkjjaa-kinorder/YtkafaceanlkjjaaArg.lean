/-
  What Node of package arena does.
-/
import Derived.Test.YtkafaceanlkjjaaArf
import Derived.Laws.ResultCell
namespace Go.Proofs.Ytkafaceanlkjjaa
open Go Go.RowKit

section
variable {S : Nat → Prop} {w : World} {b : Nat} {l : List Nd}
/-- A node and a truth. -/
def Node2 (G : Nat → Prop) (w : World) (d : Nd) (ok : Bool) (e : Ending) (w' : World) : Prop :=
  ∃ (A : Option Addr) (c : Nat), e = .returned (.tuple #[.agg #[.int .i64 d.kind, .int .i64 d.parent, .int .i64 d.host, .int .i64 d.shadow, .int .i64 d.mode, .bool d.slot, .string d.name, .string d.want, .slice A d.kids.length c], .bool ok]) ∧ Kids G w' (.slice A d.kids.length c) d.kids ∧ Below w.heap.size w w'
set_option maxHeartbeats 4000000 in
set_option maxRecDepth 100000 in
theorem arNode {G : Nat → Prop} (id : Int) (h : Frst S w b l) (hl : l.length ≤ 128) (hf : Few 200 l) (hG : Fut G w.heap.size) :
    Calls Try.prog 25 #[.pointer (some ⟨b, 0, none⟩), .int .i64 id] w (Node2 G w (if thereB l id = true then nd l id else Nd.zero) (thereB l id)) := by
  have H := Lib.hid h
  have HG := Lib.hid hG
  have hnot : ∀ (x : Bool) (w : World), (Op.unary .not (.bool x)).run Try.prog w = .ok (.bool (!x)) w := fun _ _ => rfl
  have hb0 : Below w.heap.size w (w.alloc (.cells #[.int .i64 0, .int .i64 0, .int .i64 0, .int .i64 0, .int .i64 0, .bool false, .string ⟨#[]⟩, .string ⟨#[]⟩, .slice none 0 0] 41)) := (Below.refl _ w).alloc (Nat.le_refl _) _
  have HB0 := Lib.hid hb0
  clear h hG hb0
  cases hth : thereB l id with
  | false =>
    rw [if_neg (by decide)]
    have Hth := Lib.hid hth
    clear hth
    go_enter Try.func25, Try.ntmps25
    go_wp2_with fail
    refine (arHas_is (H.out.below HB0.out) Hth.out).mono ?_
    rintro e w1 ⟨rfl, rfl⟩
    go_wp2
    (try simp only [Exit.inBlock, Exit.then])
    refine bodyPost_ret (v := .tuple #[.agg #[.int .i64 0, .int .i64 0, .int .i64 0, .int .i64 0, .int .i64 0, .bool false, .string ⟨#[]⟩, .string ⟨#[]⟩, .slice none 0 0], .bool false]) ?_ rfl ⟨none, 0, rfl, kids_none _ _, HB0.out⟩
    rw [results_cell_tmp rfl]
    go_simp
  | true =>
    rw [if_pos rfl]
    obtain ⟨m, rfl, hm⟩ := there_at hth
    have Hth := Lib.hid hth
    obtain ⟨g, c, hR⟩ := H.out.at_ hm
    have hR0 := hR.below HB0.out
    have q0 := hR0.there_
    obtain ⟨_, k, e', -, hgi, hk, -, c0, c1, c2, c3, c4, c5, c6, c7, c8⟩ := hR0.nodes.nine hm
    cases e'
    obtain ⟨A1, n1, rfl, hL1⟩ := hk.list
    have hks : (nd l ((m : Int) + 1)).kids.length ≤ 200 := by
      rw [nd_at hm]
      exact hf _ (List.getElem_mem hm)
    obtain ⟨d, hd⟩ : ∃ d, d = nd l ((m : Int) + 1) := ⟨_, rfl⟩
    rw [← hd] at c0 c1 c2 c3 c4 c5 c6 c7 c8 hL1 hks
    rw [← hd]
    obtain ⟨kd, pa, ho, sh, mo, sl, na, wa, ks⟩ := d
    simp only at c0 c1 c2 c3 c4 c5 c6 c7 c8 hL1 hks
    have HL1 := Lib.hid hL1
    clear hth hk hd hL1 hR
    go_enter Try.func25, Try.ntmps25
    go_wp2_with fail
    refine (arHas_is (H.out.below HB0.out) Hth.out).mono ?_
    rintro e w1 ⟨rfl, rfl⟩
    have hbox : Has ((w.alloc (.cells #[.int .i64 0, .int .i64 0, .int .i64 0, .int .i64 0, .int .i64 0, .bool false, .string ⟨#[]⟩, .string ⟨#[]⟩, .slice none 0 0] 41)).alloc (.cells #[.int .i64 kd, .int .i64 pa, .int .i64 ho, .int .i64 sh, .int .i64 mo, .bool sl, .string na, .string wa, .slice A1 ks.length n1] 41)) (w.heap.size + 1) (.cells #[.int .i64 kd, .int .i64 pa, .int .i64 ho, .int .i64 sh, .int .i64 mo, .bool sl, .string na, .string wa, .slice A1 ks.length n1] 41 (0, 0)) := by
      have := Has.fresh (w.alloc (.cells #[.int .i64 0, .int .i64 0, .int .i64 0, .int .i64 0, .int .i64 0, .bool false, .string ⟨#[]⟩, .string ⟨#[]⟩, .slice none 0 0] 41)) (.cells #[.int .i64 kd, .int .i64 pa, .int .i64 ho, .int .i64 sh, .int .i64 mo, .bool sl, .string na, .string wa, .slice A1 ks.length n1] 41)
      simpa using this
    have hres : Has ((w.alloc (.cells #[.int .i64 0, .int .i64 0, .int .i64 0, .int .i64 0, .int .i64 0, .bool false, .string ⟨#[]⟩, .string ⟨#[]⟩, .slice none 0 0] 41)).alloc (.cells #[.int .i64 kd, .int .i64 pa, .int .i64 ho, .int .i64 sh, .int .i64 mo, .bool sl, .string na, .string wa, .slice A1 ks.length n1] 41)) w.heap.size (.cells #[.int .i64 0, .int .i64 0, .int .i64 0, .int .i64 0, .int .i64 0, .bool false, .string ⟨#[]⟩, .string ⟨#[]⟩, .slice none 0 0] 41 (0, 0)) := (Has.fresh _ _).more _
    have hb2 : Below w.heap.size w ((w.alloc (.cells #[.int .i64 0, .int .i64 0, .int .i64 0, .int .i64 0, .int .i64 0, .bool false, .string ⟨#[]⟩, .string ⟨#[]⟩, .slice none 0 0] 41)).alloc (.cells #[.int .i64 kd, .int .i64 pa, .int .i64 ho, .int .i64 sh, .int .i64 mo, .bool sl, .string na, .string wa, .slice A1 ks.length n1] 41)) := HB0.out.alloc HB0.out.size _
    have hL2 : ListIn ((w.alloc (.cells #[.int .i64 0, .int .i64 0, .int .i64 0, .int .i64 0, .int .i64 0, .bool false, .string ⟨#[]⟩, .string ⟨#[]⟩, .slice none 0 0] 41)).alloc (.cells #[.int .i64 kd, .int .i64 pa, .int .i64 ho, .int .i64 sh, .int .i64 mo, .bool sl, .string na, .string wa, .slice A1 ks.length n1] 41)) A1 n1 ks := HL1.out.below ((Below.refl _ _).alloc (Nat.le_refl _) _)
    have Hbox := Lib.hid hbox
    have Hres := Lib.hid hres
    have HB2 := Lib.hid hb2
    have HL2 := Lib.hid hL2
    clear hbox hres hb2 hL2
    go_wp2_with fail
    refine (arCopy (G := fun i => w.heap.size + 2 ≤ i) A1 n1 HL2.out hks (fun i hi => by simpa using hi)).mono ?_
    rintro e w3 ⟨A3, n3, rfl, hK3, hb3⟩
    have hbox3 := Hbox.out.below hb3 Hbox.out.inside
    have hres3 := Hres.out.below hb3 Hres.out.inside
    have hB3 : Below w.heap.size w w3 := HB2.out.trans (hb3.mono HB2.out.size)
    have y0 := hbox3.cell 0
    have y1 := hbox3.cell 1
    have y2 := hbox3.cell 2
    have y3 := hbox3.cell 3
    have y4 := hbox3.cell 4
    have y5 := hbox3.cell 5
    have y6 := hbox3.cell 6
    have y7 := hbox3.cell 7
    have y8 := hbox3.cell 8
    have v8 := hbox3.free 8
    have z0 := hres3.cell 0
    have z1 := hres3.cell 1
    have z2 := hres3.cell 2
    have z3 := hres3.cell 3
    have z4 := hres3.cell 4
    have z5 := hres3.cell 5
    have z6 := hres3.cell 6
    have z7 := hres3.cell 7
    have z8 := hres3.cell 8
    have x0 := hres3.free 0
    have x1 := hres3.free 1
    have x2 := hres3.free 2
    have x3 := hres3.free 3
    have x4 := hres3.free 4
    have x5 := hres3.free 5
    have x6 := hres3.free 6
    have x7 := hres3.free 7
    have x8 := hres3.free 8
    have hK4 : Kids (fun i => w.heap.size + 2 ≤ i) ((((((((((w3.setCell ⟨w.heap.size + 1, 8, none⟩ (.slice A3 ks.length n3)).setCell ⟨w.heap.size, 0, none⟩ (.int .i64 kd)).setCell ⟨w.heap.size, 1, none⟩ (.int .i64 pa)).setCell ⟨w.heap.size, 2, none⟩ (.int .i64 ho)).setCell ⟨w.heap.size, 3, none⟩ (.int .i64 sh)).setCell ⟨w.heap.size, 4, none⟩ (.int .i64 mo)).setCell ⟨w.heap.size, 5, none⟩ (.bool sl)).setCell ⟨w.heap.size, 6, none⟩ (.string na)).setCell ⟨w.heap.size, 7, none⟩ (.string wa)).setCell ⟨w.heap.size, 8, none⟩ (.slice A3 ks.length n3)) (.slice A3 ks.length n3) ks := by
      refine hK3.keptG (F := fun i => i = w.heap.size ∨ i = w.heap.size + 1) (((((((((((Keeps.refl _ w3).store (p := ⟨w.heap.size + 1, 8, none⟩) (.inl (.inr rfl)) (.slice A3 ks.length n3)).store (p := ⟨w.heap.size, 0, none⟩) (.inl (.inl rfl)) (.int .i64 kd)).store (p := ⟨w.heap.size, 1, none⟩) (.inl (.inl rfl)) (.int .i64 pa)).store (p := ⟨w.heap.size, 2, none⟩) (.inl (.inl rfl)) (.int .i64 ho)).store (p := ⟨w.heap.size, 3, none⟩) (.inl (.inl rfl)) (.int .i64 sh)).store (p := ⟨w.heap.size, 4, none⟩) (.inl (.inl rfl)) (.int .i64 mo)).store (p := ⟨w.heap.size, 5, none⟩) (.inl (.inl rfl)) (.bool sl)).store (p := ⟨w.heap.size, 6, none⟩) (.inl (.inl rfl)) (.string na)).store (p := ⟨w.heap.size, 7, none⟩) (.inl (.inl rfl)) (.string wa)).store (p := ⟨w.heap.size, 8, none⟩) (.inl (.inl rfl)) (.slice A3 ks.length n3)) fun i hi _ e => ?_
      rcases e with rfl | rfl <;> omega
    have hK5 : Kids G ((((((((((w3.setCell ⟨w.heap.size + 1, 8, none⟩ (.slice A3 ks.length n3)).setCell ⟨w.heap.size, 0, none⟩ (.int .i64 kd)).setCell ⟨w.heap.size, 1, none⟩ (.int .i64 pa)).setCell ⟨w.heap.size, 2, none⟩ (.int .i64 ho)).setCell ⟨w.heap.size, 3, none⟩ (.int .i64 sh)).setCell ⟨w.heap.size, 4, none⟩ (.int .i64 mo)).setCell ⟨w.heap.size, 5, none⟩ (.bool sl)).setCell ⟨w.heap.size, 6, none⟩ (.string na)).setCell ⟨w.heap.size, 7, none⟩ (.string wa)).setCell ⟨w.heap.size, 8, none⟩ (.slice A3 ks.length n3)) (.slice A3 ks.length n3) ks := hK4.wide fun i hi _ => HG.out i (by omega)
    have hB5 : Below w.heap.size w ((((((((((w3.setCell ⟨w.heap.size + 1, 8, none⟩ (.slice A3 ks.length n3)).setCell ⟨w.heap.size, 0, none⟩ (.int .i64 kd)).setCell ⟨w.heap.size, 1, none⟩ (.int .i64 pa)).setCell ⟨w.heap.size, 2, none⟩ (.int .i64 ho)).setCell ⟨w.heap.size, 3, none⟩ (.int .i64 sh)).setCell ⟨w.heap.size, 4, none⟩ (.int .i64 mo)).setCell ⟨w.heap.size, 5, none⟩ (.bool sl)).setCell ⟨w.heap.size, 6, none⟩ (.string na)).setCell ⟨w.heap.size, 7, none⟩ (.string wa)).setCell ⟨w.heap.size, 8, none⟩ (.slice A3 ks.length n3)) := (((((((((hB3.setCell (p := ⟨w.heap.size + 1, 8, none⟩) (Nat.le_succ _) (.slice A3 ks.length n3)).setCell (p := ⟨w.heap.size, 0, none⟩) (Nat.le_refl _) (.int .i64 kd)).setCell (p := ⟨w.heap.size, 1, none⟩) (Nat.le_refl _) (.int .i64 pa)).setCell (p := ⟨w.heap.size, 2, none⟩) (Nat.le_refl _) (.int .i64 ho)).setCell (p := ⟨w.heap.size, 3, none⟩) (Nat.le_refl _) (.int .i64 sh)).setCell (p := ⟨w.heap.size, 4, none⟩) (Nat.le_refl _) (.int .i64 mo)).setCell (p := ⟨w.heap.size, 5, none⟩) (Nat.le_refl _) (.bool sl)).setCell (p := ⟨w.heap.size, 6, none⟩) (Nat.le_refl _) (.string na)).setCell (p := ⟨w.heap.size, 7, none⟩) (Nat.le_refl _) (.string wa)).setCell (p := ⟨w.heap.size, 8, none⟩) (Nat.le_refl _) (.slice A3 ks.length n3)
    have HK5 := Lib.hid hK5
    have HB5 := Lib.hid hB5
    clear hbox3 hres3 hK3 hb3 hK4 hK5 hB5
    go_wp2
    (try simp only [Exit.inBlock, Exit.then])
    refine bodyPost_ret (v := .tuple #[.agg #[.int .i64 kd, .int .i64 pa, .int .i64 ho, .int .i64 sh, .int .i64 mo, .bool sl, .string na, .string wa, .slice A3 ks.length n3], .bool true]) ?_ rfl ⟨A3, n3, rfl, HK5.out, HB5.out⟩
    rw [results_cell_tmp rfl]
    go_simp
theorem arNode_is {G : Nat → Prop} {id : Int} (h : Frst S w b l) (hl : l.length ≤ 128) (hf : Few 200 l) (hG : Fut G w.heap.size) (ht : thereB l id = true) :
    Calls Try.prog 25 #[.pointer (some ⟨b, 0, none⟩), .int .i64 id] w (Node2 G w (nd l id) true) := by
  have := arNode id h hl hf hG
  rw [ht, if_pos rfl] at this
  exact this
end
end Go.Proofs.Ytkafaceanlkjjaa
