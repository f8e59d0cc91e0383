/-
  What package kin's Up, Root, Above do with an arena that keeps its promises.
-/
import Derived.Test.YtkafaceanlkjjaaKa
import Derived.Test.YtkafaceanlkjjaaGl
import Derived.Test.YtkafaceanlkjjaaFy
namespace Go.Proofs.Ytkafaceanlkjjaa
open Go Go.RowKit

section
variable {Rep : (Nat → Prop) → World → Nat → List Nd → Prop} {S : Nat → Prop} {w : World} {b : Nat} {l : List Nd}
/-- Node of one that is there, and of one that isn't. -/
theorem nodeYes (M : ForestMore Rep) {id : Int} (h : Rep S w b l) (hg : Good l) (ht : thereB l id = true) :
    Calls Try.prog 25 #[at_ b, .int .i64 id] w fun e w' => ∃ A1 c1, e = .returned (.tuple #[.agg #[.int .i64 (nd l id).kind, .int .i64 (nd l id).parent, .int .i64 (nd l id).host, .int .i64 (nd l id).shadow, .int .i64 (nd l id).mode, .bool (nd l id).slot, .string (nd l id).name, .string (nd l id).want, .slice A1 (nd l id).kids.length c1], .bool true]) ∧ Kids (fun i => w.heap.size ≤ i) w' (.slice A1 (nd l id).kids.length c1) (nd l id).kids ∧ Below w.heap.size w w' := by
  refine (M.node S w b l id h hg).mono ?_
  rintro e w' ⟨d, A, c, rfl, hd, hk, hb⟩
  rw [if_pos ht] at hd
  subst hd
  rw [ht]
  exact ⟨A, c, rfl, hk, hb⟩
theorem nodeNo (M : ForestMore Rep) {id : Int} (h : Rep S w b l) (hg : Good l) (ht : thereB l id = false) :
    Calls Try.prog 25 #[at_ b, .int .i64 id] w fun e w' => ∃ A1 c1, e = .returned (.tuple #[.agg #[.int .i64 0, .int .i64 0, .int .i64 0, .int .i64 0, .int .i64 0, .bool false, .string ⟨#[]⟩, .string ⟨#[]⟩, .slice A1 0 c1], .bool false]) ∧ Kids (fun i => w.heap.size ≤ i) w' (.slice A1 0 c1) [] ∧ Below w.heap.size w w' := by
  refine (M.node S w b l id h hg).mono ?_
  rintro e w' ⟨d, A, c, rfl, hd, hk, hb⟩
  rw [if_neg (by rw [ht]; decide)] at hd
  subst hd
  rw [ht]
  exact ⟨A, c, rfl, hk, hb⟩
theorem app_len {xs ys : List Int} {R : List Int} (h : xs ++ ys = R) : xs.length ≤ R.length := by rw [← h]; simp

set_option maxHeartbeats 4000000 in
set_option maxRecDepth 100000 in
theorem kinUp (O : ForestOk Rep) (M : ForestMore Rep) (id : Int) (h : Rep S w b l) (hg : Good l) :
    Calls Try.prog 13 #[at_ b, .int .i64 id] w fun e w' => ∃ v, e = .returned v ∧ Pile w.heap.size w' v (parL l id) ∧ Below w.heap.size w w' := by
  have H := Lib.hid h
  have Hg := Lib.hid hg
  have hnot : ∀ (x : Bool) (w : World), (Op.unary .not (.bool x)).run Try.prog w = .ok (.bool (!x)) w := fun _ _ => rfl
  have hRl : (parL l id).length ≤ 128 := Nat.le_trans (parL_len hg.tree id) hg.len
  obtain ⟨R, hR⟩ : ∃ R, R = parL l id := ⟨_, rfl⟩
  rw [← hR] at hRl
  rw [← hR]
  have hR0 : ([] : List Int) ++ parL l id = R := by rw [hR]; rfl
  have HR0 := Lib.hid hR0
  clear h hg hR hR0
  go_enter Try.func13, Try.ntmps13
  go_wp2_with fail
  go_loopw [1, 5] (fun a o wr => ∃ (i : Int) (xs : List Int), a = .int .i64 i ∧ xs ++ parL l i = R ∧ Pile w.heap.size wr o xs ∧ Below w.heap.size w wr) (fun a _ _ => (parL l (intOf a)).length)
  case atStart => exact ⟨id, [], rfl, HR0.out, Pile.nil _ _, Below.refl _ _⟩
  case round =>
    obtain ⟨i, xs, rfl, hxs, hP, hb⟩ := hrel
    have hRw : Rep S wr b l := O.keep H.out (Keeps.of_below (F := fun i => w.heap.size ≤ i) hb fun _ _ h => h) fun _ _ hi => Nat.not_le.2 hi
    have Hxs := Lib.hid hxs
    have hxl : xs.length ≤ 1000000 := by have := app_len hxs; omega
    clear HR0 hxs
    obtain ⟨Ao, co, rfl, -⟩ := hP.form
    cases ht : thereB l i with
    | false =>
      have Ht := Lib.hid ht
      have HP := Lib.hid hP
      clear ht hP
      go_wp2_with fail
      refine (nodeNo M hRw Hg.out Ht.out).mono ?_
      rintro e w1 ⟨A1, c1, rfl, -, hb1⟩
      have HF : Hid (Pile w.heap.size (w1.alloc (.cells #[.int .i64 0, .int .i64 0, .int .i64 0, .int .i64 0, .int .i64 0, .bool false, .string ⟨#[]⟩, .string ⟨#[]⟩, .slice A1 0 c1] 41)) (.slice Ao xs.length co) xs ∧ Below w.heap.size w (w1.alloc (.cells #[.int .i64 0, .int .i64 0, .int .i64 0, .int .i64 0, .int .i64 0, .bool false, .string ⟨#[]⟩, .string ⟨#[]⟩, .slice A1 0 c1] 41))) := Lib.hid ⟨(HP.out.below hb1).alloc _, (hb.trans (hb1.mono hb.size)).alloc (Nat.le_trans hb.size hb1.size) _⟩
      clear hb1 HP
      go_wp2
      go_ret
      refine ⟨_, rfl, ?_, HF.out.2⟩
      have := Hxs.out
      rw [parL_no Ht.out, List.append_nil] at this
      rw [← this]
      exact HF.out.1
    | true =>
      have Ht := Lib.hid ht
      have HP := Lib.hid hP
      have hfin : (xs ++ [i]) ++ parL l (nd l i).parent = R := by
        rw [List.append_assoc, List.singleton_append, ← parL_step Hg.out.tree ht]
        exact Hxs.out
      have Hfin := Lib.hid hfin
      clear ht hP hfin Hxs
      go_wp2_with fail
      refine (nodeYes M hRw Hg.out Ht.out).mono ?_
      rintro e w1 ⟨A1, c1, rfl, -, hb1⟩
      obtain ⟨d, hd⟩ : ∃ d, d = nd l i := ⟨_, rfl⟩
      rw [← hd] at Hfin
      rw [← hd]
      have hB1 : Below w.heap.size w w1 := hb.trans (hb1.mono hb.size)
      have hP1 : Pile w.heap.size w1 (.slice Ao xs.length co) xs := HP.out.below hb1
      have hown : ∀ g, (Value.slice Ao xs.length co).ownBlock = some g → w.heap.size ≤ g ∧ g < w1.heap.size := hP1.lt
      have HC : Hid (∀ w2, Keeps (fun i => (Value.slice Ao xs.length co).ownBlock = some i) ((w1.alloc (.cells #[.int .i64 d.kind, .int .i64 d.parent, .int .i64 d.host, .int .i64 d.shadow, .int .i64 d.mode, .bool d.slot, .string d.name, .string d.want, .slice A1 d.kids.length c1] 41)).alloc (.cells #[.int .i64 i] 3)) w2 → w2.cell? ⟨w1.heap.size, 1, none⟩ = some (.int .i64 d.parent)) := Lib.hid fun w2 hk2 => by
        have hh : Has ((w1.alloc (.cells #[.int .i64 d.kind, .int .i64 d.parent, .int .i64 d.host, .int .i64 d.shadow, .int .i64 d.mode, .bool d.slot, .string d.name, .string d.want, .slice A1 d.kids.length c1] 41)).alloc (.cells #[.int .i64 i] 3)) w1.heap.size (.cells #[.int .i64 d.kind, .int .i64 d.parent, .int .i64 d.host, .int .i64 d.shadow, .int .i64 d.mode, .bool d.slot, .string d.name, .string d.want, .slice A1 d.kids.length c1] 41 (0, 0)) := (Has.fresh _ _).more _
        exact (hh.kept hk2 fun e => by have := (hown _ e).2; omega).cell 1
      have HP2 : Hid (Pile w.heap.size ((w1.alloc (.cells #[.int .i64 d.kind, .int .i64 d.parent, .int .i64 d.host, .int .i64 d.shadow, .int .i64 d.mode, .bool d.slot, .string d.name, .string d.want, .slice A1 d.kids.length c1] 41)).alloc (.cells #[.int .i64 i] 3)) (.slice Ao xs.length co) xs) := Lib.hid ((hP1.alloc _).alloc _)
      have HB2 : Hid (Has ((w1.alloc (.cells #[.int .i64 d.kind, .int .i64 d.parent, .int .i64 d.host, .int .i64 d.shadow, .int .i64 d.mode, .bool d.slot, .string d.name, .string d.want, .slice A1 d.kids.length c1] 41)).alloc (.cells #[.int .i64 i] 3)) (w1.heap.size + 1) (.cells #[.int .i64 i] 3 (0, 0))) := Lib.hid (by
        have := Has.fresh (w1.alloc (.cells #[.int .i64 d.kind, .int .i64 d.parent, .int .i64 d.host, .int .i64 d.shadow, .int .i64 d.mode, .bool d.slot, .string d.name, .string d.want, .slice A1 d.kids.length c1] 41)) (.cells #[.int .i64 i] 3)
        simpa using this)
      have HS2 : Hid (w.heap.size ≤ ((w1.alloc (.cells #[.int .i64 d.kind, .int .i64 d.parent, .int .i64 d.host, .int .i64 d.shadow, .int .i64 d.mode, .bool d.slot, .string d.name, .string d.want, .slice A1 d.kids.length c1] 41)).alloc (.cells #[.int .i64 i] 3)).heap.size) := Lib.hid (by have := hB1.size; simp; omega)
      have HE : Hid (∀ w2, Keeps (fun i => (Value.slice Ao xs.length co).ownBlock = some i) ((w1.alloc (.cells #[.int .i64 d.kind, .int .i64 d.parent, .int .i64 d.host, .int .i64 d.shadow, .int .i64 d.mode, .bool d.slot, .string d.name, .string d.want, .slice A1 d.kids.length c1] 41)).alloc (.cells #[.int .i64 i] 3)) w2 → Below w.heap.size w w2) := Lib.hid fun w2 hk2 =>
        below_then ((hB1.alloc hB1.size _).alloc (by have := hB1.size; simp; omega) _) hk2 (by have := hB1.size; simp; omega) fun i hi e => by have := (hown _ e).1; omega
      have Hd := Lib.hid hd
      clear hd hb1 hB1 hP1 hown HP hb hRw
      go_wp2_with (at_builtin; refine wpList_push rfl (.tmp 17) (.tmp 19) rfl rfl HP2.out rfl HB2.out hxl HS2.out ?_; intro g cap w2 hp2 hk2 _ _; have c1 := HC.out w2 hk2)
      go_roundw
      case rel => exact ⟨_, xs ++ [i], rfl, Hfin.out, by simpa using hp2, HE.out w2 hk2⟩
      case measure =>
        simp only [intOf]
        rw [Hd.out, parL_step Hg.out.tree Ht.out]
        simp
end
end Go.Proofs.Ytkafaceanlkjjaa
