/-
  What sync.Once does within a latch, one goroutine alone: the slow way, once; nothing, again.
-/
import Derived.Test.YtbjcfncfogjamaaSync
namespace Go.Proofs.Ytbjcfncfogjamaa
open Go Go.RowKit

/-- A latch's block: the once's word, its lock, the truth that is told. -/
def Raw (w : World) (b : Nat) (d m s : Int) : Prop := Has w b (.cells #[.int .u32 d, .int .i32 m, .int .u32 0, .int .u32 s] 46 (0, 0))
/-- A variable that holds a latch's address. -/
def Holds (w : World) (p b : Nat) : Prop := Has w p (.cells #[.pointer (some ⟨b, 0, none⟩)] 28 (0, 0))
/-- A truth that is a variable. -/
def Truth (w : World) (q : Nat) (x : Bool) : Prop := Has w q (.cells #[.bool x] 4 (0, 0))
/-- A latch, open or shut. -/
def Lat (w : World) (b : Nat) (s : Bool) : Prop := Raw w b (bit s) 0 (bit s)

section
variable {w w' : World} {b p q : Nat} {d m s : Int} {x : Bool}
theorem raw_holds (h : Raw w b d m s) (k : Holds w p b) : b ≠ p := Has.apart h k (by simp)
theorem raw_truth (h : Raw w b d m s) (k : Truth w q x) : b ≠ q := Has.apart h k (by simp)
theorem holds_truth {c : Nat} (h : Holds w p c) (k : Truth w q x) : p ≠ q := Has.apart h k (by simp)
theorem just_two {F : Nat → Prop} (k : Keeps F w w') (h : ∀ i, F i → i = b ∨ i = q) : Keeps (Just [b, q]) w w' := k.wide fun i _ hF => by
  rcases h i hF with rfl | rfl <;> simp [Just]
end

/-- What Do hands to the once. -/
theorem shuts_any (b p q : Nat) (d m : Int) (x : Bool) (w : World) (h : Raw w b d m 0) (hp : Holds w p b) (hq : Truth w q x) :
    Calls Try.prog 15 #[.pointer (some ⟨p, 0, none⟩), .pointer (some ⟨q, 0, none⟩)] w fun e w' => e = .returned (.tuple #[]) ∧ Raw w' b d m 1 ∧ Truth w' q true ∧ Holds w' p b ∧ Keeps (Just [b, q]) w w' := by
  have n1 := raw_holds h hp
  have n2 := raw_truth h hq
  have n3 := holds_truth hp hq
  have c1 : w.cell? ⟨p, 0, none⟩ = some (.pointer (some ⟨b, 0, none⟩)) := Has.cell hp 0
  have hb1 : Raw ((w.drew).setCell ⟨b, 3, none⟩ (.int .u32 1)) b d m 1 := (Has.stored (Has.drewN h 1) 3 _)
  have hq1 : Truth ((w.drew).setCell ⟨b, 3, none⟩ (.int .u32 1)) q x := Has.aside (Has.drewN hq 1) n2.symm _
  have hp1 : Holds ((w.drew).setCell ⟨b, 3, none⟩ (.int .u32 1)) p b := Has.aside (Has.drewN hp 1) n1.symm _
  have k1 : Keeps (Just [b, q]) w ((w.drew).setCell ⟨b, 3, none⟩ (.int .u32 1)) := ((Keeps.refl _ w).drew).store (.inl (by simp [Just])) _
  obtain ⟨w1, hw1⟩ : ∃ w1, w1 = (w.drew).setCell ⟨b, 3, none⟩ (.int .u32 1) := ⟨_, rfl⟩
  rw [← hw1] at hb1 hq1 hp1 k1
  have hst := bstore_any ⟨b, 3, none⟩ _ w (Has.cell h 3) (Has.free h 3)
  rw [← hw1] at hst
  clear hw1
  have f1 : w1.frozen? ⟨q, 0, none⟩ = false := Has.free hq1 0
  have c2 : w1.cell? ⟨q, 0, none⟩ = some (.bool x) := Has.cell hq1 0
  have Hst := Lib.hid hst
  clear hst
  go_enter Try.func15, Try.ntmps15
  go_wp2_with fail
  refine Hst.out.mono ?_
  rintro e w2 ⟨rfl, rfl⟩
  go_wp2
  go_end0
  exact ⟨rfl, Has.aside hb1 n2 _, Has.stored hq1 0 _, Has.aside hp1 n3 _, k1.store (.inl (by simp [Just])) _⟩

set_option maxRecDepth 100000 in
set_option maxHeartbeats 1600000 in
theorem slow_any (b p q : Nat) (x : Bool) (w : World) (h : Raw w b 0 0 0) (hp : Holds w p b) (hq : Truth w q x) :
    Calls Try.prog 18 #[.pointer (some ⟨b, 0, none⟩), .func (.func 15) #[] #[.pointer (some ⟨p, 0, none⟩), .pointer (some ⟨q, 0, none⟩)]] w fun e w' => e = .returned (.tuple #[]) ∧ Raw w' b 1 0 1 ∧ Truth w' q true ∧ Holds w' p b ∧ Keeps (Just [b, q]) w w' := by
  have n1 := raw_holds h hp
  have n2 := raw_truth h hq
  have hL := lock_any ⟨b, 1, none⟩ w (Has.cell h 1) (Has.free h 1)
  have h1 : Raw (w.setCell ⟨b, 1, none⟩ (.int .i32 1)) b 0 1 0 := Has.stored h 1 _
  have hp1 : Holds (w.setCell ⟨b, 1, none⟩ (.int .i32 1)) p b := Has.aside hp n1.symm _
  have hq1 : Truth (w.setCell ⟨b, 1, none⟩ (.int .i32 1)) q x := Has.aside hq n2.symm _
  have k1 : Keeps (Just [b, q]) w (w.setCell ⟨b, 1, none⟩ (.int .i32 1)) := (Keeps.refl _ w).store (.inl (by simp [Just])) _
  obtain ⟨w1, hw1⟩ : ∃ w1, w1 = w.setCell ⟨b, 1, none⟩ (.int .i32 1) := ⟨_, rfl⟩
  rw [← hw1] at hL h1 hp1 hq1 k1
  have hD := bload_any ⟨b, 0, none⟩ false w1 (Has.cell h1 0)
  have hnot : ∀ (x : Bool) (w : World), (Op.unary .not (.bool x)).run Try.prog w = .ok (.bool (!x)) w := fun _ _ => rfl
  have HL := Lib.hid hL
  have HD := Lib.hid hD
  clear hw1 hL hD
  go_enter_defers Try.func18, Try.ntmps18
  go_wp2_with fail
  refine HL.out.mono ?_
  rintro e w2 ⟨rfl, rfl⟩
  go_wp2_with fail
  refine HD.out.mono ?_
  rintro e w3 ⟨rfl, rfl⟩
  go_wp2_with fail
  refine (shuts_any b p q 0 1 x _ h1 hp1 hq1).mono ?_
  rintro e w4 ⟨rfl, h4, hq4, hp4, k4⟩
  go_wp2_with fail
  have n4 := raw_holds h4 hp4
  have m4 := raw_truth h4 hq4
  refine leaves_cons (f := 16) (args := #[.pointer (some ⟨b, 0, none⟩), .bool true]) (by simp) (by simp [go_sem]) ?_
  refine (bstore_late ⟨b, 0, none⟩ _ .returning _ (Has.cell h4 0) (Has.free h4 0)).mono ?_
  rintro e u' w5 ⟨rfl, rfl, rfl⟩
  have h5 : Raw ((w4.drew).setCell ⟨b, 0, none⟩ (.int .u32 1)) b 1 1 1 := (Has.stored (Has.drewN h4 1) 0 _)
  refine leaves_cons (f := 23) (args := #[.pointer (some ⟨b, 1, none⟩)]) (by simp [settle]) (by simp [go_sem]) ?_
  refine (unlock_late ⟨b, 1, none⟩ _ _ (Has.cell h5 1) (Has.free h5 1)).mono ?_
  rintro e u' w6 ⟨rfl, rfl, rfl⟩
  exact ⟨_, results_none rfl _ _ _, rfl, Has.stored h5 1 _, Has.aside (Has.aside (Has.drewN hq4 1) m4.symm _) m4.symm _, Has.aside (Has.aside (Has.drewN hp4 1) n4.symm _) n4.symm _,
    (((k1.also k4).drew).store (.inl (by simp [Just])) _).store (.inl (by simp [Just])) _⟩

/-- Do of a once, the first time. -/
theorem once_first (b p q : Nat) (x : Bool) (w : World) (h : Raw w b 0 0 0) (hp : Holds w p b) (hq : Truth w q x) :
    Calls Try.prog 14 #[.pointer (some ⟨b, 0, none⟩), .func (.func 15) #[] #[.pointer (some ⟨p, 0, none⟩), .pointer (some ⟨q, 0, none⟩)]] w fun e w' => e = .returned (.tuple #[]) ∧ Raw w' b 1 0 1 ∧ Truth w' q true ∧ Holds w' p b ∧ Keeps (Just [b, q]) w w' := by
  have HD := Lib.hid (bload_any ⟨b, 0, none⟩ false w (Has.cell h 0))
  have hnot : ∀ (x : Bool) (w : World), (Op.unary .not (.bool x)).run Try.prog w = .ok (.bool (!x)) w := fun _ _ => rfl
  go_enter Try.func14, Try.ntmps14
  go_wp2_with fail
  refine HD.out.mono ?_
  rintro e w1 ⟨rfl, rfl⟩
  go_wp2_with fail
  refine (slow_any b p q x _ h hp hq).mono ?_
  rintro e w4 ⟨rfl, h4, hq4, hp4, k4⟩
  go_wp2
  go_end0
  exact ⟨rfl, h4, hq4, hp4, k4⟩

/-- Again. -/
theorem once_again (b : Nat) (m s : Int) (fv : Value) (w : World) (h : Raw w b 1 m s) :
    Calls Try.prog 14 #[.pointer (some ⟨b, 0, none⟩), fv] w fun e w' => e = .returned (.tuple #[]) ∧ w' = w := by
  have HD := Lib.hid (bload_any ⟨b, 0, none⟩ true w (Has.cell h 0))
  have hnot : ∀ (x : Bool) (w : World), (Op.unary .not (.bool x)).run Try.prog w = .ok (.bool (!x)) w := fun _ _ => rfl
  go_enter Try.func14, Try.ntmps14
  go_wp2_with fail
  refine HD.out.mono ?_
  rintro e w1 ⟨rfl, rfl⟩
  go_wp2
  go_end0
  exact ⟨rfl, rfl⟩
end Go.Proofs.Ytbjcfncfogjamaa
