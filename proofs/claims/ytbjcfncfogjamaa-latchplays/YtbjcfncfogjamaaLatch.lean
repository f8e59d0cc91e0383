/-
  What package latch does: New, Do, Done.
-/
import Derived.Test.YtbjcfncfogjamaaOnce
import Derived.Conc.MuLone
namespace Go.Proofs.Ytbjcfncfogjamaa
open Go Go.RowKit

section
variable {w w' : World} {b : Nat} {s : Bool}
theorem Lat.kept {F : Nat → Prop} (h : Lat w b s) (k : Keeps F w w') (hb : ¬ F b) : Lat w' b s := Has.kept h k hb
theorem Lat.in (h : Lat w b s) : b < w.heap.size := Has.inside h
end

theorem new_any (w : World) :
    Calls Try.prog 6 #[] w fun e w' => e = .returned (.pointer (some ⟨w.heap.size, 0, none⟩)) ∧ Lat w' w.heap.size false ∧ Below w.heap.size w w' ∧ w'.heap.size = w.heap.size + 1 := by
  go_enter Try.func6, Try.ntmps6
  go_wp2
  go_ret
  exact ⟨rfl, Has.fresh _ _, (Below.refl _ _).alloc (Nat.le_refl _) _, by simp⟩

theorem done_any (b : Nat) (s : Bool) (w : World) (h : Lat w b s) :
    Calls Try.prog 9 #[.pointer (some ⟨b, 0, none⟩)] w fun e w' => e = .returned (.bool s) ∧ w = w' := by
  have HD := Lib.hid (bload_any ⟨b, 3, none⟩ s w (Has.cell h 3))
  go_enter Try.func9, Try.ntmps9
  go_wp2_with fail
  refine HD.out.mono ?_
  rintro e w1 ⟨rfl, rfl⟩
  go_wp2
  go_ret
  exact ⟨rfl, rfl⟩
theorem done_nil (w : World) : Calls Try.prog 9 #[.pointer none] w fun e w' => e = .returned (.bool false) ∧ w = w' := by
  go_enter Try.func9, Try.ntmps9
  go_wp2
  go_ret
  exact ⟨rfl, rfl⟩

/-- Of no latch. -/
theorem do_nil (fv : Value) (w : World) : Calls Try.prog 7 #[.pointer none, fv] w fun e w' => e = .returned (.bool false) ∧ Keeps (Just []) w w' := by
  go_enter Try.func7, Try.ntmps7
  go_wp2
  go_ret
  exact ⟨rfl, (Keeps.refl _ _).alloc _⟩

section
variable {P : Program} {t : TypeId} {ps rs : Array TypeId} {v : Bool}
theorem eqIn_some_nil (d : Nat) (h : P.underlying t = some (.func ps rs v)) (f : Fn) (first cap : Array Value) (w : World) : (Op.equalIn (d + 1) t (.func f first cap) .nilFunc).run P w = .ok false w := by
  simp [Op.equalIn, run_underlying h]
theorem eqIn_nil_nil (d : Nat) (h : P.underlying t = some (.func ps rs v)) (w : World) : (Op.equalIn (d + 1) t .nilFunc .nilFunc).run P w = .ok true w := by
  simp [Op.equalIn, run_underlying h]
theorem eq_some_nil (h : P.underlying t = some (.func ps rs v)) (f : Fn) (first cap : Array Value) (w : World) : (Op.equal t (.func f first cap) .nilFunc).run P w = .ok false w := eqIn_some_nil 9999 h f first cap w
theorem eq_nil_nil (h : P.underlying t = some (.func ps rs v)) (w : World) : (Op.equal t .nilFunc .nilFunc).run P w = .ok true w := eqIn_nil_nil 9999 h w
theorem ne_some_nil (h : P.underlying t = some (.func ps rs v)) (f : Fn) (first cap : Array Value) (w : World) : (binOp .neq t (.func f first cap) .nilFunc).run P w = .ok (.bool true) w := by
  simp only [binOp]
  simp [eq_some_nil h f first cap w]
theorem ne_nil_nil (h : P.underlying t = some (.func ps rs v)) (w : World) : (binOp .neq t .nilFunc .nilFunc).run P w = .ok (.bool false) w := by
  simp only [binOp]
  simp [eq_nil_nil h w]
end

/-- What Do makes for itself: where the latch's address lies, and a truth. -/
abbrev twoMore (w : World) (b : Nat) : World := (w.alloc (.cells #[.pointer (some ⟨b, 0, none⟩)] 28)).alloc (.cells #[.bool false] 4)
section
variable (w : World) (b : Nat)
theorem two_holds : Holds (twoMore w b) w.heap.size b := Has.more (Has.fresh w _) _
theorem two_truth : Truth (twoMore w b) (w.heap.size + 1) false := by
  have := Has.fresh (w.alloc (.cells #[.pointer (some ⟨b, 0, none⟩)] 28)) (.cells #[.bool false] 4)
  simpa [Truth] using this
theorem two_keeps (F : Nat → Prop) : Keeps F w (twoMore w b) := ((Keeps.refl _ _).alloc _).alloc _
end
theorem keeps_new {F : Nat → Prop} {w w1 w2 : World} {b q : Nat} (k : Keeps F w w1) (hF : F b) (hq : w.heap.size ≤ q) (k2 : Keeps (Just [b, q]) w1 w2) : Keeps F w w2 :=
  k.trans k2 fun i hi h => by
    rcases List.mem_cons.1 h with rfl | h
    · exact hF
    · have := List.mem_singleton.1 h; omega

set_option maxHeartbeats 1600000 in
/-- Of one that is shut. -/
theorem do_shut (b : Nat) (fv : Value) (w : World) (h : Lat w b true) :
    Calls Try.prog 7 #[.pointer (some ⟨b, 0, none⟩), fv] w fun e w' => e = .returned (.bool false) ∧ Keeps (Just []) w w' := by
  have hmf : ∀ (fn : Fn) (first cap : Array Value) (w : World), (Instr.makeFunc fn first cap).run Try.prog w = .ok (.func fn first cap) w := fun _ _ _ _ => rfl
  go_enter Try.func7, Try.ntmps7
  go_wp2_with fail
  refine (once_again b 0 1 _ (twoMore w b) (Has.more (Has.more h _) _)).mono ?_
  rintro e w1 ⟨rfl, rfl⟩
  go_wp2
  go_ret
  exact ⟨rfl, two_keeps _ _ _⟩

set_option maxHeartbeats 1600000 in
/-- Of one that is open, with nothing to call. -/
theorem do_none (b : Nat) (w : World) (h : Lat w b false) :
    Calls Try.prog 7 #[.pointer (some ⟨b, 0, none⟩), .nilFunc] w fun e w' => e = .returned (.bool true) ∧ Lat w' b true ∧ Keeps (Just [b]) w w' := by
  have hmf : ∀ (fn : Fn) (first cap : Array Value) (w : World), (Instr.makeFunc fn first cap).run Try.prog w = .ok (.func fn first cap) w := fun _ _ _ _ => rfl
  have hne := ne_nil_nil (P := Try.prog) Try.underlying1
  go_enter Try.func7, Try.ntmps7
  go_wp2_with fail
  refine (once_first b w.heap.size (w.heap.size + 1) false (twoMore w b) (Has.more (Has.more h _) _) (two_holds w b) (two_truth w b)).mono ?_
  rintro e w1 ⟨rfl, h1, hq1, hp1, k1⟩
  have c1 : w1.cell? ⟨w.heap.size + 1, 0, none⟩ = some (.bool true) := Has.cell hq1 0
  go_wp2
  go_ret
  exact ⟨rfl, h1, keeps_new (two_keeps w b (Just [b])) (just_one b) (Nat.le_succ _) k1⟩

set_option maxHeartbeats 1600000 in
/-- Of one that is open, with something to call, by what that does to a world in which the latch is shut. -/
theorem do_some (b f : Nat) (cap : Array Value) (G : Nat → Prop) (Q : World → Prop) (w : World) (h : Lat w b false) (hG : ∀ i, G i → i < w.heap.size)
    (hE : ∀ w, (callFunc f cap).run Try.prog w = .ok (.enter f cap) w)
    (hf : ∀ w1, Lat w1 b true → Keeps (Just [b]) w w1 → Calls Try.prog f cap w1 fun e w2 => e = .returned (.tuple #[]) ∧ Keeps G w1 w2 ∧ Q w2) :
    Calls Try.prog 7 #[.pointer (some ⟨b, 0, none⟩), .func (.func f) #[] cap] w fun e w' => e = .returned (.bool true) ∧ Q w' := by
  have hmf : ∀ (fn : Fn) (first cap : Array Value) (w : World), (Instr.makeFunc fn first cap).run Try.prog w = .ok (.func fn first cap) w := fun _ _ _ _ => rfl
  have hne := ne_some_nil (P := Try.prog) Try.underlying1
  go_enter Try.func7, Try.ntmps7
  go_wp2_with fail
  refine (once_first b w.heap.size (w.heap.size + 1) false (twoMore w b) (Has.more (Has.more h _) _) (two_holds w b) (two_truth w b)).mono ?_
  rintro e w1 ⟨rfl, h1, hq1, hp1, k1⟩
  have c1 : w1.cell? ⟨w.heap.size + 1, 0, none⟩ = some (.bool true) := Has.cell hq1 0
  have K1 : Keeps (Just [b]) w w1 := keeps_new (two_keeps w b (Just [b])) (just_one b) (Nat.le_succ _) k1
  go_wp2_with fail
  refine (hf w1 h1 K1).mono ?_
  rintro e w2 ⟨rfl, k2, q2⟩
  have hq2 : Truth w2 (w.heap.size + 1) true := Has.kept hq1 k2 fun hg => by
    have := hG _ hg
    omega
  have c2 : w2.cell? ⟨w.heap.size + 1, 0, none⟩ = some (.bool true) := Has.cell hq2 0
  go_wp2
  go_ret
  exact ⟨rfl, q2⟩
end Go.Proofs.Ytbjcfncfogjamaa
