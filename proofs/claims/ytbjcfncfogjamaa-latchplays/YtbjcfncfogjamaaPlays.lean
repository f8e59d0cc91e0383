/-
  What towncrierref03.Latch.Do does; what is handed to Do by towncrierlaw03.LatchPlays; the document's three latches in one block.
-/
import Derived.Test.YtbjcfncfogjamaaLawNone
import Derived.Test.YtbjcfncfogjamaaRd
namespace Go.Proofs.Ytbjcfncfogjamaa
open Go Go.RowKit

theorem refDo_shut (b o : Nat) (there : Bool) (w : World) (hs : w.cell? ⟨b, o, none⟩ = some (.bool true)) :
    Calls Try.prog 11 #[.pointer (some ⟨b, o, none⟩), .bool there] w fun e w' => e = .returned (.bool false) ∧ w = w' := by
  go_enter Try.func11, Try.ntmps11
  go_wp2
  go_ret
  exact ⟨rfl, rfl⟩
theorem refDo_none (b o : Nat) (w : World) (hs : w.cell? ⟨b, o, none⟩ = some (.bool false)) (fs : w.frozen? ⟨b, o, none⟩ = false) :
    Calls Try.prog 11 #[.pointer (some ⟨b, o, none⟩), .bool false] w fun e w' => e = .returned (.bool true) ∧ w.setCell ⟨b, o, none⟩ (.bool true) = w' := by
  go_enter Try.func11, Try.ntmps11
  go_wp2
  go_ret
  exact ⟨rfl, rfl⟩
theorem refDo_some (b o : Nat) (c : Int) (w : World) (h0 : 0 ≤ c) (h1 : c ≤ 1000) (hs : w.cell? ⟨b, o, none⟩ = some (.bool false)) (fs : w.frozen? ⟨b, o, none⟩ = false) (hc : w.cell? ⟨b, o + 1, none⟩ = some (.int .i64 c)) (fc : w.frozen? ⟨b, o + 1, none⟩ = false) :
    Calls Try.prog 11 #[.pointer (some ⟨b, o, none⟩), .bool true] w fun e w' => e = .returned (.bool true) ∧ (w.setCell ⟨b, o, none⟩ (.bool true)).setCell ⟨b, o + 1, none⟩ (.int .i64 (c + 1)) = w' := by
  go_enter Try.func11, Try.ntmps11
  go_wp2
  go_ret
  exact ⟨rfl, rfl⟩

/-- The document's three latches. -/
def xcells (s : Nat → Bool) (c : Nat → Int) : Array Value := #[.bool (s 0), .int .i64 (c 0), .bool (s 1), .int .i64 (c 1), .bool (s 2), .int .i64 (c 2)]
def Three (w : World) (b : Nat) (s : Nat → Bool) (c : Nat → Int) : Prop := Has w b (.cells (xcells s c) 27 (0, 0))
def upd {α : Type} (f : Nat → α) (k : Nat) (x : α) : Nat → α := fun i => if i = k then x else f i
theorem upd_same {α : Type} (f : Nat → α) (k : Nat) (x : α) : upd f k x k = x := if_pos rfl
theorem upd_other {α : Type} (f : Nat → α) {k i : Nat} (x : α) (h : i ≠ k) : upd f k x i = f i := if_neg h
theorem upd_id {α : Type} (f : Nat → α) (k : Nat) (x : α) (h : f k = x) : upd f k x = f := funext fun i => by
  unfold upd
  split
  · rename_i e; rw [e, h]
  · rfl

section
variable {w : World} {b k : Nat} {s : Nat → Bool} {c : Nat → Int}
theorem Three.shut (h : Three w b s c) (hk : k < 3) : w.cell? ⟨b, k * 2, none⟩ = some (.bool (s k)) := by
  refine (Has.cell h _).trans ?_
  match k, hk with
  | 0, _ => rfl
  | 1, _ => rfl
  | 2, _ => rfl
theorem Three.calls (h : Three w b s c) (hk : k < 3) : w.cell? ⟨b, k * 2 + 1, none⟩ = some (.int .i64 (c k)) := by
  refine (Has.cell h _).trans ?_
  match k, hk with
  | 0, _ => rfl
  | 1, _ => rfl
  | 2, _ => rfl
theorem Three.store (h : Three w b s c) (hk : k < 3) (x : Bool) : Three (w.setCell ⟨b, k * 2, none⟩ (.bool x)) b (upd s k x) c := by
  have := Has.stored h (k * 2) (.bool x)
  match k, hk with
  | 0, _ => exact this
  | 1, _ => exact this
  | 2, _ => exact this
theorem Three.count (h : Three w b s c) (hk : k < 3) (x : Int) : Three (w.setCell ⟨b, k * 2 + 1, none⟩ (.int .i64 x)) b s (upd c k x) := by
  have := Has.stored h (k * 2 + 1) (.int .i64 x)
  match k, hk with
  | 0, _ => exact this
  | 1, _ => exact this
  | 2, _ => exact this
end

/-- The latches' own list: three of them. -/
def Seen (w : World) (Ba g cap : Nat) (cur : Array Value) (p : Nat → Nat) : Prop :=
  Has w Ba (.cells #[.slice (some ⟨g, 0, none⟩) 3 cap] 24 (0, 0)) ∧ Has w g (.cells cur 28 (0, 0)) ∧ ∀ k, k < 3 → cur[k]? = some (.pointer (some ⟨p k, 0, none⟩))
section
variable {w w' : World} {Ba g cap k : Nat} {cur : Array Value} {p : Nat → Nat}
theorem Seen.list (h : Seen w Ba g cap cur p) : w.cell? ⟨Ba, 0, none⟩ = some (.slice (some ⟨g, 0, none⟩) 3 cap) := Has.cell h.1 0
theorem Seen.at_ (h : Seen w Ba g cap cur p) (hk : k < 3) : w.cell? ⟨g, k, none⟩ = some (.pointer (some ⟨p k, 0, none⟩)) := (Has.cell h.2.1 k).trans (h.2.2 k hk)
theorem Seen.kept {F : Nat → Prop} (h : Seen w Ba g cap cur p) (k : Keeps F w w') (h1 : ¬ F Ba) (h2 : ¬ F g) : Seen w' Ba g cap cur p := ⟨Has.kept h.1 k h1, Has.kept h.2.1 k h2, h.2.2⟩
end

set_option maxHeartbeats 1000000 in
/-- What LatchPlays hands to Do: it counts, and finds the latch shut. -/
theorem inner_any (Bc Ba Bk Bi g cap k : Nat) (cur : Array Value) (p : Nat → Nat) (n : Int) (w : World) (hk : k < 3) (h0 : 0 ≤ n) (h1 : n ≤ 1000) (hc : Num w Bc n) (hs : Seen w Ba g cap cur p) (hkk : Num w Bk k) (hi : Truth w Bi false) (hl : Lat w (p k) true) (hne : Bk ≠ Bc) :
    Calls Try.prog 8 #[.pointer (some ⟨Bc, 0, none⟩), .pointer (some ⟨Ba, 0, none⟩), .pointer (some ⟨Bk, 0, none⟩), .pointer (some ⟨Bi, 0, none⟩)] w fun e w' => e = .returned (.tuple #[]) ∧ Keeps (Just [Bc, Bi]) w w' ∧ Num w' Bc (n + 1) ∧ Truth w' Bi false := by
  have hnot : ∀ (x : Bool) (w : World), (Op.unary .not (.bool x)).run Try.prog w = .ok (.bool (!x)) w := fun _ _ => rfl
  have hmf : ∀ (fn : Fn) (first cap : Array Value) (w : World), (Instr.makeFunc fn first cap).run Try.prog w = .ok (.func fn first cap) w := fun _ _ _ _ => rfl
  have n1 : Ba ≠ Bc := Has.apart hs.1 hc (by simp)
  have n2 : g ≠ Bc := Has.apart hs.2.1 hc (by simp)
  have n3 : Bi ≠ Bc := Has.apart hi hc (by simp)
  have n4 : p k ≠ Bc := Has.apart hl hc (by simp)
  have c1 : w.cell? ⟨Bc, 0, none⟩ = some (.int .i64 n) := Has.cell hc 0
  have f1 : w.frozen? ⟨Bc, 0, none⟩ = false := Has.free hc 0
  have k1 : Keeps (Just [Bc, Bi]) w (w.setCell ⟨Bc, 0, none⟩ (.int .i64 (n + 1))) := (Keeps.refl _ _).store (.inl (by simp [Just])) _
  have hc1 : Num (w.setCell ⟨Bc, 0, none⟩ (.int .i64 (n + 1))) Bc (n + 1) := Has.stored hc 0 _
  have hs1 : Seen (w.setCell ⟨Bc, 0, none⟩ (.int .i64 (n + 1))) Ba g cap cur p := ⟨Has.aside hs.1 n1 _, Has.aside hs.2.1 n2 _, hs.2.2⟩
  have hk1 : Num (w.setCell ⟨Bc, 0, none⟩ (.int .i64 (n + 1))) Bk k := Has.aside hkk hne _
  have hi1 : Truth (w.setCell ⟨Bc, 0, none⟩ (.int .i64 (n + 1))) Bi false := Has.aside hi n3 _
  have hl1 : Lat (w.setCell ⟨Bc, 0, none⟩ (.int .i64 (n + 1))) (p k) true := Has.aside hl n4 _
  have a1 := hs1.list
  have a2 := hs1.at_ hk
  have a3 : (w.setCell ⟨Bc, 0, none⟩ (.int .i64 (n + 1))).cell? ⟨Bk, 0, none⟩ = some (.int .i64 k) := Has.cell hk1 0
  go_enter Try.func8, Try.ntmps8
  go_wp2_with fail
  refine (done_any _ _ _ hl1).mono ?_
  rintro e w2 ⟨rfl, rfl⟩
  go_wp2_with fail
  refine (do_shut _ _ _ hl1).mono ?_
  rintro e w3 ⟨rfl, k3⟩
  have hi3 : Truth w3 Bi false := Has.kept hi1 k3 just_none
  have hc3 : Num w3 Bc (n + 1) := Has.kept hc1 k3 just_none
  have c3 : w3.cell? ⟨Bi, 0, none⟩ = some (.bool false) := Has.cell hi3 0
  have f3 : w3.frozen? ⟨Bi, 0, none⟩ = false := Has.free hi3 0
  go_wp2
  go_end0
  exact ⟨rfl, (k1.trans k3 fun _ _ h => absurd h just_none).store (.inl (by simp [Just])) _, Has.aside hc3 n3.symm _, Has.stored hi3 0 _⟩
end Go.Proofs.Ytbjcfncfogjamaa
