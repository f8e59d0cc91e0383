/-
  Words for memory of my own: what a block holds ('Has'), and that nothing old has turned but blocks of a given kind ('Keeps F'). No function of the program is named here.
-/
import Derived.Test.YtkafaceanlkjjaaProg
import Derived.WalkKit
import Derived.WalkSpells
import Derived.WalkLawsBesides
import Derived.Deep.AppendLies
import Derived.Deep.Draws
import Derived.Deep.QuietTactic
import Derived.BigQuiet
import Derived.Laws.LoneSync
import Derived.Laws.OwnMore
import Derived.Lib.OthersKept
import Derived.Lib.Hide
namespace Go.Proofs.Ytkafaceanlkjjaa
open Go Go.RowKit

/-- Block g holds o. -/
def Has (w : World) (g : Nat) (o : Obj) : Prop := w.heap[g]? = some o
/-- The old blocks that F does not name are as they were; none is gone; the streams are as they were. -/
structure Keeps (F : Nat → Prop) (w w' : World) : Prop where
  frame : w'.os = w.os ∧ w'.tape = w.tape ∧ w'.output = w.output
  grows : w.heap.size ≤ w'.heap.size
  old : ∀ i, i < w.heap.size → ¬ F i → w'.heap[i]? = w.heap[i]?
/-- Just these blocks. -/
def Just (l : List Nat) (i : Nat) : Prop := i ∈ l
theorem just_one (g : Nat) : Just [g] g := List.mem_singleton.2 rfl
theorem just_far {B g : Nat} (h : B ≤ g) : ∀ i, i < B → ¬ Just [g] i := fun i hi hj => by have := List.mem_singleton.1 hj; omega
theorem just_ne {g g' : Nat} (h : g' ≠ g) : ¬ Just [g] g' := fun hj => h (List.mem_singleton.1 hj)

section
variable {F G : Nat → Prop} {w w' w'' : World} {g : Nat} {o : Obj}
theorem Has.inside (h : Has w g o) : g < w.heap.size := (Array.getElem?_eq_some_iff.1 h).1
theorem Has.fresh (w : World) (o : Obj) : Has (w.alloc o) w.heap.size o := heap_alloc_new w o
theorem Has.drewN (h : Has w g o) (n : Nat) : Has (w.drewN n) g o := h
theorem Has.kept (h : Has w g o) (k : Keeps F w w') (hg : ¬ F g) : Has w' g o := Eq.trans (k.old g h.inside hg) h
theorem Has.more (h : Has w g o) (o' : Obj) : Has (w.alloc o') g o := Eq.trans (Below.heap_alloc w o' g h.inside) h
theorem Has.below {B : Nat} (h : Has w g o) (k : Below B w w') (hg : g < B) : Has w' g o := Eq.trans (k.block g hg) h
theorem Has.apart {g' : Nat} {o' : Obj} (h : Has w g o) (h' : Has w g' o') (hne : o ≠ o') : g ≠ g' := fun e => by
  subst e
  exact hne (Option.some.inj (Eq.trans (Eq.symm h) h'))
section
variable {t : TypeId} {cs : Array Value} {fr : Nat × Nat}
theorem Has.cell (h : Has w g (.cells cs t fr)) (i : Nat) : w.cell? ⟨g, i, none⟩ = cs[i]? := cell_of_row w g i cs t fr h
theorem Has.free (h : Has w g (.cells cs t (0, 0))) (i : Nat) : w.frozen? ⟨g, i, none⟩ = false := by
  have h' : w.heap[g]? = some (.cells cs t (0, 0)) := h
  simp [World.frozen?, h']
theorem Has.stored (h : Has w g (.cells cs t fr)) (i : Nat) (u : Value) : Has (w.setCell ⟨g, i, none⟩ u) g (.cells (cs.setIfInBounds i u) t fr) := by
  have h' : w.heap[g]? = some (.cells cs t fr) := h
  simp [Has, World.setCell, Array.getElem?_modify, h']
end
theorem Has.aside (h : Has w g o) {p : Addr} (hp : g ≠ p.block) (u : Value) : Has (w.setCell p u) g o := Eq.trans (Below.heap_setCell w p u g hp) h

theorem Keeps.refl (F : Nat → Prop) (w : World) : Keeps F w w := ⟨⟨rfl, rfl, rfl⟩, Nat.le_refl _, fun _ _ _ => rfl⟩
theorem Keeps.wide (k : Keeps F w w') (h : ∀ i, i < w.heap.size → F i → G i) : Keeps G w w' := ⟨k.frame, k.grows, fun i hi hn => k.old i hi fun hF => hn (h i hi hF)⟩
theorem Keeps.trans (k : Keeps F w w') (k' : Keeps G w' w'') (h : ∀ i, i < w.heap.size → G i → F i) : Keeps F w w'' :=
  ⟨⟨k'.frame.1.trans k.frame.1, k'.frame.2.1.trans k.frame.2.1, k'.frame.2.2.trans k.frame.2.2⟩, Nat.le_trans k.grows k'.grows,
    fun i hi hn => (k'.old i (Nat.lt_of_lt_of_le hi k.grows) fun hG => hn (h i hi hG)).trans (k.old i hi hn)⟩
theorem Keeps.also (k : Keeps F w w') (k' : Keeps F w' w'') : Keeps F w w'' := k.trans k' fun _ _ h => h
theorem Keeps.drewN (k : Keeps F w w') (n : Nat) : Keeps F w (w'.drewN n) := ⟨k.frame, k.grows, k.old⟩
theorem Keeps.drew (k : Keeps F w w') : Keeps F w w'.drew := ⟨k.frame, k.grows, k.old⟩
theorem Keeps.alloc (k : Keeps F w w') (o : Obj) : Keeps F w (w'.alloc o) :=
  ⟨k.frame, Nat.le_trans k.grows (by simp), fun i hi hn => (Below.heap_alloc w' o i (Nat.lt_of_lt_of_le hi k.grows)).trans (k.old i hi hn)⟩
theorem Keeps.store (k : Keeps F w w') {p : Addr} (hp : F p.block ∨ w.heap.size ≤ p.block) (u : Value) : Keeps F w (w'.setCell p u) :=
  ⟨k.frame, by simpa [World.setCell] using k.grows, fun i hi hn => (Below.heap_setCell w' p u i (by
    rintro rfl
    exact hp.elim hn fun h => by omega)).trans (k.old i hi hn)⟩
theorem Keeps.store1 (k : Keeps (Just [g]) w w') (i : Nat) (u : Value) : Keeps (Just [g]) w (w'.setCell ⟨g, i, none⟩ u) := k.store (.inl (just_one g)) u
theorem Keeps.of_below {B : Nat} (k : Below B w w') (h : ∀ i, i < w.heap.size → B ≤ i → F i) : Keeps F w w' :=
  ⟨⟨k.os, k.tape, k.output⟩, k.size, fun i hi hn => k.block i ((Nat.lt_or_ge i B).elim id fun hge => absurd (h i hi hge) hn)⟩
/-- What has turned lies above. -/
theorem below_then {B : Nat} (h : Below B w w') (k : Keeps F w' w'') (hB : B ≤ w'.heap.size) (hF : ∀ i, i < B → ¬ F i) : Below B w w'' :=
  ⟨k.frame.1.trans h.os, k.frame.2.1.trans h.tape, k.frame.2.2.trans h.output, Nat.le_trans h.size k.grows, fun i hi => (k.old i (Nat.lt_of_lt_of_le hi hB) (hF i hi)).trans (h.block i hi)⟩
theorem below_draws {B : Nat} {a w : World} (h : Below B a w) (n : Nat) : Below B a (w.drewN n) := ⟨h.os, h.tape, h.output, h.size, h.block⟩
end
end Go.Proofs.Ytkafaceanlkjjaa
