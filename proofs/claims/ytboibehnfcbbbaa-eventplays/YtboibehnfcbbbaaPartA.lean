/-
  Words for memory of my own: what a block holds ('Has'), and that nothing old has turned but blocks of a given kind ('Keeps F'). No function of the program is named here.
  Lists that came in, as lists of numbers; rows of the call's own. No function of the program is named here.
  Lists of numbers that a call owns. Only the type of lists of numbers is named here.
  Lists of numbers: what they give to an append; those that came in; whether a number is among them.
  Lists of records that lead to no memory (listeners, entries of a path ..): in rows of a call's own, and read where they came in. No function and no type of the program is named here.
  An entry of a path, and its five cells. No program is named here.
  Plain facts on lists of bytes: what stands between blanks (split), and that a rune that is no blank has no blank among its bytes. No program is named here.
  What word.Right and towncrierref01.Right do: the same truth.
  Events, the program's and the document's (the same fourteen cells, T: which of the two), and what stays of one while memory turns. No function is named here.
  What New, Prevent, Stop, StopNow, Begin, End of package event do.
  What Begin and New of package event do.
  towncrierlaw13.awake and EventNone.
  towncrierref13.Path of two paths that are the same; towncrierlaw13.same of two events that are.
  What package towncrierref13 does: the document's events, and whether two paths are the same.
  The two events side by side, and what stays of that.
  An array of three truths that came in.
  A region that leaves its order open, walked once, in an order that is typed out: what yields its value in every world that meets S comes up when it is named; a pinned operation comes up when nothing else can. S may be made narrower on the way. No program is named here.
-/
import Derived.Test.YtboibehnfcbbbaaProg
import Derived.WalkKit
import Derived.WalkSpells
import Derived.WalkLawsBesides
import Derived.Deep.AppendLies
import Derived.Deep.Draws
import Derived.Deep.QuietTactic
import Derived.BigQuiet
import Derived.Laws.LoneSync
import Derived.Laws.OwnMore
import Derived.Lib.OthersKept
import Derived.Lib.Hide
import Derived.ProofKit
import Derived.OpenShut
import Derived.Laws.AppendOwnNone
import Derived.Lib.Strings
import Derived.Lib.IndexBytes
import Derived.Lib.Join
import Derived.Laws.RangeAny
import Derived.Deep.DeepCutAuto
import Derived.Deep.RegionHeld3

namespace Go.Proofs.Ytboibehnfcbbbaa
open Go Go.RowKit

/-- Block g holds o. -/
def Has (w : World) (g : Nat) (o : Obj) : Prop := w.heap[g]? = some o
/-- The old blocks that F does not name are as they were; none is gone; the streams are as they were. -/
structure Keeps (F : Nat → Prop) (w w' : World) : Prop where
  frame : w'.os = w.os ∧ w'.tape = w.tape ∧ w'.output = w.output
  grows : w.heap.size ≤ w'.heap.size
  old : ∀ i, i < w.heap.size → ¬ F i → w'.heap[i]? = w.heap[i]?
/-- Just these blocks. -/
def Just (l : List Nat) (i : Nat) : Prop := i ∈ l
theorem just_one (g : Nat) : Just [g] g := List.mem_singleton.2 rfl
theorem just_far {B g : Nat} (h : B ≤ g) : ∀ i, i < B → ¬ Just [g] i := fun i hi hj => by have := List.mem_singleton.1 hj; omega
theorem just_ne {g g' : Nat} (h : g' ≠ g) : ¬ Just [g] g' := fun hj => h (List.mem_singleton.1 hj)

section
variable {F G : Nat → Prop} {w w' w'' : World} {g : Nat} {o : Obj}
theorem Has.inside (h : Has w g o) : g < w.heap.size := (Array.getElem?_eq_some_iff.1 h).1
theorem Has.fresh (w : World) (o : Obj) : Has (w.alloc o) w.heap.size o := heap_alloc_new w o
theorem Has.drewN (h : Has w g o) (n : Nat) : Has (w.drewN n) g o := h
theorem Has.kept (h : Has w g o) (k : Keeps F w w') (hg : ¬ F g) : Has w' g o := Eq.trans (k.old g h.inside hg) h
theorem Has.more (h : Has w g o) (o' : Obj) : Has (w.alloc o') g o := Eq.trans (Below.heap_alloc w o' g h.inside) h
theorem Has.below {B : Nat} (h : Has w g o) (k : Below B w w') (hg : g < B) : Has w' g o := Eq.trans (k.block g hg) h
theorem Has.apart {g' : Nat} {o' : Obj} (h : Has w g o) (h' : Has w g' o') (hne : o ≠ o') : g ≠ g' := fun e => by
  subst e
  exact hne (Option.some.inj (Eq.trans (Eq.symm h) h'))
section
variable {t : TypeId} {cs : Array Value} {fr : Nat × Nat}
theorem Has.cell (h : Has w g (.cells cs t fr)) (i : Nat) : w.cell? ⟨g, i, none⟩ = cs[i]? := cell_of_row w g i cs t fr h
theorem Has.free (h : Has w g (.cells cs t (0, 0))) (i : Nat) : w.frozen? ⟨g, i, none⟩ = false := by
  have h' : w.heap[g]? = some (.cells cs t (0, 0)) := h
  simp [World.frozen?, h']
theorem Has.stored (h : Has w g (.cells cs t fr)) (i : Nat) (u : Value) : Has (w.setCell ⟨g, i, none⟩ u) g (.cells (cs.setIfInBounds i u) t fr) := by
  have h' : w.heap[g]? = some (.cells cs t fr) := h
  simp [Has, World.setCell, Array.getElem?_modify, h']
end
theorem Has.aside (h : Has w g o) {p : Addr} (hp : g ≠ p.block) (u : Value) : Has (w.setCell p u) g o := Eq.trans (Below.heap_setCell w p u g hp) h

theorem Keeps.refl (F : Nat → Prop) (w : World) : Keeps F w w := ⟨⟨rfl, rfl, rfl⟩, Nat.le_refl _, fun _ _ _ => rfl⟩
theorem Keeps.wide (k : Keeps F w w') (h : ∀ i, i < w.heap.size → F i → G i) : Keeps G w w' := ⟨k.frame, k.grows, fun i hi hn => k.old i hi fun hF => hn (h i hi hF)⟩
theorem Keeps.trans (k : Keeps F w w') (k' : Keeps G w' w'') (h : ∀ i, i < w.heap.size → G i → F i) : Keeps F w w'' :=
  ⟨⟨k'.frame.1.trans k.frame.1, k'.frame.2.1.trans k.frame.2.1, k'.frame.2.2.trans k.frame.2.2⟩, Nat.le_trans k.grows k'.grows,
    fun i hi hn => (k'.old i (Nat.lt_of_lt_of_le hi k.grows) fun hG => hn (h i hi hG)).trans (k.old i hi hn)⟩
theorem Keeps.also (k : Keeps F w w') (k' : Keeps F w' w'') : Keeps F w w'' := k.trans k' fun _ _ h => h
theorem Keeps.drewN (k : Keeps F w w') (n : Nat) : Keeps F w (w'.drewN n) := ⟨k.frame, k.grows, k.old⟩
theorem Keeps.drew (k : Keeps F w w') : Keeps F w w'.drew := ⟨k.frame, k.grows, k.old⟩
theorem Keeps.alloc (k : Keeps F w w') (o : Obj) : Keeps F w (w'.alloc o) :=
  ⟨k.frame, Nat.le_trans k.grows (by simp), fun i hi hn => (Below.heap_alloc w' o i (Nat.lt_of_lt_of_le hi k.grows)).trans (k.old i hi hn)⟩
theorem Keeps.store (k : Keeps F w w') {p : Addr} (hp : F p.block ∨ w.heap.size ≤ p.block) (u : Value) : Keeps F w (w'.setCell p u) :=
  ⟨k.frame, by simpa [World.setCell] using k.grows, fun i hi hn => (Below.heap_setCell w' p u i (by
    rintro rfl
    exact hp.elim hn fun h => by omega)).trans (k.old i hi hn)⟩
theorem Keeps.store1 (k : Keeps (Just [g]) w w') (i : Nat) (u : Value) : Keeps (Just [g]) w (w'.setCell ⟨g, i, none⟩ u) := k.store (.inl (just_one g)) u
theorem Keeps.of_below {B : Nat} (k : Below B w w') (h : ∀ i, i < w.heap.size → B ≤ i → F i) : Keeps F w w' :=
  ⟨⟨k.os, k.tape, k.output⟩, k.size, fun i hi hn => k.block i ((Nat.lt_or_ge i B).elim id fun hge => absurd (h i hi hge) hn)⟩
/-- What has turned lies above. -/
theorem below_then {B : Nat} (h : Below B w w') (k : Keeps F w' w'') (hB : B ≤ w'.heap.size) (hF : ∀ i, i < B → ¬ F i) : Below B w w'' :=
  ⟨k.frame.1.trans h.os, k.frame.2.1.trans h.tape, k.frame.2.2.trans h.output, Nat.le_trans h.size k.grows, fun i hi => (k.old i (Nat.lt_of_lt_of_le hi hB) (hF i hi)).trans (h.block i hi)⟩
theorem below_draws {B : Nat} {a w : World} (h : Below B a w) (n : Nat) : Below B a (w.drewN n) := ⟨h.os, h.tape, h.output, h.size, h.block⟩
end
end Go.Proofs.Ytboibehnfcbbbaa

namespace Go.Proofs.Ytboibehnfcbbbaa
open Go Go.ChangeShapes Go.WideShapes Go.ChangeAt Go.RowKit

/-- The slice's place number i, below block B, holds v. -/
def At (w : World) (B : Nat) (A : Option Addr) (i : Nat) (v : Value) : Prop := ∃ b off, A = some ⟨b, off, none⟩ ∧ b < B ∧ w.cell? ⟨b, off + i, none⟩ = some v
/-- A list of numbers that came in: at each place its number. -/
def Nums (w : World) (B : Nat) (A : Option Addr) (k : IntKind) (xs : List Int) : Prop := ∀ i (h : i < xs.length), At w B A i (.int k xs[i])

theorem At.below {w w' : World} {B : Nat} {A : Option Addr} {i : Nat} {v : Value} (h : At w B A i v) (hb : Below B w w') : At w' B A i v := by
  obtain ⟨b, off, e, hB, hc⟩ := h
  exact ⟨b, off, e, hB, (hb.cell (p := ⟨b, off + i, none⟩) hB).trans hc⟩

theorem Nums.below {w w' : World} {B : Nat} {A : Option Addr} {k : IntKind} {xs : List Int} (h : Nums w B A k xs) (hb : Below B w w') : Nums w' B A k xs := fun i hi => (h i hi).below hb

theorem Nums.mono {w : World} {B B' : Nat} {A : Option Addr} {k : IntKind} {xs : List Int} (h : Nums w B A k xs) (hb : B ≤ B') : Nums w B' A k xs := fun i hi => by
  obtain ⟨b, off, e, hB, hc⟩ := h i hi
  exact ⟨b, off, e, Nat.lt_of_lt_of_le hB hb, hc⟩

/-- Out of the row's reading. -/
theorem nums_in {P : Program} {H : Type} {enc : TypeId × Value → H} {W : World} {sp : Nat → Bool} {held : Bool} {fuel : Nat} {t e : TypeId} {k : IntKind} {A : Option Addr} {n cap : Nat} {x : DataW H × List MemPlace}
    (ht : P.underlying t = some (.slice e)) (he : P.underlying e = some (.int k)) (h1 : P.cellsOf e = 1)
    (hf : DataW.trod enc P W 0 sp held fuel t [.slice A n cap] = some x) (hx : ∀ y ∈ x.2, y.block < W.heap.size) :
    ∃ xs : List Int, xs.length = n ∧ Nums W W.heap.size A k xs ∧ (∀ z ∈ xs, (Lit.int k z).wf = true) ∧ n ≤ cap ∧ n ≤ maxLen := by
  rcases open_ints ht he h1 hf with ⟨hv, _⟩ | ⟨a, n', cap', zs, hv, _, hl, hm, hz, hxe, hcell, hws⟩
  · obtain ⟨rfl, rfl, rfl⟩ : A = none ∧ n = 0 ∧ cap = 0 := by simpa using hv
    exact ⟨[], rfl, fun i h => absurd h (Nat.not_lt_zero i), fun z h => absurd h (by simp), Nat.le_refl 0, Nat.zero_le _⟩
  · obtain ⟨rfl, rfl, rfl⟩ : A = some a ∧ n = n' ∧ cap = cap' := by simpa using hv
    have hge : n ≤ zs.length := by rw [hz]; split <;> omega
    refine ⟨zs.take n, by rw [List.length_take]; omega, fun i hi => ?_, fun z h => hws z (List.mem_of_mem_take h), hl, Nat.le_trans hl hm⟩
    rw [List.length_take] at hi
    have hi' : i < zs.length := by omega
    have hc := hcell i hi'
    have hc0 := hcell 0 (by omega)
    obtain ⟨b, off, spot⟩ := a
    obtain rfl : spot = none := by simpa [Addr.add] using World.cell?_spot hc0
    rw [Addr.add_lit] at hc
    refine ⟨b, off, rfl, hx (.cell b off) (by rw [hxe]; exact MemPlace.mem_row.2 ⟨0, by omega, by simp⟩), hc.trans ?_⟩
    rw [List.getElem_take, List.getD_eq_getElem?_getD, List.getElem?_eq_getElem hi']
    rfl

theorem Keeps.storeAt {F : Nat → Prop} {w w' : World} {g : Nat} (k : Keeps F w w') (h : F g) (i : Nat) (u : Value) : Keeps F w (w'.setCell ⟨g, i, none⟩ u) := k.store (.inl h) u
/-- What an append leaves. -/
theorem Keeps.of_grown {w w' : World} {row : Option Nat} (h : w.grownBy w' row) : Keeps (fun i => row = some i) w w' :=
  ⟨⟨h.os, h.tape, h.output⟩, h.size, fun i hi hn => h.block i hi fun e => hn e.symm⟩
/-- A row of the call's own is kept where its block is. -/
theorem own_kept {F : Nat → Prop} {w w' : World} {base n size : Nat} {e : TypeId} {v : Value} {xs : List Value} (h : w.ownsRow base e size v n xs) (k : Keeps F w w') (hF : ∀ g, v.ownBlock = some g → ¬ F g) : w'.ownsRow base e size v n xs := by
  refine ⟨h.1, ?_⟩
  rcases h.2 with hn | ⟨g, cap, cur, rfl, hb, hg, rest⟩
  · exact .inl hn
  · exact .inr ⟨g, cap, cur, rfl, hb, Has.kept hg k (hF g rfl), rest⟩
end Go.Proofs.Ytboibehnfcbbbaa

namespace Go.Proofs.Ytboibehnfcbbbaa
open Go Go.RowKit

/-- Is a number in a list? -/
def hasB (xs : List Int) (x : Int) : Bool := decide (x ∈ xs)
/-- A list of numbers of the call's own, in a block that G names. -/
def Kids (G : Nat → Prop) (w : World) (v : Value) (xs : List Int) : Prop := w.ownsRow 0 3 1 v xs.length (xs.map (Value.int .i64)) ∧ ∀ g, v.ownBlock = some g → G g
/-- All blocks from B on G names. -/
def Fut (G : Nat → Prop) (B : Nat) : Prop := ∀ i, B ≤ i → G i
theorem Fut.mono {G : Nat → Prop} {B B' : Nat} (h : Fut G B) (hb : B ≤ B') : Fut G B' := fun i hi => h i (Nat.le_trans hb hi)
theorem Fut.any (B : Nat) : Fut (fun _ => True) B := fun _ _ => trivial

section
variable {G : Nat → Prop} {w w' : World} {F : Nat → Prop} {B B' base n size : Nat} {e : TypeId} {v : Value} {xs : List Int} {us : List Value}
theorem own_in (h : w.ownsRow base e size v n us) : ∀ g, v.ownBlock = some g → g < w.heap.size := fun g hg => (h.lt g hg).2
theorem own_base (h : w.ownsRow base e size v n us) (hb : B ≤ base) : w.ownsRow B e size v n us := by
  refine ⟨h.1, h.2.imp id fun ⟨g, cap, cur, hv, hg, rest⟩ => ⟨g, cap, cur, hv, Nat.le_trans hb hg, rest⟩⟩
theorem own_from (h : w.ownsRow base e size v n us) (hb : ∀ g, v.ownBlock = some g → B ≤ g) : w.ownsRow B e size v n us := by
  refine ⟨h.1, h.2.imp id fun ⟨g, cap, cur, hv, _, rest⟩ => ⟨g, cap, cur, hv, hb g (by rw [hv]; rfl), rest⟩⟩
theorem Kids.kept (h : Kids G w v xs) (k : Keeps F w w') (hF : ∀ i, i < w.heap.size → ¬ F i) : Kids G w' v xs := ⟨own_kept h.1 k fun g hg => hF g (own_in h.1 g hg), h.2⟩
theorem Kids.keptG (h : Kids G w v xs) (k : Keeps F w w') (hF : ∀ i, G i → i < w.heap.size → ¬ F i) : Kids G w' v xs := ⟨own_kept h.1 k fun g hg => hF g (h.2 g hg) (own_in h.1 g hg), h.2⟩
theorem Kids.wide {G' : Nat → Prop} (h : Kids G w v xs) (hG : ∀ i, G i → i < w.heap.size → G' i) : Kids G' w v xs := ⟨h.1, fun g hg => hG g (h.2 g hg) (own_in h.1 g hg)⟩
theorem Kids.aside {g i : Nat} {u : Value} {cs : Array Value} {t : TypeId} {fr : Nat × Nat} (h : Kids G w v xs) (hg : Has w g (.cells cs t fr)) (ht : t ≠ 3) : Kids G (w.setCell ⟨g, i, none⟩ u) v xs :=
  ⟨own_kept h.1 (Keeps.storeAt (F := fun j => j = g) (Keeps.refl _ _) rfl i u) fun g' hg' e => by
    rcases h.1.2 with ⟨rfl, _⟩ | ⟨g2, cap, cur, rfl, _, hh, _⟩
    · cases hg'
    · obtain rfl : g2 = g' := by simpa [Value.ownBlock] using hg'
      exact Has.apart hg hh (fun e => ht (by injection e)) e.symm, h.2⟩
theorem Kids.below (h : Kids G w v xs) (k : Below w.heap.size w w') : Kids G w' v xs := h.kept (Keeps.of_below (F := fun i => w.heap.size ≤ i) k fun _ _ h => h) fun _ hi => Nat.not_le.2 hi
/-- A list of the call's own may be read. -/
theorem Kids.form (h : Kids G w v xs) : ∃ A c, v = .slice A xs.length c ∧ xs.length ≤ c ∧ Nums w w.heap.size A .i64 xs := by
  have h := h.1
  rcases h.2 with ⟨rfl, h0⟩ | ⟨g, cap, cur, rfl, _, hh, hc, _⟩
  · exact ⟨none, 0, by rw [h0], by omega, fun i hi => by omega⟩
  · refine ⟨_, cap, rfl, hc, fun i hi => ⟨g, 0, rfl, Has.inside hh, ?_⟩⟩
    rw [Nat.zero_add, h.cellAt i (by omega), List.getElem?_map, List.getElem?_eq_getElem hi]
    rfl
end
theorem own_empty (w : World) : (w.alloc (.cells #[] 3)).ownsRow w.heap.size 3 1 (.slice (some ⟨w.heap.size, 0, none⟩) 0 0) 0 [] :=
  ⟨rfl, .inr ⟨w.heap.size, 0, #[], rfl, Nat.le_refl _, Has.fresh w (.cells #[] 3), Nat.le_refl _, Nat.zero_le _, rfl, rfl⟩⟩
theorem wrap_small {n : Int} (h0 : -9223372036854775808 ≤ n) (h1 : n ≤ 9223372036854775807) : IntKind.i64.wrap n = n := by
  rw [IntKind.wrap_i64]
  omega
section
variable {w : World} {base base' n n' size size' i : Nat} {e e' : TypeId} {v v' : Value} {us us' : List Value}
/-- A row lies not in a block of another kind. -/
theorem own_apart (h : w.ownsRow base e size v n us) {cs : Array Value} {t : TypeId} {fr : Nat × Nat} (hi : Has w i (.cells cs t fr)) (ht : t ≠ e) : v.ownBlock ≠ some i := fun hv => by
  rcases h.2 with ⟨rfl, _⟩ | ⟨g', cap, cur, rfl, _, hh, _⟩
  · cases hv
  · obtain rfl : g' = i := by simpa [Value.ownBlock] using hv
    exact Has.apart hh hi (fun e => ht (by injection e with _ e; exact e.symm)) rfl
theorem own_apart2 (h : w.ownsRow base e size v n us) (h' : w.ownsRow base' e' size' v' n' us') (ht : e' ≠ e) : ∀ g, v'.ownBlock = some g → v.ownBlock ≠ some g := fun g hg => by
  rcases h'.2 with ⟨rfl, _⟩ | ⟨g', cap, cur, rfl, _, hh, _⟩
  · cases hg
  · obtain rfl : g' = g := by simpa [Value.ownBlock] using hg
    exact own_apart h hh ht
end
end Go.Proofs.Ytboibehnfcbbbaa

namespace Go.Proofs.Ytboibehnfcbbbaa
open Go Go.ChangeShapes Go.WideShapes Go.ChangeAt Go.RowKit
variable {G : Nat → Prop}

/-- What a slice gives to an append: m elements of so many cells; nil gives none. -/
def Gives (w : World) (size : Nat) (x : Value) (m : Nat) (us : List Value) : Prop :=
  (x = .slice none 0 0 ∧ m = 0 ∧ us = []) ∨ ∃ ad c, x = .slice (some ad) m c ∧ us.length = m * size ∧ ∀ j u, us[j]? = some u → w.cell? (ad.add j) = some u

theorem own_gives {w : World} {base n size : Nat} {e : TypeId} {v : Value} {us : List Value} (h : w.ownsRow base e size v n us) : Gives w size v n us := by
  rcases h.2 with ⟨rfl, rfl⟩ | ⟨g, cap, cur, rfl, _, hg, _⟩
  · exact .inl ⟨rfl, rfl, List.eq_nil_of_length_eq_zero (by simpa using h.1)⟩
  · exact .inr ⟨_, _, rfl, h.1, h.cells rfl⟩
theorem nums_gives {w : World} {B n c : Nat} {A : Option Addr} {xs : List Int} (h : Nums w B A .i64 xs) (hn : n = xs.length) (h0 : A = none → c = 0) : Gives w 1 (.slice A n c) n (xs.map (Value.int .i64)) := by
  subst hn
  cases A with
  | none =>
    obtain rfl := h0 rfl
    have : xs = [] := by
      cases xs with
      | nil => rfl
      | cons x r =>
        obtain ⟨_, _, e, _⟩ := h 0 (by simp)
        cases e
    subst this
    exact .inl ⟨rfl, rfl, rfl⟩
  | some a =>
    refine .inr ⟨a, c, rfl, by simp, fun j u hu => ?_⟩
    obtain ⟨hj, rfl⟩ := List.getElem?_eq_some_iff.1 hu
    rw [List.length_map] at hj
    obtain ⟨b, off, e, _, hc⟩ := h j hj
    cases e
    rw [Addr.add_lit, hc, List.getElem_map]

theorem wpList_append_gives {P : Program} {w : World} {ops : Array Oper} {rest : List Oper} {o : Oper} {a : Act} {Q : Exit → Act → World → Prop} (hgd : o.guard = none) (s x : Operand) (t : TypeId)
    (ho : o.op = .call { callee := .builtin .append, args := #[s, x], argTypes := #[t, t] })
    (base : Nat) (e : TypeId) (i : TypeInfo) (z : Value) (size bytes : Nat) (ht : P.underlying t = some (.slice e)) (hi : P.info? e = some i) (hz : i.zero = some z)
    (hsize : i.size = size) (hby : i.bytes = bytes) (hzs : z.cells.size = size) (hsz : 0 < size)
    (v : Value) (n : Nat) (xs : List Value) (hs : a.eval s = v) (hown : w.ownsRow base e size v n xs)
    (X : Value) (m : Nat) (us : List Value) (hx : a.eval x = X) (hG : Gives w size X m us) (h1 : ∀ u ∈ us, u.oneCell' = true)
    (h63 : n + m ≤ maxLen) (hbytes : (n + m) * bytes ≤ 140737488355328) (hbase : base ≤ w.heap.size)
    (h : ∀ v' w', w'.ownsRow base e size v' (n + m) (xs ++ us) → w.grownBy w' v.ownBlock → wpList P ops Q rest (a.put o.dst v') w') : wpList P ops Q (o :: rest) a w := by
  rcases hG with ⟨rfl, rfl, rfl⟩ | ⟨ad, c, rfl, hl, hc⟩
  · refine wpList_append_own_none hgd s x t ho base e i size ht hi v n xs hs hown hx (h v w ?_ ⟨rfl, rfl, rfl, Nat.le_refl _, fun _ _ _ => rfl⟩)
    rw [List.append_nil]
    exact hown
  · exact wpList_append_own w hgd s x t ho base e i z size bytes ht hi hz hsize hby hzs hsz v n xs hs hown ad m c us hx hl hc h1 h63 hbytes hbase fun v' w' h2 h3 _ => h v' w' h2 h3

theorem own_form {w : World} {base n size : Nat} {e : TypeId} {v : Value} {us : List Value} (h : w.ownsRow base e size v n us) : ∃ A c, v = .slice A n c ∧ n ≤ c := by
  rcases h.2 with ⟨rfl, rfl⟩ | ⟨g, cap, cur, rfl, _, _, hc, _⟩
  · exact ⟨_, _, rfl, Nat.le_refl _⟩
  · exact ⟨_, _, rfl, hc⟩

theorem Try.infoInt : (Try.prog.info? 3).map (fun i => (i.zero, i.size, i.bytes)) = some (some (.int .i64 0), 1, 8) := by kernel_rfl

theorem kids_one (xs : List Int) : ∀ u ∈ xs.map (Value.int .i64), u.oneCell' = true := by
  intro u hu
  obtain ⟨x, _, rfl⟩ := List.mem_map.1 hu
  rfl
theorem Kids.one {w : World} {v : Value} {xs : List Int} (h : Kids G w v xs) : v.oneCell' = true := by
  rcases h.1.2 with ⟨rfl, _⟩ | ⟨g, cap, cur, rfl, _⟩ <;> rfl

/-- A new list of numbers, and nothing else. -/
theorem kids_new {wr w2 : World} {v2 : Value} {kd : List Int} (ho : w2.ownsRow wr.heap.size 3 1 v2 (0 + kd.length) ([] ++ kd.map (Value.int .i64))) (hg : (wr.alloc (.cells #[] 3)).grownBy w2 (some wr.heap.size)) (hG : Fut G wr.heap.size) :
    Kids G w2 v2 kd ∧ Below wr.heap.size wr w2 ∧ wr.heap.size < w2.heap.size := by
  rw [Nat.zero_add, List.nil_append] at ho
  refine ⟨⟨own_base ho (Nat.zero_le _), fun g hg => hG g (ho.lt g hg).1⟩, ((Below.refl _ wr).alloc (Nat.le_refl _) _).grown hg (by simp) fun k hk => ?_, ?_⟩
  · have : wr.heap.size = k := by simpa using hk
    omega
  · have := hg.size
    simp at this
    omega
theorem cell_in {w : World} {a : Addr} {v : Value} (h : w.cell? a = some v) : a.block < w.heap.size := by
  rcases Nat.lt_or_ge a.block w.heap.size with h' | h'
  · exact h'
  · rw [World.cell?, Array.getElem?_eq_none h'] at h
    cases h

/-- A list of numbers within what came in. -/
structure ListIn (w : World) (A : Option Addr) (c : Nat) (xs : List Int) : Prop where
  cap : xs.length ≤ c
  nil : A = none → c = 0
  nums : Nums w w.heap.size A .i64 xs

section
variable {H : Type} {enc : TypeId × Value → H} {W : World} {sp : Nat → Bool} {held : Bool} {fuel : Nat} {cs : List Value} {y : DataW H × List MemPlace}


/-- One cell of a row, by its part. -/
theorem part_one {cs : List Value} {i n : Nat} {v : Value} (h : (cs.drop i).take n = [v]) (hn : n = 1) : cs[i]? = some v := by
  subst hn
  have : ((cs.drop i).take 1)[0]? = some v := by rw [h]; rfl
  rw [List.getElem?_take, if_pos (by omega), List.getElem?_drop] at this
  exact this

end
theorem ListIn.below {w w' : World} {A : Option Addr} {c : Nat} {xs : List Int} (h : ListIn w A c xs) (hb : Below w.heap.size w w') : ListIn w' A c xs := ⟨h.cap, h.nil, (h.nums.below hb).mono hb.size⟩
theorem listNone (W : World) : ListIn W none 0 [] := ⟨Nat.le_refl 0, fun _ => rfl, fun i hi => absurd hi (Nat.not_lt_zero i)⟩
/-- A literal of numbers. -/
theorem listLit {W : World} {b : Nat} {t : TypeId} {fr : Nat × Nat} {xs : List Int} (hh : Has W b (.cells (xs.map (Value.int .i64)).toArray t fr)) : ListIn W (some ⟨b, 0, none⟩) xs.length xs :=
  ⟨Nat.le_refl _, (fun e => by cases e), fun i hi => ⟨b, 0, rfl, hh.inside, by rw [hh.cell, Nat.zero_add, List.getElem?_toArray, List.getElem?_map, List.getElem?_eq_getElem hi]; rfl⟩⟩
/-- A list that lies elsewhere stays. -/
theorem ListIn.kept {S : Nat → Prop} {w w' : World} {A : Option Addr} {c : Nat} {xs : List Int} (h : ListIn w A c xs) (k : Keeps S w w') (hA : 0 < xs.length → ∀ b' off s, A = some ⟨b', off, s⟩ → b' < w.heap.size → ¬ S b') : ListIn w' A c xs :=
  ⟨h.cap, h.nil, fun i hi => by
    obtain ⟨b', off, e, hb, hc⟩ := h.nums i hi
    refine ⟨b', off, e, Nat.lt_of_lt_of_le hb k.grows, ?_⟩
    have ho := k.old b' hb (hA (by omega) _ _ _ e hb)
    rw [← hc]
    unfold World.cell?
    simp only [ho]⟩
end Go.Proofs.Ytboibehnfcbbbaa

namespace Go.Proofs.Ytboibehnfcbbbaa
open Go Go.RowKit

/-- A record's cells. -/
structure Rec (α : Type) where
  cells : α → List Value
  n : Nat
  len : ∀ a, (cells a).length = n
  one : ∀ a, ∀ u ∈ cells a, u.oneCell' = true
  pos : 0 < n
def flatR {α : Type} (R : Rec α) (xs : List α) : List Value := xs.flatMap R.cells
section
variable {α : Type} {R : Rec α} {xs ys : List α} {x y : α} {i f : Nat} {u : Value}
theorem flatR_cons : flatR R (x :: xs) = R.cells x ++ flatR R xs := by simp [flatR]
theorem flatR_append : flatR R (xs ++ ys) = flatR R xs ++ flatR R ys := by simp [flatR]
theorem flatR_one : flatR R [x] = R.cells x := by simp [flatR]
theorem flatR_length : ∀ xs : List α, (flatR R xs).length = xs.length * R.n
  | [] => by simp [flatR]
  | x :: r => by rw [flatR_cons, List.length_append, flatR_length r, R.len, List.length_cons, Nat.add_mul, Nat.one_mul, Nat.add_comm]
theorem flatR_get : ∀ {xs : List α} {i : Nat}, xs[i]? = some x → f < R.n → (flatR R xs)[i * R.n + f]? = (R.cells x)[f]?
  | [], i, h, _ => by simp at h
  | z :: r, 0, h, hf => by
    obtain rfl : z = x := by simpa using h
    rw [flatR_cons, List.getElem?_append_left (by rw [R.len]; omega), Nat.zero_mul, Nat.zero_add]
  | z :: r, i + 1, h, hf => by
    have e : (i + 1) * R.n = i * R.n + R.n := by rw [Nat.add_mul, Nat.one_mul]
    rw [flatR_cons, List.getElem?_append_right (by rw [R.len, e]; omega), R.len, show (i + 1) * R.n + f - R.n = i * R.n + f by rw [e]; omega]
    exact flatR_get (by simpa using h) hf
theorem flatR_set : ∀ {xs : List α} {i : Nat}, xs[i]? = some x → f < R.n → R.cells y = (R.cells x).set f u → flatR R (xs.set i y) = (flatR R xs).set (i * R.n + f) u
  | [], i, h, _, _ => by simp at h
  | z :: r, 0, h, hf, hc => by
    obtain rfl : z = x := by simpa using h
    rw [List.set_cons_zero, flatR_cons, flatR_cons, List.set_append_left _ _ (by rw [R.len]; omega), Nat.zero_mul, Nat.zero_add, hc]
  | z :: r, i + 1, h, hf, hc => by
    have e : (i + 1) * R.n = i * R.n + R.n := by rw [Nat.add_mul, Nat.one_mul]
    rw [List.set_cons_succ, flatR_cons, flatR_cons, List.set_append_right _ _ (by rw [R.len, e]; omega), R.len, show (i + 1) * R.n + f - R.n = i * R.n + f by rw [e]; omega]
    rw [flatR_set (by simpa using h) hf hc]
theorem flatR_ones : ∀ u ∈ flatR R xs, u.oneCell' = true := fun u hu => by
  obtain ⟨a, _, hu⟩ := List.mem_flatMap.1 hu
  exact R.one a u hu
end

/-- A list of records of the call's own. -/
def Recs {α : Type} (R : Rec α) (e : TypeId) (base : Nat) (w : World) (v : Value) (xs : List α) : Prop := w.ownsRow base e R.n v xs.length (flatR R xs)
/-- A list of records that may be read. -/
structure RecIn {α : Type} (R : Rec α) (w : World) (A : Option Addr) (c : Nat) (xs : List α) : Prop where
  cap : xs.length ≤ c
  nil : A = none → c = 0
  at_ : ∀ i (h : i < xs.length), ∃ b off, A = some ⟨b, off, none⟩ ∧ b < w.heap.size ∧ ∀ f, f < R.n → w.cell? ⟨b, off + (i * R.n + f), none⟩ = (R.cells xs[i])[f]?
section
variable {α : Type} {R : Rec α} {e : TypeId} {base : Nat} {w w' : World} {v : Value} {xs : List α} {x y : α} {F : Nat → Prop} {A : Option Addr} {c i f : Nat} {u : Value}
theorem Recs.nil (R : Rec α) (e : TypeId) (base : Nat) (w : World) : Recs R e base w (.slice none 0 0) [] := World.ownsRow_nil _ _ _ _
theorem Recs.kept (h : Recs R e base w v xs) (k : Keeps F w w') (hF : ∀ g, v.ownBlock = some g → ¬ F g) : Recs R e base w' v xs := own_kept h k hF
theorem Recs.in_ (h : Recs R e base w v xs) : ∀ g, v.ownBlock = some g → base ≤ g ∧ g < w.heap.size := fun g hg => h.lt g hg
theorem Recs.below (h : Recs R e base w v xs) (k : Below w.heap.size w w') : Recs R e base w' v xs := h.kept (Keeps.of_below (F := fun i => w.heap.size ≤ i) k fun _ _ h => h) fun g hg => Nat.not_le.2 (h.in_ g hg).2
theorem Recs.drewN (h : Recs R e base w v xs) (n : Nat) : Recs R e base (w.drewN n) v xs := h
theorem Recs.lit (R : Rec α) (e : TypeId) (w : World) (x : α) : Recs R e w.heap.size (w.alloc (.cells (R.cells x).toArray e)) (.slice (some ⟨w.heap.size, 0, none⟩) 1 1) [x] :=
  ⟨by rw [flatR_length], .inr ⟨w.heap.size, 1, (R.cells x).toArray, rfl, Nat.le_refl _, Has.fresh w (.cells (R.cells x).toArray e), Nat.le_refl _, by unfold maxLen; omega, by simp [R.len], by
    rw [flatR_one]
    simp only [List.length_cons, List.length_nil, Nat.zero_add, Nat.one_mul]
    rw [List.take_of_length_le (by rw [R.len]; exact Nat.le_refl _)]⟩⟩
theorem Recs.form (h : Recs R e base w v xs) : ∃ A c, v = .slice A xs.length c ∧ RecIn R w A c xs := by
  rcases h.2 with ⟨rfl, h0⟩ | ⟨g, cap, cur, rfl, _, hh, hc, _⟩
  · have hx : xs = [] := List.length_eq_zero_iff.1 h0
    subst hx
    exact ⟨none, 0, rfl, Nat.le_refl _, fun _ => rfl, fun i hi => absurd hi (Nat.not_lt_zero i)⟩
  · refine ⟨_, cap, rfl, hc, (fun e => by cases e), fun i hi => ⟨g, 0, rfl, Has.inside hh, fun f hf => ?_⟩⟩
    have hl : i * R.n + f < xs.length * R.n := by
      have : (i + 1) * R.n ≤ xs.length * R.n := Nat.mul_le_mul_right _ hi
      rw [Nat.add_mul, Nat.one_mul] at this
      omega
    rw [Nat.zero_add, h.cellAt _ hl, flatR_get (List.getElem?_eq_getElem hi) hf]
theorem RecIn.below (h : RecIn R w A c xs) (hb : Below w.heap.size w w') : RecIn R w' A c xs := ⟨h.cap, h.nil, fun i hi => by
  obtain ⟨b, off, e, hB, hc⟩ := h.at_ i hi
  exact ⟨b, off, e, Nat.lt_of_lt_of_le hB hb.size, fun f hf => (hb.cell (p := ⟨b, _, none⟩) hB).trans (hc f hf)⟩⟩
theorem RecIn.none_ (R : Rec α) (w : World) : RecIn R w none 0 [] := ⟨Nat.le_refl 0, fun _ => rfl, fun i hi => absurd hi (Nat.not_lt_zero i)⟩
theorem RecIn.kept (h : RecIn R w A c xs) (k : Keeps F w w') (hA : 0 < xs.length → ∀ b' off s, A = some ⟨b', off, s⟩ → b' < w.heap.size → ¬ F b') : RecIn R w' A c xs :=
  ⟨h.cap, h.nil, fun i hi => by
    obtain ⟨b', off, e, hb, hc⟩ := h.at_ i hi
    refine ⟨b', off, e, Nat.lt_of_lt_of_le hb k.grows, fun f hf => ?_⟩
    have ho := k.old b' hb (hA (by omega) _ _ _ e hb)
    rw [← hc f hf]
    unfold World.cell?
    simp only [ho]⟩
/-- One cell of one record is written. -/
theorem Recs.store {g c : Nat} (h : Recs R e base w (.slice (some ⟨g, 0, none⟩) xs.length c) xs) (hi : xs[i]? = some x) (hf : f < R.n) (hc : R.cells y = (R.cells x).set f u) : Recs R e base (w.setCell ⟨g, i * R.n + f, none⟩ u) (.slice (some ⟨g, 0, none⟩) xs.length c) (xs.set i y) := by
  have := (World.ownsRow.stored h (i * R.n + f) u).1
  unfold Recs
  rw [List.length_set, flatR_set hi hf hc]
  exact this
/-- A record is put behind, in the old row or a new one. -/
theorem run_pushR (t ty : TypeId) (i : TypeInfo) (z : Value) (bytes : Nat) {P : Program} (ht : P.underlying t = some (.slice e)) (hi : P.info? e = some i) (hz : i.zero = some z) (hsize : i.size = R.n) (hby : i.bytes = bytes) (hzs : z.cells.size = R.n)
    (h : Recs R e base w v xs) {b c : Nat} {fr : Nat × Nat} (hb : Has w b (.cells (R.cells x).toArray e fr)) (hl : xs.length ≤ 1000000) (hbb : bytes ≤ 1000000) (hbase : base ≤ w.heap.size) :
    ∃ g cap w', (Builtin.append_ #[t, t] ty #[v, .slice (some ⟨b, 0, none⟩) 1 c]).run P w = .ok (.slice (some ⟨g, 0, none⟩) (xs.length + 1) cap) w' ∧
      Recs R e base w' (.slice (some ⟨g, 0, none⟩) (xs.length + 1) cap) (xs ++ [x]) ∧ Keeps (fun i => v.ownBlock = some i) w w' ∧ (v.ownBlock = some g ∨ w.heap.size ≤ g) ∧ g < w'.heap.size := by
  have hm : (xs.length + 1) * bytes ≤ 140737488355328 := by
    have : (xs.length + 1) * bytes ≤ 1000001 * 1000000 := Nat.mul_le_mul (by omega) hbb
    omega
  obtain ⟨g, cap, w', hr, h2, h3, h4, h5⟩ := run_append_lies (P := P) w t ty base e i z R.n bytes ht hi hz hsize hby hzs R.pos v xs.length (flatR R xs) h ⟨b, 0, none⟩ 1 c (R.cells x) (by rw [R.len, Nat.one_mul]) (World.news_of_block hb) (R.one x) (by decide) (by unfold maxLen; omega) hm hbase _ rfl
  refine ⟨g, cap, w', hr, ?_, Keeps.of_grown h3, h4.imp id fun e => by omega, h5⟩
  unfold Recs
  rw [List.length_append, flatR_append, flatR_one]
  exact h2
theorem wpList_pushR {P : Program} {ops : Array Oper} {rest : List Oper} {o : Oper} {a : Act} {Q : Exit → Act → World → Prop} (hgd : o.guard = none) (s p : Operand) (t : TypeId)
    (ho : o.op = .call { callee := .builtin .append, args := #[s, p], argTypes := #[t, t] }) (i : TypeInfo) (z : Value) (bytes : Nat) (ht : P.underlying t = some (.slice e)) (hi : P.info? e = some i) (hz : i.zero = some z) (hsize : i.size = R.n) (hby : i.bytes = bytes) (hzs : z.cells.size = R.n)
    (hs : a.eval s = v) (h : Recs R e base w v xs) {b c : Nat} {fr : Nat × Nat} (hx : a.eval p = .slice (some ⟨b, 0, none⟩) 1 c) (hb : Has w b (.cells (R.cells x).toArray e fr)) (hl : xs.length ≤ 1000000) (hbb : bytes ≤ 1000000) (hbase : base ≤ w.heap.size)
    (hK : ∀ g cap w', Recs R e base w' (.slice (some ⟨g, 0, none⟩) (xs.length + 1) cap) (xs ++ [x]) → Keeps (fun i => v.ownBlock = some i) w w' → (v.ownBlock = some g ∨ w.heap.size ≤ g) → g < w'.heap.size → wpList P ops Q rest (a.put o.dst (.slice (some ⟨g, 0, none⟩) (xs.length + 1) cap)) w') : wpList P ops Q (o :: rest) a w := by
  obtain ⟨g, cap, w', hr, h2, h3, h4, h5⟩ := run_pushR (c := c) (x := x) t o.type i z bytes ht hi hz hsize hby hzs h hb hl hbb hbase
  refine wpList_plain hgd fun _ hK' => ?_
  unfold Oper.wp execOp
  simp only [ho, resolve, invoke, builtin, Sem.run_bind, Sem.run_pure, Result.andThen_ok, List.map_toArray, List.map_cons, List.map_nil, hs, hx, hr]
  exact hK' _ _ (hK g cap w' h2 h3 h4 h5)
theorem wp_pushR {P : Program} {o : Oper} {a : Act} {K : Act → World → Prop} {Q : Exit → Act → World → Prop} (s p : Operand) (t : TypeId)
    (ho : o.op = .call { callee := .builtin .append, args := #[s, p], argTypes := #[t, t] }) (i : TypeInfo) (z : Value) (bytes : Nat) (ht : P.underlying t = some (.slice e)) (hi : P.info? e = some i) (hz : i.zero = some z) (hsize : i.size = R.n) (hby : i.bytes = bytes) (hzs : z.cells.size = R.n)
    (hs : a.eval s = v) (h : Recs R e base w v xs) {b c : Nat} {fr : Nat × Nat} (hx : a.eval p = .slice (some ⟨b, 0, none⟩) 1 c) (hb : Has w b (.cells (R.cells x).toArray e fr)) (hl : xs.length ≤ 1000000) (hbb : bytes ≤ 1000000) (hbase : base ≤ w.heap.size)
    (hK : ∀ g cap w', Recs R e base w' (.slice (some ⟨g, 0, none⟩) (xs.length + 1) cap) (xs ++ [x]) → Keeps (fun i => v.ownBlock = some i) w w' → (v.ownBlock = some g ∨ w.heap.size ≤ g) → g < w'.heap.size → K (a.put o.dst (.slice (some ⟨g, 0, none⟩) (xs.length + 1) cap)) w') : o.wp P a w K Q := by
  obtain ⟨g, cap, w', hr, h2, h3, h4, h5⟩ := run_pushR (c := c) (x := x) t o.type i z bytes ht hi hz hsize hby hzs h hb hl hbb hbase
  unfold Oper.wp execOp
  simp only [ho, resolve, invoke, builtin, Sem.run_bind, Sem.run_pure, Result.andThen_ok, List.map_toArray, List.map_cons, List.map_nil, hs, hx, hr]
  exact hK g cap w' h2 h3 h4 h5
/-- What a list of records gives to an append. -/
theorem RecIn.gives {n : Nat} (h : RecIn R w A c xs) (hn : n = xs.length) : Gives w R.n (.slice A n c) n (flatR R xs) := by
  subst hn
  cases A with
  | none =>
    obtain rfl := h.nil rfl
    have hx : xs = [] := List.length_eq_zero_iff.1 (Nat.le_zero.1 h.cap)
    subst hx
    exact .inl ⟨rfl, rfl, rfl⟩
  | some a =>
    refine .inr ⟨a, c, rfl, flatR_length xs, fun j u hu => ?_⟩
    have hj : j < xs.length * R.n := by
      have := (List.getElem?_eq_some_iff.1 hu).1
      rwa [flatR_length] at this
    have hi : j / R.n < xs.length := Nat.div_lt_of_lt_mul (by rw [Nat.mul_comm]; exact hj)
    have hf : j % R.n < R.n := Nat.mod_lt _ R.pos
    have hjj : j / R.n * R.n + j % R.n = j := by rw [Nat.mul_comm]; exact Nat.div_add_mod _ _
    obtain ⟨b, off, e, _, hc⟩ := h.at_ _ hi
    cases e
    have := hc _ hf
    rw [hjj] at this
    rw [Addr.add_lit, this, ← flatR_get (List.getElem?_eq_getElem hi) hf, hjj, hu]
/-- A whole list of records is put behind. -/
theorem run_joinR {X : Value} {ys : List α} {m : Nat} (t ty : TypeId) (i : TypeInfo) (z : Value) (bytes : Nat) {P : Program} (ht : P.underlying t = some (.slice e)) (hi : P.info? e = some i) (hz : i.zero = some z) (hsize : i.size = R.n) (hby : i.bytes = bytes) (hzs : z.cells.size = R.n)
    (h : Recs R e base w v xs) (hG : Gives w R.n X m (flatR R ys)) (hm : m = ys.length) (hl : xs.length + ys.length ≤ 1000000) (hbb : bytes ≤ 1000000) (hbase : base ≤ w.heap.size) :
    ∃ v' w', (Builtin.append_ #[t, t] ty #[v, X]).run P w = .ok v' w' ∧ Recs R e base w' v' (xs ++ ys) ∧ Keeps (fun i => v.ownBlock = some i) w w' ∧ (∀ g, v'.ownBlock = some g → v.ownBlock = some g ∨ w.heap.size ≤ g) := by
  subst hm
  rcases hG with ⟨rfl, h0, h1⟩ | ⟨ad, c, rfl, h1, h2⟩
  · have hy : ys = [] := List.length_eq_zero_iff.1 h0
    subst hy
    refine ⟨v, w, run_append_owned_none w base t ty e i R.n ht hi v xs.length (flatR R xs) h, ?_, Keeps.refl _ _, fun g hg => .inl hg⟩
    rw [List.append_nil]
    exact h
  · have hb : (xs.length + ys.length) * bytes ≤ 140737488355328 := by
      have : (xs.length + ys.length) * bytes ≤ 1000000 * 1000000 := Nat.mul_le_mul hl hbb
      omega
    obtain ⟨v', w', hr, h3, h4, _, h5⟩ := run_append_own_at (P := P) w base t ty e i z R.n bytes ht hi hz hsize hby hzs R.pos v xs.length (flatR R xs) h ad ys.length c (flatR R ys) h1 h2 flatR_ones (by unfold maxLen; omega) hb hbase
    refine ⟨v', w', hr, ?_, Keeps.of_grown h4, fun g hg => ?_⟩
    · unfold Recs
      rw [List.length_append, flatR_append]
      exact h3
    · rcases h5 with h5 | h5
      · exact .inl (h5 ▸ hg)
      · right
        rw [h5] at hg
        have : w.heap.size = g := by simpa using hg
        omega
theorem wpList_joinR {X : Value} {ys : List α} {m : Nat} {P : Program} {ops : Array Oper} {rest : List Oper} {o : Oper} {a : Act} {Q : Exit → Act → World → Prop} (hgd : o.guard = none) (s p : Operand) (t : TypeId)
    (ho : o.op = .call { callee := .builtin .append, args := #[s, p], argTypes := #[t, t] }) (i : TypeInfo) (z : Value) (bytes : Nat) (ht : P.underlying t = some (.slice e)) (hi : P.info? e = some i) (hz : i.zero = some z) (hsize : i.size = R.n) (hby : i.bytes = bytes) (hzs : z.cells.size = R.n)
    (hs : a.eval s = v) (hx : a.eval p = X) (h : Recs R e base w v xs) (hG : Gives w R.n X m (flatR R ys)) (hm : m = ys.length) (hl : xs.length + ys.length ≤ 1000000) (hbb : bytes ≤ 1000000) (hbase : base ≤ w.heap.size)
    (hK : ∀ v' w', Recs R e base w' v' (xs ++ ys) → Keeps (fun i => v.ownBlock = some i) w w' → (∀ g, v'.ownBlock = some g → v.ownBlock = some g ∨ w.heap.size ≤ g) → wpList P ops Q rest (a.put o.dst v') w') : wpList P ops Q (o :: rest) a w := by
  obtain ⟨v', w', hr, h2, h3, h4⟩ := run_joinR t o.type i z bytes ht hi hz hsize hby hzs h hG hm hl hbb hbase
  refine wpList_plain hgd fun _ hK' => ?_
  unfold Oper.wp execOp
  simp only [ho, resolve, invoke, builtin, Sem.run_bind, Sem.run_pure, Result.andThen_ok, List.map_toArray, List.map_cons, List.map_nil, hs, hx, hr]
  exact hK' _ _ (hK v' w' h2 h3 h4)
end
end Go.Proofs.Ytboibehnfcbbbaa

namespace Go.Proofs.Ytboibehnfcbbbaa
open Go

/-- An entry of a path. -/
structure Stp where
  node : Int
  target : Int
  related : Int
  cr : Bool
  cs : Bool
def Stp.cells (s : Stp) : List Value := [.int .i64 s.node, .int .i64 s.target, .int .i64 s.related, .bool s.cr, .bool s.cs]
def RS : Rec Stp := ⟨Stp.cells, 5, fun _ => rfl, fun a u hu => by
  simp only [Stp.cells, List.mem_cons, List.not_mem_nil, or_false] at hu
  rcases hu with rfl | rfl | rfl | rfl | rfl <;> rfl, by decide⟩
end Go.Proofs.Ytboibehnfcbbbaa

namespace Go.Proofs.Ytboibehnfcbbbaa
open Go

/-- A text as a list with one element, or none where it is empty. -/
def filled (l : List UInt8) : List (List UInt8) := if l.isEmpty then [] else [l]
/-- What stands between blanks; cur: what was met since the last one. -/
def splitGo : List UInt8 → List UInt8 → List (List UInt8)
  | cur, [] => filled cur
  | cur, c :: r => if c = 32 then filled cur ++ splitGo [] r else splitGo (cur ++ [c]) r
def splitL (l : List UInt8) : List (List UInt8) := splitGo [] l
/-- A list of bytes as a Go text. -/
def ba (l : List UInt8) : ByteArray := ⟨l.toArray⟩
/-- Texts as cells. -/
def strs (ls : List (List UInt8)) : List Value := ls.map fun l => Value.string (ba l)

theorem strs_append (a b : List (List UInt8)) : strs (a ++ b) = strs a ++ strs b := by simp [strs]
theorem strs_length (a : List (List UInt8)) : (strs a).length = a.length := by simp [strs]
theorem filled_nil : filled [] = [] := rfl
theorem filled_of_ne {l : List UInt8} (h : l ≠ []) : filled l = [l] := by
  unfold filled
  cases l with
  | nil => exact absurd rfl h
  | cons a r => rfl
theorem filled_le (l : List UInt8) : (filled l).length ≤ 1 := by unfold filled; split <;> simp
theorem splitGo_nil (cur : List UInt8) : splitGo cur [] = filled cur := rfl
theorem splitGo_blank (cur r : List UInt8) : splitGo cur (32 :: r) = filled cur ++ splitGo [] r := by simp [splitGo]
theorem splitGo_other (cur r : List UInt8) (c : UInt8) (h : c ≠ 32) : splitGo cur (c :: r) = splitGo (cur ++ [c]) r := by simp [splitGo, h]
theorem splitGo_run (m cur r : List UInt8) (h : ∀ c ∈ m, c ≠ 32) : splitGo cur (m ++ r) = splitGo (cur ++ m) r := by
  induction m generalizing cur with
  | nil => simp
  | cons a m ih =>
    rw [List.cons_append, splitGo_other _ _ _ (h a (by simp)), ih _ (fun c hc => h c (by simp [hc]))]
    simp
theorem splitGo_len (r cur : List UInt8) : (splitGo cur r).length ≤ r.length + 1 := by
  induction r generalizing cur with
  | nil => rw [splitGo_nil]; have := filled_le cur; simp; omega
  | cons c r ih =>
    by_cases h : c = 32
    · subst h
      rw [splitGo_blank, List.length_append]
      have := filled_le cur; have := ih []; simp; omega
    · rw [splitGo_other _ _ _ h]; have := ih (cur ++ [c]); simp; omega
theorem splitL_len (l : List UInt8) : (splitL l).length ≤ l.length + 1 := splitGo_len l []

/-- The bytes of a rune that begins with no blank. -/
theorem decode_blank (s : ByteArray) (pos : Nat) (h : pos < s.size) (hb : s.data.toList[pos]? = some 32) : Utf8.decode s pos = (32, 1) := by
  have e : s[pos]'h = 32 := by
    have h2 : pos < s.data.toList.length := by rw [← Lib.size_eq]; exact h
    rw [List.getElem?_eq_getElem h2] at hb
    exact Option.some.inj hb
  rw [decode_ascii s pos h (by rw [e]; decide), e]
  rfl
theorem get!_at (s : ByteArray) (k : Nat) (h : k < s.size) : s.data.toList[k]? = some (s.get! k) := by
  have h2 : k < s.data.toList.length := by rw [← Lib.size_eq]; exact h
  rw [List.getElem?_eq_getElem h2]
  have := get_at s k h
  simp only [Nat.add_zero] at this
  rw [this]
  rfl
theorem decode_other (s : ByteArray) (pos : Nat) (h : pos < s.size) (hb : s.data.toList[pos]? ≠ some 32) :
    (Utf8.decode s pos).1 ≠ 32 ∧ 1 ≤ (Utf8.decode s pos).2 ∧ pos + (Utf8.decode s pos).2 ≤ s.size ∧
      ∀ k, k < (Utf8.decode s pos).2 → s.data.toList[pos + k]? ≠ some 32 := by
  by_cases ha : (s[pos]'h).toNat < 128
  · rw [decode_ascii s pos h ha]
    have h0 := get!_at s pos h
    have h1 := get_at s pos h
    simp only [Nat.add_zero] at h1
    rw [h1] at h0
    refine ⟨fun e => hb ?_, Nat.le_refl _, by simp only; omega, fun k hk => ?_⟩
    · rw [h0]
      congr 1
      exact UInt8.toNat_inj.1 e
    · have : k = 0 := by simp only at hk; omega
      subst this
      simpa using hb
  · have hh := decode_high s pos h (by omega)
    refine ⟨by omega, hh.2, ?_⟩
    have hc : ∀ k, pos + k < s.size → (s.get! (pos + k)).toNat / 64 = 2 → s.data.toList[pos + k]? ≠ some 32 := by
      intro k hk h2 e
      rw [get!_at s (pos + k) hk] at e
      rw [Option.some.inj e] at h2
      exact absurd h2 (by decide)
    have hn : ¬ (s.get! (pos + 0)).toNat < 128 := by rw [get_at s pos h]; exact ha
    have key : ∀ d, d = (Utf8.decode s pos).2 → pos + d ≤ s.size ∧ ∀ k, k < d → s.data.toList[pos + k]? ≠ some 32 := by
      intro d hd
      simp only [Utf8.decode, hn, if_false] at hd
      repeat' split at hd
      all_goals simp only [Bool.and_eq_true, beq_iff_eq, decide_eq_true_eq] at *
      all_goals subst hd
      all_goals refine ⟨by omega, fun k hk => ?_⟩
      all_goals
        rcases k with _ | _ | _ | _ | k
        · simpa using hb
        · first | omega | (refine hc 1 (by omega) ?_; omega)
        · first | omega | (refine hc 2 (by omega) ?_; omega)
        · first | omega | (refine hc 3 (by omega) ?_; omega)
        · omega
    exact key _ rfl

/-- One round of a walk over the runes of s: at a blank. -/
theorem step_blank (s : ByteArray) (st pos : Nat) (done : List (List UInt8)) (h : pos < s.size) (hb : s.data.toList[pos]? = some 32)
    (hi : done ++ splitGo ((s.data.toList.drop st).take (pos - st)) (s.data.toList.drop pos) = splitL s.data.toList) :
    (done ++ filled ((s.data.toList.drop st).take (pos - st))) ++ splitGo ((s.data.toList.drop (pos + 1)).take (pos + 1 - (pos + 1))) (s.data.toList.drop (pos + 1)) = splitL s.data.toList := by
  rw [← hi]
  have h2 : pos < s.data.toList.length := by rw [← Lib.size_eq]; exact h
  rw [List.drop_eq_getElem_cons h2]
  have e : s.data.toList[pos] = 32 := by
    rw [List.getElem?_eq_getElem h2] at hb; exact Option.some.inj hb
  rw [e, splitGo_blank]
  simp
/-- At another rune. -/
theorem step_other (s : ByteArray) (st pos d : Nat) (done : List (List UInt8)) (h : pos + d ≤ s.size) (hst : st ≤ pos) (hb : ∀ k, k < d → s.data.toList[pos + k]? ≠ some 32)
    (hi : done ++ splitGo ((s.data.toList.drop st).take (pos - st)) (s.data.toList.drop pos) = splitL s.data.toList) :
    done ++ splitGo ((s.data.toList.drop st).take (pos + d - st)) (s.data.toList.drop (pos + d)) = splitL s.data.toList := by
  rw [← hi]
  have h2 : pos + d ≤ s.data.toList.length := by rw [← Lib.size_eq]; exact h
  have e1 : s.data.toList.drop pos = (s.data.toList.drop pos).take d ++ s.data.toList.drop (pos + d) := by
    rw [← List.drop_drop, List.take_append_drop]
  have e2 : (s.data.toList.drop st).take (pos + d - st) = (s.data.toList.drop st).take (pos - st) ++ (s.data.toList.drop pos).take d := by
    have : pos + d - st = (pos - st) + d := by omega
    rw [this, List.take_add, List.drop_drop]
    congr 3
    omega
  rw [e1, splitGo_run _ _ _ ?_, e2]
  intro c hc
  obtain ⟨k, hk, rfl⟩ := List.mem_iff_getElem.1 hc
  rw [List.length_take] at hk
  have := hb k (by omega)
  rw [List.getElem_take, List.getElem_drop]
  intro e
  exact this (by rw [List.getElem?_eq_getElem (by omega), e])
/-- At the end. -/
theorem step_end (s : ByteArray) (st pos : Nat) (done : List (List UInt8)) (h : s.size ≤ pos) (hst : st ≤ pos)
    (hi : done ++ splitGo ((s.data.toList.drop st).take (pos - st)) (s.data.toList.drop pos) = splitL s.data.toList) :
    done ++ filled (s.data.toList.drop st) = splitL s.data.toList := by
  rw [← hi]
  have h2 : s.data.toList.length ≤ pos := by rw [← Lib.size_eq]; exact h
  rw [List.drop_eq_nil_of_le h2, splitGo_nil, List.take_of_length_le (by rw [List.length_drop]; omega)]
theorem byte_ne {c : UInt8} (h : ¬ c = 32) : (c.toNat : Int) ≠ 32 := by
  intro e
  refine h (UInt8.toNat_inj.1 ?_)
  have : c.toNat = 32 := by omega
  rw [this]
  rfl
theorem byte_at (s : ByteArray) (k : Nat) (h : k < s.size) : s.data.toList[k]? = some (s[k]'h) := by
  have h2 : k < s.data.toList.length := by rw [← Lib.size_eq]; exact h
  rw [List.getElem?_eq_getElem h2]
  rfl
theorem drop_at {l : List UInt8} {k : Nat} {c : UInt8} (h : l[k]? = some c) : l.drop k = c :: l.drop (k + 1) := by
  have hk : k < l.length := by
    rcases Nat.lt_or_ge k l.length with h1 | h1
    · exact h1
    · rw [List.getElem?_eq_none h1] at h; cases h
  rw [List.drop_eq_getElem_cons hk]
  rw [List.getElem?_eq_getElem hk] at h
  rw [Option.some.inj h]
theorem ba_toList (l : List UInt8) : (ba l).toList = l := by rw [Lib.toList_data]; rfl
theorem ba_data (l : List UInt8) : (ba l).data.toList = l := rfl
theorem ba_size (l : List UInt8) : (ba l).size = l.length := rfl
theorem ba_of (s : ByteArray) : ba s.data.toList = s := Lib.mk_data s
theorem ba_ne {l : List UInt8} (h : l ≠ []) : (ba l).toList.isEmpty = false := by
  rw [ba_toList]
  cases l with
  | nil => exact absurd rfl h
  | cons a r => rfl
theorem ba_snoc (s : ByteArray) (k : Nat) (h : k < s.size) (l : List UInt8) : ba l ++ s.extract k (k + 1) = ba (l ++ [s[k]'h]) := by
  rw [← ba_of (ba l ++ s.extract k (k + 1))]
  congr 1
  rw [ByteArray.data_append, Array.toList_append, Lib.extract_data, drop_at (byte_at s k h), ba_data]
  simp
/-- One round of the walk over the bytes of s: at a blank. -/
theorem ref_blank (s : ByteArray) (k : Nat) (cur : List UInt8) (done : List (List UInt8)) (hb : s.data.toList[k]? = some 32)
    (hi : done ++ splitGo cur (s.data.toList.drop k) = splitL s.data.toList) : (done ++ filled cur) ++ splitGo [] (s.data.toList.drop (k + 1)) = splitL s.data.toList := by
  rw [← hi, drop_at hb, splitGo_blank, List.append_assoc]
theorem ref_other (s : ByteArray) (k : Nat) (cur : List UInt8) (c : UInt8) (done : List (List UInt8)) (hb : s.data.toList[k]? = some c) (hc : c ≠ 32)
    (hi : done ++ splitGo cur (s.data.toList.drop k) = splitL s.data.toList) : done ++ splitGo (cur ++ [c]) (s.data.toList.drop (k + 1)) = splitL s.data.toList := by
  rw [← hi, drop_at hb, splitGo_other _ _ _ hc]

end Go.Proofs.Ytboibehnfcbbbaa

namespace Go.Proofs.Ytboibehnfcbbbaa
open Go Go.RowKit

def letterB (r : Int) : Bool := decide (97 ≤ r ∧ r ≤ 122)
def digitB (r : Int) : Bool := decide (48 ≤ r ∧ r ≤ 57)
/-- A letter from a to z or a digit. -/
def okb (c : UInt8) : Bool := letterB (c.toNat : Int) || digitB (c.toNat : Int)
/-- A word. -/
def rightL (l : List UInt8) : Bool := decide (1 ≤ l.length ∧ l.length ≤ 8 ∧ ∀ c ∈ l, okb c = true)

theorem rightL_len {l : List UInt8} (h : ¬ (1 ≤ l.length ∧ l.length ≤ 8)) : rightL l = false := by
  unfold rightL
  rw [decide_eq_false_iff_not]
  exact fun h2 => h ⟨h2.1, h2.2.1⟩
theorem rightL_bad {l : List UInt8} {k : Nat} {c : UInt8} (h : l[k]? = some c) (hc : okb c = false) : rightL l = false := by
  unfold rightL
  rw [decide_eq_false_iff_not]
  intro h2
  have := h2.2.2 c (List.mem_of_getElem? h)
  rw [hc] at this
  cases this
theorem rightL_all {l : List UInt8} (h1 : 1 ≤ l.length) (h8 : l.length ≤ 8) (h : ∀ (k : Nat) (c : UInt8), l[k]? = some c → okb c = true) : rightL l = true := by
  unfold rightL
  rw [decide_eq_true_iff]
  refine ⟨h1, h8, fun c hc => ?_⟩
  obtain ⟨k, hk, rfl⟩ := List.mem_iff_getElem.1 hc
  exact h k _ (List.getElem?_eq_getElem hk)

set_option maxHeartbeats 400000 in
theorem isLetter_any (r : Int) (w : World) : Calls Try.prog 19 #[.int .i32 r] w fun e w' => e = .returned (.bool (letterB r)) ∧ w = w' := by
  by_cases h1 : 97 ≤ r
  · by_cases h2 : r ≤ 122
    · have e : letterB r = true := by unfold letterB; simp; omega
      rw [e]
      go_enter Try.func19, Try.ntmps19
      go_wp2
      go_ret
      exact ⟨rfl, rfl⟩
    · have e : letterB r = false := by unfold letterB; simp; omega
      have hd : decide (r ≤ 122) = false := by simp; omega
      rw [e]
      go_enter Try.func19, Try.ntmps19
      go_wp2
      go_ret
      exact ⟨rfl, rfl⟩
  · have e : letterB r = false := by unfold letterB; simp; omega
    have hd : decide (97 ≤ r) = false := by simp; omega
    rw [e]
    go_enter Try.func19, Try.ntmps19
    go_wp2
    go_ret
    exact ⟨rfl, rfl⟩

set_option maxHeartbeats 400000 in
theorem isDigit_any (r : Int) (w : World) : Calls Try.prog 20 #[.int .i32 r] w fun e w' => e = .returned (.bool (digitB r)) ∧ w = w' := by
  by_cases h1 : 48 ≤ r
  · by_cases h2 : r ≤ 57
    · have e : digitB r = true := by unfold digitB; simp; omega
      rw [e]
      go_enter Try.func20, Try.ntmps20
      go_wp2
      go_ret
      exact ⟨rfl, rfl⟩
    · have e : digitB r = false := by unfold digitB; simp; omega
      have hd : decide (r ≤ 57) = false := by simp; omega
      rw [e]
      go_enter Try.func20, Try.ntmps20
      go_wp2
      go_ret
      exact ⟨rfl, rfl⟩
  · have e : digitB r = false := by unfold digitB; simp; omega
    have hd : decide (48 ≤ r) = false := by simp; omega
    rw [e]
    go_enter Try.func20, Try.ntmps20
    go_wp2
    go_ret
    exact ⟨rfl, rfl⟩

def SaysOver (w : World) (b : Bool) (e : Ending) (w' : World) : Prop := e = .returned (.bool b) ∧ Below w.heap.size w w'

set_option maxHeartbeats 1000000 in
set_option maxRecDepth 100000 in
theorem right_any (s : ByteArray) (w : World) (hs : s.size ≤ 9223372036854775807) : Calls Try.prog 16 #[.string s] w (SaysOver w (rightL s.data.toList)) := by
  have hsz := Lib.size_eq s
  by_cases h0 : s.size = 0
  · rw [rightL_len (by omega)]
    have g0 : ((s.size : Int) == 0) = true := by rw [beq_iff_eq]; omega
    clear hsz
    go_enter Try.func16, Try.ntmps16
    go_wp2
    go_ret
    exact ⟨rfl, Below.refl _ _⟩
  · have g0 : ((s.size : Int) == 0) = false := by rw [beq_eq_false_iff_ne]; omega
    have h1 : 1 ≤ s.size := by omega
    by_cases h8 : s.size ≤ 8
    · have Hsz := Lib.hid hsz
      clear hsz h0
      go_enter Try.func16, Try.ntmps16
      go_wp2
      go_loopw [] (fun wr => ∃ pos, wr = w.iter s pos ∧ pos ≤ s.size ∧ ∀ k c, k < pos → s.data.toList[k]? = some c → okb c = true) (fun wr => s.size - wr.iterPos w.heap.size)
      case atStart => exact ⟨0, rfl, Nat.zero_le _, fun k c hk => by omega⟩
      case round =>
        obtain ⟨pos, rfl, hpos, hall⟩ := hrel
        have Hall := Lib.hid hall
        clear hall
        have hbel : Below w.heap.size w (w.iter s pos) := (Below.refl _ w).alloc (Nat.le_refl _) _
        by_cases hp : pos < s.size
        · have hat := Lib.hid (byte_at s pos hp)
          obtain ⟨r, d, hnx, hr⟩ : ∃ r d : Nat, (∀ ty, (Instr.next (.pointer (some ⟨w.heap.size, 0, none⟩)) true ty).run Try.prog (w.iter s pos) =
              .ok (.tuple #[.bool true, .int .i64 pos, .int .i32 r]) (w.iter s (pos + d))) ∧ ((letterB r || digitB r) = okb (s[pos]'hp) ∧ (okb (s[pos]'hp) = true → d = 1)) := by
            refine ⟨_, _, fun ty => run_next_any w s pos ty hp, ?_⟩
            by_cases ha : (s[pos]'hp).toNat < 128
            · rw [decode_ascii s pos hp ha]
              exact ⟨rfl, fun _ => rfl⟩
            · have hh := (decode_high s pos hp (by omega)).1
              have e1 : okb (s[pos]'hp) = false := by unfold okb letterB digitB; simp; omega
              have e2 : (letterB ((Utf8.decode s pos).1 : Int) || digitB ((Utf8.decode s pos).1 : Int)) = false := by unfold letterB digitB; simp; omega
              exact ⟨by rw [e1, e2], fun h => by rw [e1] at h; cases h⟩
          obtain ⟨hr1, hr2⟩ := hr
          by_cases hok : okb (s[pos]'hp) = true
          · have hd := hr2 hok
            rw [hok] at hr1
            subst hd
            have Hok := Lib.hid hok
            clear hr2 hok
            cases hl : letterB (r : Int) with
            | true =>
              clear hr1
              have Hl := Lib.hid hl
              clear hl
              go_wp2_with fail
              refine (isLetter_any _ _).mono ?_
              rintro e w' ⟨rfl, rfl⟩
              rw [Hl.out]
              go_wp2
              go_roundw
              case rel =>
                refine ⟨pos + 1, rfl, by omega, fun k c hk hkc => ?_⟩
                by_cases hk2 : k = pos
                · subst hk2
                  rw [hat.out] at hkc
                  rw [← Option.some.inj hkc]
                  exact Hok.out
                · exact Hall.out k c (by omega) hkc
              case measure => simp; omega
            | false =>
              rw [hl, Bool.false_or] at hr1
              have Hl := Lib.hid hl
              have Hr := Lib.hid hr1
              clear hl hr1
              go_wp2_with fail
              refine (isLetter_any _ _).mono ?_
              rintro e w' ⟨rfl, rfl⟩
              rw [Hl.out]
              go_wp2_with fail
              refine (isDigit_any _ _).mono ?_
              rintro e w' ⟨rfl, rfl⟩
              rw [Hr.out]
              go_wp2
              go_roundw
              case rel =>
                refine ⟨pos + 1, rfl, by omega, fun k c hk hkc => ?_⟩
                by_cases hk2 : k = pos
                · subst hk2
                  rw [hat.out] at hkc
                  rw [← Option.some.inj hkc]
                  exact Hok.out
                · exact Hall.out k c (by omega) hkc
              case measure => simp; omega
          · have hok2 : okb (s[pos]'hp) = false := by simpa using hok
            rw [hok2, Bool.or_eq_false_iff] at hr1
            have Hr := Lib.hid hr1
            have hfin := Lib.hid (rightL_bad hat.out hok2)
            clear hr1 hr2 hok hok2
            have hbel2 : Below w.heap.size w (w.iter s (pos + d)) := (Below.refl _ w).alloc (Nat.le_refl _) _
            go_wp2_with fail
            refine (isLetter_any _ _).mono ?_
            rintro e w' ⟨rfl, rfl⟩
            rw [Hr.out.1]
            go_wp2_with fail
            refine (isDigit_any _ _).mono ?_
            rintro e w' ⟨rfl, rfl⟩
            rw [Hr.out.2]
            go_wp2
            go_ret
            rw [hfin.out]
            exact ⟨rfl, hbel2⟩
        · have hnx : ∀ ty, (Instr.next (.pointer (some ⟨w.heap.size, 0, none⟩)) true ty).run Try.prog (w.iter s pos) = _ := fun ty => run_next_end w s pos ty hp
          have e1 : rightL s.data.toList = true := rightL_all (by have := Hsz.out; omega) (by have := Hsz.out; omega) (fun k c hkc => Hall.out k c (by
            rcases Nat.lt_or_ge k s.data.toList.length with h | h
            · have := Hsz.out; omega
            · rw [List.getElem?_eq_none h] at hkc; cases hkc) hkc)
          have E1 := Lib.hid e1
          clear e1
          go_wp2
          go_ret
          rw [E1.out]
          exact ⟨rfl, hbel⟩
    · rw [rightL_len (by omega)]
      clear hsz h0
      go_enter Try.func16, Try.ntmps16
      go_wp2
      go_ret
      exact ⟨rfl, Below.refl _ _⟩

set_option maxHeartbeats 2000000 in
set_option maxRecDepth 100000 in
theorem refRight_any (s : ByteArray) (w : World) (hs : s.size ≤ 9223372036854775807) : Calls Try.prog 17 #[.string s] w fun e w' => e = .returned (.bool (rightL s.data.toList)) ∧ w = w' := by
  have hsz := Lib.size_eq s
  by_cases h0 : s.size < 1
  · rw [rightL_len (by omega)]
    have g0 : decide ((s.size : Int) < 1) = true := by simp; omega
    clear hsz
    go_enter Try.func17, Try.ntmps17
    go_wp2
    go_ret
    exact ⟨rfl, rfl⟩
  · have g0 : decide ((s.size : Int) < 1) = false := by simp; omega
    by_cases h8 : s.size ≤ 8
    · have g8 : decide (8 < (s.size : Int)) = false := by simp; omega
      have Hsz := Lib.hid hsz
      clear hsz
      go_enter Try.func17, Try.ntmps17
      go_wp2
      go_loop [3] (fun i => ∃ k : Nat, i = .int .i64 k ∧ k ≤ s.size ∧ ∀ j c, j < k → s.data.toList[j]? = some c → okb c = true) (fun i => s.size - (intOf i).toNat)
      case atStart => exact ⟨0, rfl, Nat.zero_le _, fun k c hk => by omega⟩
      case round =>
        obtain ⟨k, rfl, hk, hall⟩ := hrel
        have Hall := Lib.hid hall
        clear hall
        by_cases hlt : k < s.size
        · have hat := Lib.hid (byte_at s k hlt)
          obtain ⟨x, hx⟩ : ∃ x, x = s[k]'hlt := ⟨_, rfl⟩
          rw [← hx] at hat
          have hstep : okb x = true → ∀ j c, j < k + 1 → s.data.toList[j]? = some c → okb c = true := by
            intro hok j c hj hjc
            by_cases hj2 : j = k
            · subst hj2
              rw [hat.out] at hjc
              rw [← Option.some.inj hjc]
              exact hok
            · exact Hall.out j c (by omega) hjc
          have Hstep := Lib.hid hstep
          have hokb : okb x = true ↔ (97 ≤ (x.toNat : Int) ∧ (x.toNat : Int) ≤ 122) ∨ (48 ≤ (x.toNat : Int) ∧ (x.toNat : Int) ≤ 57) := by
            unfold okb letterB digitB
            simp
          have hbad : okb x = false → rightL s.data.toList = false := fun h => rightL_bad hat.out h
          have Hokb := Lib.hid hokb
          have Hbad := Lib.hid hbad
          subst hx
          clear hstep hokb hbad
          by_cases c1 : 97 ≤ ((s[k]'hlt).toNat : Int)
          · by_cases c2 : ((s[k]'hlt).toNat : Int) ≤ 122
            · go_wp2
              go_round
              case rel => exact ⟨k + 1, by go_num, by omega, Hstep.out (Hokb.out.2 (.inl ⟨c1, c2⟩))⟩
              case measure => simp [intOf]; omega
            · have d2 : decide (((s[k]'hlt).toNat : Int) ≤ 122) = false := by simp; omega
              have d4 : decide (((s[k]'hlt).toNat : Int) ≤ 57) = false := by simp; omega
              go_wp2
              go_ret
              rw [Hbad.out (by rw [Bool.eq_false_iff]; intro h; have := Hokb.out.1 h; omega)]
              exact ⟨rfl, rfl⟩
          · have d1 : decide (97 ≤ ((s[k]'hlt).toNat : Int)) = false := by simp; omega
            by_cases c3 : 48 ≤ ((s[k]'hlt).toNat : Int)
            · by_cases c4 : ((s[k]'hlt).toNat : Int) ≤ 57
              · go_wp2
                go_round
                case rel => exact ⟨k + 1, by go_num, by omega, Hstep.out (Hokb.out.2 (.inr ⟨c3, c4⟩))⟩
                case measure => simp [intOf]; omega
              · have d4 : decide (((s[k]'hlt).toNat : Int) ≤ 57) = false := by simp; omega
                go_wp2
                go_ret
                rw [Hbad.out (by rw [Bool.eq_false_iff]; intro h; have := Hokb.out.1 h; omega)]
                exact ⟨rfl, rfl⟩
            · have d3 : decide (48 ≤ ((s[k]'hlt).toNat : Int)) = false := by simp; omega
              go_wp2
              go_ret
              rw [Hbad.out (by rw [Bool.eq_false_iff]; intro h; have := Hokb.out.1 h; omega)]
              exact ⟨rfl, rfl⟩
        · have e1 : rightL s.data.toList = true := rightL_all (by have := Hsz.out; omega) (by have := Hsz.out; omega) (fun j c hjc => Hall.out j c (by
            rcases Nat.lt_or_ge j s.data.toList.length with h | h
            · have := Hsz.out; omega
            · rw [List.getElem?_eq_none h] at hjc; cases hjc) hjc)
          have E1 := Lib.hid e1
          clear e1
          go_wp2
          go_ret
          rw [E1.out]
          exact ⟨rfl, rfl⟩
    · have g8 : decide (8 < (s.size : Int)) = true := by simp; omega
      rw [rightL_len (by omega)]
      clear hsz
      go_enter Try.func17, Try.ntmps17
      go_wp2
      go_ret
      exact ⟨rfl, rfl⟩
end Go.Proofs.Ytboibehnfcbbbaa

namespace Go.Proofs.Ytboibehnfcbbbaa
open Go Go.RowKit

/-- An event. -/
structure Evt where
  typ : ByteArray
  tgt : Int
  rel : Int
  cur : Int
  ph : Int
  path : List Stp
  bub : Bool
  can : Bool
  com : Bool
  ced : Bool
  stp : Bool
  now : Bool
  pas : Bool
  dis : Bool
/-- A new event. -/
def Evt.new (typ : ByteArray) (rel : Int) (bub can com : Bool) : Evt := ⟨typ, 0, rel, 0, 0, [], bub, can, com, false, false, false, false, false⟩
/-- Is there one? -/
def evGood (typ : ByteArray) (rel : Int) : Bool := rightL typ.data.toList && decide (0 ≤ rel)
/-- May it be prevented now? -/
def Evt.may (E : Evt) : Bool := E.can && !E.pas
def Evt.prevented (E : Evt) : Evt := { E with ced := E.ced || E.may }
def Evt.ended (E : Evt) : Evt := { E with cur := 0, ph := 0, path := [], stp := false, now := false, pas := false, dis := false }
/-- Its cells; v: its path's slice. -/
abbrev evCells (v : Value) (E : Evt) : Array Value := #[.string E.typ, .int .i64 E.tgt, .int .i64 E.rel, .int .i64 E.cur, .int .i64 E.ph, v, .bool E.bub, .bool E.can, .bool E.com, .bool E.ced, .bool E.stp, .bool E.now, .bool E.pas, .bool E.dis]

/-- At block b stands an event; it and its path lie in blocks that S names. -/
structure EvV (T : TypeId) (S : Nat → Prop) (w : World) (b : Nat) (v : Value) (E : Evt) : Prop where
  head : Has w b (.cells (evCells v E) T (0, 0))
  row : Recs RS 39 0 w v E.path
  hb : S b
  hv : ∀ i, v.ownBlock = some i → S i
def EvAt (T : TypeId) (S : Nat → Prop) (w : World) (b : Nat) (E : Evt) : Prop := ∃ v, EvV T S w b v E
abbrev ptrE (b : Nat) : Value := .pointer (some ⟨b, 0, none⟩)
section
variable {T : TypeId} {S S' F : Nat → Prop} {w w' : World} {b : Nat} {v v' : Value} {E E' : Evt}
theorem EvV.kept (h : EvV T S w b v E) (k : Keeps F w w') (hF : ∀ i, S i → i < w.heap.size → ¬ F i) : EvV T S w' b v E :=
  ⟨h.head.kept k (hF b h.hb h.head.inside), h.row.kept k fun g hg => hF g (h.hv g hg) (h.row.in_ g hg).2, h.hb, h.hv⟩
theorem EvV.wide (h : EvV T S w b v E) (hS : ∀ i, S i → i < w.heap.size → S' i) : EvV T S' w b v E :=
  ⟨h.head, h.row, hS b h.hb h.head.inside, fun g hg => hS g (h.hv g hg) (h.row.in_ g hg).2⟩
theorem EvV.below (h : EvV T S w b v E) (k : Below w.heap.size w w') : EvV T S w' b v E :=
  h.kept (Keeps.of_below (F := fun i => w.heap.size ≤ i) k fun _ _ h => h) fun _ _ hi => Nat.not_le.2 hi
/-- A new one. -/
theorem EvAt.fresh (W : World) (hS : S W.heap.size) (hE : E.path = []) : EvAt T S (W.alloc (.cells (evCells (.slice none 0 0) E) T)) W.heap.size E :=
  ⟨_, Has.fresh _ _, by
    rw [hE]
    exact Recs.nil _ _ _ _, hS, fun g hg => by cases hg⟩
theorem EvAt.kept (h : EvAt T S w b E) (k : Keeps F w w') (hF : ∀ i, S i → i < w.heap.size → ¬ F i) : EvAt T S w' b E := h.elim fun v h => ⟨v, h.kept k hF⟩
theorem EvAt.wide (h : EvAt T S w b E) (hS : ∀ i, S i → i < w.heap.size → S' i) : EvAt T S' w b E := h.elim fun v h => ⟨v, h.wide hS⟩
theorem EvAt.below (h : EvAt T S w b E) (k : Below w.heap.size w w') : EvAt T S w' b E := h.elim fun v h => ⟨v, h.below k⟩
theorem EvAt.inside (h : EvAt T S w b E) : b < w.heap.size := h.elim fun _ h => h.head.inside
/-- Its own block alone is written. -/
theorem EvV.turned (h : EvV T S w b v E) (hT : T ≠ 39) (k : Keeps (Just [b]) w w') (hh : Has w' b (.cells (evCells v E') T (0, 0))) (hp : E'.path = E.path) : EvV T S w' b v E' :=
  ⟨hh, by
    rw [hp]
    exact h.row.kept k fun g hg e => own_apart h.row h.head hT (by rw [hg, List.mem_singleton.1 e]), h.hb, h.hv⟩
/-- One cell is written, not the path's. -/
theorem EvV.put (h : EvV T S w b v E) (hT : T ≠ 39) (i : Nat) (u : Value) (e : (evCells v E).setIfInBounds i u = evCells v E') (hp : E'.path = E.path) : EvV T S (w.setCell ⟨b, i, none⟩ u) b v E' :=
  h.turned hT ((Keeps.refl _ w).store1 i u) (by have := h.head.stored i u; rwa [e] at this) hp
/-- All flags are written. -/
theorem EvV.flags {a0 a1 a2 a3 a4 a5 a6 a7 : Bool} (h : EvV T S w b v E) (hT : T ≠ 39) :
    EvV T S ((((((((w.setCell ⟨b, 6, none⟩ (.bool a0)).setCell ⟨b, 7, none⟩ (.bool a1)).setCell ⟨b, 8, none⟩ (.bool a2)).setCell ⟨b, 9, none⟩ (.bool a3)).setCell ⟨b, 10, none⟩ (.bool a4)).setCell ⟨b, 11, none⟩ (.bool a5)).setCell ⟨b, 12, none⟩ (.bool a6)).setCell ⟨b, 13, none⟩ (.bool a7)) b v ⟨E.typ, E.tgt, E.rel, E.cur, E.ph, E.path, a0, a1, a2, a3, a4, a5, a6, a7⟩ ∧
    Keeps (Just [b]) w ((((((((w.setCell ⟨b, 6, none⟩ (.bool a0)).setCell ⟨b, 7, none⟩ (.bool a1)).setCell ⟨b, 8, none⟩ (.bool a2)).setCell ⟨b, 9, none⟩ (.bool a3)).setCell ⟨b, 10, none⟩ (.bool a4)).setCell ⟨b, 11, none⟩ (.bool a5)).setCell ⟨b, 12, none⟩ (.bool a6)).setCell ⟨b, 13, none⟩ (.bool a7)) := by
  have h1 := h.put (E' := { E with bub := a0 }) hT 6 (.bool a0) rfl rfl
  have h2 := h1.put (E' := { E with bub := a0, can := a1 }) hT 7 (.bool a1) rfl rfl
  have h3 := h2.put (E' := { E with bub := a0, can := a1, com := a2 }) hT 8 (.bool a2) rfl rfl
  have h4 := h3.put (E' := { E with bub := a0, can := a1, com := a2, ced := a3 }) hT 9 (.bool a3) rfl rfl
  have h5 := h4.put (E' := { E with bub := a0, can := a1, com := a2, ced := a3, stp := a4 }) hT 10 (.bool a4) rfl rfl
  have h6 := h5.put (E' := { E with bub := a0, can := a1, com := a2, ced := a3, stp := a4, now := a5 }) hT 11 (.bool a5) rfl rfl
  have h7 := h6.put (E' := { E with bub := a0, can := a1, com := a2, ced := a3, stp := a4, now := a5, pas := a6 }) hT 12 (.bool a6) rfl rfl
  have h8 := h7.put (E' := { E with bub := a0, can := a1, com := a2, ced := a3, stp := a4, now := a5, pas := a6, dis := a7 }) hT 13 (.bool a7) rfl rfl
  exact ⟨h8, ((((((((Keeps.refl (Just [b]) w).store1 6 (.bool a0)).store1 7 (.bool a1)).store1 8 (.bool a2)).store1 9 (.bool a3)).store1 10 (.bool a4)).store1 11 (.bool a5)).store1 12 (.bool a6)).store1 13 (.bool a7)⟩
theorem EvV.there (h : EvV T S w b v E) (i : Nat) : w.cell? ⟨b, i, none⟩ = (evCells v E)[i]? := h.head.cell i
theorem EvV.free (h : EvV T S w b v E) (i : Nat) : w.frozen? ⟨b, i, none⟩ = false := h.head.free i
/-- .. and it lets its path go. -/
theorem EvV.bare (h : EvV T S w b v E) (hh : Has w' b (.cells (evCells (.slice none 0 0) E') T (0, 0))) (hp : E'.path = []) : EvV T S w' b (.slice none 0 0) E' :=
  ⟨hh, by
    rw [hp]
    exact Recs.nil _ _ _ _, h.hb, fun g hg => by cases hg⟩
/-- .. and it gets another path. -/
theorem EvV.pathed {ps : List Stp} (h : EvV T S w b v E) (hT : T ≠ 39) (hr : Recs RS 39 0 w v' ps) (hv : ∀ i, v'.ownBlock = some i → S i) : EvV T S (w.setCell ⟨b, 5, none⟩ v') b v' { E with path := ps } :=
  ⟨h.head.stored 5 v', hr.kept ((Keeps.refl (Just [b]) w).store1 5 v') fun g hg e => own_apart hr h.head hT (by rw [hg, List.mem_singleton.1 e]), h.hb, hv⟩
/-- What is said of another thing stays. -/
theorem EvV.other (h : EvV T S w b v E) {b' : Nat} {T' : TypeId} {cs : Array Value} {fr : Nat × Nat} (ho : Has w b' (.cells cs T' fr)) (hT' : T' ≠ T) (hT2 : T' ≠ 39) (k : Keeps (Just [b']) w w') : EvV T S w' b v E :=
  ⟨h.head.kept k fun e => Has.apart h.head ho (fun e => hT' (by injection e with _ e; exact e.symm)) (List.mem_singleton.1 e), h.row.kept k fun g hg e => own_apart h.row ho hT2 (by rw [hg, List.mem_singleton.1 e]), h.hb, h.hv⟩
end
end Go.Proofs.Ytboibehnfcbbbaa

namespace Go.Proofs.Ytboibehnfcbbbaa
open Go Go.RowKit

section
variable {S : Nat → Prop} {w : World} {b : Nat} {E : Evt}
theorem evStop (h : EvAt 37 S w b E) : Calls Try.prog 10 #[ptrE b] w fun e w' => e = .returned (.tuple #[]) ∧ EvAt 37 S w' b { E with stp := true } ∧ Keeps (Just [b]) w w' := by
  obtain ⟨v, h⟩ := h
  have h1 := h.put (E' := { E with stp := true }) (by decide) 10 (.bool true) rfl rfl
  have H1 := Lib.hid h1
  have f10 := h.there 10
  have z10 := h.free 10
  unfold ptrE
  clear h h1
  go_enter Try.func10, Try.ntmps10
  go_wp2
  first | go_end0 | (simp only [Exit.inBlock, Exit.then]; refine bodyPost_ret (results_none rfl _ _ _) rfl ?_) | refine bodyPost_ret (results_none rfl _ _ _) rfl ?_
  exact ⟨rfl, ⟨v, H1.out⟩, (Keeps.refl _ w).store1 10 _⟩
theorem evStopNow (h : EvAt 37 S w b E) : Calls Try.prog 11 #[ptrE b] w fun e w' => e = .returned (.tuple #[]) ∧ EvAt 37 S w' b { E with stp := true, now := true } ∧ Keeps (Just [b]) w w' := by
  obtain ⟨v, h⟩ := h
  have h1 := h.put (E' := { E with stp := true }) (by decide) 10 (.bool true) rfl rfl
  have h2 := h1.put (E' := { E with stp := true, now := true }) (by decide) 11 (.bool true) rfl rfl
  have H2 := Lib.hid h2
  have f10 := h.there 10
  have z10 := h.free 10
  have f11 := h.there 11
  have z11 := h.free 11
  unfold ptrE
  clear h h1 h2
  go_enter Try.func11, Try.ntmps11
  go_wp2
  first | go_end0 | (simp only [Exit.inBlock, Exit.then]; refine bodyPost_ret (results_none rfl _ _ _) rfl ?_) | refine bodyPost_ret (results_none rfl _ _ _) rfl ?_
  exact ⟨rfl, ⟨v, H2.out⟩, ((Keeps.refl _ w).store1 10 _).store1 11 _⟩
theorem evPrevent (h : EvAt 37 S w b E) : Calls Try.prog 8 #[ptrE b] w fun e w' => e = .returned (.bool E.may) ∧ EvAt 37 S w' b E.prevented ∧ Keeps (Just [b]) w w' := by
  obtain ⟨v, h⟩ := h
  obtain ⟨ty, tg, re, cu, ph, ps, bu, ca, co, ce, st, no, pa, di⟩ := E
  have f7 := h.there 7
  have f9 := h.there 9
  have f12 := h.there 12
  have z9 := h.free 9
  unfold ptrE
  cases ca with
  | false =>
    have e : Evt.prevented ⟨ty, tg, re, cu, ph, ps, bu, false, co, ce, st, no, pa, di⟩ = ⟨ty, tg, re, cu, ph, ps, bu, false, co, ce, st, no, pa, di⟩ := by unfold Evt.prevented Evt.may; simp
    rw [e]
    have H := Lib.hid h
    clear h e
    go_enter Try.func8, Try.ntmps8
    go_wp2
    go_ret
    exact ⟨rfl, ⟨v, H.out⟩, Keeps.refl _ _⟩
  | true =>
    cases pa with
    | true =>
      have e : Evt.prevented ⟨ty, tg, re, cu, ph, ps, bu, true, co, ce, st, no, true, di⟩ = ⟨ty, tg, re, cu, ph, ps, bu, true, co, ce, st, no, true, di⟩ := by unfold Evt.prevented Evt.may; simp
      rw [e]
      have H := Lib.hid h
      clear h e
      go_enter Try.func8, Try.ntmps8
      go_wp2
      go_ret
      exact ⟨rfl, ⟨v, H.out⟩, Keeps.refl _ _⟩
    | false =>
      have e : Evt.prevented ⟨ty, tg, re, cu, ph, ps, bu, true, co, ce, st, no, false, di⟩ = ⟨ty, tg, re, cu, ph, ps, bu, true, co, true, st, no, false, di⟩ := by unfold Evt.prevented Evt.may; simp
      rw [e]
      have H := Lib.hid (h.put (E' := ⟨ty, tg, re, cu, ph, ps, bu, true, co, true, st, no, false, di⟩) (by decide) 9 (.bool true) rfl rfl)
      clear h e
      go_enter Try.func8, Try.ntmps8
      go_wp2
      go_ret
      exact ⟨rfl, ⟨v, H.out⟩, (Keeps.refl _ w).store1 9 _⟩
set_option maxHeartbeats 1000000 in
theorem evEnd (h : EvAt 37 S w b E) : Calls Try.prog 13 #[ptrE b] w fun e w' => e = .returned (.tuple #[]) ∧ EvAt 37 S w' b E.ended ∧ Keeps (Just [b]) w w' := by
  obtain ⟨v, h⟩ := h
  have h1 := h.put (E' := { E with dis := false }) (by decide) 13 (.bool false) rfl rfl
  have h2 := h1.put (E' := { E with dis := false, stp := false }) (by decide) 10 (.bool false) rfl rfl
  have h3 := h2.put (E' := { E with dis := false, stp := false, now := false }) (by decide) 11 (.bool false) rfl rfl
  have h4 := h3.put (E' := { E with dis := false, stp := false, now := false, pas := false }) (by decide) 12 (.bool false) rfl rfl
  have h5 := h4.put (E' := { E with dis := false, stp := false, now := false, pas := false, cur := 0 }) (by decide) 3 (.int .i64 0) rfl rfl
  have h6 := h5.put (E' := { E with dis := false, stp := false, now := false, pas := false, cur := 0, ph := 0 }) (by decide) 4 (.int .i64 0) rfl rfl
  have h7 := h6.bare (E' := E.ended) (h6.head.stored 5 (.slice none 0 0)) rfl
  have H7 := Lib.hid h7
  have f3 := h.there 3
  have z3 := h.free 3
  have f4 := h.there 4
  have z4 := h.free 4
  have f5 := h.there 5
  have z5 := h.free 5
  have f10 := h.there 10
  have z10 := h.free 10
  have f11 := h.there 11
  have z11 := h.free 11
  have f12 := h.there 12
  have z12 := h.free 12
  have f13 := h.there 13
  have z13 := h.free 13
  unfold ptrE
  clear h h1 h2 h3 h4 h5 h6 h7
  go_enter Try.func13, Try.ntmps13
  go_wp2
  first | go_end0 | (simp only [Exit.inBlock, Exit.then]; refine bodyPost_ret (results_none rfl _ _ _) rfl ?_) | refine bodyPost_ret (results_none rfl _ _ _) rfl ?_
  exact ⟨rfl, ⟨_, H7.out⟩, (((((((Keeps.refl _ w).store1 13 _).store1 10 _).store1 11 _).store1 12 _).store1 3 _).store1 4 _).store1 5 _⟩
end
section
variable (w : World)
theorem evStop_nil : Calls Try.prog 10 #[.pointer none] w fun e w' => e = .returned (.tuple #[]) ∧ w = w' := by
  go_enter Try.func10, Try.ntmps10
  go_wp2
  first | go_end0 | (simp only [Exit.inBlock, Exit.then]; refine bodyPost_ret (results_none rfl _ _ _) rfl ?_) | refine bodyPost_ret (results_none rfl _ _ _) rfl ?_
  exact ⟨rfl, rfl⟩
theorem evStopNow_nil : Calls Try.prog 11 #[.pointer none] w fun e w' => e = .returned (.tuple #[]) ∧ w = w' := by
  go_enter Try.func11, Try.ntmps11
  go_wp2
  first | go_end0 | (simp only [Exit.inBlock, Exit.then]; refine bodyPost_ret (results_none rfl _ _ _) rfl ?_) | refine bodyPost_ret (results_none rfl _ _ _) rfl ?_
  exact ⟨rfl, rfl⟩
theorem evEnd_nil : Calls Try.prog 13 #[.pointer none] w fun e w' => e = .returned (.tuple #[]) ∧ w = w' := by
  go_enter Try.func13, Try.ntmps13
  go_wp2
  first | go_end0 | (simp only [Exit.inBlock, Exit.then]; refine bodyPost_ret (results_none rfl _ _ _) rfl ?_) | refine bodyPost_ret (results_none rfl _ _ _) rfl ?_
  exact ⟨rfl, rfl⟩
theorem evPrevent_nil : Calls Try.prog 8 #[.pointer none] w fun e w' => e = .returned (.bool false) ∧ w = w' := by
  go_enter Try.func8, Try.ntmps8
  go_wp2
  go_ret
  exact ⟨rfl, rfl⟩
theorem evBegin_nil : Calls Try.prog 12 #[.pointer none] w fun e w' => e = .returned (.bool false) ∧ w = w' := by
  go_enter Try.func12, Try.ntmps12
  go_wp2
  go_ret
  exact ⟨rfl, rfl⟩
end
end Go.Proofs.Ytboibehnfcbbbaa

namespace Go.Proofs.Ytboibehnfcbbbaa
open Go Go.RowKit

section
variable {S : Nat → Prop} {w : World} {b : Nat} {E : Evt}
set_option maxHeartbeats 1000000 in
theorem evBegin (h : EvAt 37 S w b E) : Calls Try.prog 12 #[ptrE b] w fun e w' => e = .returned (.bool !E.dis) ∧ EvAt 37 S w' b { E with dis := true } ∧ Keeps (Just [b]) w w' := by
  obtain ⟨v, h⟩ := h
  obtain ⟨ty, tg, re, cu, ph, ps, bu, ca, co, ce, st, no, pa, di⟩ := E
  have f6 := h.there 6
  have f7 := h.there 7
  have f8 := h.there 8
  have f9 := h.there 9
  have f10 := h.there 10
  have f11 := h.there 11
  have f12 := h.there 12
  have f13 := h.there 13
  have z6 := h.free 6
  have z7 := h.free 7
  have z8 := h.free 8
  have z9 := h.free 9
  have z10 := h.free 10
  have z11 := h.free 11
  have z12 := h.free 12
  have z13 := h.free 13
  have hbi := h.head.inside
  have H := Lib.hid h
  unfold ptrE
  clear h
  cases di with
  | true =>
    go_enter Try.func12, Try.ntmps12
    go_wp2
    go_quiet (fail)
    go_wp2
    go_ret
    have hb := below_draws ((Below.refl _ w).alloc (Nat.le_refl _) (.cells #[.bool bu, .bool ca, .bool co, .bool ce, .bool st, .bool no, .bool pa, .bool true] 33)) nq
    exact ⟨rfl, ⟨v, H.out.below hb⟩, Keeps.of_below hb fun i hi hle => by omega⟩
  | false =>
    go_enter Try.func12, Try.ntmps12
    go_wp2
    go_quiet (fail)
    go_wp2
    go_ret
    have hb := below_draws ((Below.refl _ w).alloc (Nat.le_refl _) (.cells #[.bool bu, .bool ca, .bool co, .bool ce, .bool st, .bool no, .bool pa, .bool true] 33)) nq
    obtain ⟨h2, k2⟩ := (H.out.below hb).flags (by decide) (a0 := bu) (a1 := ca) (a2 := co) (a3 := ce) (a4 := st) (a5 := no) (a6 := pa) (a7 := true)
    exact ⟨rfl, ⟨v, h2⟩, (Keeps.of_below (F := Just [b]) hb fun i hi hle => by omega).also k2⟩
end
section
variable {typ : ByteArray} {rel : Int} {bub can com : Bool}
set_option maxHeartbeats 1000000 in
theorem evNew_not (w : World) (hg : evGood typ rel = false) (ht : typ.size ≤ 9223372036854775807) : Calls Try.prog 6 #[.string typ, .int .i64 rel, .bool bub, .bool can, .bool com] w fun e w' => e = .returned (.tuple #[.pointer none, .int .i64 1]) ∧ Below w.heap.size w w' := by
  have HR := Lib.hid (right_any typ w ht)
  unfold evGood at hg
  cases hr : rightL typ.data.toList with
  | false =>
    rw [hr] at HR
    clear hr hg
    go_enter Try.func6, Try.ntmps6
    go_wp2_with fail
    refine HR.out.mono ?_
    rintro e w1 ⟨rfl, hb⟩
    go_wp2
    go_ret2
    exact ⟨rfl, hb⟩
  | true =>
    rw [hr, Bool.true_and] at hg
    rw [hr] at HR
    have hlt : decide (rel < 0) = true := decide_eq_true (by have := of_decide_eq_false hg; omega)
    clear hr hg
    go_enter Try.func6, Try.ntmps6
    go_wp2_with fail
    refine HR.out.mono ?_
    rintro e w1 ⟨rfl, hb⟩
    go_wp2
    go_ret2
    exact ⟨rfl, hb⟩
set_option maxHeartbeats 1000000 in
theorem evNew {S : Nat → Prop} (w : World) (hS : ∀ i, w.heap.size ≤ i → S i) (hg : evGood typ rel = true) (ht : typ.size ≤ 9223372036854775807) : Calls Try.prog 6 #[.string typ, .int .i64 rel, .bool bub, .bool can, .bool com] w fun e w' => ∃ b, e = .returned (.tuple #[ptrE b, .int .i64 0]) ∧ EvAt 37 S w' b (Evt.new typ rel bub can com) ∧ w.heap.size ≤ b ∧ Below w.heap.size w w' := by
  have HR := Lib.hid (right_any typ w ht)
  have HS := Lib.hid hS
  unfold evGood at hg
  rw [Bool.and_eq_true] at hg
  obtain ⟨h1, h2⟩ := hg
  rw [h1] at HR
  have hlt : decide (rel < 0) = false := decide_eq_false (by have := of_decide_eq_true h2; omega)
  clear h1 h2 hS
  go_enter Try.func6, Try.ntmps6
  go_wp2_with fail
  refine HR.out.mono ?_
  rintro e w1 ⟨rfl, hb⟩
  go_wp2
  go_ret2
  have e : (w1.alloc (.cells #[.bool bub, .bool can, .bool com, .bool false, .bool false, .bool false, .bool false, .bool false] 33)).heap.size = w1.heap.size + 1 := by simp
  have hb2 := hb.alloc hb.size (.cells #[.bool bub, .bool can, .bool com, .bool false, .bool false, .bool false, .bool false, .bool false] 33)
  have hf := EvAt.fresh (T := 37) (S := S) (w1.alloc (.cells #[.bool bub, .bool can, .bool com, .bool false, .bool false, .bool false, .bool false, .bool false] 33)) (HS.out _ hb2.size) (E := Evt.new typ rel bub can com) rfl
  rw [e] at hf
  exact ⟨_, rfl, hf, by have := hb.size; omega, hb2.alloc hb2.size _⟩
end
end Go.Proofs.Ytboibehnfcbbbaa

namespace Go.Proofs.Ytboibehnfcbbbaa
open Go Go.RowKit

theorem good_x : evGood ⟨#[120]⟩ 0 = true := by decide
set_option maxHeartbeats 1000000 in
theorem awake13 (w : World) : Calls Try.prog 5 #[] w fun e w' => e = .returned (.bool true) ∧ Below w.heap.size w w' := by
  have hnot : ∀ (x : Bool) (w : World), (Op.unary .not (.bool x)).run Try.prog w = .ok (.bool (!x)) w := fun _ _ => rfl
  go_enter Try.func5, Try.ntmps5
  go_wp2_with fail
  refine (evNew (S := fun i => w.heap.size ≤ i) (typ := ⟨#[120]⟩) (rel := 0) (bub := false) (can := true) (com := false) w (fun _ h => h) good_x (by decide)).mono ?_
  rintro e w1 ⟨b, rfl, h1, hb, k1⟩
  have H1 := Lib.hid h1
  have K1 := Lib.hid k1
  have Hb := Lib.hid hb
  clear h1 k1 hb
  unfold ptrE
  go_wp2_with fail
  refine (evNew (S := fun i => w1.heap.size ≤ i) (typ := ⟨#[120]⟩) (rel := 0) (bub := false) (can := false) (com := false) w1 (fun _ h => h) good_x (by decide)).mono ?_
  rintro e w2 ⟨x, rfl, h2, hx, k2⟩
  have H2 := Lib.hid h2
  have Hx := Lib.hid hx
  have K2 := Lib.hid (K1.out.trans (k2.mono K1.out.size))
  have H1' := Lib.hid (H1.out.below k2)
  have Hlt := Lib.hid H1.out.inside
  clear h2 k2 hx H1
  unfold ptrE
  go_wp2_with fail
  refine (evPrevent H1'.out).mono ?_
  rintro e w3 ⟨rfl, -, k3⟩
  have H3 := Lib.hid (H2.out.kept k3 fun i hi _ hj => by have := List.mem_singleton.1 hj; have := Hlt.out; omega)
  have K3 := Lib.hid (below_then K2.out k3 K2.out.size fun i hi hj => by have := List.mem_singleton.1 hj; have := Hb.out; omega)
  rw [show (Evt.new ⟨#[120]⟩ 0 false true false).may = true from rfl]
  clear k3 H2 H1'
  go_wp2_with fail
  refine (evPrevent H3.out).mono ?_
  rintro e w4 ⟨rfl, -, k4⟩
  have K4 := Lib.hid (below_then K3.out k4 K3.out.size fun i hi hj => by have := List.mem_singleton.1 hj; have := Hx.out; have := K1.out.size; omega)
  rw [show (Evt.new ⟨#[120]⟩ 0 false false false).may = false from rfl]
  clear k4 H3
  go_wp2
  go_ret
  exact ⟨rfl, K4.out⟩
--@if towncrierlaw13.EventNone@
set_option maxHeartbeats 2000000 in
theorem eventNone_any (n : Int) (w : World) (h0 : 0 ≤ n) (h1 : n ≤ 255) : Calls Try.prog 4 #[.int .u8 n] w fun e w' => e = .returned (.bool true) ∧ Below w.heap.size w w' := by
  have hnot : ∀ (x : Bool) (w : World), (Op.unary .not (.bool x)).run Try.prog w = .ok (.bool (!x)) w := fun _ _ => rfl
  have HA := Lib.hid (awake13 w)
  have hwn : IntKind.i64.wrap n = n := wrap_small (by omega) (by omega)
  go_enter Try.func4, Try.ntmps4
  go_wp2_with fail
  refine HA.out.mono ?_
  rintro e w1 ⟨rfl, hb1⟩
  have HB1 := Lib.hid hb1
  clear hb1 HA
  go_wp2_with fail
  go_loopw [4] (fun i wr => ∃ k : Nat, i = .int .i64 k ∧ (k : Int) ≤ n + 1 ∧ wr = w1) (fun i _ => n.toNat + 1 - (intOf i).toNat)
  case atStart => exact ⟨0, rfl, by omega, rfl⟩
  case round =>
    obtain ⟨k, rfl, hk, rfl⟩ := hrel
    by_cases hlt : (k : Int) ≤ n
    · have hwk : IntKind.i64.wrap ((k : Int) + 1) = (k : Int) + 1 := wrap_small (by omega) (by omega)
      go_wp2_with fail
      refine (evStop_nil _).mono ?_
      rintro e w2 ⟨rfl, rfl⟩
      go_wp2_with fail
      refine (evStopNow_nil _).mono ?_
      rintro e w2 ⟨rfl, rfl⟩
      go_wp2_with fail
      refine (evEnd_nil _).mono ?_
      rintro e w2 ⟨rfl, rfl⟩
      go_wp2_with fail
      refine (evPrevent_nil _).mono ?_
      rintro e w2 ⟨rfl, rfl⟩
      go_wp2_with fail
      refine (evBegin_nil _).mono ?_
      rintro e w2 ⟨rfl, rfl⟩
      go_wp2
      go_roundw
      case rel => exact ⟨k + 1, by go_num, by omega, (by first | rfl | trivial)⟩
      case measure => simp [intOf]; omega
    · go_wp2
      go_ret
      exact ⟨rfl, HB1.out⟩
--@end@
end Go.Proofs.Ytboibehnfcbbbaa

namespace Go.Proofs.Ytboibehnfcbbbaa
open Go Go.RowKit

theorem five_of {w : World} {A : Option Addr} {c k : Nat} {ps : List Stp} (h : RecIn RS w A c ps) (hk : k < ps.length) : ∃ b off, A = some ⟨b, off, none⟩ ∧
    w.cell? ⟨b, off + k * 5, none⟩ = some (.int .i64 ps[k].node) ∧ w.cell? ⟨b, off + k * 5 + 1, none⟩ = some (.int .i64 ps[k].target) ∧ w.cell? ⟨b, off + k * 5 + 2, none⟩ = some (.int .i64 ps[k].related) ∧ w.cell? ⟨b, off + k * 5 + 3, none⟩ = some (.bool ps[k].cr) ∧ w.cell? ⟨b, off + k * 5 + 4, none⟩ = some (.bool ps[k].cs) := by
  obtain ⟨b, off, e, _, hc⟩ := h.at_ k hk
  refine ⟨b, off, e, ?_⟩
  simp only [Nat.add_assoc]
  exact ⟨hc 0 (by decide), hc 1 (by decide), hc 2 (by decide), hc 3 (by decide), hc 4 (by decide)⟩
section
variable {w : World}
set_option maxHeartbeats 4000000 in
theorem pathSame (ps : List Stp) (n : Nat) (A A' : Option Addr) (c c' : Nat) (w : World) (hn : ps.length = n) (hl : n ≤ 1000000) (h : RecIn RS w A c ps) (h' : RecIn RS w A' c' ps) :
    Calls Try.prog 18 #[.slice A n c, .slice A' n c'] w fun e w' => e = .returned (.bool true) ∧ ∃ m, w' = w.drewN m := by
  have HN := Lib.hid hn
  have H := Lib.hid h
  have H' := Lib.hid h'
  have y0 : ((n : Int) != (n : Int)) = false := by simp
  clear hn h h'
  go_enter Try.func18, Try.ntmps18
  go_wp2
  go_loopw [5] (fun i wr => ∃ k m : Nat, i = .int .i64 k ∧ k ≤ n ∧ wr = w.drewN m) (fun i _ => n - (intOf i).toNat)
  case atStart => exact ⟨0, 0, rfl, Nat.zero_le _, rfl⟩
  case round =>
    obtain ⟨k, m, rfl, hk, rfl⟩ := hrel
    by_cases hlt : (k : Int) < n
    · have hkn : k < ps.length := by rw [HN.out]; omega
      obtain ⟨b, off, rfl, c0, c1, c2, c3, c4⟩ := five_of H.out hkn
      obtain ⟨b', off', rfl, d0, d1, d2, d3, d4⟩ := five_of H'.out hkn
      obtain ⟨x, hx⟩ : ∃ x, x = ps[k] := ⟨_, rfl⟩
      rw [← hx] at c0 c1 c2 c3 c4 d0 d1 d2 d3 d4
      obtain ⟨x0, x1, x2, x3, x4⟩ := x
      simp only at c0 c1 c2 c3 c4 d0 d1 d2 d3 d4
      have hwk : IntKind.i64.wrap ((k : Int) + 1) = (k : Int) + 1 := wrap_small (by omega) (by omega)
      clear hx hkn
      go_wp2
      go_quiet (fail)
      go_wp2
      go_roundw
      case rel => exact ⟨k + 1, m + nq, by go_num, by omega, rfl⟩
      case measure => simp [intOf]; omega
    · go_wp2
      go_ret
      exact ⟨rfl, m, rfl⟩
--@if towncrierlaw13.same@
set_option maxHeartbeats 16000000 in
theorem same_true {S S' : Nat → Prop} {b x : Nat} {v v' : Value} {E : Evt} (h : EvV 37 S w b v E) (h' : EvV 36 S' w x v' E) (hl : E.path.length ≤ 1000000) :
    Calls Try.prog 15 #[ptrE b, ptrE x] w fun e w' => e = .returned (.bool true) ∧ ∃ m, w' = w.drewN m := by
  obtain ⟨A, c, rfl, hp⟩ := h.row.form
  obtain ⟨A', c', rfl, hp'⟩ := h'.row.form
  have CP : Hid (∀ m, Calls Try.prog 18 #[.slice A E.path.length c, .slice A' E.path.length c'] (w.drewN m) fun e w' => e = .returned (.bool true) ∧ ∃ k, w' = (w.drewN m).drewN k) := Lib.hid fun m => pathSame E.path E.path.length A A' c c' (w.drewN m) rfl hl ⟨hp.cap, hp.nil, hp.at_⟩ ⟨hp'.cap, hp'.nil, hp'.at_⟩
  obtain ⟨ty, tg, re, cu, ph, ps, bu, ca, co, ce, st, no, pa, di⟩ := E
  have f0 := h.there 0
  have f1 := h.there 1
  have f2 := h.there 2
  have f3 := h.there 3
  have f4 := h.there 4
  have f5 := h.there 5
  have f6 := h.there 6
  have f7 := h.there 7
  have f8 := h.there 8
  have f9 := h.there 9
  have f10 := h.there 10
  have f11 := h.there 11
  have f12 := h.there 12
  have f13 := h.there 13
  have d0 := h'.there 0
  have d1 := h'.there 1
  have d2 := h'.there 2
  have d3 := h'.there 3
  have d4 := h'.there 4
  have d5 := h'.there 5
  have d6 := h'.there 6
  have d7 := h'.there 7
  have d8 := h'.there 8
  have d9 := h'.there 9
  have d10 := h'.there 10
  have d11 := h'.there 11
  have d12 := h'.there 12
  have d13 := h'.there 13
  unfold ptrE
  obtain ⟨n, hn⟩ : ∃ n, n = ps.length := ⟨_, rfl⟩
  simp only [← hn] at CP f5 d5
  clear h h' hp hp' hl hn
  go_enter Try.func15, Try.ntmps15
  go_wp2_with fail
  go_quiet (first | (go_at_call 18; exact Calls.quiet_of (CP.out _)))
  go_wp2
  go_ret
  exact ⟨rfl, nq, rfl⟩
--@end@
end
end Go.Proofs.Ytboibehnfcbbbaa

namespace Go.Proofs.Ytboibehnfcbbbaa
open Go Go.RowKit

section
variable {S : Nat → Prop} {w : World} {b : Nat} {E : Evt}
theorem rePrevent (h : EvAt 36 S w b E) : Calls Try.prog 9 #[ptrE b] w fun e w' => e = .returned (.bool E.may) ∧ EvAt 36 S w' b E.prevented ∧ Keeps (Just [b]) w w' := by
  obtain ⟨v, h⟩ := h
  obtain ⟨ty, tg, re, cu, ph, ps, bu, ca, co, ce, st, no, pa, di⟩ := E
  have f7 := h.there 7
  have f9 := h.there 9
  have f12 := h.there 12
  have z9 := h.free 9
  unfold ptrE
  cases pa with
  | true =>
    have e : Evt.prevented ⟨ty, tg, re, cu, ph, ps, bu, ca, co, ce, st, no, true, di⟩ = ⟨ty, tg, re, cu, ph, ps, bu, ca, co, ce, st, no, true, di⟩ := by unfold Evt.prevented Evt.may; simp
    have e2 : Evt.may ⟨ty, tg, re, cu, ph, ps, bu, ca, co, ce, st, no, true, di⟩ = false := by unfold Evt.may; simp
    rw [e, e2]
    have H := Lib.hid h
    clear h e e2
    go_enter Try.func9, Try.ntmps9
    go_wp2
    go_ret
    exact ⟨rfl, ⟨v, H.out⟩, Keeps.refl _ _⟩
  | false =>
    cases ca with
    | false =>
      have e : Evt.prevented ⟨ty, tg, re, cu, ph, ps, bu, false, co, ce, st, no, false, di⟩ = ⟨ty, tg, re, cu, ph, ps, bu, false, co, ce, st, no, false, di⟩ := by unfold Evt.prevented Evt.may; simp
      rw [e]
      have H := Lib.hid h
      clear h e
      go_enter Try.func9, Try.ntmps9
      go_wp2
      go_ret
      exact ⟨rfl, ⟨v, H.out⟩, Keeps.refl _ _⟩
    | true =>
      have e : Evt.prevented ⟨ty, tg, re, cu, ph, ps, bu, true, co, ce, st, no, false, di⟩ = ⟨ty, tg, re, cu, ph, ps, bu, true, co, true, st, no, false, di⟩ := by unfold Evt.prevented Evt.may; simp
      rw [e]
      have H := Lib.hid (h.put (E' := ⟨ty, tg, re, cu, ph, ps, bu, true, co, true, st, no, false, di⟩) (by decide) 9 (.bool true) rfl rfl)
      clear h e
      go_enter Try.func9, Try.ntmps9
      go_wp2
      go_ret
      exact ⟨rfl, ⟨v, H.out⟩, (Keeps.refl _ w).store1 9 _⟩
set_option maxHeartbeats 1000000 in
theorem reEnd (h : EvAt 36 S w b E) : Calls Try.prog 14 #[ptrE b] w fun e w' => e = .returned (.tuple #[]) ∧ EvAt 36 S w' b E.ended ∧ Keeps (Just [b]) w w' := by
  obtain ⟨v, h⟩ := h
  have h1 := h.put (E' := { E with dis := false }) (by decide) 13 (.bool false) rfl rfl
  have h2 := h1.put (E' := { E with dis := false, stp := false }) (by decide) 10 (.bool false) rfl rfl
  have h3 := h2.put (E' := { E with dis := false, stp := false, now := false }) (by decide) 11 (.bool false) rfl rfl
  have h4 := h3.put (E' := { E with dis := false, stp := false, now := false, pas := false }) (by decide) 12 (.bool false) rfl rfl
  have h5 := h4.put (E' := { E with dis := false, stp := false, now := false, pas := false, cur := 0 }) (by decide) 3 (.int .i64 0) rfl rfl
  have h6 := h5.put (E' := { E with dis := false, stp := false, now := false, pas := false, cur := 0, ph := 0 }) (by decide) 4 (.int .i64 0) rfl rfl
  have h7 := h6.bare (E' := E.ended) (h6.head.stored 5 (.slice none 0 0)) rfl
  have H7 := Lib.hid h7
  have f3 := h.there 3
  have z3 := h.free 3
  have f4 := h.there 4
  have z4 := h.free 4
  have f5 := h.there 5
  have z5 := h.free 5
  have f10 := h.there 10
  have z10 := h.free 10
  have f11 := h.there 11
  have z11 := h.free 11
  have f12 := h.there 12
  have z12 := h.free 12
  have f13 := h.there 13
  have z13 := h.free 13
  unfold ptrE
  clear h h1 h2 h3 h4 h5 h6 h7
  go_enter Try.func14, Try.ntmps14
  go_wp2
  first | go_end0 | (simp only [Exit.inBlock, Exit.then]; refine bodyPost_ret (results_none rfl _ _ _) rfl ?_) | refine bodyPost_ret (results_none rfl _ _ _) rfl ?_
  exact ⟨rfl, ⟨_, H7.out⟩, (((((((Keeps.refl _ w).store1 13 _).store1 10 _).store1 11 _).store1 12 _).store1 3 _).store1 4 _).store1 5 _⟩
end
section
variable {typ : ByteArray} {rel : Int} {bub can com : Bool}
theorem reNew_not (w : World) (hg : evGood typ rel = false) (ht : typ.size ≤ 9223372036854775807) : Calls Try.prog 7 #[.string typ, .int .i64 rel, .bool bub, .bool can, .bool com] w fun e w' => e = .returned (.tuple #[.pointer none, .int .i64 1]) ∧ w = w' := by
  have HR := Lib.hid (refRight_any typ w ht)
  unfold evGood at hg
  cases hr : rightL typ.data.toList with
  | false =>
    rw [hr] at HR
    clear hr hg
    go_enter Try.func7, Try.ntmps7
    go_wp2_with fail
    refine HR.out.mono ?_
    rintro e w1 ⟨rfl, rfl⟩
    go_wp2
    go_ret2
    exact ⟨rfl, rfl⟩
  | true =>
    rw [hr, Bool.true_and] at hg
    rw [hr] at HR
    have hlt : decide (rel < 0) = true := decide_eq_true (by have := of_decide_eq_false hg; omega)
    clear hr hg
    go_enter Try.func7, Try.ntmps7
    go_wp2_with fail
    refine HR.out.mono ?_
    rintro e w1 ⟨rfl, rfl⟩
    go_wp2
    go_ret2
    exact ⟨rfl, rfl⟩
set_option maxHeartbeats 1000000 in
theorem reNew {S : Nat → Prop} (w : World) (hS : ∀ i, w.heap.size ≤ i → S i) (hg : evGood typ rel = true) (ht : typ.size ≤ 9223372036854775807) : Calls Try.prog 7 #[.string typ, .int .i64 rel, .bool bub, .bool can, .bool com] w fun e w' => ∃ b, e = .returned (.tuple #[ptrE b, .int .i64 0]) ∧ EvAt 36 S w' b (Evt.new typ rel bub can com) ∧ w.heap.size ≤ b ∧ Below w.heap.size w w' := by
  have HR := Lib.hid (refRight_any typ w ht)
  have HS := Lib.hid hS
  unfold evGood at hg
  rw [Bool.and_eq_true] at hg
  obtain ⟨h1, h2⟩ := hg
  rw [h1] at HR
  have hlt : decide (rel < 0) = false := decide_eq_false (by have := of_decide_eq_true h2; omega)
  clear h1 h2 hS
  go_enter Try.func7, Try.ntmps7
  go_wp2_with fail
  refine HR.out.mono ?_
  rintro e w1 ⟨rfl, rfl⟩
  go_wp2
  go_ret2
  exact ⟨_, rfl, EvAt.fresh (T := 36) (E := Evt.new typ rel bub can com) w (HS.out _ (Nat.le_refl _)) rfl, Nat.le_refl _, (Below.refl _ w).alloc (Nat.le_refl _) _⟩
end
end Go.Proofs.Ytboibehnfcbbbaa

namespace Go.Proofs.Ytboibehnfcbbbaa
open Go Go.RowKit

section
/-- Two new blocks. -/
abbrev two (P : Obj) (C : World) : World := (C.alloc P).alloc P
theorem two_below (C : World) (P : Obj) : Below C.heap.size C (two P C) := by
  have h1 := (Below.refl C.heap.size C).alloc (Nat.le_refl _) P
  exact h1.alloc h1.size _
/-- .. each a path of one entry. -/
theorem two_lit (wr : World) : Recs RS 39 0 (two (.cells #[.int .i64 1, .int .i64 0, .int .i64 0, .bool false, .bool false] 39) wr) (.slice (some ⟨wr.heap.size, 0, none⟩) 1 1) [⟨1, 0, 0, false, false⟩] ∧ Recs RS 39 0 (two (.cells #[.int .i64 1, .int .i64 0, .int .i64 0, .bool false, .bool false] 39) wr) (.slice (some ⟨wr.heap.size + 1, 0, none⟩) 1 1) [⟨1, 0, 0, false, false⟩] := by
  have hl1 : Recs RS 39 wr.heap.size (wr.alloc (.cells #[.int .i64 1, .int .i64 0, .int .i64 0, .bool false, .bool false] 39)) (.slice (some ⟨wr.heap.size, 0, none⟩) 1 1) [⟨1, 0, 0, false, false⟩] := Recs.lit RS 39 wr ⟨1, 0, 0, false, false⟩
  have hl2 : Recs RS 39 (wr.alloc (.cells #[.int .i64 1, .int .i64 0, .int .i64 0, .bool false, .bool false] 39)).heap.size (two (.cells #[.int .i64 1, .int .i64 0, .int .i64 0, .bool false, .bool false] 39) wr) (.slice (some ⟨(wr.alloc (.cells #[.int .i64 1, .int .i64 0, .int .i64 0, .bool false, .bool false] 39)).heap.size, 0, none⟩) 1 1) [⟨1, 0, 0, false, false⟩] := Recs.lit RS 39 (wr.alloc (.cells #[.int .i64 1, .int .i64 0, .int .i64 0, .bool false, .bool false] 39)) ⟨1, 0, 0, false, false⟩
  rw [show (wr.alloc (.cells #[.int .i64 1, .int .i64 0, .int .i64 0, .bool false, .bool false] 39)).heap.size = wr.heap.size + 1 by simp] at hl2
  exact ⟨own_base (hl1.below ((Below.refl _ _).alloc (Nat.le_refl _) _)) (Nat.zero_le _), own_base hl2 (Nat.zero_le _)⟩
end
/-- The program's event at b and the document's at x; all that turned since w0 lies above. -/
structure Duo13 (w0 : World) (b x : Nat) (v v' : Value) (E E' : Evt) (w : World) : Prop where
  prog : EvV 37 (fun i => w0.heap.size ≤ i) w b v E
  doc : EvV 36 (fun i => w0.heap.size ≤ i) w x v' E'
  below : Below w0.heap.size w0 w
section
variable {w0 w w' : World} {b x : Nat} {v v' v2 : Value} {E E' E2 : Evt}
theorem just_low {B g : Nat} (h : B ≤ g) : ∀ i, i < B → ¬ Just [g] i := fun i hi hj => by have := List.mem_singleton.1 hj; omega
theorem Duo13.atProgV (h : Duo13 w0 b x v v' E E' w) (hE : EvV 37 (fun i => w0.heap.size ≤ i) w' b v2 E2) (k : Keeps (Just [b]) w w') : Duo13 w0 b x v2 v' E2 E' w' :=
  ⟨hE, h.doc.other h.prog.head (by decide) (by decide) k, below_then h.below k h.below.size (just_low h.prog.hb)⟩
theorem Duo13.atDocV (h : Duo13 w0 b x v v' E E' w) (hE : EvV 36 (fun i => w0.heap.size ≤ i) w' x v2 E2) (k : Keeps (Just [x]) w w') : Duo13 w0 b x v v2 E E2 w' :=
  ⟨h.prog.other h.doc.head (by decide) (by decide) k, hE, below_then h.below k h.below.size (just_low h.doc.hb)⟩
theorem Duo13.atProg (h : Duo13 w0 b x v v' E E' w) (hE : EvAt 37 (fun i => w0.heap.size ≤ i) w' b E2) (k : Keeps (Just [b]) w w') : ∃ v2, Duo13 w0 b x v2 v' E2 E' w' := hE.elim fun v2 hE => ⟨v2, h.atProgV hE k⟩
theorem Duo13.atDoc (h : Duo13 w0 b x v v' E E' w) (hE : EvAt 36 (fun i => w0.heap.size ≤ i) w' x E2) (k : Keeps (Just [x]) w w') : ∃ v2, Duo13 w0 b x v v2 E E2 w' := hE.elim fun v2 hE => ⟨v2, h.atDocV hE k⟩
/-- One cell is written. -/
theorem Duo13.putP (h : Duo13 w0 b x v v' E E' w) (i : Nat) (u : Value) (e : (evCells v E).setIfInBounds i u = evCells v E2) (hp : E2.path = E.path) : Duo13 w0 b x v v' E2 E' (w.setCell ⟨b, i, none⟩ u) := h.atProgV (h.prog.put (by decide) i u e hp) ((Keeps.refl _ w).store1 i u)
theorem Duo13.putD (h : Duo13 w0 b x v v' E E' w) (i : Nat) (u : Value) (e : (evCells v' E').setIfInBounds i u = evCells v' E2) (hp : E2.path = E'.path) : Duo13 w0 b x v v' E E2 (w.setCell ⟨x, i, none⟩ u) := h.atDocV (h.doc.put (by decide) i u e hp) ((Keeps.refl _ w).store1 i u)
theorem Duo13.next (h : Duo13 w0 b x v v' E E' w) (hb : Below w.heap.size w w') : Duo13 w0 b x v v' E E' w' := ⟨h.prog.below hb, h.doc.below hb, h.below.trans (hb.mono h.below.size)⟩
end
section
set_option maxHeartbeats 1000000 in
/-- It gets a path, and a place. -/
theorem duo_path {w wr : World} {b x : Nat} {v v' : Value} {ty' : ByteArray} {tg re cu ph : Int} {ps : List Stp} {bu ca co ce st no pa di : Bool} (h : Duo13 w b x v v' ⟨ty', tg, re, cu, ph, ps, bu, ca, co, ce, st, no, pa, di⟩ ⟨ty', tg, re, cu, ph, ps, bu, ca, co, ce, st, no, pa, di⟩ wr) :
    ((two (.cells #[.int .i64 1, .int .i64 0, .int .i64 0, .bool false, .bool false] 39) wr).cell? ⟨b, 5, none⟩ = some v ∧ (two (.cells #[.int .i64 1, .int .i64 0, .int .i64 0, .bool false, .bool false] 39) wr).frozen? ⟨b, 5, none⟩ = false) ∧ (((two (.cells #[.int .i64 1, .int .i64 0, .int .i64 0, .bool false, .bool false] 39) wr).setCell ⟨b, 5, none⟩ (.slice (some ⟨wr.heap.size, 0, none⟩) 1 1)).cell? ⟨x, 5, none⟩ = some v' ∧ ((two (.cells #[.int .i64 1, .int .i64 0, .int .i64 0, .bool false, .bool false] 39) wr).setCell ⟨b, 5, none⟩ (.slice (some ⟨wr.heap.size, 0, none⟩) 1 1)).frozen? ⟨x, 5, none⟩ = false) ∧ ((((two (.cells #[.int .i64 1, .int .i64 0, .int .i64 0, .bool false, .bool false] 39) wr).setCell ⟨b, 5, none⟩ (.slice (some ⟨wr.heap.size, 0, none⟩) 1 1)).setCell ⟨x, 5, none⟩ (.slice (some ⟨wr.heap.size + 1, 0, none⟩) 1 1)).cell? ⟨b, 3, none⟩ = some (.int .i64 cu) ∧ (((two (.cells #[.int .i64 1, .int .i64 0, .int .i64 0, .bool false, .bool false] 39) wr).setCell ⟨b, 5, none⟩ (.slice (some ⟨wr.heap.size, 0, none⟩) 1 1)).setCell ⟨x, 5, none⟩ (.slice (some ⟨wr.heap.size + 1, 0, none⟩) 1 1)).frozen? ⟨b, 3, none⟩ = false) ∧ (((((two (.cells #[.int .i64 1, .int .i64 0, .int .i64 0, .bool false, .bool false] 39) wr).setCell ⟨b, 5, none⟩ (.slice (some ⟨wr.heap.size, 0, none⟩) 1 1)).setCell ⟨x, 5, none⟩ (.slice (some ⟨wr.heap.size + 1, 0, none⟩) 1 1)).setCell ⟨b, 3, none⟩ (.int .i64 1)).cell? ⟨x, 3, none⟩ = some (.int .i64 cu) ∧ ((((two (.cells #[.int .i64 1, .int .i64 0, .int .i64 0, .bool false, .bool false] 39) wr).setCell ⟨b, 5, none⟩ (.slice (some ⟨wr.heap.size, 0, none⟩) 1 1)).setCell ⟨x, 5, none⟩ (.slice (some ⟨wr.heap.size + 1, 0, none⟩) 1 1)).setCell ⟨b, 3, none⟩ (.int .i64 1)).frozen? ⟨x, 3, none⟩ = false) ∧
      ((((((two (.cells #[.int .i64 1, .int .i64 0, .int .i64 0, .bool false, .bool false] 39) wr).setCell ⟨b, 5, none⟩ (.slice (some ⟨wr.heap.size, 0, none⟩) 1 1)).setCell ⟨x, 5, none⟩ (.slice (some ⟨wr.heap.size + 1, 0, none⟩) 1 1)).setCell ⟨b, 3, none⟩ (.int .i64 1)).setCell ⟨x, 3, none⟩ (.int .i64 1)).cell? ⟨b, 4, none⟩ = some (.int .i64 ph) ∧ (((((two (.cells #[.int .i64 1, .int .i64 0, .int .i64 0, .bool false, .bool false] 39) wr).setCell ⟨b, 5, none⟩ (.slice (some ⟨wr.heap.size, 0, none⟩) 1 1)).setCell ⟨x, 5, none⟩ (.slice (some ⟨wr.heap.size + 1, 0, none⟩) 1 1)).setCell ⟨b, 3, none⟩ (.int .i64 1)).setCell ⟨x, 3, none⟩ (.int .i64 1)).frozen? ⟨b, 4, none⟩ = false) ∧ (((((((two (.cells #[.int .i64 1, .int .i64 0, .int .i64 0, .bool false, .bool false] 39) wr).setCell ⟨b, 5, none⟩ (.slice (some ⟨wr.heap.size, 0, none⟩) 1 1)).setCell ⟨x, 5, none⟩ (.slice (some ⟨wr.heap.size + 1, 0, none⟩) 1 1)).setCell ⟨b, 3, none⟩ (.int .i64 1)).setCell ⟨x, 3, none⟩ (.int .i64 1)).setCell ⟨b, 4, none⟩ (.int .i64 2)).cell? ⟨x, 4, none⟩ = some (.int .i64 ph) ∧ ((((((two (.cells #[.int .i64 1, .int .i64 0, .int .i64 0, .bool false, .bool false] 39) wr).setCell ⟨b, 5, none⟩ (.slice (some ⟨wr.heap.size, 0, none⟩) 1 1)).setCell ⟨x, 5, none⟩ (.slice (some ⟨wr.heap.size + 1, 0, none⟩) 1 1)).setCell ⟨b, 3, none⟩ (.int .i64 1)).setCell ⟨x, 3, none⟩ (.int .i64 1)).setCell ⟨b, 4, none⟩ (.int .i64 2)).frozen? ⟨x, 4, none⟩ = false) ∧ ((((((((two (.cells #[.int .i64 1, .int .i64 0, .int .i64 0, .bool false, .bool false] 39) wr).setCell ⟨b, 5, none⟩ (.slice (some ⟨wr.heap.size, 0, none⟩) 1 1)).setCell ⟨x, 5, none⟩ (.slice (some ⟨wr.heap.size + 1, 0, none⟩) 1 1)).setCell ⟨b, 3, none⟩ (.int .i64 1)).setCell ⟨x, 3, none⟩ (.int .i64 1)).setCell ⟨b, 4, none⟩ (.int .i64 2)).setCell ⟨x, 4, none⟩ (.int .i64 2)).cell? ⟨b, 1, none⟩ = some (.int .i64 tg) ∧ (((((((two (.cells #[.int .i64 1, .int .i64 0, .int .i64 0, .bool false, .bool false] 39) wr).setCell ⟨b, 5, none⟩ (.slice (some ⟨wr.heap.size, 0, none⟩) 1 1)).setCell ⟨x, 5, none⟩ (.slice (some ⟨wr.heap.size + 1, 0, none⟩) 1 1)).setCell ⟨b, 3, none⟩ (.int .i64 1)).setCell ⟨x, 3, none⟩ (.int .i64 1)).setCell ⟨b, 4, none⟩ (.int .i64 2)).setCell ⟨x, 4, none⟩ (.int .i64 2)).frozen? ⟨b, 1, none⟩ = false) ∧ (((((((((two (.cells #[.int .i64 1, .int .i64 0, .int .i64 0, .bool false, .bool false] 39) wr).setCell ⟨b, 5, none⟩ (.slice (some ⟨wr.heap.size, 0, none⟩) 1 1)).setCell ⟨x, 5, none⟩ (.slice (some ⟨wr.heap.size + 1, 0, none⟩) 1 1)).setCell ⟨b, 3, none⟩ (.int .i64 1)).setCell ⟨x, 3, none⟩ (.int .i64 1)).setCell ⟨b, 4, none⟩ (.int .i64 2)).setCell ⟨x, 4, none⟩ (.int .i64 2)).setCell ⟨b, 1, none⟩ (.int .i64 1)).cell? ⟨x, 1, none⟩ = some (.int .i64 tg) ∧ ((((((((two (.cells #[.int .i64 1, .int .i64 0, .int .i64 0, .bool false, .bool false] 39) wr).setCell ⟨b, 5, none⟩ (.slice (some ⟨wr.heap.size, 0, none⟩) 1 1)).setCell ⟨x, 5, none⟩ (.slice (some ⟨wr.heap.size + 1, 0, none⟩) 1 1)).setCell ⟨b, 3, none⟩ (.int .i64 1)).setCell ⟨x, 3, none⟩ (.int .i64 1)).setCell ⟨b, 4, none⟩ (.int .i64 2)).setCell ⟨x, 4, none⟩ (.int .i64 2)).setCell ⟨b, 1, none⟩ (.int .i64 1)).frozen? ⟨x, 1, none⟩ = false) ∧
      Duo13 w b x (.slice (some ⟨wr.heap.size, 0, none⟩) 1 1) (.slice (some ⟨wr.heap.size + 1, 0, none⟩) 1 1) ⟨ty', 1, re, 1, 2, [⟨1, 0, 0, false, false⟩], bu, ca, co, ce, st, no, pa, di⟩ ⟨ty', 1, re, 1, 2, [⟨1, 0, 0, false, false⟩], bu, ca, co, ce, st, no, pa, di⟩ (((((((((two (.cells #[.int .i64 1, .int .i64 0, .int .i64 0, .bool false, .bool false] 39) wr).setCell ⟨b, 5, none⟩ (.slice (some ⟨wr.heap.size, 0, none⟩) 1 1)).setCell ⟨x, 5, none⟩ (.slice (some ⟨wr.heap.size + 1, 0, none⟩) 1 1)).setCell ⟨b, 3, none⟩ (.int .i64 1)).setCell ⟨x, 3, none⟩ (.int .i64 1)).setCell ⟨b, 4, none⟩ (.int .i64 2)).setCell ⟨x, 4, none⟩ (.int .i64 2)).setCell ⟨b, 1, none⟩ (.int .i64 1)).setCell ⟨x, 1, none⟩ (.int .i64 1)) := by
  have hw0 := h.below.size
  have h0 := h.next (two_below wr (.cells #[.int .i64 1, .int .i64 0, .int .i64 0, .bool false, .bool false] 39))
  obtain ⟨hl1, hl2⟩ := two_lit wr
  have k1 : Keeps (Just [b]) (two (.cells #[.int .i64 1, .int .i64 0, .int .i64 0, .bool false, .bool false] 39) wr) ((two (.cells #[.int .i64 1, .int .i64 0, .int .i64 0, .bool false, .bool false] 39) wr).setCell ⟨b, 5, none⟩ (.slice (some ⟨wr.heap.size, 0, none⟩) 1 1)) := (Keeps.refl _ _).store1 5 _
  have h1 := h0.atProgV (h0.prog.pathed (by decide) hl1 (fun i hi => by
    obtain rfl : wr.heap.size = i := by simpa [Value.ownBlock] using hi
    exact hw0)) k1
  have hl3 : Recs RS 39 0 ((two (.cells #[.int .i64 1, .int .i64 0, .int .i64 0, .bool false, .bool false] 39) wr).setCell ⟨b, 5, none⟩ (.slice (some ⟨wr.heap.size, 0, none⟩) 1 1)) (.slice (some ⟨wr.heap.size + 1, 0, none⟩) 1 1) [⟨1, 0, 0, false, false⟩] := hl2.kept k1 fun g hg e => own_apart hl2 h0.prog.head (by decide) (by rw [hg, List.mem_singleton.1 e])
  have h2 := h1.atDocV (h1.doc.pathed (by decide) hl3 (fun i hi => by
    obtain rfl : wr.heap.size + 1 = i := by simpa [Value.ownBlock] using hi
    omega)) ((Keeps.refl _ _).store1 5 _)
  have h3 := h2.putP (E2 := ⟨ty', tg, re, 1, ph, [⟨1, 0, 0, false, false⟩], bu, ca, co, ce, st, no, pa, di⟩) 3 (.int .i64 1) rfl rfl
  have h4 := h3.putD (E2 := ⟨ty', tg, re, 1, ph, [⟨1, 0, 0, false, false⟩], bu, ca, co, ce, st, no, pa, di⟩) 3 (.int .i64 1) rfl rfl
  have h5 := h4.putP (E2 := ⟨ty', tg, re, 1, 2, [⟨1, 0, 0, false, false⟩], bu, ca, co, ce, st, no, pa, di⟩) 4 (.int .i64 2) rfl rfl
  have h6 := h5.putD (E2 := ⟨ty', tg, re, 1, 2, [⟨1, 0, 0, false, false⟩], bu, ca, co, ce, st, no, pa, di⟩) 4 (.int .i64 2) rfl rfl
  have h7 := h6.putP (E2 := ⟨ty', 1, re, 1, 2, [⟨1, 0, 0, false, false⟩], bu, ca, co, ce, st, no, pa, di⟩) 1 (.int .i64 1) rfl rfl
  have h8 := h7.putD (E2 := ⟨ty', 1, re, 1, 2, [⟨1, 0, 0, false, false⟩], bu, ca, co, ce, st, no, pa, di⟩) 1 (.int .i64 1) rfl rfl
  exact ⟨⟨h0.prog.there 5, h0.prog.free 5⟩, ⟨h1.doc.there 5, h1.doc.free 5⟩, ⟨h2.prog.there 3, h2.prog.free 3⟩, ⟨h3.doc.there 3, h3.doc.free 3⟩, ⟨h4.prog.there 4, h4.prog.free 4⟩, ⟨h5.doc.there 4, h5.doc.free 4⟩, ⟨h6.prog.there 1, h6.prog.free 1⟩, ⟨h7.doc.there 1, h7.doc.free 1⟩, h8⟩
end
end Go.Proofs.Ytboibehnfcbbbaa

namespace Go.Proofs.Ytboibehnfcbbbaa
open Go Go.ChangeShapes Go.WideShapes Go.ChangeAt Go.RowKit

theorem bools3_in {H : Type} {enc : TypeId × Value → H} {W : World} {r : Reach} {b0 : Nat} {sp : Nat → Bool} {held : Bool} {v : Value} {d : DataW H} {ps : List MemPlace} (hv : Value.okWide Try.prog W r b0 22 v)
    (hd : DataW.Trod enc Try.prog W 0 sp held 22 v d ps) : ∃ x y z : Bool, v = .agg #[.bool x, .bool y, .bool z] := by
  have hc : Try.prog.cellsOf 22 = 3 := by kernel_rfl
  have one : Try.prog.cellsOf 4 = 1 := by kernel_rfl
  simp only [Value.okWide, Try.underlying22] at hv
  obtain ⟨cs, rfl, hs, -⟩ := hv
  rw [hc] at hs
  obtain ⟨fuel, h⟩ := hd
  obtain ⟨xs, m, -, -, -, hl, hf⟩ := DataW.trod_array Try.underlying22 h
  have get : ∀ i, i < 3 → ∃ z, xs[i]? = some z := fun i hi => ⟨xs[i]'(by omega), List.getElem?_eq_getElem _⟩
  obtain ⟨z0, g0⟩ := get 0 (by omega)
  obtain ⟨z1, g1⟩ := get 1 (by omega)
  obtain ⟨z2, g2⟩ := get 2 (by omega)
  obtain ⟨a0, e0, _⟩ := DataW.trod_bool Try.underlying4 ((hf 0 (by omega)).trans g0)
  obtain ⟨a1, e1, _⟩ := DataW.trod_bool Try.underlying4 ((hf 1 (by omega)).trans g1)
  obtain ⟨a2, e2, _⟩ := DataW.trod_bool Try.underlying4 ((hf 2 (by omega)).trans g2)
  rw [one] at e0 e1 e2
  refine ⟨a0, a1, a2, ?_⟩
  have e : cs.toList = [.bool a0, .bool a1, .bool a2] := by
    refine List.ext_getElem? fun i => ?_
    match i with
    | 0 => exact part_one e0 rfl
    | 1 => exact part_one e1 rfl
    | 2 => exact part_one e2 rfl
    | i + 3 => rw [List.getElem?_eq_none (by rw [Array.length_toList]; omega), List.getElem?_eq_none (by show 3 ≤ i + 3; omega)]
  rw [← Array.toArray_toList (xs := cs), e]
end Go.Proofs.Ytboibehnfcbbbaa

namespace Go.Proofs.Ytboibehnfcbbbaa
open Go

section
variable {P : Program} {ops : Array Oper} {Q : Exit → Act → World → Prop} {pin : List Nat}

/-- May the operations come up in this order, each pinned one alone? -/
def ordOk (md : Region.Mode) (ops : Array Oper) (pin : List Nat) : List Nat → Array Bool → Bool
  | [], listed => Region.ready md ops listed == []
  | i :: r, listed => (if pin.contains i then Region.ready md ops listed == [i] else (Region.free md ops listed i && (Region.ready md ops listed).contains i)) && (ops[i]?).isSome && ordOk md ops pin r (listed.setIfInBounds i true)

/-- The operations in that order. -/
def picked (l : List Oper) : List Nat → List (Nat × Oper)
  | [] => []
  | i :: r => match l[i]? with
    | some o => (i, o) :: picked l r
    | none => picked l r

def wpOrd (P : Program) (ops : Array Oper) (Q : Exit → Act → World → Prop) (pin : List Nat) : (World → Prop) → List (Nat × Oper) → Act → World → Prop
  | _, [], a, w => Q .normal a w
  | S, (i, o) :: r, a, w => ∃ S' : World → Prop, (∀ w, S' w → S w) ∧
      if pin.contains i = true then wpOp P ops Q i (fun a' w' => S' w' ∧ wpOrd P ops Q pin S' r a' w') a w
      else ∃ v, YieldsIf P ops S' o v a ∧ S' w ∧ wpOrd P ops Q pin S' r (a.put o.dst v) w

theorem wpAnyH_wide {md : Region.Mode} {S S' : World → Prop} (hS : ∀ w, S' w → S w) : ∀ (fuel : Nat) (listed : Array Bool) (a : Act) (w : World), wpAnyH P md ops Q S' fuel listed a w → wpAnyH P md ops Q S fuel listed a w
  | 0, _, _, _, h => h
  | fuel + 1, _, _, _, h => ⟨h.1, fun i hi => wpOp_mono (fun a' w' h' => ⟨hS _ h'.1, wpAnyH_wide hS fuel _ a' w' h'.2⟩) (h.2 i hi)⟩

theorem wpAnyH_of_ord {md : Region.Mode} (hs : Region.noSelect ops = true) (hQ : ∀ c a d v w, Q (.panic c) (Act.put a d v) w → Q (.panic c) a w) :
    ∀ (l : List Nat) (S : World → Prop) (fuel : Nat) (listed : Array Bool) (a : Act) (w : World), l.length ≤ fuel → ordOk md ops pin l listed = true → wpOrd P ops Q pin S (picked ops.toList l) a w → wpAnyH P md ops Q S fuel listed a w
  | [], S, fuel, listed, a, w, _, hk, h => wpAnyH_done (by simpa [ordOk] using hk) h fuel
  | i :: r, _, 0, _, _, _, hl, _, _ => by simp at hl
  | i :: r, S, fuel + 1, listed, a, w, hl, hk, h => by
    simp only [ordOk, Bool.and_eq_true] at hk
    obtain ⟨⟨hk1, hk3⟩, hk2⟩ := hk
    obtain ⟨o, ho⟩ := Option.isSome_iff_exists.1 hk3
    have ho' : ops.toList[i]? = some o := by simpa using ho
    simp only [picked, ho', wpOrd] at h
    obtain ⟨S', hSS, h⟩ := h
    refine wpAnyH_wide hSS _ _ _ _ ?_
    have hl' : r.length ≤ fuel := by simpa using hl
    by_cases hp : pin.contains i = true
    · rw [if_pos hp] at h hk1
      have hr : Region.ready md ops listed = [i] := by simpa using hk1
      refine wpAnyH_all hr (by simp) fun j hj => ?_
      have : j = i := by simpa using hj
      subst this
      exact wpOp_mono (fun a' w' h' => ⟨h'.1, wpAnyH_of_ord hs hQ r _ fuel _ a' w' hl' hk2 h'.2⟩) h
    · rw [if_neg hp] at h hk1
      obtain ⟨v, hy, hS, h⟩ := h
      simp only [Bool.and_eq_true] at hk1
      exact wpAnyH_take ho hs hk1.1 hk1.2 (fun c a w => hQ c a _ v w) hy hS (wpAnyH_of_ord hs hQ r _ fuel _ _ _ hl' hk2 h)

/-- The beginning. -/
theorem wp_region_ord {S : World → Prop} {ol : List Oper} {id : Nat} {a : Act} {w : World} {l : List Nat} (hm : P.follows .mixedOrders = true) (hs : Region.noSelect ol.toArray = true) (hl : (l.length == ol.length) = true)
    (hk : ordOk .any ol.toArray pin l (Array.replicate ol.length false) = true) (hS : S w.drew)
    (h : S w.drew → wpOrd P ol.toArray (NoPanic Q) pin S (picked ol l) a w.drew) : (Code.region id ol.toArray true).wp P Q a w :=
  wp_region_noPanic (wp_region_held hm (wpAnyH_of_ord hs (fun _ _ _ _ _ h => h) l S ol.toArray.size _ a _ (by
    have : l.length = ol.length := by simpa using hl
    simp; omega) (by simpa using hk) (h hS)))

variable {i : Nat} {r : List (Nat × Oper)} {o : Oper} {a : Act} {w : World} {v : Value} {S : World → Prop}
/-- From here on S' holds. -/
theorem ord_tight (S' : World → Prop) (hS : ∀ w, S' w → S w) (hw : S' w) (h : S' w → wpOrd P ops Q pin S' r a w) : wpOrd P ops Q pin S r a w := by
  match r, h hw with
  | [], h => exact h
  | (_, _) :: _, ⟨S'', h1, h2⟩ => exact ⟨S'', fun w hw => hS w (h1 w hw), h2⟩
theorem ord_skip (hp : pin.contains i = false) (hw : Region.wanted o (yielded ops a.tmps) = false) (hS : S w) (h : wpOrd P ops Q pin S r (a.put o.dst undef) w) : wpOrd P ops Q pin S ((i, o) :: r) a w := by
  unfold wpOrd
  refine ⟨S, fun _ h => h, ?_⟩
  rw [if_neg (by rw [hp]; decide)]
  exact ⟨undef, .inr ⟨hw, rfl⟩, hS, h⟩
theorem ord_take (hp : pin.contains i = false) (hw : Region.wanted o (yielded ops a.tmps) = true) (hy : ∀ w, S w → (execOp a.eval o).run P w = .ok (.value v) w) (hS : S w)
    (h : wpOrd P ops Q pin S r (a.put o.dst v) w) : wpOrd P ops Q pin S ((i, o) :: r) a w := by
  unfold wpOrd
  refine ⟨S, fun _ h => h, ?_⟩
  rw [if_neg (by rw [hp]; decide)]
  exact ⟨v, .inl ⟨hw, hy⟩, hS, h⟩
theorem ord_run (hp : pin.contains i = true) (ho : ops[i]? = some o) (hw : Region.wanted o (yielded ops a.tmps) = true)
    (h : ∀ K' : Act → World → Prop, Shut (∀ a w, S w → (S w → wpOrd P ops Q pin S r a w) → K' a w) → Oper.wp P o a w K' Q) : wpOrd P ops Q pin S ((i, o) :: r) a w := by
  unfold wpOrd
  refine ⟨S, fun _ h => h, ?_⟩
  rw [if_pos hp]
  exact wpOp_step ho fun K' hK => by rw [if_pos hw]; exact h K' fun a w hS hW => hK a w ⟨hS, hW hS⟩
theorem ord_pass (hp : pin.contains i = true) (ho : ops[i]? = some o) (hw : Region.wanted o (yielded ops a.tmps) = false) (hS : S w) (h : wpOrd P ops Q pin S r (a.put o.dst undef) w) : wpOrd P ops Q pin S ((i, o) :: r) a w := by
  unfold wpOrd
  refine ⟨S, fun _ h => h, ?_⟩
  rw [if_pos hp]
  exact wpOp_step ho fun K' hK => by rw [if_neg (by rw [hw]; decide)]; exact hK _ _ ⟨hS, h⟩
theorem ord_done (h : Q .normal a w) : wpOrd P ops (NoPanic Q) pin S [] a w := h
end
end Go.Proofs.Ytboibehnfcbbbaa
