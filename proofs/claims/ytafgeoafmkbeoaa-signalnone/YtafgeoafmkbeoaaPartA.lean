/-
  Words for memory of my own: what a block holds ('Has'), and that nothing old has turned but blocks of a given kind ('Keeps F'). No function of the program is named here.
  Lists that came in, as lists of numbers; rows of the call's own. No function of the program is named here.
  Lists of numbers that a call owns. Only the type of lists of numbers is named here.
  Lists of numbers: what they give to an append; those that came in; whether a number is among them.
  Lists of numbers that a call builds: put behind, cut off at the end, read. No function is named here.
  What the calls of sync and sync/atomic do that a once makes, one goroutine alone: an atomic truth that is read and set, a free lock that is taken and let go.
  What sync.Once does within a latch that stands at the beginning of a block of any type, one goroutine alone: the slow way, once; nothing, again. (As Once, where the block is the latch alone.)
  What package latch does, where a latch stands at the beginning of a block: Do, Done. (As Latch, where the block is the latch alone.)
  Boards of signals, plain: what Make, Add and Give do. No program is named here.
  The board of package signal in memory; what its small functions do: New, Len, find, Given.
  What Add of package signal does; a board of which one signal is turned.
  Boards of signals, plain: each tag is told once; what follows a given one is given. No program is named here.
  Boards of signals, plain: how many tags there are; what Give does step by step. No program is named here.
-/
import Derived.Test.YtafgeoafmkbeoaaProg
import Derived.WalkKit
import Derived.WalkSpells
import Derived.WalkLawsBesides
import Derived.Deep.AppendLies
import Derived.Deep.Draws
import Derived.Deep.QuietTactic
import Derived.BigQuiet
import Derived.Laws.LoneSync
import Derived.Laws.OwnMore
import Derived.Lib.OthersKept
import Derived.Lib.Hide
import Derived.ProofKit
import Derived.OpenShut
import Derived.Laws.AppendOwnNone
import Derived.Defers
import Derived.RegionCalls
import Derived.Conc.MuLone

namespace Go.Proofs.Ytafgeoafmkbeoaa
open Go Go.RowKit

/-- Block g holds o. -/
def Has (w : World) (g : Nat) (o : Obj) : Prop := w.heap[g]? = some o
/-- The old blocks that F does not name are as they were; none is gone; the streams are as they were. -/
structure Keeps (F : Nat → Prop) (w w' : World) : Prop where
  frame : w'.os = w.os ∧ w'.tape = w.tape ∧ w'.output = w.output
  grows : w.heap.size ≤ w'.heap.size
  old : ∀ i, i < w.heap.size → ¬ F i → w'.heap[i]? = w.heap[i]?
/-- Just these blocks. -/
def Just (l : List Nat) (i : Nat) : Prop := i ∈ l
theorem just_one (g : Nat) : Just [g] g := List.mem_singleton.2 rfl
theorem just_far {B g : Nat} (h : B ≤ g) : ∀ i, i < B → ¬ Just [g] i := fun i hi hj => by have := List.mem_singleton.1 hj; omega
theorem just_ne {g g' : Nat} (h : g' ≠ g) : ¬ Just [g] g' := fun hj => h (List.mem_singleton.1 hj)

section
variable {F G : Nat → Prop} {w w' w'' : World} {g : Nat} {o : Obj}
theorem Has.inside (h : Has w g o) : g < w.heap.size := (Array.getElem?_eq_some_iff.1 h).1
theorem Has.fresh (w : World) (o : Obj) : Has (w.alloc o) w.heap.size o := heap_alloc_new w o
theorem Has.drewN (h : Has w g o) (n : Nat) : Has (w.drewN n) g o := h
theorem Has.kept (h : Has w g o) (k : Keeps F w w') (hg : ¬ F g) : Has w' g o := Eq.trans (k.old g h.inside hg) h
theorem Has.more (h : Has w g o) (o' : Obj) : Has (w.alloc o') g o := Eq.trans (Below.heap_alloc w o' g h.inside) h
theorem Has.below {B : Nat} (h : Has w g o) (k : Below B w w') (hg : g < B) : Has w' g o := Eq.trans (k.block g hg) h
theorem Has.apart {g' : Nat} {o' : Obj} (h : Has w g o) (h' : Has w g' o') (hne : o ≠ o') : g ≠ g' := fun e => by
  subst e
  exact hne (Option.some.inj (Eq.trans (Eq.symm h) h'))
section
variable {t : TypeId} {cs : Array Value} {fr : Nat × Nat}
theorem Has.cell (h : Has w g (.cells cs t fr)) (i : Nat) : w.cell? ⟨g, i, none⟩ = cs[i]? := cell_of_row w g i cs t fr h
theorem Has.free (h : Has w g (.cells cs t (0, 0))) (i : Nat) : w.frozen? ⟨g, i, none⟩ = false := by
  have h' : w.heap[g]? = some (.cells cs t (0, 0)) := h
  simp [World.frozen?, h']
theorem Has.stored (h : Has w g (.cells cs t fr)) (i : Nat) (u : Value) : Has (w.setCell ⟨g, i, none⟩ u) g (.cells (cs.setIfInBounds i u) t fr) := by
  have h' : w.heap[g]? = some (.cells cs t fr) := h
  simp [Has, World.setCell, Array.getElem?_modify, h']
end
theorem Has.aside (h : Has w g o) {p : Addr} (hp : g ≠ p.block) (u : Value) : Has (w.setCell p u) g o := Eq.trans (Below.heap_setCell w p u g hp) h

theorem Keeps.refl (F : Nat → Prop) (w : World) : Keeps F w w := ⟨⟨rfl, rfl, rfl⟩, Nat.le_refl _, fun _ _ _ => rfl⟩
theorem Keeps.wide (k : Keeps F w w') (h : ∀ i, i < w.heap.size → F i → G i) : Keeps G w w' := ⟨k.frame, k.grows, fun i hi hn => k.old i hi fun hF => hn (h i hi hF)⟩
theorem Keeps.trans (k : Keeps F w w') (k' : Keeps G w' w'') (h : ∀ i, i < w.heap.size → G i → F i) : Keeps F w w'' :=
  ⟨⟨k'.frame.1.trans k.frame.1, k'.frame.2.1.trans k.frame.2.1, k'.frame.2.2.trans k.frame.2.2⟩, Nat.le_trans k.grows k'.grows,
    fun i hi hn => (k'.old i (Nat.lt_of_lt_of_le hi k.grows) fun hG => hn (h i hi hG)).trans (k.old i hi hn)⟩
theorem Keeps.also (k : Keeps F w w') (k' : Keeps F w' w'') : Keeps F w w'' := k.trans k' fun _ _ h => h
theorem Keeps.drewN (k : Keeps F w w') (n : Nat) : Keeps F w (w'.drewN n) := ⟨k.frame, k.grows, k.old⟩
theorem Keeps.drew (k : Keeps F w w') : Keeps F w w'.drew := ⟨k.frame, k.grows, k.old⟩
theorem Keeps.alloc (k : Keeps F w w') (o : Obj) : Keeps F w (w'.alloc o) :=
  ⟨k.frame, Nat.le_trans k.grows (by simp), fun i hi hn => (Below.heap_alloc w' o i (Nat.lt_of_lt_of_le hi k.grows)).trans (k.old i hi hn)⟩
theorem Keeps.store (k : Keeps F w w') {p : Addr} (hp : F p.block ∨ w.heap.size ≤ p.block) (u : Value) : Keeps F w (w'.setCell p u) :=
  ⟨k.frame, by simpa [World.setCell] using k.grows, fun i hi hn => (Below.heap_setCell w' p u i (by
    rintro rfl
    exact hp.elim hn fun h => by omega)).trans (k.old i hi hn)⟩
theorem Keeps.store1 (k : Keeps (Just [g]) w w') (i : Nat) (u : Value) : Keeps (Just [g]) w (w'.setCell ⟨g, i, none⟩ u) := k.store (.inl (just_one g)) u
theorem Keeps.of_below {B : Nat} (k : Below B w w') (h : ∀ i, i < w.heap.size → B ≤ i → F i) : Keeps F w w' :=
  ⟨⟨k.os, k.tape, k.output⟩, k.size, fun i hi hn => k.block i ((Nat.lt_or_ge i B).elim id fun hge => absurd (h i hi hge) hn)⟩
/-- What has turned lies above. -/
theorem below_then {B : Nat} (h : Below B w w') (k : Keeps F w' w'') (hB : B ≤ w'.heap.size) (hF : ∀ i, i < B → ¬ F i) : Below B w w'' :=
  ⟨k.frame.1.trans h.os, k.frame.2.1.trans h.tape, k.frame.2.2.trans h.output, Nat.le_trans h.size k.grows, fun i hi => (k.old i (Nat.lt_of_lt_of_le hi hB) (hF i hi)).trans (h.block i hi)⟩
theorem below_draws {B : Nat} {a w : World} (h : Below B a w) (n : Nat) : Below B a (w.drewN n) := ⟨h.os, h.tape, h.output, h.size, h.block⟩
end
end Go.Proofs.Ytafgeoafmkbeoaa

namespace Go.Proofs.Ytafgeoafmkbeoaa
open Go Go.ChangeShapes Go.WideShapes Go.ChangeAt Go.RowKit

/-- The slice's place number i, below block B, holds v. -/
def At (w : World) (B : Nat) (A : Option Addr) (i : Nat) (v : Value) : Prop := ∃ b off, A = some ⟨b, off, none⟩ ∧ b < B ∧ w.cell? ⟨b, off + i, none⟩ = some v
/-- A list of numbers that came in: at each place its number. -/
def Nums (w : World) (B : Nat) (A : Option Addr) (k : IntKind) (xs : List Int) : Prop := ∀ i (h : i < xs.length), At w B A i (.int k xs[i])

theorem At.below {w w' : World} {B : Nat} {A : Option Addr} {i : Nat} {v : Value} (h : At w B A i v) (hb : Below B w w') : At w' B A i v := by
  obtain ⟨b, off, e, hB, hc⟩ := h
  exact ⟨b, off, e, hB, (hb.cell (p := ⟨b, off + i, none⟩) hB).trans hc⟩

theorem Nums.below {w w' : World} {B : Nat} {A : Option Addr} {k : IntKind} {xs : List Int} (h : Nums w B A k xs) (hb : Below B w w') : Nums w' B A k xs := fun i hi => (h i hi).below hb

theorem Nums.mono {w : World} {B B' : Nat} {A : Option Addr} {k : IntKind} {xs : List Int} (h : Nums w B A k xs) (hb : B ≤ B') : Nums w B' A k xs := fun i hi => by
  obtain ⟨b, off, e, hB, hc⟩ := h i hi
  exact ⟨b, off, e, Nat.lt_of_lt_of_le hB hb, hc⟩

/-- Out of the row's reading. -/
theorem nums_in {P : Program} {H : Type} {enc : TypeId × Value → H} {W : World} {sp : Nat → Bool} {held : Bool} {fuel : Nat} {t e : TypeId} {k : IntKind} {A : Option Addr} {n cap : Nat} {x : DataW H × List MemPlace}
    (ht : P.underlying t = some (.slice e)) (he : P.underlying e = some (.int k)) (h1 : P.cellsOf e = 1)
    (hf : DataW.trod enc P W 0 sp held fuel t [.slice A n cap] = some x) (hx : ∀ y ∈ x.2, y.block < W.heap.size) :
    ∃ xs : List Int, xs.length = n ∧ Nums W W.heap.size A k xs ∧ (∀ z ∈ xs, (Lit.int k z).wf = true) ∧ n ≤ cap ∧ n ≤ maxLen := by
  rcases open_ints ht he h1 hf with ⟨hv, _⟩ | ⟨a, n', cap', zs, hv, _, hl, hm, hz, hxe, hcell, hws⟩
  · obtain ⟨rfl, rfl, rfl⟩ : A = none ∧ n = 0 ∧ cap = 0 := by simpa using hv
    exact ⟨[], rfl, fun i h => absurd h (Nat.not_lt_zero i), fun z h => absurd h (by simp), Nat.le_refl 0, Nat.zero_le _⟩
  · obtain ⟨rfl, rfl, rfl⟩ : A = some a ∧ n = n' ∧ cap = cap' := by simpa using hv
    have hge : n ≤ zs.length := by rw [hz]; split <;> omega
    refine ⟨zs.take n, by rw [List.length_take]; omega, fun i hi => ?_, fun z h => hws z (List.mem_of_mem_take h), hl, Nat.le_trans hl hm⟩
    rw [List.length_take] at hi
    have hi' : i < zs.length := by omega
    have hc := hcell i hi'
    have hc0 := hcell 0 (by omega)
    obtain ⟨b, off, spot⟩ := a
    obtain rfl : spot = none := by simpa [Addr.add] using World.cell?_spot hc0
    rw [Addr.add_lit] at hc
    refine ⟨b, off, rfl, hx (.cell b off) (by rw [hxe]; exact MemPlace.mem_row.2 ⟨0, by omega, by simp⟩), hc.trans ?_⟩
    rw [List.getElem_take, List.getD_eq_getElem?_getD, List.getElem?_eq_getElem hi']
    rfl

theorem Keeps.storeAt {F : Nat → Prop} {w w' : World} {g : Nat} (k : Keeps F w w') (h : F g) (i : Nat) (u : Value) : Keeps F w (w'.setCell ⟨g, i, none⟩ u) := k.store (.inl h) u
/-- What an append leaves. -/
theorem Keeps.of_grown {w w' : World} {row : Option Nat} (h : w.grownBy w' row) : Keeps (fun i => row = some i) w w' :=
  ⟨⟨h.os, h.tape, h.output⟩, h.size, fun i hi hn => h.block i hi fun e => hn e.symm⟩
/-- A row of the call's own is kept where its block is. -/
theorem own_kept {F : Nat → Prop} {w w' : World} {base n size : Nat} {e : TypeId} {v : Value} {xs : List Value} (h : w.ownsRow base e size v n xs) (k : Keeps F w w') (hF : ∀ g, v.ownBlock = some g → ¬ F g) : w'.ownsRow base e size v n xs := by
  refine ⟨h.1, ?_⟩
  rcases h.2 with hn | ⟨g, cap, cur, rfl, hb, hg, rest⟩
  · exact .inl hn
  · exact .inr ⟨g, cap, cur, rfl, hb, Has.kept hg k (hF g rfl), rest⟩
end Go.Proofs.Ytafgeoafmkbeoaa

namespace Go.Proofs.Ytafgeoafmkbeoaa
open Go Go.RowKit

/-- Is a number in a list? -/
def hasB (xs : List Int) (x : Int) : Bool := decide (x ∈ xs)
/-- A list of numbers of the call's own, in a block that G names. -/
def Kids (G : Nat → Prop) (w : World) (v : Value) (xs : List Int) : Prop := w.ownsRow 0 3 1 v xs.length (xs.map (Value.int .i64)) ∧ ∀ g, v.ownBlock = some g → G g
/-- All blocks from B on G names. -/
def Fut (G : Nat → Prop) (B : Nat) : Prop := ∀ i, B ≤ i → G i
theorem Fut.mono {G : Nat → Prop} {B B' : Nat} (h : Fut G B) (hb : B ≤ B') : Fut G B' := fun i hi => h i (Nat.le_trans hb hi)
theorem Fut.any (B : Nat) : Fut (fun _ => True) B := fun _ _ => trivial

section
variable {G : Nat → Prop} {w w' : World} {F : Nat → Prop} {B B' base n size : Nat} {e : TypeId} {v : Value} {xs : List Int} {us : List Value}
theorem own_in (h : w.ownsRow base e size v n us) : ∀ g, v.ownBlock = some g → g < w.heap.size := fun g hg => (h.lt g hg).2
theorem own_base (h : w.ownsRow base e size v n us) (hb : B ≤ base) : w.ownsRow B e size v n us := by
  refine ⟨h.1, h.2.imp id fun ⟨g, cap, cur, hv, hg, rest⟩ => ⟨g, cap, cur, hv, Nat.le_trans hb hg, rest⟩⟩
theorem own_from (h : w.ownsRow base e size v n us) (hb : ∀ g, v.ownBlock = some g → B ≤ g) : w.ownsRow B e size v n us := by
  refine ⟨h.1, h.2.imp id fun ⟨g, cap, cur, hv, _, rest⟩ => ⟨g, cap, cur, hv, hb g (by rw [hv]; rfl), rest⟩⟩
theorem Kids.kept (h : Kids G w v xs) (k : Keeps F w w') (hF : ∀ i, i < w.heap.size → ¬ F i) : Kids G w' v xs := ⟨own_kept h.1 k fun g hg => hF g (own_in h.1 g hg), h.2⟩
theorem Kids.keptG (h : Kids G w v xs) (k : Keeps F w w') (hF : ∀ i, G i → i < w.heap.size → ¬ F i) : Kids G w' v xs := ⟨own_kept h.1 k fun g hg => hF g (h.2 g hg) (own_in h.1 g hg), h.2⟩
theorem Kids.wide {G' : Nat → Prop} (h : Kids G w v xs) (hG : ∀ i, G i → i < w.heap.size → G' i) : Kids G' w v xs := ⟨h.1, fun g hg => hG g (h.2 g hg) (own_in h.1 g hg)⟩
theorem Kids.aside {g i : Nat} {u : Value} {cs : Array Value} {t : TypeId} {fr : Nat × Nat} (h : Kids G w v xs) (hg : Has w g (.cells cs t fr)) (ht : t ≠ 3) : Kids G (w.setCell ⟨g, i, none⟩ u) v xs :=
  ⟨own_kept h.1 (Keeps.storeAt (F := fun j => j = g) (Keeps.refl _ _) rfl i u) fun g' hg' e => by
    rcases h.1.2 with ⟨rfl, _⟩ | ⟨g2, cap, cur, rfl, _, hh, _⟩
    · cases hg'
    · obtain rfl : g2 = g' := by simpa [Value.ownBlock] using hg'
      exact Has.apart hg hh (fun e => ht (by injection e)) e.symm, h.2⟩
theorem Kids.below (h : Kids G w v xs) (k : Below w.heap.size w w') : Kids G w' v xs := h.kept (Keeps.of_below (F := fun i => w.heap.size ≤ i) k fun _ _ h => h) fun _ hi => Nat.not_le.2 hi
/-- A list of the call's own may be read. -/
theorem Kids.form (h : Kids G w v xs) : ∃ A c, v = .slice A xs.length c ∧ xs.length ≤ c ∧ Nums w w.heap.size A .i64 xs := by
  have h := h.1
  rcases h.2 with ⟨rfl, h0⟩ | ⟨g, cap, cur, rfl, _, hh, hc, _⟩
  · exact ⟨none, 0, by rw [h0], by omega, fun i hi => by omega⟩
  · refine ⟨_, cap, rfl, hc, fun i hi => ⟨g, 0, rfl, Has.inside hh, ?_⟩⟩
    rw [Nat.zero_add, h.cellAt i (by omega), List.getElem?_map, List.getElem?_eq_getElem hi]
    rfl
end
theorem own_empty (w : World) : (w.alloc (.cells #[] 3)).ownsRow w.heap.size 3 1 (.slice (some ⟨w.heap.size, 0, none⟩) 0 0) 0 [] :=
  ⟨rfl, .inr ⟨w.heap.size, 0, #[], rfl, Nat.le_refl _, Has.fresh w (.cells #[] 3), Nat.le_refl _, Nat.zero_le _, rfl, rfl⟩⟩
theorem wrap_small {n : Int} (h0 : -9223372036854775808 ≤ n) (h1 : n ≤ 9223372036854775807) : IntKind.i64.wrap n = n := by
  rw [IntKind.wrap_i64]
  omega
section
variable {w : World} {base base' n n' size size' i : Nat} {e e' : TypeId} {v v' : Value} {us us' : List Value}
/-- A row lies not in a block of another kind. -/
theorem own_apart (h : w.ownsRow base e size v n us) {cs : Array Value} {t : TypeId} {fr : Nat × Nat} (hi : Has w i (.cells cs t fr)) (ht : t ≠ e) : v.ownBlock ≠ some i := fun hv => by
  rcases h.2 with ⟨rfl, _⟩ | ⟨g', cap, cur, rfl, _, hh, _⟩
  · cases hv
  · obtain rfl : g' = i := by simpa [Value.ownBlock] using hv
    exact Has.apart hh hi (fun e => ht (by injection e with _ e; exact e.symm)) rfl
theorem own_apart2 (h : w.ownsRow base e size v n us) (h' : w.ownsRow base' e' size' v' n' us') (ht : e' ≠ e) : ∀ g, v'.ownBlock = some g → v.ownBlock ≠ some g := fun g hg => by
  rcases h'.2 with ⟨rfl, _⟩ | ⟨g', cap, cur, rfl, _, hh, _⟩
  · cases hg
  · obtain rfl : g' = g := by simpa [Value.ownBlock] using hg
    exact own_apart h hh ht
end
end Go.Proofs.Ytafgeoafmkbeoaa

namespace Go.Proofs.Ytafgeoafmkbeoaa
open Go Go.ChangeShapes Go.WideShapes Go.ChangeAt Go.RowKit
variable {G : Nat → Prop}

/-- What a slice gives to an append: m elements of so many cells; nil gives none. -/
def Gives (w : World) (size : Nat) (x : Value) (m : Nat) (us : List Value) : Prop :=
  (x = .slice none 0 0 ∧ m = 0 ∧ us = []) ∨ ∃ ad c, x = .slice (some ad) m c ∧ us.length = m * size ∧ ∀ j u, us[j]? = some u → w.cell? (ad.add j) = some u

theorem own_gives {w : World} {base n size : Nat} {e : TypeId} {v : Value} {us : List Value} (h : w.ownsRow base e size v n us) : Gives w size v n us := by
  rcases h.2 with ⟨rfl, rfl⟩ | ⟨g, cap, cur, rfl, _, hg, _⟩
  · exact .inl ⟨rfl, rfl, List.eq_nil_of_length_eq_zero (by simpa using h.1)⟩
  · exact .inr ⟨_, _, rfl, h.1, h.cells rfl⟩
theorem nums_gives {w : World} {B n c : Nat} {A : Option Addr} {xs : List Int} (h : Nums w B A .i64 xs) (hn : n = xs.length) (h0 : A = none → c = 0) : Gives w 1 (.slice A n c) n (xs.map (Value.int .i64)) := by
  subst hn
  cases A with
  | none =>
    obtain rfl := h0 rfl
    have : xs = [] := by
      cases xs with
      | nil => rfl
      | cons x r =>
        obtain ⟨_, _, e, _⟩ := h 0 (by simp)
        cases e
    subst this
    exact .inl ⟨rfl, rfl, rfl⟩
  | some a =>
    refine .inr ⟨a, c, rfl, by simp, fun j u hu => ?_⟩
    obtain ⟨hj, rfl⟩ := List.getElem?_eq_some_iff.1 hu
    rw [List.length_map] at hj
    obtain ⟨b, off, e, _, hc⟩ := h j hj
    cases e
    rw [Addr.add_lit, hc, List.getElem_map]

theorem wpList_append_gives {P : Program} {w : World} {ops : Array Oper} {rest : List Oper} {o : Oper} {a : Act} {Q : Exit → Act → World → Prop} (hgd : o.guard = none) (s x : Operand) (t : TypeId)
    (ho : o.op = .call { callee := .builtin .append, args := #[s, x], argTypes := #[t, t] })
    (base : Nat) (e : TypeId) (i : TypeInfo) (z : Value) (size bytes : Nat) (ht : P.underlying t = some (.slice e)) (hi : P.info? e = some i) (hz : i.zero = some z)
    (hsize : i.size = size) (hby : i.bytes = bytes) (hzs : z.cells.size = size) (hsz : 0 < size)
    (v : Value) (n : Nat) (xs : List Value) (hs : a.eval s = v) (hown : w.ownsRow base e size v n xs)
    (X : Value) (m : Nat) (us : List Value) (hx : a.eval x = X) (hG : Gives w size X m us) (h1 : ∀ u ∈ us, u.oneCell' = true)
    (h63 : n + m ≤ maxLen) (hbytes : (n + m) * bytes ≤ 140737488355328) (hbase : base ≤ w.heap.size)
    (h : ∀ v' w', w'.ownsRow base e size v' (n + m) (xs ++ us) → w.grownBy w' v.ownBlock → wpList P ops Q rest (a.put o.dst v') w') : wpList P ops Q (o :: rest) a w := by
  rcases hG with ⟨rfl, rfl, rfl⟩ | ⟨ad, c, rfl, hl, hc⟩
  · refine wpList_append_own_none hgd s x t ho base e i size ht hi v n xs hs hown hx (h v w ?_ ⟨rfl, rfl, rfl, Nat.le_refl _, fun _ _ _ => rfl⟩)
    rw [List.append_nil]
    exact hown
  · exact wpList_append_own w hgd s x t ho base e i z size bytes ht hi hz hsize hby hzs hsz v n xs hs hown ad m c us hx hl hc h1 h63 hbytes hbase fun v' w' h2 h3 _ => h v' w' h2 h3

theorem own_form {w : World} {base n size : Nat} {e : TypeId} {v : Value} {us : List Value} (h : w.ownsRow base e size v n us) : ∃ A c, v = .slice A n c ∧ n ≤ c := by
  rcases h.2 with ⟨rfl, rfl⟩ | ⟨g, cap, cur, rfl, _, _, hc, _⟩
  · exact ⟨_, _, rfl, Nat.le_refl _⟩
  · exact ⟨_, _, rfl, hc⟩

theorem Try.infoInt : (Try.prog.info? 3).map (fun i => (i.zero, i.size, i.bytes)) = some (some (.int .i64 0), 1, 8) := by kernel_rfl

theorem kids_one (xs : List Int) : ∀ u ∈ xs.map (Value.int .i64), u.oneCell' = true := by
  intro u hu
  obtain ⟨x, _, rfl⟩ := List.mem_map.1 hu
  rfl
theorem Kids.one {w : World} {v : Value} {xs : List Int} (h : Kids G w v xs) : v.oneCell' = true := by
  rcases h.1.2 with ⟨rfl, _⟩ | ⟨g, cap, cur, rfl, _⟩ <;> rfl

/-- A new list of numbers, and nothing else. -/
theorem kids_new {wr w2 : World} {v2 : Value} {kd : List Int} (ho : w2.ownsRow wr.heap.size 3 1 v2 (0 + kd.length) ([] ++ kd.map (Value.int .i64))) (hg : (wr.alloc (.cells #[] 3)).grownBy w2 (some wr.heap.size)) (hG : Fut G wr.heap.size) :
    Kids G w2 v2 kd ∧ Below wr.heap.size wr w2 ∧ wr.heap.size < w2.heap.size := by
  rw [Nat.zero_add, List.nil_append] at ho
  refine ⟨⟨own_base ho (Nat.zero_le _), fun g hg => hG g (ho.lt g hg).1⟩, ((Below.refl _ wr).alloc (Nat.le_refl _) _).grown hg (by simp) fun k hk => ?_, ?_⟩
  · have : wr.heap.size = k := by simpa using hk
    omega
  · have := hg.size
    simp at this
    omega
theorem cell_in {w : World} {a : Addr} {v : Value} (h : w.cell? a = some v) : a.block < w.heap.size := by
  rcases Nat.lt_or_ge a.block w.heap.size with h' | h'
  · exact h'
  · rw [World.cell?, Array.getElem?_eq_none h'] at h
    cases h

/-- A list of numbers within what came in. -/
structure ListIn (w : World) (A : Option Addr) (c : Nat) (xs : List Int) : Prop where
  cap : xs.length ≤ c
  nil : A = none → c = 0
  nums : Nums w w.heap.size A .i64 xs

section
variable {H : Type} {enc : TypeId × Value → H} {W : World} {sp : Nat → Bool} {held : Bool} {fuel : Nat} {cs : List Value} {y : DataW H × List MemPlace}

theorem list_in (h : DataW.trod enc Try.prog W 0 sp held fuel 30 cs = some y) : ∃ A c xs, cs = [.slice A (List.length xs) c] ∧ ListIn W A c xs := by
  rcases open_ints Try.underlying30 Try.underlying3 (by kernel_rfl) h with ⟨rfl, _⟩ | ⟨a, n, cap, zs, rfl, _, hl, hm, hz, hxe, hcell, hws⟩
  · exact ⟨none, 0, [], rfl, Nat.le_refl 0, fun _ => rfl, fun i hi => absurd hi (Nat.not_lt_zero i)⟩
  · have hge : n ≤ zs.length := by rw [hz]; split <;> omega
    have hlen : (zs.take n).length = n := by rw [List.length_take]; omega
    refine ⟨some a, cap, zs.take n, by rw [hlen], by rw [hlen]; exact hl, fun e => absurd e (by simp), fun i hi => ?_⟩
    rw [hlen] at hi
    have hi' : i < zs.length := by omega
    have hc := hcell i hi'
    have hc0 := hcell 0 (by omega)
    obtain ⟨b, off, spot⟩ := a
    obtain rfl : spot = none := by simpa [Addr.add] using World.cell?_spot hc0
    rw [Addr.add_lit] at hc
    refine ⟨b, off, rfl, cell_in hc, hc.trans ?_⟩
    rw [List.getElem_take, List.getD_eq_getElem?_getD, List.getElem?_eq_getElem hi']
    rfl

/-- One cell of a row, by its part. -/
theorem part_one {cs : List Value} {i n : Nat} {v : Value} (h : (cs.drop i).take n = [v]) (hn : n = 1) : cs[i]? = some v := by
  subst hn
  have : ((cs.drop i).take 1)[0]? = some v := by rw [h]; rfl
  rw [List.getElem?_take, if_pos (by omega), List.getElem?_drop] at this
  exact this

end
theorem ListIn.below {w w' : World} {A : Option Addr} {c : Nat} {xs : List Int} (h : ListIn w A c xs) (hb : Below w.heap.size w w') : ListIn w' A c xs := ⟨h.cap, h.nil, (h.nums.below hb).mono hb.size⟩
theorem listNone (W : World) : ListIn W none 0 [] := ⟨Nat.le_refl 0, fun _ => rfl, fun i hi => absurd hi (Nat.not_lt_zero i)⟩
/-- A literal of numbers. -/
theorem listLit {W : World} {b : Nat} {t : TypeId} {fr : Nat × Nat} {xs : List Int} (hh : Has W b (.cells (xs.map (Value.int .i64)).toArray t fr)) : ListIn W (some ⟨b, 0, none⟩) xs.length xs :=
  ⟨Nat.le_refl _, (fun e => by cases e), fun i hi => ⟨b, 0, rfl, hh.inside, by rw [hh.cell, Nat.zero_add, List.getElem?_toArray, List.getElem?_map, List.getElem?_eq_getElem hi]; rfl⟩⟩
/-- A list that lies elsewhere stays. -/
theorem ListIn.kept {S : Nat → Prop} {w w' : World} {A : Option Addr} {c : Nat} {xs : List Int} (h : ListIn w A c xs) (k : Keeps S w w') (hA : 0 < xs.length → ∀ b' off s, A = some ⟨b', off, s⟩ → b' < w.heap.size → ¬ S b') : ListIn w' A c xs :=
  ⟨h.cap, h.nil, fun i hi => by
    obtain ⟨b', off, e, hb, hc⟩ := h.nums i hi
    refine ⟨b', off, e, Nat.lt_of_lt_of_le hb k.grows, ?_⟩
    have ho := k.old b' hb (hA (by omega) _ _ _ e hb)
    rw [← hc]
    unfold World.cell?
    simp only [ho]⟩
theorem has_take {xs : List Int} {x : Int} {k : Nat} (h : hasB (xs.take k) x = false) (hk : k < xs.length) (hx : xs[k] ≠ x) : hasB (xs.take (k + 1)) x = false := by
  unfold hasB at *
  rw [List.take_add_one, List.getElem?_eq_getElem hk]
  simp only [List.mem_append, Option.toList_some, List.mem_singleton, decide_eq_false_iff_not] at *
  rintro (h' | h')
  · exact h h'
  · exact hx h'.symm

set_option maxHeartbeats 1000000 in
theorem has_any (xs : List Int) (A : Option Addr) (n c : Nat) (x : Int) (w : World) {B : Nat} (hn : n = xs.length) (hl : n ≤ 1000000) (h : Nums w B A .i64 xs) :
    Calls Try.prog 25 #[.slice A n c, .int .i64 x] w fun e w' => e = .returned (.bool (hasB xs x)) ∧ w = w' := by
  have Hn := Lib.hid hn
  have H := Lib.hid h
  clear hn h
  go_enter Try.func25, Try.ntmps25
  go_wp2
  go_loop [5] (fun i => ∃ k : Nat, i = .int .i64 k ∧ k ≤ n ∧ hasB (xs.take k) x = false) (fun i => n - (intOf i).toNat)
  case atStart => exact ⟨0, rfl, Nat.zero_le _, by simp [hasB]⟩
  case round =>
    obtain ⟨k, rfl, hk, hc⟩ := hrel
    have Hc := Lib.hid hc
    clear hc
    by_cases hlt : (k : Int) < n
    · have hkl : k < xs.length := by rw [← Hn.out]; omega
      obtain ⟨b, off, rfl, hb, hcell⟩ := H.out k hkl
      obtain ⟨y, hy⟩ : ∃ y, y = xs[k] := ⟨_, rfl⟩
      rw [← hy] at hcell
      have Hy := Lib.hid hy
      clear hy hb
      by_cases hxy : y = x
      · have e1 : hasB xs x = true := by
          rw [hasB, decide_eq_true_iff, ← hxy, Hy.out]
          exact List.getElem_mem hkl
        have E1 := Lib.hid e1
        clear e1
        subst hxy
        go_wp2
        go_ret
        rw [E1.out]
        exact ⟨rfl, rfl⟩
      · have hxy' : (y == x) = false := by simpa using hxy
        have e2 := has_take Hc.out hkl (by rw [← Hy.out]; exact hxy)
        have E2 := Lib.hid e2
        clear e2
        go_wp2
        go_round
        case rel => exact ⟨k + 1, by go_num, by omega, E2.out⟩
        case measure => simp [intOf]; omega
    · have e1 : hasB xs x = false := by
        have := Hc.out
        rw [List.take_of_length_le (by rw [← Hn.out]; omega)] at this
        exact this
      have E1 := Lib.hid e1
      clear e1
      go_wp2
      go_ret
      rw [E1.out]
      exact ⟨rfl, rfl⟩
end Go.Proofs.Ytafgeoafmkbeoaa

namespace Go.Proofs.Ytafgeoafmkbeoaa
open Go Go.RowKit

/-- A list of numbers of the call's own, its block from base on; what lies behind its end may be written over only where nobody else can see it. -/
def Pile (base : Nat) (w : World) (v : Value) (xs : List Int) : Prop :=
  (v = .slice none 0 0 ∧ xs = []) ∨
  ∃ g cap cur, v = .slice (some ⟨g, 0, none⟩) xs.length cap ∧ base ≤ g ∧ Has w g (.cells cur 3 (0, 0)) ∧ xs.length ≤ cap ∧ cap ≤ maxLen ∧ (cur.size = cap ∨ cap = xs.length) ∧ cur.toList.take xs.length = xs.map (Value.int .i64)

section
variable {base base' : Nat} {w w' : World} {v : Value} {xs : List Int} {F : Nat → Prop}
theorem Pile.nil (base : Nat) (w : World) : Pile base w (.slice none 0 0) [] := .inl ⟨rfl, rfl⟩
theorem Pile.lt (h : Pile base w v xs) : ∀ g, v.ownBlock = some g → base ≤ g ∧ g < w.heap.size := by
  intro k hk
  rcases h with ⟨rfl, _⟩ | ⟨g, cap, cur, rfl, hb, hg, _⟩
  · cases hk
  · obtain rfl : g = k := by simpa [Value.ownBlock] using hk
    exact ⟨hb, hg.inside⟩
theorem Pile.kept (h : Pile base w v xs) (k : Keeps F w w') (hF : ∀ g, v.ownBlock = some g → ¬ F g) : Pile base w' v xs := by
  rcases h with h | ⟨g, cap, cur, rfl, hb, hg, rest⟩
  · exact .inl h
  · exact .inr ⟨g, cap, cur, rfl, hb, hg.kept k (hF g rfl), rest⟩
theorem Pile.below (h : Pile base w v xs) (k : Below w.heap.size w w') : Pile base w' v xs :=
  h.kept (Keeps.of_below (F := fun i => w.heap.size ≤ i) k fun _ _ h => h) fun g hg => Nat.not_le.2 (h.lt g hg).2
theorem Pile.from_ (h : Pile base w v xs) (hb : base' ≤ base) : Pile base' w v xs := by
  rcases h with h | ⟨g, cap, cur, rfl, h1, rest⟩
  · exact .inl h
  · exact .inr ⟨g, cap, cur, rfl, Nat.le_trans hb h1, rest⟩
theorem Pile.since (h : Pile base w v xs) (hb : ∀ g, v.ownBlock = some g → base' ≤ g) : Pile base' w v xs := by
  rcases h with h | ⟨g, cap, cur, rfl, h1, rest⟩
  · exact .inl h
  · exact .inr ⟨g, cap, cur, rfl, hb g rfl, rest⟩
theorem Pile.alloc (h : Pile base w v xs) (o : Obj) : Pile base (w.alloc o) v xs := h.below ((Below.refl _ w).alloc (Nat.le_refl _) o)
theorem Pile.drew (h : Pile base w v xs) : Pile base w.drew v xs := h
theorem Pile.drewN (h : Pile base w v xs) (n : Nat) : Pile base (w.drewN n) v xs := h
/-- Its shape, and that it may be read. -/
theorem Pile.form (h : Pile base w v xs) : ∃ A c, v = .slice A xs.length c ∧ ListIn w A c xs := by
  rcases h with ⟨rfl, rfl⟩ | ⟨g, cap, cur, rfl, hb, hg, hl, hm, hc, ht⟩
  · exact ⟨none, 0, rfl, Nat.le_refl _, fun _ => rfl, fun i hi => absurd hi (Nat.not_lt_zero i)⟩
  · refine ⟨_, cap, rfl, hl, (fun e => by cases e), fun i hi => ⟨g, 0, rfl, hg.inside, ?_⟩⟩
    have e := congrArg (fun z => z[i]?) ht
    simp only [List.getElem?_take, if_pos hi, List.getElem?_map, List.getElem?_eq_getElem hi] at e
    rw [Nat.zero_add, hg.cell i, ← Array.getElem?_toList, e]
    rfl
theorem Pile.of_kids {G : Nat → Prop} (h : Kids G w v xs) (hb : ∀ g, G g → g < w.heap.size → base ≤ g) : Pile base w v xs := by
  rcases h.1.2 with ⟨hv, h0⟩ | ⟨g, cap, cur, hv, _, hg, h1, h2, h3, h4⟩
  · exact .inl ⟨hv, List.length_eq_zero_iff.1 h0⟩
  · exact .inr ⟨g, cap, cur, hv, hb g (h.2 g (by rw [hv]; rfl)) (Has.inside hg), hg, h1, h2, .inl (by omega), by rw [Nat.mul_one] at h4; exact h4⟩
/-- A literal. -/
theorem Pile.lit (w : World) (xs : List Int) (n : Nat) (hn : n = xs.length) (hm : n ≤ maxLen) (hb : base ≤ w.heap.size) : Pile base (w.alloc (.cells (xs.map (Value.int .i64)).toArray 3)) (.slice (some ⟨w.heap.size, 0, none⟩) n n) xs := by
  subst hn
  refine .inr ⟨w.heap.size, xs.length, _, rfl, hb, Has.fresh _ _, Nat.le_refl _, hm, .inr rfl, ?_⟩
  simp only
  rw [List.take_of_length_le (by simp)]
/-- The last one is cut off. -/
theorem Pile.clip {A : Option Addr} {n c : Nat} {y : Int} (h : Pile base w (.slice A (n + 1) c) (xs ++ [y])) (hn : n = xs.length) : ∃ g, A = some ⟨g, 0, none⟩ ∧ Pile base w (.slice A n n) xs := by
  subst hn
  rcases h with ⟨hv, _⟩ | ⟨g, cap, cur, hv, hb, hg, hl, hm, hc, ht⟩
  · cases hv
  · obtain ⟨rfl, -, rfl⟩ : A = some ⟨g, 0, none⟩ ∧ xs.length + 1 = (xs ++ [y]).length ∧ c = cap := by injection hv with e1 e2 e3; exact ⟨e1, e2, e3⟩
    refine ⟨g, rfl, .inr ⟨g, xs.length, cur, rfl, hb, hg, Nat.le_refl _, ?_, .inr rfl, ?_⟩⟩
    · rw [List.length_append] at hl
      omega
    · have e := congrArg (List.take xs.length) ht
      rw [List.take_take, List.length_append, List.map_append, List.take_append_of_le_length (by simp), Nat.min_eq_left (by omega)] at e
      have e2 : List.take xs.length (xs.map (Value.int .i64)) = xs.map (Value.int .i64) := List.take_of_length_le (by simp)
      rw [e2] at e
      exact e
end

section
variable {base : Nat} {w : World} {v : Value} {xs : List Int}
/-- One number is put behind: in the old row or a new one. -/
theorem run_push (t ty : TypeId) (i : TypeInfo) (z : Value) {P : Program} (ht : P.underlying t = some (.slice 3)) (hi : P.info? 3 = some i) (hz : i.zero = some z) (hsize : i.size = 1) (hby : i.bytes = 8) (hzs : z.cells.size = 1)
    (hP : Pile base w v xs) {b c : Nat} {y : Int} {fr : Nat × Nat} (hb : Has w b (.cells #[.int .i64 y] 3 fr)) (hl : xs.length ≤ 1000000) (hbase : base ≤ w.heap.size) :
    ∃ g cap w', (Builtin.append_ #[t, t] ty #[v, .slice (some ⟨b, 0, none⟩) 1 c]).run P w = .ok (.slice (some ⟨g, 0, none⟩) (xs.length + 1) cap) w' ∧
      Pile base w' (.slice (some ⟨g, 0, none⟩) (xs.length + 1) cap) (xs ++ [y]) ∧ Keeps (fun i => v.ownBlock = some i) w w' ∧ (v.ownBlock = some g ∨ w.heap.size ≤ g) ∧ g < w'.heap.size := by
  have hnews : ∀ j u, [Value.int .i64 y][j]? = some u → w.cell? ((⟨b, 0, none⟩ : Addr).add j) = some u := World.news_of_block hb
  have h1 : ∀ u ∈ [Value.int .i64 y], u.oneCell' = true := fun u hu => by obtain rfl := List.mem_singleton.1 hu; rfl
  have owned : ∀ {vo : Value}, w.ownsRow base 3 1 vo xs.length (xs.map (Value.int .i64)) → ∃ g cap w', (Builtin.append_ #[t, t] ty #[vo, .slice (some ⟨b, 0, none⟩) 1 c]).run P w = .ok (.slice (some ⟨g, 0, none⟩) (xs.length + 1) cap) w' ∧
      Pile base w' (.slice (some ⟨g, 0, none⟩) (xs.length + 1) cap) (xs ++ [y]) ∧ Keeps (fun i => vo.ownBlock = some i) w w' ∧ (vo.ownBlock = some g ∨ w.heap.size ≤ g) ∧ g < w'.heap.size := by
    intro vo hown
    obtain ⟨g, cap, w', hr, h2, h3, h4, h5⟩ := run_append_lies (P := P) w t ty base 3 i z 1 8 ht hi hz hsize hby hzs (by decide) vo xs.length (xs.map (Value.int .i64)) hown ⟨b, 0, none⟩ 1 c [.int .i64 y] rfl hnews h1 (by decide) (by unfold maxLen; omega) (by omega) hbase _ rfl
    refine ⟨g, cap, w', hr, ?_, Keeps.of_grown h3, h4.imp id fun e => by omega, h5⟩
    rcases h2.2 with ⟨hv, _⟩ | ⟨g', cap', cur, hv, hb', hg, q1, q2, q3, q4⟩
    · cases hv
    · obtain ⟨rfl, rfl⟩ : g = g' ∧ cap = cap' := by injection hv with e1 _ e3; exact ⟨by simpa using e1, e3⟩
      refine .inr ⟨g, cap, cur, by simp, hb', hg, by simpa using q1, q2, .inl (by omega), ?_⟩
      rw [Nat.mul_one] at q4
      simpa using q4
  rcases hP with ⟨rfl, rfl⟩ | ⟨g, cap, cur, rfl, hb', hg, hlc, hm, hc, htk⟩
  · exact owned (World.ownsRow_nil w base 3 1)
  · by_cases hfull : cap = xs.length
    · subst hfull
      have hle : xs.length ≤ cur.size := by
        have := congrArg List.length htk
        rw [List.length_take, List.length_map] at this
        have h2 : cur.toList.length = cur.size := Array.length_toList
        omega
      have holds : ∀ j u, (xs.map (Value.int .i64))[j]? = some u → w.cell? ((⟨g, 0, none⟩ : Addr).add j) = some u := by
        intro j u hu
        have hj : j < xs.length := by
          have := (List.getElem?_eq_some_iff.1 hu).1
          simpa using this
        rw [Addr.add_lit, Nat.zero_add, hg.cell j]
        rw [← htk, List.getElem?_take, if_pos hj, Array.getElem?_toList] at hu
        exact hu
      have hr := run_append_grow (P := P) w t ty 3 i z ht hi hz ⟨g, 0, none⟩ xs.length xs.length (xs.map (Value.int .i64)) (by rw [hsize]; simp) holds ⟨b, 0, none⟩ 1 c [.int .i64 y] (by rw [hsize]; rfl) hnews (by omega) (by omega) (growslice_fits (by omega) (by rw [hby]; omega))
      have hge := grownCap_ge w (xs.length + 1) xs.length 3
      refine ⟨w.heap.size, grownCap w (xs.length + 1) xs.length 3, _, hr, .inr ⟨w.heap.size, grownCap w (xs.length + 1) xs.length 3, _, by simp, hbase, Has.fresh w.drew _, by simpa using hge, grownCap_le_maxLen w _ _ _ (by unfold maxLen; omega), .inl ?_, ?_⟩, ⟨⟨rfl, rfl, rfl⟩, by simp, fun k hk _ => Below.heap_alloc w.drew _ k hk⟩, .inr (Nat.le_refl _), by simp⟩
      · simp only [Array.size_append, List.size_toArray, size_zeroCells, hzs, List.length_map, List.length_cons, List.length_nil]
        omega
      · simp only [Array.toList_append, List.map_append, List.map_cons, List.map_nil, List.length_append, List.length_cons, List.length_nil]
        rw [List.take_append_of_le_length (by simp), List.take_of_length_le (by simp)]
    · have hcs : cur.size = cap := hc.resolve_right hfull
      exact owned ⟨by simp, .inr ⟨g, cap, cur, rfl, hb', hg, hlc, hm, by omega, by rw [Nat.mul_one]; exact htk⟩⟩
/-- At a plain region. -/
theorem wpList_push {ops : Array Oper} {rest : List Oper} {o : Oper} {a : Act} {Q : Exit → Act → World → Prop} (hgd : o.guard = none) (s x : Operand)
    (ho : o.op = .call { callee := .builtin .append, args := #[s, x], argTypes := #[30, 30] }) (hs : a.eval s = v) (hP : Pile base w v xs) {b c : Nat} {y : Int} {fr : Nat × Nat} (hx : a.eval x = .slice (some ⟨b, 0, none⟩) 1 c)
    (hb : Has w b (.cells #[.int .i64 y] 3 fr)) (hl : xs.length ≤ 1000000) (hbase : base ≤ w.heap.size)
    (h : ∀ g cap w', Pile base w' (.slice (some ⟨g, 0, none⟩) (xs.length + 1) cap) (xs ++ [y]) → Keeps (fun i => v.ownBlock = some i) w w' → (v.ownBlock = some g ∨ w.heap.size ≤ g) → g < w'.heap.size → wpList Try.prog ops Q rest (a.put o.dst (.slice (some ⟨g, 0, none⟩) (xs.length + 1) cap)) w') : wpList Try.prog ops Q (o :: rest) a w := by
  obtain ⟨i0, hi, hz0, hz1, hz2⟩ := info_parts Try.infoInt
  obtain ⟨g, cap, w', hr, h2, h3, h4, h5⟩ := run_push (c := c) 30 o.type i0 _ Try.underlying30 hi hz0 hz1 hz2 rfl hP hb hl hbase
  refine wpList_plain hgd fun _ hK => ?_
  unfold Oper.wp execOp
  simp only [ho, resolve, invoke, builtin, Sem.run_bind, Sem.run_pure, Result.andThen_ok, List.map_toArray, List.map_cons, List.map_nil, hs, hx, hr]
  exact hK _ _ (h g cap w' h2 h3 h4 h5)
end
end Go.Proofs.Ytafgeoafmkbeoaa

namespace Go.Proofs.Ytafgeoafmkbeoaa
open Go Go.RowKit

/-- A truth as the number that is kept of it. -/
def bit : Bool → Int
  | true => 1
  | false => 0

theorem bload_any (a : Addr) (s : Bool) (w : World) (hc : w.cell? a = some (.int .u32 (bit s))) :
    Calls Try.prog 26 #[.pointer (some a)] w fun e w' => e = .returned (.bool s) ∧ w' = w := by
  have hl := run_call_load (P := Try.prog) Try.func30 (by kernel_rfl) (by kernel_rfl) (by kernel_rfl) .u32 (by kernel_rfl) hc
  clear hc
  cases s
  all_goals
    simp only [bit] at hl
    go_enter Try.func26, Try.ntmps26
    go_wp2
    go_ret
    exact ⟨rfl, rfl⟩

theorem bstore_any (a : Addr) (x : Value) (w : World) (hc : w.cell? a = some x) (hz : w.frozen? a = false) :
    Calls Try.prog 29 #[.pointer (some a), .bool true] w fun e w' => e = .returned (.tuple #[]) ∧ w' = (w.drew).setCell a (.int .u32 1) := by
  have hc' : w.drew.cell? a = some x := hc
  have hz' : w.drew.frozen? a = false := hz
  have hst := run_call_store (P := Try.prog) Try.func32 (by kernel_rfl) (by kernel_rfl) (by kernel_rfl) (by kernel_rfl) (k := .u32) (y := 1) hc' hz'
  go_enter Try.func29, Try.ntmps29
  go_wp2
  go_region_calls
  all_goals (go_end0; exact ⟨rfl, rfl⟩)

/-- The same as a deferred call. -/
theorem bstore_late (a : Addr) (x : Value) (u : FrameMode) (w : World) (hc : w.cell? a = some x) (hz : w.frozen? a = false) :
    CallsD Try.prog 29 #[.pointer (some a), .bool true] u w fun e u' w' => u' = u ∧ e = .returned (.tuple #[]) ∧ w' = (w.drew).setCell a (.int .u32 1) := by
  have hc' : w.drew.cell? a = some x := hc
  have hz' : w.drew.frozen? a = false := hz
  have hst := run_call_store (P := Try.prog) Try.func32 (by kernel_rfl) (by kernel_rfl) (by kernel_rfl) (by kernel_rfl) (k := .u32) (y := 1) hc' hz'
  go_enter_d Try.func29, Try.ntmps29
  go_wp2
  go_region_calls
  all_goals (go_end0; exact ⟨rfl, rfl⟩)

theorem lock_any (a : Addr) (w : World) (hc : w.cell? a = some (.int .i32 0)) (hz : w.frozen? a = false) :
    Calls Try.prog 34 #[.pointer (some a)] w fun e w' => e = .returned (.tuple #[]) ∧ w' = w.setCell a (.int .i32 1) := by
  have h1 : ∀ w, (callFunc 38 #[]).run Try.prog w = .ok (.value (.tuple #[])) w := run_call_mark0 Try.func38 (by kernel_rfl) (by kernel_rfl) (by kernel_rfl) .disable (by kernel_rfl)
  have h2 : ∀ w, (callFunc 40 #[]).run Try.prog w = .ok (.value (.tuple #[])) w := run_call_mark0 Try.func40 (by kernel_rfl) (by kernel_rfl) (by kernel_rfl) .enable (by kernel_rfl)
  have h3 := run_call_marked (P := Try.prog) Try.func41 (by kernel_rfl) (by kernel_rfl) (by kernel_rfl) .acquire (by kernel_rfl) a
  have h4 := run_call_cas_hit (P := Try.prog) Try.func39 (by kernel_rfl) (by kernel_rfl) (by kernel_rfl) .i32 (by kernel_rfl) (y := 1) hc hz
  have h5 : (w.setCell a (.int .i32 1)).cell? a = some (.int .i32 1) := World.cell?_setCell_same w a _ hc
  have h6 := run_convert_to_unsafe (P := Try.prog) (src := 83) (dst := 87) Try.underlying83 Try.underlying87 (by kernel_rfl) h5
  go_enter Try.func34, Try.ntmps34
  go_wp2
  first | go_end0 | (simp only [Exit.inBlock, Exit.then]; refine bodyPost_ret (results_none rfl _ _ _) rfl ?_) | refine bodyPost_ret (results_none rfl _ _ _) rfl ?_
  go_wp2
  go_end0
  exact ⟨rfl, rfl⟩

theorem unlock_late (a : Addr) (u : FrameMode) (w : World) (hc : w.cell? a = some (.int .i32 1)) (hz : w.frozen? a = false) :
    CallsD Try.prog 35 #[.pointer (some a)] u w fun e u' w' => u' = u ∧ e = .returned (.tuple #[]) ∧ w' = w.setCell a (.int .i32 0) := by
  have h1 : ∀ w, (callFunc 38 #[]).run Try.prog w = .ok (.value (.tuple #[])) w := run_call_mark0 Try.func38 (by kernel_rfl) (by kernel_rfl) (by kernel_rfl) .disable (by kernel_rfl)
  have h2 : ∀ w, (callFunc 40 #[]).run Try.prog w = .ok (.value (.tuple #[])) w := run_call_mark0 Try.func40 (by kernel_rfl) (by kernel_rfl) (by kernel_rfl) .enable (by kernel_rfl)
  have h3 := run_call_marked (P := Try.prog) Try.func43 (by kernel_rfl) (by kernel_rfl) (by kernel_rfl) .releaseMerge (by kernel_rfl) a
  have h4 := run_call_add (P := Try.prog) Try.func44 (by kernel_rfl) (by kernel_rfl) (by kernel_rfl) .i32 (by kernel_rfl) (y := -1) (s := 0) hc hz (by simp [go_sem]; rfl)
  have h6 := run_convert_to_unsafe (P := Try.prog) (src := 83) (dst := 87) Try.underlying83 Try.underlying87 (by kernel_rfl) hc
  go_enter_d Try.func35, Try.ntmps35
  go_wp2
  go_end0
  go_wp2
  go_end0
  exact ⟨rfl, rfl⟩
end Go.Proofs.Ytafgeoafmkbeoaa

namespace Go.Proofs.Ytafgeoafmkbeoaa
open Go Go.RowKit
variable {R : List Value} {t : TypeId}

/-- A block that begins with a latch: the once's word, its lock, the truth that is told; the rest. -/
def Raw (R : List Value) (t : TypeId) (w : World) (b : Nat) (d m s : Int) : Prop := Has w b (.cells (Value.int .u32 d :: Value.int .i32 m :: Value.int .u32 0 :: Value.int .u32 s :: R).toArray t (0, 0))
/-- A variable that holds a latch's address. -/
def Holds (w : World) (p b : Nat) : Prop := Has w p (.cells #[.pointer (some ⟨b, 0, none⟩)] 73 (0, 0))
/-- A truth that is a variable. -/
def Truth (w : World) (q : Nat) (x : Bool) : Prop := Has w q (.cells #[.bool x] 4 (0, 0))
/-- A latch, open or shut. -/
def Lat (R : List Value) (t : TypeId) (w : World) (b : Nat) (s : Bool) : Prop := Raw R t w b (bit s) 0 (bit s)

section
variable {w w' : World} {b p q : Nat} {d m s : Int} {x : Bool}
theorem raw_holds (h : Raw R t w b d m s) (k : Holds w p b) : b ≠ p := Has.apart h k (by simp)
theorem raw_truth (h : Raw R t w b d m s) (k : Truth w q x) : b ≠ q := Has.apart h k (by simp)
theorem Raw.cell (h : Raw R t w b d m s) (i : Nat) : w.cell? ⟨b, i, none⟩ = (Value.int .u32 d :: Value.int .i32 m :: Value.int .u32 0 :: Value.int .u32 s :: R)[i]? := (Has.cell h i).trans List.getElem?_toArray
theorem Raw.done (h : Raw R t w b d m s) (y : Int) : Raw R t (w.setCell ⟨b, 0, none⟩ (.int .u32 y)) b y m s := by
  have := Has.stored h 0 (.int .u32 y)
  simpa only [Raw, List.setIfInBounds_toArray, List.set_cons_succ, List.set_cons_zero] using this
theorem Raw.lock (h : Raw R t w b d m s) (y : Int) : Raw R t (w.setCell ⟨b, 1, none⟩ (.int .i32 y)) b d y s := by
  have := Has.stored h 1 (.int .i32 y)
  simpa only [Raw, List.setIfInBounds_toArray, List.set_cons_succ, List.set_cons_zero] using this
theorem Raw.shut (h : Raw R t w b d m s) (y : Int) : Raw R t (w.setCell ⟨b, 3, none⟩ (.int .u32 y)) b d m y := by
  have := Has.stored h 3 (.int .u32 y)
  simpa only [Raw, List.setIfInBounds_toArray, List.set_cons_succ, List.set_cons_zero] using this
theorem holds_truth {c : Nat} (h : Holds w p c) (k : Truth w q x) : p ≠ q := Has.apart h k (by simp)
theorem just_two {F : Nat → Prop} (k : Keeps F w w') (h : ∀ i, F i → i = b ∨ i = q) : Keeps (Just [b, q]) w w' := k.wide fun i _ hF => by
  rcases h i hF with rfl | rfl <;> simp [Just]
end

/-- What Do hands to the once. -/
theorem shuts_any (b p q : Nat) (d m : Int) (x : Bool) (w : World) (h : Raw R t w b d m 0) (hp : Holds w p b) (hq : Truth w q x) :
    Calls Try.prog 28 #[.pointer (some ⟨p, 0, none⟩), .pointer (some ⟨q, 0, none⟩)] w fun e w' => e = .returned (.tuple #[]) ∧ Raw R t w' b d m 1 ∧ Truth w' q true ∧ Holds w' p b ∧ Keeps (Just [b, q]) w w' := by
  have n1 := raw_holds h hp
  have n2 := raw_truth h hq
  have n3 := holds_truth hp hq
  have c1 : w.cell? ⟨p, 0, none⟩ = some (.pointer (some ⟨b, 0, none⟩)) := Has.cell hp 0
  have hb1 : Raw R t ((w.drew).setCell ⟨b, 3, none⟩ (.int .u32 1)) b d m 1 := Raw.shut (R := R) (t := t) (w := w.drew) h 1
  have hq1 : Truth ((w.drew).setCell ⟨b, 3, none⟩ (.int .u32 1)) q x := Has.aside (Has.drewN hq 1) n2.symm _
  have hp1 : Holds ((w.drew).setCell ⟨b, 3, none⟩ (.int .u32 1)) p b := Has.aside (Has.drewN hp 1) n1.symm _
  have k1 : Keeps (Just [b, q]) w ((w.drew).setCell ⟨b, 3, none⟩ (.int .u32 1)) := ((Keeps.refl _ w).drew).store (.inl (by simp [Just])) _
  obtain ⟨w1, hw1⟩ : ∃ w1, w1 = (w.drew).setCell ⟨b, 3, none⟩ (.int .u32 1) := ⟨_, rfl⟩
  rw [← hw1] at hb1 hq1 hp1 k1
  have hst := bstore_any ⟨b, 3, none⟩ _ w (Raw.cell h 3) (Has.free h 3)
  rw [← hw1] at hst
  clear hw1
  have f1 : w1.frozen? ⟨q, 0, none⟩ = false := Has.free hq1 0
  have c2 : w1.cell? ⟨q, 0, none⟩ = some (.bool x) := Has.cell hq1 0
  have Hst := Lib.hid hst
  clear hst
  go_enter Try.func28, Try.ntmps28
  go_wp2_with fail
  refine Hst.out.mono ?_
  rintro e w2 ⟨rfl, rfl⟩
  go_wp2
  go_end0
  exact ⟨rfl, Has.aside hb1 n2 _, Has.stored hq1 0 _, Has.aside hp1 n3 _, k1.store (.inl (by simp [Just])) _⟩

set_option maxRecDepth 100000 in
set_option maxHeartbeats 1600000 in
theorem slow_any (b p q : Nat) (x : Bool) (w : World) (h : Raw R t w b 0 0 0) (hp : Holds w p b) (hq : Truth w q x) :
    Calls Try.prog 31 #[.pointer (some ⟨b, 0, none⟩), .func (.func 28) #[] #[.pointer (some ⟨p, 0, none⟩), .pointer (some ⟨q, 0, none⟩)]] w fun e w' => e = .returned (.tuple #[]) ∧ Raw R t w' b 1 0 1 ∧ Truth w' q true ∧ Holds w' p b ∧ Keeps (Just [b, q]) w w' := by
  have n1 := raw_holds h hp
  have n2 := raw_truth h hq
  have hL := lock_any ⟨b, 1, none⟩ w (Raw.cell h 1) (Has.free h 1)
  have h1 : Raw R t (w.setCell ⟨b, 1, none⟩ (.int .i32 1)) b 0 1 0 := Raw.lock h 1
  have hp1 : Holds (w.setCell ⟨b, 1, none⟩ (.int .i32 1)) p b := Has.aside hp n1.symm _
  have hq1 : Truth (w.setCell ⟨b, 1, none⟩ (.int .i32 1)) q x := Has.aside hq n2.symm _
  have k1 : Keeps (Just [b, q]) w (w.setCell ⟨b, 1, none⟩ (.int .i32 1)) := (Keeps.refl _ w).store (.inl (by simp [Just])) _
  obtain ⟨w1, hw1⟩ : ∃ w1, w1 = w.setCell ⟨b, 1, none⟩ (.int .i32 1) := ⟨_, rfl⟩
  rw [← hw1] at hL h1 hp1 hq1 k1
  have hD := bload_any ⟨b, 0, none⟩ false w1 (Raw.cell h1 0)
  have hnot : ∀ (x : Bool) (w : World), (Op.unary .not (.bool x)).run Try.prog w = .ok (.bool (!x)) w := fun _ _ => rfl
  have HL := Lib.hid hL
  have HD := Lib.hid hD
  clear hw1 hL hD
  go_enter_defers Try.func31, Try.ntmps31
  go_wp2_with fail
  refine HL.out.mono ?_
  rintro e w2 ⟨rfl, rfl⟩
  go_wp2_with fail
  refine HD.out.mono ?_
  rintro e w3 ⟨rfl, rfl⟩
  go_wp2_with fail
  refine (shuts_any b p q 0 1 x _ h1 hp1 hq1).mono ?_
  rintro e w4 ⟨rfl, h4, hq4, hp4, k4⟩
  go_wp2_with fail
  have n4 := raw_holds h4 hp4
  have m4 := raw_truth h4 hq4
  refine leaves_cons (f := 29) (args := #[.pointer (some ⟨b, 0, none⟩), .bool true]) (by simp) (by simp [go_sem]) ?_
  refine (bstore_late ⟨b, 0, none⟩ _ .returning _ (Raw.cell h4 0) (Has.free h4 0)).mono ?_
  rintro e u' w5 ⟨rfl, rfl, rfl⟩
  have h5 : Raw R t ((w4.drew).setCell ⟨b, 0, none⟩ (.int .u32 1)) b 1 1 1 := Raw.done (R := R) (t := t) (w := w4.drew) h4 1
  refine leaves_cons (f := 35) (args := #[.pointer (some ⟨b, 1, none⟩)]) (by simp [settle]) (by simp [go_sem]) ?_
  refine (unlock_late ⟨b, 1, none⟩ _ _ (Raw.cell h5 1) (Has.free h5 1)).mono ?_
  rintro e u' w6 ⟨rfl, rfl, rfl⟩
  exact ⟨_, results_none rfl _ _ _, rfl, Raw.lock h5 0, Has.aside (Has.aside (Has.drewN hq4 1) m4.symm _) m4.symm _, Has.aside (Has.aside (Has.drewN hp4 1) n4.symm _) n4.symm _,
    (((k1.also k4).drew).store (.inl (by simp [Just])) _).store (.inl (by simp [Just])) _⟩

/-- Do of a once, the first time. -/
theorem once_first (b p q : Nat) (x : Bool) (w : World) (h : Raw R t w b 0 0 0) (hp : Holds w p b) (hq : Truth w q x) :
    Calls Try.prog 27 #[.pointer (some ⟨b, 0, none⟩), .func (.func 28) #[] #[.pointer (some ⟨p, 0, none⟩), .pointer (some ⟨q, 0, none⟩)]] w fun e w' => e = .returned (.tuple #[]) ∧ Raw R t w' b 1 0 1 ∧ Truth w' q true ∧ Holds w' p b ∧ Keeps (Just [b, q]) w w' := by
  have HD := Lib.hid (bload_any ⟨b, 0, none⟩ false w (Raw.cell h 0))
  have hnot : ∀ (x : Bool) (w : World), (Op.unary .not (.bool x)).run Try.prog w = .ok (.bool (!x)) w := fun _ _ => rfl
  go_enter Try.func27, Try.ntmps27
  go_wp2_with fail
  refine HD.out.mono ?_
  rintro e w1 ⟨rfl, rfl⟩
  go_wp2_with fail
  refine (slow_any b p q x _ h hp hq).mono ?_
  rintro e w4 ⟨rfl, h4, hq4, hp4, k4⟩
  go_wp2
  go_end0
  exact ⟨rfl, h4, hq4, hp4, k4⟩

/-- Again. -/
theorem once_again (b : Nat) (m s : Int) (fv : Value) (w : World) (h : Raw R t w b 1 m s) :
    Calls Try.prog 27 #[.pointer (some ⟨b, 0, none⟩), fv] w fun e w' => e = .returned (.tuple #[]) ∧ w' = w := by
  have HD := Lib.hid (bload_any ⟨b, 0, none⟩ true w (Raw.cell h 0))
  have hnot : ∀ (x : Bool) (w : World), (Op.unary .not (.bool x)).run Try.prog w = .ok (.bool (!x)) w := fun _ _ => rfl
  go_enter Try.func27, Try.ntmps27
  go_wp2_with fail
  refine HD.out.mono ?_
  rintro e w1 ⟨rfl, rfl⟩
  go_wp2
  go_end0
  exact ⟨rfl, rfl⟩
end Go.Proofs.Ytafgeoafmkbeoaa

namespace Go.Proofs.Ytafgeoafmkbeoaa
open Go Go.RowKit
variable {R : List Value} {t : TypeId}

section
variable {w w' : World} {b : Nat} {s : Bool}
theorem Lat.kept {F : Nat → Prop} (h : Lat R t w b s) (k : Keeps F w w') (hb : ¬ F b) : Lat R t w' b s := Has.kept h k hb
theorem Lat.in (h : Lat R t w b s) : b < w.heap.size := Has.inside h
end

theorem done_any (b : Nat) (s : Bool) (w : World) (h : Lat R t w b s) :
    Calls Try.prog 20 #[.pointer (some ⟨b, 0, none⟩)] w fun e w' => e = .returned (.bool s) ∧ w = w' := by
  have HD := Lib.hid (bload_any ⟨b, 3, none⟩ s w (Raw.cell h 3))
  go_enter Try.func20, Try.ntmps20
  go_wp2_with fail
  refine HD.out.mono ?_
  rintro e w1 ⟨rfl, rfl⟩
  go_wp2
  go_ret
  exact ⟨rfl, rfl⟩
theorem done_nil (w : World) : Calls Try.prog 20 #[.pointer none] w fun e w' => e = .returned (.bool false) ∧ w = w' := by
  go_enter Try.func20, Try.ntmps20
  go_wp2
  go_ret
  exact ⟨rfl, rfl⟩

/-- Of no latch. -/
theorem do_nil (fv : Value) (w : World) : Calls Try.prog 21 #[.pointer none, fv] w fun e w' => e = .returned (.bool false) ∧ Keeps (Just []) w w' := by
  go_enter Try.func21, Try.ntmps21
  go_wp2
  go_ret
  exact ⟨rfl, (Keeps.refl _ _).alloc _⟩

section
variable {P : Program} {ps rs : Array TypeId} {v : Bool}
theorem eqIn_some_nil (d : Nat) (h : P.underlying t = some (.func ps rs v)) (f : Fn) (first cap : Array Value) (w : World) : (Op.equalIn (d + 1) t (.func f first cap) .nilFunc).run P w = .ok false w := by
  simp [Op.equalIn, run_underlying h]
theorem eqIn_nil_nil (d : Nat) (h : P.underlying t = some (.func ps rs v)) (w : World) : (Op.equalIn (d + 1) t .nilFunc .nilFunc).run P w = .ok true w := by
  simp [Op.equalIn, run_underlying h]
theorem eq_some_nil (h : P.underlying t = some (.func ps rs v)) (f : Fn) (first cap : Array Value) (w : World) : (Op.equal t (.func f first cap) .nilFunc).run P w = .ok false w := eqIn_some_nil 9999 h f first cap w
theorem eq_nil_nil (h : P.underlying t = some (.func ps rs v)) (w : World) : (Op.equal t .nilFunc .nilFunc).run P w = .ok true w := eqIn_nil_nil 9999 h w
theorem ne_some_nil (h : P.underlying t = some (.func ps rs v)) (f : Fn) (first cap : Array Value) (w : World) : (binOp .neq t (.func f first cap) .nilFunc).run P w = .ok (.bool true) w := by
  simp only [binOp]
  simp [eq_some_nil h f first cap w]
theorem ne_nil_nil (h : P.underlying t = some (.func ps rs v)) (w : World) : (binOp .neq t .nilFunc .nilFunc).run P w = .ok (.bool false) w := by
  simp only [binOp]
  simp [eq_nil_nil h w]
end

/-- What Do makes for itself: where the latch's address lies, and a truth. -/
abbrev twoMore (w : World) (b : Nat) : World := (w.alloc (.cells #[.pointer (some ⟨b, 0, none⟩)] 73)).alloc (.cells #[.bool false] 4)
section
variable (w : World) (b : Nat)
theorem two_holds : Holds (twoMore w b) w.heap.size b := Has.more (Has.fresh w _) _
theorem two_truth : Truth (twoMore w b) (w.heap.size + 1) false := by
  have := Has.fresh (w.alloc (.cells #[.pointer (some ⟨b, 0, none⟩)] 73)) (.cells #[.bool false] 4)
  simpa [Truth] using this
theorem two_keeps (F : Nat → Prop) : Keeps F w (twoMore w b) := ((Keeps.refl _ _).alloc _).alloc _
end
theorem keeps_new {F : Nat → Prop} {w w1 w2 : World} {b q : Nat} (k : Keeps F w w1) (hF : F b) (hq : w.heap.size ≤ q) (k2 : Keeps (Just [b, q]) w1 w2) : Keeps F w w2 :=
  k.trans k2 fun i hi h => by
    rcases List.mem_cons.1 h with rfl | h
    · exact hF
    · have := List.mem_singleton.1 h; omega

set_option maxHeartbeats 1600000 in
/-- Of one that is shut. -/
theorem do_shut (b : Nat) (fv : Value) (w : World) (h : Lat R t w b true) :
    Calls Try.prog 21 #[.pointer (some ⟨b, 0, none⟩), fv] w fun e w' => e = .returned (.bool false) ∧ Keeps (Just []) w w' := by
  have hmf : ∀ (fn : Fn) (first cap : Array Value) (w : World), (Instr.makeFunc fn first cap).run Try.prog w = .ok (.func fn first cap) w := fun _ _ _ _ => rfl
  go_enter Try.func21, Try.ntmps21
  go_wp2_with fail
  refine (once_again b 0 1 _ (twoMore w b) (Has.more (Has.more h _) _)).mono ?_
  rintro e w1 ⟨rfl, rfl⟩
  go_wp2
  go_ret
  exact ⟨rfl, two_keeps _ _ _⟩

set_option maxHeartbeats 1600000 in
/-- Of one that is open, with nothing to call. -/
theorem do_none (b : Nat) (w : World) (h : Lat R t w b false) :
    Calls Try.prog 21 #[.pointer (some ⟨b, 0, none⟩), .nilFunc] w fun e w' => e = .returned (.bool true) ∧ Lat R t w' b true ∧ Keeps (Just [b]) w w' := by
  have hmf : ∀ (fn : Fn) (first cap : Array Value) (w : World), (Instr.makeFunc fn first cap).run Try.prog w = .ok (.func fn first cap) w := fun _ _ _ _ => rfl
  have hne := ne_nil_nil (P := Try.prog) Try.underlying1
  go_enter Try.func21, Try.ntmps21
  go_wp2_with fail
  refine (once_first b w.heap.size (w.heap.size + 1) false (twoMore w b) (Has.more (Has.more h _) _) (two_holds w b) (two_truth w b)).mono ?_
  rintro e w1 ⟨rfl, h1, hq1, hp1, k1⟩
  have c1 : w1.cell? ⟨w.heap.size + 1, 0, none⟩ = some (.bool true) := Has.cell hq1 0
  go_wp2
  go_ret
  exact ⟨rfl, h1, keeps_new (two_keeps w b (Just [b])) (just_one b) (Nat.le_succ _) k1⟩

set_option maxHeartbeats 1600000 in
/-- Of one that is open, with something to call, by what that does to a world in which the latch is shut. -/
theorem do_some (b f : Nat) (cap : Array Value) (G : Nat → Prop) (Q : World → Prop) (w : World) (h : Lat R t w b false) (hG : ∀ i, G i → i < w.heap.size)
    (hE : ∀ w, (callFunc f cap).run Try.prog w = .ok (.enter f cap) w)
    (hf : ∀ w1, Lat R t w1 b true → Keeps (Just [b]) w w1 → Calls Try.prog f cap w1 fun e w2 => e = .returned (.tuple #[]) ∧ Keeps G w1 w2 ∧ Q w2) :
    Calls Try.prog 21 #[.pointer (some ⟨b, 0, none⟩), .func (.func f) #[] cap] w fun e w' => e = .returned (.bool true) ∧ Q w' := by
  have hmf : ∀ (fn : Fn) (first cap : Array Value) (w : World), (Instr.makeFunc fn first cap).run Try.prog w = .ok (.func fn first cap) w := fun _ _ _ _ => rfl
  have hne := ne_some_nil (P := Try.prog) Try.underlying1
  go_enter Try.func21, Try.ntmps21
  go_wp2_with fail
  refine (once_first b w.heap.size (w.heap.size + 1) false (twoMore w b) (Has.more (Has.more h _) _) (two_holds w b) (two_truth w b)).mono ?_
  rintro e w1 ⟨rfl, h1, hq1, hp1, k1⟩
  have c1 : w1.cell? ⟨w.heap.size + 1, 0, none⟩ = some (.bool true) := Has.cell hq1 0
  have K1 : Keeps (Just [b]) w w1 := keeps_new (two_keeps w b (Just [b])) (just_one b) (Nat.le_succ _) k1
  go_wp2_with fail
  refine (hf w1 h1 K1).mono ?_
  rintro e w2 ⟨rfl, k2, q2⟩
  have hq2 : Truth w2 (w.heap.size + 1) true := Has.kept hq1 k2 fun hg => by
    have := hG _ hg
    omega
  have c2 : w2.cell? ⟨w.heap.size + 1, 0, none⟩ = some (.bool true) := Has.cell hq2 0
  go_wp2
  go_ret
  exact ⟨rfl, q2⟩
end Go.Proofs.Ytafgeoafmkbeoaa

namespace Go.Proofs.Ytafgeoafmkbeoaa
open Go

/-- A signal. -/
structure Sg where
  given : Bool
  follows : List Int
  tags : List Int
def Sg.zero : Sg := ⟨false, [], []⟩
/-- Is a signal there? -/
def sThere (B : List Sg) (i : Int) : Bool := decide (1 ≤ i) && decide (i ≤ (B.length : Int))
def sg (B : List Sg) (i : Int) : Sg := B.getD (i - 1).toNat Sg.zero
/-- Is it given? -/
def sGiven (B : List Sg) (i : Int) : Bool := sThere B i && (sg B i).given
/-- May it be given still? -/
def sFree (B : List Sg) (i : Int) : Bool := sThere B i && !(sg B i).given
/-- It is given, and has no tags any more. -/
def sMark (B : List Sg) (i : Int) : List Sg := B.modify (i - 1).toNat fun x => ⟨true, x.follows, []⟩
/-- How many may be given still. -/
def sLeft : List Sg → Nat
  | [] => 0
  | x :: r => (if x.given = true then 0 else 1) + sLeft r
/-- The numbers of those that follow k, from the first n signals on, in their order. -/
def sFolN (B : List Sg) (k : Int) : Nat → List Int
  | 0 => []
  | n + 1 => sFolN B k n ++ (if (sg B ((n : Int) + 1)).follows.contains k = true then [(n : Int) + 1] else [])
def sFol (B : List Sg) (k : Int) : List Int := sFolN B k B.length

section
variable {B : List Sg} {i j k : Int}
theorem sThere_iff : sThere B i = true ↔ 1 ≤ i ∧ i ≤ (B.length : Int) := by
  unfold sThere
  rw [Bool.and_eq_true, decide_eq_true_iff, decide_eq_true_iff]
theorem sThere_len {B' : List Sg} (h : B'.length = B.length) : sThere B' i = sThere B i := by unfold sThere; rw [h]
theorem sThere_at (h : sThere B i = true) : ∃ m : Nat, i = (m : Int) + 1 ∧ m < B.length := by
  have := sThere_iff.1 h
  exact ⟨(i - 1).toNat, by omega, by omega⟩
theorem sFree_iff : sFree B i = true ↔ sThere B i = true ∧ (sg B i).given = false := by
  unfold sFree
  rw [Bool.and_eq_true, Bool.not_eq_true']
theorem sGiven_iff : sGiven B i = true ↔ sThere B i = true ∧ (sg B i).given = true := by
  unfold sGiven
  rw [Bool.and_eq_true]
theorem sFree_not (h : sThere B i = true) : sFree B i = !sGiven B i := by unfold sFree sGiven; rw [h]; rfl
theorem sMark_length : (sMark B i).length = B.length := by unfold sMark; rw [List.length_modify]
theorem sLeft_modify : ∀ (B : List Sg) (n : Nat) (f : Sg → Sg) (x : Sg), B[n]? = some x → x.given = false → (f x).given = true → sLeft (B.modify n f) + 1 = sLeft B
  | [], n, f, x, h, _, _ => by cases h
  | y :: r, 0, f, x, h, h1, h2 => by
    obtain rfl : y = x := by simpa using h
    rw [List.modify_zero_cons, sLeft, sLeft, if_pos h2, if_neg (by rw [h1]; decide)]
    omega
  | y :: r, n + 1, f, x, h, h1, h2 => by
    have := sLeft_modify r n f x (by simpa using h) h1 h2
    rw [List.modify_succ_cons, sLeft, sLeft]
    omega
theorem sg_get (h : sThere B i = true) : B[(i - 1).toNat]? = some (sg B i) := by
  have h1 := sThere_iff.1 h
  have h2 : (i - 1).toNat < B.length := by omega
  unfold sg
  rw [List.getD_eq_getElem?_getD, List.getElem?_eq_getElem h2]
  rfl
/-- One less may be given. -/
theorem sLeft_mark (h : sFree B i = true) : sLeft (sMark B i) + 1 = sLeft B :=
  sLeft_modify B _ _ _ (sg_get (sFree_iff.1 h).1) (sFree_iff.1 h).2 rfl
theorem sg_mark (hi : sThere B i = true) (hj : sThere B j = true) : sg (sMark B i) j = if j = i then ⟨true, (sg B i).follows, []⟩ else sg B j := by
  have h1 := sThere_iff.1 hi
  have h2 := sThere_iff.1 hj
  unfold sMark
  rw [sg, List.getD_eq_getElem?_getD, List.getElem?_modify]
  by_cases e : j = i
  · subst e
    rw [if_pos rfl, sg_get hj]
    show (if (j - 1).toNat = (j - 1).toNat then _ else _) = _
    rw [if_pos rfl]
  · rw [if_neg e, sg_get hj]
    show (if (i - 1).toNat = (j - 1).toNat then _ else _) = _
    rw [if_neg (by omega)]
theorem sg_fol (hi : sThere B i = true) (hj : sThere B j = true) : (sg (sMark B i) j).follows = (sg B j).follows := by
  rw [sg_mark hi hj]
  by_cases e : j = i
  · rw [if_pos e, e]
  · rw [if_neg e]
theorem sFolN_mem {n : Nat} : j ∈ sFolN B k n ↔ 1 ≤ j ∧ j ≤ (n : Int) ∧ k ∈ (sg B j).follows := by
  induction n with
  | zero =>
    rw [sFolN]
    exact ⟨(fun h => by cases h), fun ⟨h1, h2, _⟩ => by omega⟩
  | succ n ih =>
    rw [sFolN, List.mem_append, ih]
    constructor
    · rintro (⟨h1, h2, h3⟩ | h)
      · exact ⟨h1, by omega, h3⟩
      · split at h
        · rename_i h'
          obtain rfl : j = (n : Int) + 1 := by simpa using h
          exact ⟨by omega, by omega, by simpa using h'⟩
        · cases h
    · rintro ⟨h1, h2, h3⟩
      by_cases e : j = (n : Int) + 1
      · right
        subst e
        rw [if_pos (by simpa using h3)]
        exact List.mem_singleton.2 rfl
      · exact .inl ⟨h1, by omega, h3⟩
theorem sFol_mem : j ∈ sFol B k ↔ sThere B j = true ∧ k ∈ (sg B j).follows := by
  unfold sFol
  rw [sFolN_mem, sThere_iff]
  exact ⟨fun ⟨a, b, c⟩ => ⟨⟨a, b⟩, c⟩, fun ⟨⟨a, b⟩, c⟩ => ⟨a, b, c⟩⟩
theorem sFolN_length (n : Nat) : (sFolN B k n).length ≤ n := by
  induction n with
  | zero => exact Nat.le_refl _
  | succ n ih =>
    rw [sFolN, List.length_append]
    split
    · simp only [List.length_cons, List.length_nil]
      omega
    · simp only [List.length_nil]
      omega
/-- Who follows whom hangs on the follows alone. -/
theorem sFolN_like {B' : List Sg} {n : Nat} (h : ∀ j, 1 ≤ j → j ≤ (n : Int) → (sg B' j).follows = (sg B j).follows) : sFolN B' k n = sFolN B k n := by
  induction n with
  | zero => rfl
  | succ n ih =>
    rw [sFolN, sFolN, ih fun j h1 h2 => h j h1 (by omega), h _ (by omega) (by omega)]
end
/-- Those that wait are given, one behind the other, each with what follows it ahead of the next. -/
def gvL (B : List Sg) (ws : List Int) : List Sg × List Int :=
  match ws with
  | [] => (B, [])
  | k :: r =>
    if h : sFree B k = true then
      have := sLeft_mark h
      ((gvL (sMark B k) (sFol B k ++ r)).1, (sg B k).tags ++ (gvL (sMark B k) (sFol B k ++ r)).2)
    else gvL B r
termination_by (sLeft B, ws.length)
section
variable {B : List Sg} {i j k x : Int} {r : List Int}
theorem gv_nil : gvL B [] = (B, []) := by rw [gvL]
theorem gv_go (h : sFree B k = true) : gvL B (k :: r) = ((gvL (sMark B k) (sFol B k ++ r)).1, (sg B k).tags ++ (gvL (sMark B k) (sFol B k ++ r)).2) := by rw [gvL, dif_pos h]
theorem gv_by (h : sFree B k = false) : gvL B (k :: r) = gvL B r := by rw [gvL, dif_neg (by rw [h]; decide)]
/-- Induction along the way in which signals are given. -/
theorem gv_ind {P : List Sg → List Int → Prop} (nil : ∀ B, P B []) (go : ∀ B k r, sFree B k = true → P (sMark B k) (sFol B k ++ r) → P B (k :: r)) (by_ : ∀ B k r, sFree B k = false → P B r → P B (k :: r)) : ∀ B ws, P B ws
  | B, [] => nil B
  | B, k :: r =>
    if h : sFree B k = true then
      have := sLeft_mark h
      go B k r h (gv_ind nil go by_ (sMark B k) (sFol B k ++ r))
    else by_ B k r (by simpa using h) (gv_ind nil go by_ B r)
termination_by B ws => (sLeft B, ws.length)
theorem gv_append (ys : List Int) : ∀ (B : List Sg) (xs : List Int), gvL B (xs ++ ys) = ((gvL (gvL B xs).1 ys).1, (gvL B xs).2 ++ (gvL (gvL B xs).1 ys).2) :=
  gv_ind (fun B => by rw [gv_nil, List.nil_append, List.nil_append]) (fun B k r h ih => by
    rw [List.cons_append, gv_go h, gv_go h, ← List.append_assoc, ih, List.append_assoc]) fun B k r h ih => by
    rw [List.cons_append, gv_by h, gv_by h, ih]
theorem gv_length : ∀ (B : List Sg) (ws : List Int), (gvL B ws).1.length = B.length :=
  gv_ind (fun B => by rw [gv_nil]) (fun B k r h ih => by rw [gv_go h, ih, sMark_length]) fun B k r h ih => by rw [gv_by h, ih]
theorem gv_there (B : List Sg) (ws : List Int) : sThere (gvL B ws).1 i = sThere B i := sThere_len (gv_length B ws)
theorem gv_follows (hi : sThere B i = true) : ∀ ws, (sg (gvL B ws).1 i).follows = (sg B i).follows := fun ws =>
  gv_ind (P := fun B ws => sThere B i = true → (sg (gvL B ws).1 i).follows = (sg B i).follows) (fun B _ => by rw [gv_nil]) (fun B k r h ih hi => by
    rw [gv_go h, ih (by rw [sThere_len sMark_length]; exact hi), sg_fol (sFree_iff.1 h).1 hi]) (fun B k r h ih hi => by rw [gv_by h, ih hi]) B ws hi
/-- What is given stays so; what isn't keeps its tags. -/
theorem gv_stays (hi : sThere B i = true) : ∀ ws, ((sg B i).given = true → (sg (gvL B ws).1 i).given = true) ∧ ((sg (gvL B ws).1 i).given = false → sg (gvL B ws).1 i = sg B i) := fun ws =>
  gv_ind (P := fun B ws => sThere B i = true → ((sg B i).given = true → (sg (gvL B ws).1 i).given = true) ∧ ((sg (gvL B ws).1 i).given = false → sg (gvL B ws).1 i = sg B i)) (fun B _ => by
    rw [gv_nil]
    exact ⟨id, fun _ => rfl⟩) (fun B k r h ih hi => by
    rw [gv_go h]
    obtain ⟨h1, h2⟩ := ih (by rw [sThere_len sMark_length]; exact hi)
    rw [sg_mark (sFree_iff.1 h).1 hi] at h1 h2
    by_cases e : i = k
    · rw [if_pos e] at h1 h2
      refine ⟨fun _ => h1 rfl, fun h0 => ?_⟩
      rw [h1 rfl] at h0
      cases h0
    · rw [if_neg e] at h1 h2
      exact ⟨h1, h2⟩) (fun B k r h ih hi => by rw [gv_by h]; exact ih hi) B ws hi
/-- Who waits is given behind it. -/
theorem gv_waits (hi : sThere B i = true) : ∀ ws, i ∈ ws → (sg (gvL B ws).1 i).given = true := fun ws =>
  gv_ind (P := fun B ws => sThere B i = true → i ∈ ws → (sg (gvL B ws).1 i).given = true) (fun B _ h => by cases h) (fun B k r h ih hi hm => by
    have hi' : sThere (sMark B k) i = true := by rw [sThere_len sMark_length]; exact hi
    rw [gv_go h]
    rcases List.mem_cons.1 hm with rfl | hm
    · refine (gv_stays hi' _).1 ?_
      rw [sg_mark hi hi, if_pos rfl]
    · exact ih hi' (List.mem_append_right _ hm)) (fun B k r h ih hi hm => by
    rw [gv_by h]
    rcases List.mem_cons.1 hm with rfl | hm
    · refine (gv_stays hi _).1 ?_
      unfold sFree at h
      rw [hi] at h
      simpa using h
    · exact ih hi hm) B ws hi
/-- Whatever follows a given one is given, or waits. -/
def Closed (B : List Sg) (ws : List Int) : Prop := ∀ i j, sThere B i = true → j ∈ (sg B i).follows → sGiven B j = true → sGiven B i = true ∨ i ∈ ws
theorem gv_closed : ∀ (B : List Sg) (ws : List Int), Closed B ws → Closed (gvL B ws).1 [] :=
  gv_ind (fun B h => by rw [gv_nil]; exact h) (fun B k r h ih hc => by
    rw [gv_go h]
    obtain ⟨hk, hk0⟩ := sFree_iff.1 h
    refine ih fun i j hi hj hg => ?_
    rw [sThere_len sMark_length] at hi
    rw [sg_fol hk hi] at hj
    by_cases e : i = k
    · left
      rw [sGiven_iff, sThere_len sMark_length, sg_mark hk hi, if_pos e]
      exact ⟨hi, rfl⟩
    · by_cases e2 : j = k
      · right
        rw [List.mem_append]
        left
        rw [sFol_mem]
        exact ⟨hi, e2 ▸ hj⟩
      · obtain ⟨hj1, hj2⟩ := sGiven_iff.1 hg
        rw [sThere_len sMark_length] at hj1
        rw [sg_mark hk hj1, if_neg e2] at hj2
        rcases hc i j hi hj (sGiven_iff.2 ⟨hj1, hj2⟩) with h1 | h1
        · left
          rw [sGiven_iff, sThere_len sMark_length, sg_mark hk hi, if_neg e]
          exact ⟨hi, (sGiven_iff.1 h1).2⟩
        · right
          rcases List.mem_cons.1 h1 with h1 | h1
          · exact absurd h1 e
          · exact List.mem_append_right _ h1) fun B k r h ih hc => by
    rw [gv_by h]
    refine ih fun i j hi hj hg => ?_
    rcases hc i j hi hj hg with h1 | h1
    · exact .inl h1
    · rcases List.mem_cons.1 h1 with rfl | h1
      · left
        unfold sFree at h
        rw [hi] at h
        rw [sGiven_iff]
        exact ⟨hi, by simpa using h⟩
      · exact .inr h1
/-- What is given anew waited, or follows one that is given. -/
theorem gv_why (hi : sThere B i = true) : ∀ ws, (sg (gvL B ws).1 i).given = true → (sg B i).given = true ∨ i ∈ ws ∨ ∃ j ∈ (sg B i).follows, sGiven (gvL B ws).1 j = true := fun ws =>
  gv_ind (P := fun B ws => sThere B i = true → (sg (gvL B ws).1 i).given = true → (sg B i).given = true ∨ i ∈ ws ∨ ∃ j ∈ (sg B i).follows, sGiven (gvL B ws).1 j = true) (fun B _ h => by
    rw [gv_nil] at h
    exact .inl h) (fun B k r h ih hi hg => by
    obtain ⟨hk, hk0⟩ := sFree_iff.1 h
    have hi' : sThere (sMark B k) i = true := by rw [sThere_len sMark_length]; exact hi
    have hk' : sThere (sMark B k) k = true := by rw [sThere_len sMark_length]; exact hk
    rw [gv_go h] at hg ⊢
    by_cases e : i = k
    · exact .inr (.inl (e ▸ List.mem_cons_self))
    rcases ih hi' hg with h1 | h1 | ⟨j, h1, h2⟩
    · rw [sg_mark hk hi, if_neg e] at h1
      exact .inl h1
    · rcases List.mem_append.1 h1 with h1 | h1
      · refine .inr (.inr ⟨k, (sFol_mem.1 h1).2, ?_⟩)
        rw [sGiven_iff, gv_there, sThere_len sMark_length]
        refine ⟨hk, (gv_stays hk' _).1 ?_⟩
        rw [sg_mark hk hk, if_pos rfl]
      · exact .inr (.inl (List.mem_cons_of_mem _ h1))
    · rw [sg_fol hk hi] at h1
      exact .inr (.inr ⟨j, h1, h2⟩)) (fun B k r h ih hi hg => by
    rw [gv_by h] at hg ⊢
    rcases ih hi hg with h1 | h1 | h1
    · exact .inl h1
    · exact .inr (.inl (List.mem_cons_of_mem _ h1))
    · exact .inr (.inr h1)) B ws hi
/-- What is told were tags of those that are given anew. -/
theorem gv_told : ∀ (B : List Sg) (ws : List Int), ∀ x, x ∈ (gvL B ws).2 ↔ ∃ i, sThere B i = true ∧ (sg B i).given = false ∧ (sg (gvL B ws).1 i).given = true ∧ x ∈ (sg B i).tags :=
  gv_ind (fun B x => by
    rw [gv_nil]
    refine ⟨(fun h => by cases h), ?_⟩
    rintro ⟨i, _, h1, h2, _⟩
    rw [h1] at h2
    cases h2) (fun B k r h ih x => by
    obtain ⟨hk, hk0⟩ := sFree_iff.1 h
    have hk' : sThere (sMark B k) k = true := by rw [sThere_len sMark_length]; exact hk
    rw [gv_go h, List.mem_append, ih x]
    constructor
    · rintro (h1 | ⟨i, h1, h2, h3, h4⟩)
      · refine ⟨k, hk, hk0, (gv_stays hk' _).1 ?_, h1⟩
        rw [sg_mark hk hk, if_pos rfl]
      · rw [sThere_len sMark_length] at h1
        rw [sg_mark hk h1] at h2 h4
        by_cases e : i = k
        · rw [if_pos e] at h2
          cases h2
        · rw [if_neg e] at h2 h4
          exact ⟨i, h1, h2, h3, h4⟩
    · rintro ⟨i, h1, h2, h3, h4⟩
      by_cases e : i = k
      · exact .inl (e ▸ h4)
      · refine .inr ⟨i, by rw [sThere_len sMark_length]; exact h1, ?_, h3, ?_⟩
        · rw [sg_mark hk h1, if_neg e]
          exact h2
        · rw [sg_mark hk h1, if_neg e]
          exact h4) fun B k r h ih x => by rw [gv_by h]; exact ih x
/-- The tags are told once, where no tag stands twice. -/
theorem gv_once : ∀ (B : List Sg) (ws : List Int), (∀ i, sThere B i = true → (sg B i).tags.Nodup) → (∀ i j x, sThere B i = true → sThere B j = true → x ∈ (sg B i).tags → x ∈ (sg B j).tags → i = j) → (gvL B ws).2.Nodup :=
  gv_ind (fun B _ _ => by rw [gv_nil]; exact List.nodup_nil) (fun B k r h ih h1 h2 => by
    obtain ⟨hk, hk0⟩ := sFree_iff.1 h
    have hm : ∀ i, sThere (sMark B k) i = true → sThere B i = true ∧ ∀ x, x ∈ (sg (sMark B k) i).tags → i ≠ k ∧ x ∈ (sg B i).tags := fun i hi => by
      rw [sThere_len sMark_length] at hi
      refine ⟨hi, fun x hx => ?_⟩
      rw [sg_mark hk hi] at hx
      by_cases e : i = k
      · rw [if_pos e] at hx
        cases hx
      · rw [if_neg e] at hx
        exact ⟨e, hx⟩
    rw [gv_go h]
    rw [List.nodup_append]
    refine ⟨h1 k hk, ih (fun i hi => ?_) fun i j x hi hj hx hy => h2 i j x (hm i hi).1 (hm j hj).1 ((hm i hi).2 x hx).2 ((hm j hj).2 x hy).2, ?_⟩
    · have hi' := (hm i hi).1
      rw [sg_mark hk hi']
      split
      · exact List.nodup_nil
      · exact h1 i hi'
    · intro x hx y hy e
      subst e
      obtain ⟨i, hi, _, _, h3⟩ := (gv_told _ _ x).1 hy
      obtain ⟨hi', hx'⟩ := hm i hi
      exact (hx' x h3).1 (h2 i k x hi' hk (hx' x h3).2 hx)) fun B k r h ih h1 h2 => by rw [gv_by h]; exact ih h1 h2
/-- A bound for the steps: each signal that is given lets at most as many wait as there are. -/
def gvSteps (B : List Sg) (ws : List Int) : Nat := sLeft B * B.length + ws.length
theorem gv_steps (h : sFree B k = true) : gvSteps (sMark B k) (sFol B k ++ r) + 1 ≤ gvSteps B (k :: r) := by
  have h1 := sLeft_mark h
  have h2 : (sFol B k).length ≤ B.length := sFolN_length _
  unfold gvSteps
  rw [sMark_length, List.length_append, List.length_cons, ← h1, Nat.add_mul]
  omega
theorem sLeft_le : ∀ B : List Sg, sLeft B ≤ B.length
  | [] => Nat.le_refl _
  | x :: r => by
    have := sLeft_le r
    rw [sLeft, List.length_cons]
    split <;> omega
end

/-- Make: may it be, what follows, and the board then. -/
def smNo (B : List Sg) (fs : List Int) : Int := if fs.all (sThere B) = true then if B.length < 64 then (B.length : Int) + 1 else 0 else 0
def smErr (B : List Sg) (fs : List Int) : Int := if fs.all (sThere B) = true then if B.length < 64 then 0 else 9 else 1
def smL (B : List Sg) (fs : List Int) : List Sg := if fs.all (sThere B) = true then if B.length < 64 then B ++ [⟨fs.any (sGiven B), fs, []⟩] else B else B
/-- Add. -/
def saL (B : List Sg) (i x : Int) : List Sg := if sFree B i = true then B.modify (i - 1).toNat fun y => ⟨y.given, y.follows, y.tags ++ [x]⟩ else B
/-- Give. -/
def sgOut (B : List Sg) (i : Int) : List Int := (gvL B [i]).2
def sgL (B : List Sg) (i : Int) : List Sg := (gvL B [i]).1
section
variable {B : List Sg} {i j x : Int} {fs : List Int}
theorem sa_length : (saL B i x).length = B.length := by
  unfold saL
  split
  · rw [List.length_modify]
  · rfl
theorem sg_add (hi : sFree B i = true) (hj : sThere B j = true) : sg (saL B i x) j = if j = i then ⟨(sg B i).given, (sg B i).follows, (sg B i).tags ++ [x]⟩ else sg B j := by
  have h1 := sThere_iff.1 (sFree_iff.1 hi).1
  have h2 := sThere_iff.1 hj
  unfold saL
  rw [if_pos hi, sg, List.getD_eq_getElem?_getD, List.getElem?_modify]
  by_cases e : j = i
  · subst e
    rw [if_pos rfl, sg_get hj]
    show (if (j - 1).toNat = (j - 1).toNat then _ else _) = _
    rw [if_pos rfl]
  · rw [if_neg e, sg_get hj]
    show (if (i - 1).toNat = (j - 1).toNat then _ else _) = _
    rw [if_neg (by omega)]
theorem sg_new {y : Sg} (hj : sThere B j = true) : sThere (B ++ [y]) j = true ∧ sg (B ++ [y]) j = sg B j := by
  have h1 := sThere_iff.1 hj
  refine ⟨sThere_iff.2 ⟨h1.1, by rw [List.length_append]; simp only [List.length_cons, List.length_nil]; omega⟩, ?_⟩
  rw [sg, sg, List.getD_eq_getElem?_getD, List.getD_eq_getElem?_getD, List.getElem?_append_left (by omega)]
theorem sg_last {y : Sg} : sg (B ++ [y]) ((B.length : Int) + 1) = y := by
  rw [sg, List.getD_eq_getElem?_getD, show ((B.length : Int) + 1 - 1).toNat = B.length by omega, List.getElem?_append_right (Nat.le_refl _), Nat.sub_self]
  rfl
theorem sThere_new {y : Sg} (hj : sThere (B ++ [y]) j = true) : sThere B j = true ∨ j = (B.length : Int) + 1 := by
  have h1 := sThere_iff.1 hj
  rw [List.length_append] at h1
  simp only [List.length_cons, List.length_nil] at h1
  by_cases e : j = (B.length : Int) + 1
  · exact .inr e
  · exact .inl (sThere_iff.2 ⟨h1.1, by omega⟩)
theorem sm_len (h : B.length ≤ 64) : (smL B fs).length ≤ 64 := by
  unfold smL
  split
  · split
    · rw [List.length_append]
      simp only [List.length_cons, List.length_nil]
      omega
    · exact h
  · exact h
theorem sg_len : (sgL B i).length = B.length := gv_length B [i]
theorem sgL_no (h : sFree B i = false) : sgL B i = B ∧ sgOut B i = [] := by
  unfold sgL sgOut
  rw [gv_by h, gv_nil]
  exact ⟨rfl, rfl⟩
end
end Go.Proofs.Ytafgeoafmkbeoaa

namespace Go.Proofs.Ytafgeoafmkbeoaa
open Go Go.RowKit

/-- The address of a block's beginning. -/
abbrev ptrTo (p : Nat) : Value := .pointer (some ⟨p, 0, none⟩)
/-- Sixty-five truths: which numbers are in a list. -/
def Flags (fl : List Value) (xs : List Int) : Prop := fl.length = 65 ∧ ∀ k : Nat, k < 65 → fl[k]? = some (.bool (hasB xs (k : Int)))
/-- A signal at block p; its blocks O names. -/
def SigAt (O : Nat → Prop) (w : World) (p : Nat) (x : Sg) : Prop := ∃ v fl, Lat (v :: fl) 67 w p x.given ∧ Flags fl x.follows ∧ Pile 0 w v x.tags ∧ O p ∧ ∀ g, v.ownBlock = some g → O g
/-- The board at block b: the signals' addresses in a row (A, c), the signals at ps; each block bears a label: 1 is the board's own, i + 2 the signal's at the place i, 0 nobody's. -/
structure BrdAt (lab : Nat → Nat) (w : World) (b : Nat) (A : Option Addr) (c : Nat) (ps : List Nat) (B : List Sg) : Prop where
  low : ∀ i, lab i ≠ 0 → i < w.heap.size
  few : B.length ≤ 64
  mine : lab b = 1
  head : Has w b (.cells #[.slice A B.length c] 48 (0, 0))
  row : w.ownsRow 0 50 1 (.slice A B.length c) B.length (ps.map ptrTo)
  rowMine : ∀ g, (Value.slice A B.length c).ownBlock = some g → lab g = 1
  same : ps.length = B.length
  sigs : ∀ i, i < B.length → SigAt (fun g => lab g = i + 2) w (ps.getD i 0) (B.getD i Sg.zero)
def Brd (lab : Nat → Nat) (w : World) (b : Nat) (B : List Sg) : Prop := ∃ A c ps, BrdAt lab w b A c ps B

section
variable {lab : Nat → Nat} {O F : Nat → Prop} {w w' : World} {b p c m : Nat} {x : Sg} {A : Option Addr} {ps : List Nat} {B : List Sg} {id : Int} {fl : List Value} {xs : List Int}
theorem SigAt.kept (h : SigAt O w p x) (k : Keeps F w w') (hF : ∀ i, O i → i < w.heap.size → ¬ F i) : SigAt O w' p x := by
  obtain ⟨v, fl, h1, h2, h3, h4, h5⟩ := h
  exact ⟨v, fl, h1.kept k (hF p h4 h1.in), h2, h3.kept k fun g hg => hF g (h5 g hg) (h3.lt g hg).2, h4, h5⟩
theorem SigAt.wide {O' : Nat → Prop} (h : SigAt O w p x) (hO : ∀ i, O i → i < w.heap.size → O' i) : SigAt O' w p x := by
  obtain ⟨v, fl, h1, h2, h3, h4, h5⟩ := h
  exact ⟨v, fl, h1, h2, h3, hO p h4 h1.in, fun g hg => hO g (h5 g hg) (h3.lt g hg).2⟩
theorem BrdAt.kept (h : BrdAt lab w b A c ps B) (k : Keeps F w w') (hF : ∀ i, lab i ≠ 0 → ¬ F i) : BrdAt lab w' b A c ps B :=
  ⟨fun i hi => Nat.lt_of_lt_of_le (h.low i hi) k.grows, h.few, h.mine, h.head.kept k (hF b (by rw [h.mine]; decide)), own_kept h.row k fun g hg => hF g (by rw [h.rowMine g hg]; decide), h.rowMine, h.same,
    fun i hi => (h.sigs i hi).kept k fun j hj _ => hF j (by rw [hj]; omega)⟩
theorem BrdAt.below (h : BrdAt lab w b A c ps B) (k : Below w.heap.size w w') : BrdAt lab w' b A c ps B :=
  h.kept (Keeps.of_below (F := fun i => w.heap.size ≤ i) k fun _ _ h => h) fun i hi => Nat.not_le.2 (h.low i hi)
theorem BrdAt.drewN (h : BrdAt lab w b A c ps B) (n : Nat) : BrdAt lab (w.drewN n) b A c ps B := ⟨h.low, h.few, h.mine, h.head, h.row, h.rowMine, h.same, h.sigs⟩
theorem Brd.kept (h : Brd lab w b B) (k : Keeps F w w') (hF : ∀ i, lab i ≠ 0 → ¬ F i) : Brd lab w' b B := by
  obtain ⟨A, c, ps, h⟩ := h
  exact ⟨A, c, ps, h.kept k hF⟩
theorem Brd.below (h : Brd lab w b B) (k : Below w.heap.size w w') : Brd lab w' b B := by
  obtain ⟨A, c, ps, h⟩ := h
  exact ⟨A, c, ps, h.below k⟩
theorem Brd.drewN (h : Brd lab w b B) (n : Nat) : Brd lab (w.drewN n) b B := by
  obtain ⟨A, c, ps, h⟩ := h
  exact ⟨A, c, ps, h.drewN n⟩
theorem Brd.few (h : Brd lab w b B) : B.length ≤ 64 := by
  obtain ⟨A, c, ps, h⟩ := h
  exact h.few
theorem Brd.low (h : Brd lab w b B) : ∀ i, lab i ≠ 0 → i < w.heap.size := by
  obtain ⟨A, c, ps, h⟩ := h
  exact h.low
/-- A signal's address stands at its place. -/
theorem BrdAt.ptr (h : BrdAt lab w b A c ps B) (hm : m < B.length) : ∃ g, A = some ⟨g, 0, none⟩ ∧ g < w.heap.size ∧ w.cell? ⟨g, m, none⟩ = some (ptrTo (ps.getD m 0)) := by
  have hr := h.row
  rcases hr.2 with ⟨_, h0⟩ | ⟨g, cap, cur, hv, _, hh, _⟩
  · omega
  obtain ⟨rfl, rfl⟩ : A = some ⟨g, 0, none⟩ ∧ c = cap := by injection hv with e1 _ e3; exact ⟨e1, e3⟩
  refine ⟨g, rfl, Has.inside hh, ?_⟩
  have hm' : m < ps.length := by rw [h.same]; exact hm
  rw [hr.cellAt m (by omega), List.getElem?_map, List.getD_eq_getElem?_getD, List.getElem?_eq_getElem hm']
  rfl
theorem sThere_m (hm : m < B.length) : sThere B ((m : Int) + 1) = true := sThere_iff.2 ⟨by omega, by omega⟩
theorem sg_m : sg B ((m : Int) + 1) = B.getD m Sg.zero := by
  unfold sg
  rw [show ((m : Int) + 1 - 1).toNat = m by omega]
theorem Flags.set (h : Flags fl xs) {k : Nat} (hk : k < 65) : Flags (fl.set k (.bool true)) (xs ++ [(k : Int)]) := by
  obtain ⟨h1, h2⟩ := h
  refine ⟨by rw [List.length_set]; exact h1, fun i hi => ?_⟩
  rw [List.getElem?_set]
  by_cases e : k = i
  · subst e
    rw [if_pos rfl, if_pos (by omega)]
    simp [hasB]
  · rw [if_neg e, h2 i hi]
    have : ¬ ((i : Int) = (k : Int)) := fun h => e (by omega)
    simp [hasB, this]
end

theorem board_zero (w : World) : Brd (fun i => if i = w.heap.size then 1 else 0) (w.alloc (.cells #[.slice none 0 0] 48)) w.heap.size [] := by
  have hh : Has (w.alloc (.cells #[.slice none 0 0] 48)) w.heap.size (.cells #[.slice none 0 0] 48 (0, 0)) := Has.fresh _ _
  refine ⟨none, 0, [], fun i hi => ?_, Nat.zero_le _, if_pos rfl, hh, World.ownsRow_nil _ _ _ _, (fun g hg => by cases hg), rfl, fun i hi => absurd hi (Nat.not_lt_zero i)⟩
  by_cases e : i = w.heap.size
  · have := hh.inside
    omega
  · rw [if_neg e] at hi
    exact absurd rfl hi
theorem sNew (w : World) : Calls Try.prog 8 #[] w fun e w' => e = .returned (ptrTo w.heap.size) ∧ Brd (fun i => if i = w.heap.size then 1 else 0) w' w.heap.size [] ∧ Below w.heap.size w w' := by
  have hb : Below w.heap.size w (w.alloc (.cells #[.slice none 0 0] 48)) := (Below.refl _ w).alloc (Nat.le_refl _) _
  have HB := Lib.hid hb
  have HZ := Lib.hid (board_zero w)
  clear hb
  go_enter Try.func8, Try.ntmps8
  go_wp2
  go_ret
  exact ⟨rfl, HZ.out, HB.out⟩

section
variable {lab : Nat → Nat} {w : World} {b c m : Nat} {A : Option Addr} {ps : List Nat} {B : List Sg}
theorem sLen (h : Brd lab w b B) : Calls Try.prog 16 #[ptrTo b] w fun e w' => e = .returned (.int .i64 B.length) ∧ w = w' := by
  obtain ⟨A, c, ps, h⟩ := h
  have c0 := h.head.cell 0
  clear h
  go_enter Try.func16, Try.ntmps16
  go_wp2
  go_ret
  exact ⟨rfl, rfl⟩
theorem sLen_nil (w : World) : Calls Try.prog 16 #[.pointer none] w fun e w' => e = .returned (.int .i64 0) ∧ w = w' := by
  go_enter Try.func16, Try.ntmps16
  go_wp2
  go_ret
  exact ⟨rfl, rfl⟩

/-- The signal is there. -/
theorem sFind (h : BrdAt lab w b A c ps B) (hm : m < B.length) : Calls Try.prog 19 #[ptrTo b, .int .i64 ((m : Int) + 1)] w fun e w' => e = .returned (ptrTo (ps.getD m 0)) ∧ w = w' := by
  obtain ⟨g, rfl, hg, hc⟩ := h.ptr hm
  have c0 := h.head.cell 0
  have hL := sLen ⟨_, _, _, h⟩
  have HL := Lib.hid hL
  have hl := h.few
  clear hL h
  have z1 : decide ((m : Int) + 1 < 1) = false := decide_eq_false (by omega)
  have z2 : decide ((m : Int) + 1 > (B.length : Int)) = false := decide_eq_false (by omega)
  have e1 : (m : Int) + 1 - 1 = m := by omega
  go_enter Try.func19, Try.ntmps19
  go_wp2_with fail
  refine HL.out.mono ?_
  rintro e w1 ⟨rfl, rfl⟩
  go_wp2
  go_ret
  exact ⟨rfl, rfl⟩
/-- It isn't there. -/
theorem sFind_not (h : Brd lab w b B) {id : Int} (hn : sThere B id = false) : Calls Try.prog 19 #[ptrTo b, .int .i64 id] w fun e w' => e = .returned (.pointer none) ∧ w = w' := by
  have HL := Lib.hid (sLen h)
  have hl := h.few
  by_cases h1 : id < 1
  · have z1 : decide (id < 1) = true := decide_eq_true h1
    clear hn h
    go_enter Try.func19, Try.ntmps19
    go_wp2
    go_ret
    exact ⟨rfl, rfl⟩
  · have z1 : decide (id < 1) = false := decide_eq_false h1
    have z2 : id > (B.length : Int) := by
      rcases Int.lt_or_le (B.length : Int) id with h2 | h2
      · exact h2
      · rw [sThere_iff.2 ⟨by omega, h2⟩] at hn
        cases hn
    clear hn h
    go_enter Try.func19, Try.ntmps19
    go_wp2_with fail
    refine HL.out.mono ?_
    rintro e w1 ⟨rfl, rfl⟩
    go_wp2
    go_ret
    exact ⟨rfl, rfl⟩
theorem sFind_nil (id : Int) (w : World) : Calls Try.prog 19 #[.pointer none, .int .i64 id] w fun e w' => e = .returned (.pointer none) ∧ w = w' := by
  have HL := Lib.hid (sLen_nil w)
  by_cases h1 : id < 1
  · have z1 : decide (id < 1) = true := decide_eq_true h1
    go_enter Try.func19, Try.ntmps19
    go_wp2
    go_ret
    exact ⟨rfl, rfl⟩
  · have z1 : decide (id < 1) = false := decide_eq_false h1
    have z2 : id > 0 := by omega
    go_enter Try.func19, Try.ntmps19
    go_wp2_with fail
    refine HL.out.mono ?_
    rintro e w1 ⟨rfl, rfl⟩
    go_wp2
    go_ret
    exact ⟨rfl, rfl⟩

theorem sIsGiven (id : Int) (h : Brd lab w b B) : Calls Try.prog 17 #[ptrTo b, .int .i64 id] w fun e w' => e = .returned (.bool (sGiven B id)) ∧ w = w' := by
  cases ht : sThere B id with
  | false =>
    have HF := Lib.hid (sFind_not h ht)
    have e1 : sGiven B id = false := by unfold sGiven; rw [ht]; rfl
    rw [e1]
    clear h ht e1
    go_enter Try.func17, Try.ntmps17
    go_wp2_with fail
    refine HF.out.mono ?_
    rintro e w1 ⟨rfl, rfl⟩
    go_wp2
    go_ret
    exact ⟨rfl, rfl⟩
  | true =>
    obtain ⟨m, rfl, hm⟩ := sThere_at ht
    obtain ⟨A, c, ps, h⟩ := h
    have HF := Lib.hid (sFind h hm)
    have e1 : sGiven B ((m : Int) + 1) = (B.getD m Sg.zero).given := by unfold sGiven; rw [ht, sg_m]; rfl
    rw [e1]
    obtain ⟨v, fl, h1, -⟩ := h.sigs m hm
    obtain ⟨gv, hgv⟩ : ∃ gv, gv = (B.getD m Sg.zero).given := ⟨_, rfl⟩
    obtain ⟨q, hq⟩ : ∃ q, q = ps.getD m 0 := ⟨_, rfl⟩
    rw [← hgv, ← hq] at h1
    rw [← hgv]
    rw [← hq] at HF
    have HD := Lib.hid (done_any _ _ _ h1)
    clear h ht e1 h1 hgv hq
    go_enter Try.func17, Try.ntmps17
    go_wp2_with fail
    refine HF.out.mono ?_
    rintro e w1 ⟨rfl, rfl⟩
    go_wp2_with fail
    refine HD.out.mono ?_
    rintro e w1 ⟨rfl, rfl⟩
    go_wp2
    go_ret
    exact ⟨rfl, rfl⟩
theorem sGiven_nil (id : Int) (w : World) : Calls Try.prog 17 #[.pointer none, .int .i64 id] w fun e w' => e = .returned (.bool false) ∧ w = w' := by
  have HF := Lib.hid (sFind_nil id w)
  go_enter Try.func17, Try.ntmps17
  go_wp2_with fail
  refine HF.out.mono ?_
  rintro e w1 ⟨rfl, rfl⟩
  go_wp2
  go_ret
  exact ⟨rfl, rfl⟩
end
end Go.Proofs.Ytafgeoafmkbeoaa

namespace Go.Proofs.Ytafgeoafmkbeoaa
open Go Go.RowKit

theorem getD_modify {B : List Sg} {f : Sg → Sg} {m i : Nat} (hi : i < B.length) : (B.modify m f).getD i Sg.zero = if m = i then f (B.getD i Sg.zero) else B.getD i Sg.zero := by
  rw [List.getD_eq_getElem?_getD, List.getElem?_modify, List.getD_eq_getElem?_getD, List.getElem?_eq_getElem hi]
  by_cases e : m = i
  · rw [if_pos e]
    simp [e]
  · rw [if_neg e]
    simp [e]
section
variable {R R' : List Value} {t : TypeId} {lab lab' : Nat → Nat} {w w' : World} {b p c m g : Nat} {s : Bool} {x : Sg} {A : Option Addr} {ps : List Nat} {B : List Sg} {v v' : Value} {f : Sg → Sg}
theorem Lat.tags (h : Lat (v :: R) t w p s) (v' : Value) : Lat (v' :: R) t (w.setCell ⟨p, 4, none⟩ v') p s := by
  have := Has.stored h 4 v'
  simpa only [Lat, Raw, List.setIfInBounds_toArray, List.set_cons_succ, List.set_cons_zero] using this
theorem Lat.there (h : Lat (v :: R) t w p s) : w.cell? ⟨p, 4, none⟩ = some v := Raw.cell h 4
theorem Lat.free (h : Lat R t w p s) (i : Nat) : w.frozen? ⟨p, i, none⟩ = false := Has.free h i
/-- One signal is turned. -/
theorem BrdAt.turn (h : BrdAt lab w b A c ps B) (k : Keeps (fun i => lab i = m + 2) w w') (hold : ∀ i, i < w.heap.size → lab' i = lab i) (hlow : ∀ i, lab' i ≠ 0 → i < w'.heap.size)
    (hs : SigAt (fun g => lab' g = m + 2) w' (ps.getD m 0) (f (B.getD m Sg.zero))) : BrdAt lab' w' b A c ps (B.modify m f) := by
  have hlb : b < w.heap.size := h.head.inside
  refine ⟨hlow, by rw [List.length_modify]; exact h.few, by rw [hold b hlb]; exact h.mine, ?_, ?_, fun g hg => ?_, by rw [List.length_modify]; exact h.same, fun i hi => ?_⟩
  · rw [List.length_modify]
    exact h.head.kept k (by rw [h.mine]; omega)
  · rw [List.length_modify]
    exact own_kept h.row k fun g hg => by rw [h.rowMine g hg]; omega
  · rw [List.length_modify] at hg
    rw [hold g (own_in h.row g hg)]
    exact h.rowMine g hg
  · rw [List.length_modify] at hi
    rw [getD_modify hi]
    by_cases e : m = i
    · rw [if_pos e]
      subst e
      exact hs
    · rw [if_neg e]
      exact ((h.sigs i hi).kept k fun j hj _ => by rw [hj]; omega).wide fun j hj hlt => by
        have : j < w.heap.size := by
          rcases Nat.lt_or_ge j w.heap.size with h' | h'
          · exact h'
          · have := h.low j (by rw [hj]; omega)
            omega
        rw [hold j this]
        exact hj
/-- One signal is turned, and things that are nobody's. -/
theorem BrdAt.turn0 (h : BrdAt lab w b A c ps B) (k : Keeps (fun i => lab i = m + 2 ∨ lab i = 0) w w') (hlow : ∀ i, lab i ≠ 0 → i < w'.heap.size)
    (hs : SigAt (fun g => lab g = m + 2) w' (ps.getD m 0) (f (B.getD m Sg.zero))) : BrdAt lab w' b A c ps (B.modify m f) := by
  refine ⟨hlow, by rw [List.length_modify]; exact h.few, h.mine, ?_, ?_, fun g hg => ?_, by rw [List.length_modify]; exact h.same, fun i hi => ?_⟩
  · rw [List.length_modify]
    exact h.head.kept k (by rw [h.mine]; omega)
  · rw [List.length_modify]
    exact own_kept h.row k fun g hg => by rw [h.rowMine g hg]; omega
  · rw [List.length_modify] at hg
    exact h.rowMine g hg
  · rw [List.length_modify] at hi
    rw [getD_modify hi]
    by_cases e : m = i
    · rw [if_pos e]
      subst e
      exact hs
    · rw [if_neg e]
      exact (h.sigs i hi).kept k fun j hj _ => by rw [hj]; omega
theorem saL_m (hf : sFree B ((m : Int) + 1) = true) (x : Int) : saL B ((m : Int) + 1) x = B.modify m fun y => ⟨y.given, y.follows, y.tags ++ [x]⟩ := by
  unfold saL
  rw [if_pos hf, show ((m : Int) + 1 - 1).toNat = m by omega]
theorem sMark_m : sMark B ((m : Int) + 1) = B.modify m fun x => ⟨true, x.follows, []⟩ := by
  unfold sMark
  rw [show ((m : Int) + 1 - 1).toNat = m by omega]
end

/-- A board that is turned: its old blocks keep their labels. -/
def Brd' (lab : Nat → Nat) (w : World) (b : Nat) (B' : List Sg) (w' : World) : Prop := ∃ lab', Brd lab' w' b B' ∧ (∀ i, i < w.heap.size → lab' i = lab i) ∧ Keeps (fun i => lab i ≠ 0) w w'

section
variable {lab : Nat → Nat} {w : World} {b : Nat} {B : List Sg}
theorem Brd.still (h : Brd lab w b B) : Brd' lab w b B w := ⟨lab, h, fun _ _ => rfl, Keeps.refl _ _⟩
set_option maxHeartbeats 4000000 in
theorem sAdd (id tag : Int) (h : Brd lab w b B) (hl : (sg B id).tags.length ≤ 1000000) : Calls Try.prog 11 #[ptrTo b, .int .i64 id, .int .i64 tag] w fun e w' => e = .returned (.bool (sFree B id)) ∧ Brd' lab w b (saL B id tag) w' := by
  cases ht : sThere B id with
  | false =>
    have HF := Lib.hid (sFind_not h ht)
    have e1 : sFree B id = false := by unfold sFree; rw [ht]; rfl
    have e2 : saL B id tag = B := by unfold saL; rw [if_neg (by rw [e1]; decide)]
    rw [e1, e2]
    have H := Lib.hid h.still
    clear h ht e1 e2 hl
    go_enter Try.func11, Try.ntmps11
    go_wp2_with fail
    refine HF.out.mono ?_
    rintro e w1 ⟨rfl, rfl⟩
    go_wp2
    go_ret
    exact ⟨rfl, H.out⟩
  | true =>
    obtain ⟨m, rfl, hm⟩ := sThere_at ht
    obtain ⟨A, c, ps, h⟩ := h
    have HF := Lib.hid (sFind h hm)
    obtain ⟨v, fl, h1, h2, h3, h4, h5⟩ := h.sigs m hm
    obtain ⟨x, hx⟩ : ∃ x, x = B.getD m Sg.zero := ⟨_, rfl⟩
    obtain ⟨q, hq⟩ : ∃ q, q = ps.getD m 0 := ⟨_, rfl⟩
    rw [sg_m, ← hx] at hl
    have e1 : sFree B ((m : Int) + 1) = !x.given := by unfold sFree; rw [ht, sg_m, ← hx]; rfl
    rw [← hx, ← hq] at h1
    rw [← hx] at h2 h3
    rw [← hq] at HF h4
    have HD := Lib.hid (done_any _ _ _ h1)
    cases hg : x.given with
    | true =>
      rw [hg] at e1 HD
      have e2 : saL B ((m : Int) + 1) tag = B := by unfold saL; rw [if_neg (by rw [e1]; decide)]
      rw [e1, e2]
      have H : Hid (Brd' lab w b B w) := Lib.hid (Brd.still ⟨A, c, ps, h⟩)
      clear h ht e1 e2 h1 h2 h3 h4 h5 hg hx hq hl
      go_enter Try.func11, Try.ntmps11
      go_wp2_with fail
      refine HF.out.mono ?_
      rintro e w1 ⟨rfl, rfl⟩
      go_wp2_with fail
      refine HD.out.mono ?_
      rintro e w1 ⟨rfl, rfl⟩
      go_wp2
      go_ret
      exact ⟨rfl, H.out⟩
    | false =>
      rw [hg] at e1 HD h1
      rw [e1, saL_m e1]
      obtain ⟨W, hW⟩ : ∃ W, W = w.alloc (.cells #[.int .i64 tag] 3) := ⟨_, rfl⟩
      have hbW : Below w.heap.size w W := by rw [hW]; exact (Below.refl _ w).alloc (Nat.le_refl _) _
      have hlit : Has W w.heap.size (.cells #[.int .i64 tag] 3 (0, 0)) := by rw [hW]; exact Has.fresh _ _
      have hPW : Pile 0 W v x.tags := h3.below hbW
      have hq0 : q < w.heap.size := h1.in
      have H1W : Lat (v :: fl) 67 W q false := Has.below h1 hbW hq0
      have c4 : w.cell? ⟨q, 4, none⟩ = some v := h1.there
      -- what is so behind the append and the store
      have HC : Hid (∀ g cap w3, Pile 0 w3 (.slice (some ⟨g, 0, none⟩) (x.tags.length + 1) cap) (x.tags ++ [tag]) → Keeps (fun i => v.ownBlock = some i) W w3 → (v.ownBlock = some g ∨ W.heap.size ≤ g) → g < w3.heap.size →
          (∃ y, w3.cell? ⟨q, 4, none⟩ = some y) ∧ w3.frozen? ⟨q, 4, none⟩ = false ∧ Hid (Brd' lab w b (B.modify m fun y => ⟨y.given, y.follows, y.tags ++ [tag]⟩) (w3.setCell ⟨q, 4, none⟩ (.slice (some ⟨g, 0, none⟩) (x.tags.length + 1) cap)))) := Lib.hid fun g cap w3 hp hk hat hlt => by
        have hqv : ∀ i, v.ownBlock = some i → i ≠ q := fun i hi e => by
          rcases h3 with ⟨rfl, _⟩ | ⟨g', _, _, rfl, _, hh, _⟩
          · cases hi
          · obtain rfl : g' = i := by simpa [Value.ownBlock] using hi
            exact Has.apart hh h1 (by simp) e
        have hL3 : Lat (v :: fl) 67 w3 q false := H1W.kept hk fun e => hqv q e rfl
        have hk3 : Keeps (fun i => lab i = m + 2) w w3 := (Keeps.of_below (F := fun i => lab i = m + 2) hbW fun i hi hle => by omega).trans hk fun i _ hi => h5 i hi
        have hk4 : Keeps (fun i => lab i = m + 2) w (w3.setCell ⟨q, 4, none⟩ (.slice (some ⟨g, 0, none⟩) (x.tags.length + 1) cap)) := hk3.store (.inl h4) _
        have hgq : g ≠ q := fun e => by
          rcases hat with hat | hat
          · exact hqv g hat e
          · have := hbW.size
            omega
        have hWs : W.heap.size = w.heap.size + 1 := by rw [hW]; simp
        have hold : ∀ i, i < w.heap.size → (fun i => if i = g then m + 2 else lab i) i = lab i := fun i hi => by
          show (if i = g then m + 2 else lab i) = lab i
          by_cases e : i = g
          · rw [if_pos e]
            rcases hat with hat | hat
            · rw [e, h5 g hat]
            · omega
          · rw [if_neg e]
        refine ⟨⟨_, hL3.there⟩, hL3.free 4, Lib.hid ⟨fun i => if i = g then m + 2 else lab i, ⟨A, c, ps, h.turn hk4 hold (fun i hi => ?_) ?_⟩, hold, hk4.wide fun i _ (hi : lab i = m + 2) => by rw [hi]; omega⟩⟩
        · have hsz : (w3.setCell ⟨q, 4, none⟩ (.slice (some ⟨g, 0, none⟩) (x.tags.length + 1) cap)).heap.size = w3.heap.size := by simp [World.setCell]
          rw [hsz]
          by_cases e : i = g
          · omega
          · rw [if_neg e] at hi
            exact Nat.lt_of_lt_of_le (h.low i hi) hk3.grows
        · refine ⟨.slice (some ⟨g, 0, none⟩) (x.tags.length + 1) cap, fl, ?_, by rw [← hx]; exact h2, ?_, ?_, fun g' hg' => ?_⟩
          · rw [← hq, ← hx, hg]
            exact hL3.tags _
          · rw [← hx]
            exact hp.kept (Keeps.store (F := fun i => i = q) (p := ⟨q, 4, none⟩) (Keeps.refl _ _) (.inl rfl) _) fun g' hg' e => by
              obtain rfl : g = g' := by simpa [Value.ownBlock] using hg'
              exact hgq e
          · show (if ps.getD m 0 = g then m + 2 else lab (ps.getD m 0)) = m + 2
            rw [← hq]
            by_cases e : q = g
            · rw [if_pos e]
            · rw [if_neg e]
              exact h4
          · obtain rfl : g = g' := by simpa [Value.ownBlock] using hg'
            exact if_pos rfl
      have HPW := Lib.hid hPW
      have Hlit := Lib.hid hlit
      have HW := Lib.hid hW
      have Hsz : Hid (0 ≤ W.heap.size) := Lib.hid (Nat.zero_le _)
      rw [HW.out] at HPW Hlit HC Hsz
      obtain ⟨Ao, co, ev, -⟩ := h3.form
      clear hPW hlit hW HW hbW H1W h ht e1 h1 h2 h3 h4 h5 hg hx hq hq0
      subst ev
      go_enter Try.func11, Try.ntmps11
      go_wp2_with fail
      refine HF.out.mono ?_
      rintro e w1 ⟨rfl, rfl⟩
      go_wp2_with fail
      refine HD.out.mono ?_
      rintro e w1 ⟨rfl, rfl⟩
      go_wp2_with (at_builtin; refine wpList_push rfl (.tmp 23) (.tmp 25) rfl rfl HPW.out rfl Hlit.out hl Hsz.out ?_; intro g cap w3 hp3 hk3 hat hlt; obtain ⟨⟨y3, r1⟩, r2, HGK⟩ := HC.out g cap w3 hp3 hk3 hat hlt)
      go_ret
      exact ⟨rfl, HGK.out⟩
theorem sAdd_nil (id tag : Int) (w : World) : Calls Try.prog 11 #[.pointer none, .int .i64 id, .int .i64 tag] w fun e w' => e = .returned (.bool false) ∧ w = w' := by
  have HF := Lib.hid (sFind_nil id w)
  go_enter Try.func11, Try.ntmps11
  go_wp2_with fail
  refine HF.out.mono ?_
  rintro e w1 ⟨rfl, rfl⟩
  go_wp2
  go_ret
  exact ⟨rfl, rfl⟩
end
end Go.Proofs.Ytafgeoafmkbeoaa

namespace Go.Proofs.Ytafgeoafmkbeoaa
open Go

/-- The tags 0, 1 and so on were added to the signals o; td tells which were told. -/
structure Onc (B : List Sg) (o : List Int) (td : Nat → Bool) : Prop where
  none : ∀ j, sThere B j = true → (sg B j).given = true → (sg B j).tags = []
  what : ∀ j x, sThere B j = true → x ∈ (sg B j).tags → ∃ m : Nat, x = (m : Int) ∧ m < o.length ∧ o.getD m 0 = j
  once : ∀ j, sThere B j = true → (sg B j).tags.Nodup
  there : ∀ m, m < o.length → sThere B (o.getD m 0) = true
  has : ∀ m, m < o.length → (sg B (o.getD m 0)).given = false → (m : Int) ∈ (sg B (o.getD m 0)).tags
  told : ∀ m, m < o.length → td m = (sg B (o.getD m 0)).given
  rest : ∀ m, o.length ≤ m → td m = false
section
variable {B : List Sg} {o : List Int} {td : Nat → Bool} {i j x : Int} {fs : List Int}
theorem onc_nil : Onc [] [] fun _ => false := by
  have h0 : ∀ j, sThere [] j = true → False := fun j h => by
    have := sThere_iff.1 h
    simp only [List.length_nil] at this
    omega
  refine ⟨fun j h => (h0 j h).elim, fun j x h => (h0 j h).elim, fun j h => (h0 j h).elim, ?_, ?_, ?_, fun _ _ => rfl⟩ <;> intro m hm <;> simp at hm
theorem onc_make (h : Onc B o td) : Onc (smL B fs) o td := by
  unfold smL
  split
  case isFalse => exact h
  split
  case isFalse => exact h
  have ho : ∀ m, m < o.length → sThere (B ++ [⟨fs.any (sGiven B), fs, []⟩]) (o.getD m 0) = true ∧ sg (B ++ [⟨fs.any (sGiven B), fs, []⟩]) (o.getD m 0) = sg B (o.getD m 0) := fun m hm => sg_new (h.there m hm)
  refine ⟨fun j hj hg => ?_, fun j x hj hx => ?_, fun j hj => ?_, fun m hm => (ho m hm).1, fun m hm hg => ?_, fun m hm => ?_, h.rest⟩
  · rcases sThere_new hj with hj | rfl
    · rw [(sg_new hj).2] at hg ⊢
      exact h.none j hj hg
    · rw [sg_last]
  · rcases sThere_new hj with hj | rfl
    · rw [(sg_new hj).2] at hx
      exact h.what j x hj hx
    · rw [sg_last] at hx
      cases hx
  · rcases sThere_new hj with hj | rfl
    · rw [(sg_new hj).2]
      exact h.once j hj
    · rw [sg_last]
      exact List.nodup_nil
  · rw [(ho m hm).2] at hg ⊢
    exact h.has m hm hg
  · rw [(ho m hm).2]
    exact h.told m hm
theorem getD_snoc_old {m : Nat} (h : m < o.length) : (o ++ [i]).getD m 0 = o.getD m 0 := by
  rw [List.getD_eq_getElem?_getD, List.getD_eq_getElem?_getD, List.getElem?_append_left h]
theorem getD_snoc_new : (o ++ [i]).getD o.length 0 = i := by
  rw [List.getD_eq_getElem?_getD, List.getElem?_append_right (Nat.le_refl _), Nat.sub_self]
  rfl
theorem onc_add (h : Onc B o td) (hi : sFree B i = true) : Onc (saL B i (o.length : Int)) (o ++ [i]) td := by
  obtain ⟨hit, hig⟩ := sFree_iff.1 hi
  have hth : ∀ j, sThere (saL B i (o.length : Int)) j = sThere B j := fun j => sThere_len sa_length
  have hgv : ∀ j, sThere B j = true → (sg (saL B i (o.length : Int)) j).given = (sg B j).given := fun j hj => by
    rw [sg_add hi hj]
    by_cases e : j = i
    · rw [if_pos e, e]
    · rw [if_neg e]
  have hnew : ∀ m, m < (o ++ [i]).length → (m < o.length ∧ (o ++ [i]).getD m 0 = o.getD m 0) ∨ (m = o.length ∧ (o ++ [i]).getD m 0 = i) := fun m hm => by
    rw [List.length_append] at hm
    simp only [List.length_cons, List.length_nil] at hm
    by_cases e : m < o.length
    · exact .inl ⟨e, getD_snoc_old e⟩
    · have e' : m = o.length := by omega
      subst e'
      exact .inr ⟨rfl, getD_snoc_new⟩
  refine ⟨fun j hj hg => ?_, fun j x hj hx => ?_, fun j hj => ?_, fun m hm => ?_, fun m hm hg => ?_, fun m hm => ?_, fun m hm => ?_⟩
  · rw [hth] at hj
    rw [hgv j hj] at hg
    rw [sg_add hi hj]
    by_cases e : j = i
    · rw [e, hig] at hg
      cases hg
    · rw [if_neg e]
      exact h.none j hj hg
  · rw [hth] at hj
    rw [sg_add hi hj] at hx
    have old : ∀ j x, sThere B j = true → x ∈ (sg B j).tags → ∃ m : Nat, x = (m : Int) ∧ m < (o ++ [i]).length ∧ (o ++ [i]).getD m 0 = j := fun j x hj hx => by
      obtain ⟨m, h1, h2, h3⟩ := h.what j x hj hx
      exact ⟨m, h1, by rw [List.length_append]; omega, by rw [getD_snoc_old h2, h3]⟩
    by_cases e : j = i
    · subst e
      rw [if_pos rfl] at hx
      rcases List.mem_append.1 hx with hx | hx
      · exact old j x hj hx
      · refine ⟨o.length, List.mem_singleton.1 hx, by rw [List.length_append]; simp, getD_snoc_new⟩
    · rw [if_neg e] at hx
      exact old j x hj hx
  · rw [hth] at hj
    rw [sg_add hi hj]
    by_cases e : j = i
    · subst e
      rw [if_pos rfl]
      show ((sg B j).tags ++ [(o.length : Int)]).Nodup
      rw [List.nodup_append]
      refine ⟨h.once j hj, List.nodup_cons.2 ⟨List.not_mem_nil, List.nodup_nil⟩, fun x hx y hy e => ?_⟩
      obtain ⟨m, h1, h2, -⟩ := h.what j x hj hx
      rw [List.mem_singleton] at hy
      omega
    · rw [if_neg e]
      exact h.once j hj
  · rw [hth]
    rcases hnew m hm with ⟨h1, h2⟩ | ⟨h1, h2⟩
    · rw [h2]
      exact h.there m h1
    · rw [h2]
      exact hit
  · rcases hnew m hm with ⟨h1, h2⟩ | ⟨h1, h2⟩
    · rw [h2] at hg ⊢
      have ht := h.there m h1
      rw [hgv _ ht] at hg
      have := h.has m h1 hg
      rw [sg_add hi ht]
      by_cases e : o.getD m 0 = i
      · rw [if_pos e]
        show _ ∈ _ ++ _
        rw [e] at this
        exact List.mem_append_left _ this
      · rw [if_neg e]
        exact this
    · rw [h2, sg_add hi hit, if_pos rfl, h1]
      show _ ∈ _ ++ _
      exact List.mem_append_right _ (List.mem_singleton.2 rfl)
  · rcases hnew m hm with ⟨h1, h2⟩ | ⟨h1, h2⟩
    · rw [h2, hgv _ (h.there m h1)]
      exact h.told m h1
    · rw [h2, hgv _ hit, hig, h1]
      exact h.rest _ (Nat.le_refl _)
  · rw [List.length_append] at hm
    exact h.rest m (by omega)
/-- What Give tells were tags that were not told yet, each once; and their signals are given then. -/
theorem onc_out (h : Onc B o td) (ws : List Int) : (gvL B ws).2.Nodup ∧ ∀ x ∈ (gvL B ws).2, ∃ m : Nat, x = (m : Int) ∧ m < o.length ∧ td m = false ∧ sGiven (gvL B ws).1 (o.getD m 0) = true := by
  refine ⟨gv_once B ws h.once fun i j x hi hj hx hy => ?_, fun x hx => ?_⟩
  · obtain ⟨m, h1, h2, h3⟩ := h.what i x hi hx
    obtain ⟨m', h1', h2', h3'⟩ := h.what j x hj hy
    obtain rfl : m = m' := by omega
    rw [← h3, h3']
  · obtain ⟨i, h1, h2, h3, h4⟩ := (gv_told B ws x).1 hx
    obtain ⟨m, h5, h6, h7⟩ := h.what i x h1 h4
    refine ⟨m, h5, h6, ?_, ?_⟩
    · rw [h.told m h6, h7, h2]
    · rw [sGiven_iff, gv_there, h7]
      exact ⟨h1, h3⟩
theorem onc_give {td' : Nat → Bool} (h : Onc B o td) (ws : List Int) (ht : ∀ m : Nat, td' m = (td m || (gvL B ws).2.contains (m : Int))) : Onc (gvL B ws).1 o td' := by
  have hth : ∀ j, sThere (gvL B ws).1 j = sThere B j := fun j => gv_there B ws
  have hin : ∀ x, x ∈ (gvL B ws).2 → ∃ m : Nat, x = (m : Int) ∧ m < o.length ∧ td m = false ∧ sGiven (gvL B ws).1 (o.getD m 0) = true := (onc_out h ws).2
  have hno : ∀ j, sThere B j = true → (sg (gvL B ws).1 j).given = true → (sg (gvL B ws).1 j).tags = [] := by
    have : ∀ (B : List Sg) (ws : List Int), (∀ j, sThere B j = true → (sg B j).given = true → (sg B j).tags = []) → ∀ j, sThere B j = true → (sg (gvL B ws).1 j).given = true → (sg (gvL B ws).1 j).tags = [] :=
      gv_ind (fun B h j hj hg => by rw [gv_nil] at hg ⊢; exact h j hj hg) (fun B k r hk ih h j hj hg => by
        rw [gv_go hk] at hg ⊢
        obtain ⟨hk1, hk0⟩ := sFree_iff.1 hk
        refine ih (fun j hj hg => ?_) j (by rw [sThere_len sMark_length]; exact hj) hg
        rw [sThere_len sMark_length] at hj
        rw [sg_mark hk1 hj] at hg ⊢
        by_cases e : j = k
        · rw [if_pos e]
        · rw [if_neg e] at hg ⊢
          exact h j hj hg) fun B k r hk ih h j hj hg => by
        rw [gv_by hk] at hg ⊢
        exact ih h j hj hg
    exact this B ws h.none
  refine ⟨fun j hj hg => hno j (by rw [← hth]; exact hj) hg, fun j x hj hx => ?_, fun j hj => ?_, fun m hm => by rw [hth]; exact h.there m hm, fun m hm hg => ?_, fun m hm => ?_, fun m hm => ?_⟩
  · rw [hth] at hj
    cases hg : (sg (gvL B ws).1 j).given with
    | true =>
      rw [hno j hj hg] at hx
      cases hx
    | false =>
      rw [(gv_stays hj ws).2 hg] at hx
      exact h.what j x hj hx
  · rw [hth] at hj
    cases hg : (sg (gvL B ws).1 j).given with
    | true =>
      rw [hno j hj hg]
      exact List.nodup_nil
    | false =>
      rw [(gv_stays hj ws).2 hg]
      exact h.once j hj
  · have e := (gv_stays (h.there m hm) ws).2 hg
    rw [e] at hg ⊢
    exact h.has m hm hg
  · have hj := h.there m hm
    rw [ht, h.told m hm]
    cases hg : (sg B (o.getD m 0)).given with
    | true =>
      rw [(gv_stays hj ws).1 hg]
      rfl
    | false =>
      rw [Bool.false_or]
      cases hg' : (sg (gvL B ws).1 (o.getD m 0)).given with
      | true =>
        rw [List.contains_iff_mem]
        exact (gv_told B ws _).2 ⟨_, hj, hg, hg', h.has m hm hg⟩
      | false =>
        rw [Bool.eq_false_iff]
        intro hc
        obtain ⟨m', h1, h2, h3, h4⟩ := hin _ (List.contains_iff_mem.1 hc)
        obtain rfl : m = m' := by omega
        rw [(sGiven_iff.1 h4).2] at hg'
        cases hg'
  · rw [ht, h.rest m hm, Bool.false_or, Bool.eq_false_iff]
    intro hc
    obtain ⟨m', h1, h2, -⟩ := hin _ (List.contains_iff_mem.1 hc)
    omega
theorem closed_nil : Closed [] [] := fun i j h => by
  have := sThere_iff.1 h
  simp only [List.length_nil] at this
  omega
/-- Those that a signal follows were there ahead of it. -/
def Elder (B : List Sg) : Prop := ∀ i j, sThere B i = true → j ∈ (sg B i).follows → sThere B j = true ∧ j < i
theorem elder_nil : Elder [] := fun i j h => by
  have := sThere_iff.1 h
  simp only [List.length_nil] at this
  omega
theorem elder_make (h : Elder B) : Elder (smL B fs) := by
  unfold smL
  split
  case isFalse => exact h
  rename_i ha
  split
  case isFalse => exact h
  intro i j hi hj
  rcases sThere_new hi with hi | rfl
  · rw [(sg_new hi).2] at hj
    obtain ⟨h1, h2⟩ := h i j hi hj
    exact ⟨(sg_new h1).1, h2⟩
  · rw [sg_last] at hj
    have h1 := List.all_eq_true.1 ha j hj
    exact ⟨(sg_new h1).1, by have := sThere_iff.1 h1; omega⟩
theorem closed_make (hE : Elder B) (h : Closed B []) : Closed (smL B fs) [] := by
  unfold smL
  split
  case isFalse => exact h
  rename_i ha
  split
  case isFalse => exact h
  have hg : ∀ y j, sThere B j = true → sGiven (B ++ [y]) j = sGiven B j := fun y j hj => by
    unfold sGiven
    rw [(sg_new hj).1, (sg_new hj).2, hj]
  intro i j hi hj hgj
  left
  rcases sThere_new hi with hi | rfl
  · rw [(sg_new hi).2] at hj
    rw [hg _ j (hE i j hi hj).1] at hgj
    rw [hg _ i hi]
    rcases h i j hi hj hgj with h1 | h1
    · exact h1
    · cases h1
  · rw [sg_last] at hj
    rw [sGiven_iff]
    refine ⟨hi, ?_⟩
    rw [sg_last]
    rw [hg _ j (List.all_eq_true.1 ha j hj)] at hgj
    exact List.any_eq_true.2 ⟨j, hj, hgj⟩
theorem elder_like {B' : List Sg} (h : Elder B) (hl : B'.length = B.length) (hf : ∀ i, sThere B i = true → (sg B' i).follows = (sg B i).follows) : Elder B' := fun i j hi hj => by
  rw [sThere_len hl] at hi ⊢
  rw [hf i hi] at hj
  exact h i j hi hj
theorem elder_give (h : Elder B) (ws : List Int) : Elder (gvL B ws).1 := elder_like h (gv_length B ws) fun _ hi => gv_follows hi ws
theorem closed_give (h : Closed B []) (ws : List Int) : Closed (gvL B ws).1 [] := gv_closed B ws fun i j hi hj hg => (h i j hi hj hg).elim .inl fun h => by cases h
/-- Behind Give a signal is given just if it was, or it is the one, or it follows one that is given. -/
theorem give_fits (h : Closed B []) (hi : sThere B i = true) (k : Int) : sGiven (gvL B [k]).1 i = (sGiven B i || (sFree B k && decide (i = k)) || (sg B i).follows.any (sGiven (gvL B [k]).1)) := by
  have hc := closed_give h [k]
  cases hr : (sGiven B i || (sFree B k && decide (i = k)) || (sg B i).follows.any (sGiven (gvL B [k]).1)) with
  | true =>
    rw [sGiven_iff, gv_there]
    refine ⟨hi, ?_⟩
    rw [Bool.or_eq_true, Bool.or_eq_true] at hr
    rcases hr with (h1 | h1) | h1
    · exact (gv_stays hi _).1 (sGiven_iff.1 h1).2
    · rw [Bool.and_eq_true] at h1
      exact gv_waits hi _ (List.mem_singleton.2 (of_decide_eq_true h1.2))
    · obtain ⟨j, h2, h3⟩ := List.any_eq_true.1 h1
      rcases hc i j (by rw [gv_there]; exact hi) (by rw [gv_follows hi]; exact h2) h3 with h4 | h4
      · exact (sGiven_iff.1 h4).2
      · cases h4
  | false =>
    rw [Bool.or_eq_false_iff, Bool.or_eq_false_iff] at hr
    obtain ⟨⟨h1, h2⟩, h3⟩ := hr
    cases hg : sGiven (gvL B [k]).1 i with
    | false => rfl
    | true =>
      exfalso
      rcases gv_why hi [k] (sGiven_iff.1 hg).2 with h4 | h4 | ⟨j, h4, h5⟩
      · rw [sGiven_iff.2 ⟨hi, h4⟩] at h1
        cases h1
      · obtain rfl := List.mem_singleton.1 h4
        rw [decide_eq_true rfl, Bool.and_true] at h2
        rw [gv_by h2, gv_nil, h1] at hg
        cases hg
      · have := List.any_eq_false.1 h3 j h4
        exact this h5
end
end Go.Proofs.Ytafgeoafmkbeoaa

namespace Go.Proofs.Ytafgeoafmkbeoaa
open Go

/-- How many tags there are. -/
def sCount : List Sg → Nat
  | [] => 0
  | x :: r => x.tags.length + sCount r
section
variable {B : List Sg} {i j k x : Int} {fs ws : List Int} {m : Nat}
theorem sCount_modify : ∀ (B : List Sg) (n : Nat) (f : Sg → Sg) (x : Sg), B[n]? = some x → sCount (B.modify n f) + x.tags.length = sCount B + (f x).tags.length
  | [], n, f, x, h => by cases h
  | y :: r, 0, f, x, h => by
    obtain rfl : y = x := by simpa using h
    rw [List.modify_zero_cons, sCount, sCount]
    omega
  | y :: r, n + 1, f, x, h => by
    have := sCount_modify r n f x (by simpa using h)
    rw [List.modify_succ_cons, sCount, sCount]
    omega
theorem sCount_mark (h : sThere B k = true) : sCount (sMark B k) + (sg B k).tags.length = sCount B := by
  have := sCount_modify B _ (fun x => ⟨true, x.follows, []⟩) _ (sg_get h)
  simpa [sMark] using this
theorem sCount_snoc (B : List Sg) (x : Sg) : sCount (B ++ [x]) = sCount B + x.tags.length := by
  induction B with
  | nil => simp [sCount]
  | cons y r ih => rw [List.cons_append, sCount, sCount, ih]; omega
theorem sCount_make : sCount (smL B fs) = sCount B := by
  unfold smL
  split
  · split
    · rw [sCount_snoc]; rfl
    · rfl
  · rfl
theorem sCount_add : sCount (saL B i x) ≤ sCount B + 1 := by
  unfold saL
  split
  · rename_i h
    have := sCount_modify B _ (fun y => ⟨y.given, y.follows, y.tags ++ [x]⟩) _ (sg_get (sFree_iff.1 h).1)
    simp only [List.length_append, List.length_cons, List.length_nil] at this
    omega
  · omega
theorem sCount_gv : ∀ (B : List Sg) (ws : List Int), sCount (gvL B ws).1 + (gvL B ws).2.length = sCount B :=
  gv_ind (fun B => by rw [gv_nil]; rfl) (fun B k r h ih => by
    have := sCount_mark (sFree_iff.1 h).1
    rw [gv_go h, List.length_append]
    simp only
    omega) fun B k r h ih => by rw [gv_by h]; exact ih
theorem tags_le : (sg B i).tags.length ≤ sCount B := by
  cases h : B[(i - 1).toNat]? with
  | none =>
    unfold sg
    rw [List.getD_eq_getElem?_getD, h]
    exact Nat.zero_le _
  | some x =>
    have := sCount_modify B _ (fun y => ⟨y.given, y.follows, []⟩) _ h
    have e : sg B i = x := by unfold sg; rw [List.getD_eq_getElem?_getD, h]; rfl
    rw [e]
    simp at this
    omega
theorem sLeft_gv : ∀ (B : List Sg) (ws : List Int), sLeft (gvL B ws).1 ≤ sLeft B :=
  gv_ind (fun B => by rw [gv_nil]; exact Nat.le_refl _) (fun B k r h ih => by
    have := sLeft_mark h
    rw [gv_go h]
    simp only
    omega) fun B k r h ih => by rw [gv_by h]; exact ih
/-- One that isn't free: nothing. -/
theorem gv_no (h : sFree B k = false) : gvL B [k] = (B, []) := by rw [gv_by h, gv_nil]
/-- One that is. -/
theorem gv_yes (h : sFree B k = true) : gvL B [k] = ((gvL (sMark B k) (sFol B k)).1, (sg B k).tags ++ (gvL (sMark B k) (sFol B k)).2) := by rw [gv_go h, List.append_nil]
/-- Among those that follow, one more. -/
theorem gv_step (C : List Sg) (j : Nat) : gvL C (sFolN B k (j + 1)) = if hasB (sg B ((j : Int) + 1)).follows k = true then ((gvL (gvL C (sFolN B k j)).1 [(j : Int) + 1]).1, (gvL C (sFolN B k j)).2 ++ (gvL (gvL C (sFolN B k j)).1 [(j : Int) + 1]).2) else gvL C (sFolN B k j) := by
  rw [sFolN]
  have e : ((sg B ((j : Int) + 1)).follows.contains k = true) ↔ (hasB (sg B ((j : Int) + 1)).follows k = true) := by
    unfold hasB
    rw [List.contains_iff_mem, decide_eq_true_iff]
  by_cases h : hasB (sg B ((j : Int) + 1)).follows k = true
  · rw [if_pos (e.2 h), if_pos h, gv_append]
  · rw [if_neg fun h' => h (e.1 h'), if_neg h, List.append_nil]
theorem modify_twice {f g : Sg → Sg} : (B.modify m f).modify m g = B.modify m (g ∘ f) := by
  refine List.ext_getElem? fun i => ?_
  rw [List.getElem?_modify, List.getElem?_modify, List.getElem?_modify]
  by_cases e : m = i
  · subst e
    cases B[m]? <;> simp
  · cases B[i]? <;> simp [e]
end
/-- The lists of those that are followed are short. -/
def Short (B : List Sg) : Prop := ∀ y ∈ B, y.follows.length ≤ 1000
section
variable {B : List Sg} {m : Nat} {f : Sg → Sg} {y : Sg} {k x : Int} {fs ws : List Int}
theorem short_nil : Short [] := fun y hy => by cases hy
theorem short_snoc (h : Short B) (hy : y.follows.length ≤ 1000) : Short (B ++ [y]) := fun z hz => by
  rcases List.mem_append.1 hz with hz | hz
  · exact h z hz
  · rw [List.mem_singleton.1 hz]
    exact hy
theorem short_modify (h : Short B) (hf : ∀ z, (f z).follows = z.follows) : Short (B.modify m f) := fun z hz => by
  obtain ⟨i, hi⟩ := List.getElem?_of_mem hz
  rw [List.getElem?_modify] at hi
  cases hB : B[i]? with
  | none =>
    rw [hB] at hi
    cases hi
  | some u =>
    have hu := h u (List.mem_of_getElem? hB)
    rw [hB] at hi
    by_cases e : m = i
    · simp [e] at hi
      rw [← hi, hf]
      exact hu
    · simp [e] at hi
      rw [← hi]
      exact hu
theorem short_mark (h : Short B) : Short (sMark B k) := short_modify h fun _ => rfl
theorem short_make (h : Short B) (hf : fs.length ≤ 1000) : Short (smL B fs) := by
  unfold smL
  split
  · split
    · exact short_snoc h hf
    · exact h
  · exact h
theorem short_add (h : Short B) : Short (saL B k x) := by
  unfold saL
  split
  · exact short_modify h fun _ => rfl
  · exact h
theorem short_gv : ∀ (B : List Sg) (ws : List Int), Short B → Short (gvL B ws).1 :=
  gv_ind (fun B h => by rw [gv_nil]; exact h) (fun B k r h ih hs => by rw [gv_go h]; exact ih (short_mark hs)) fun B k r h ih hs => by rw [gv_by h]; exact ih hs
theorem short_at (h : Short B) (hm : m < B.length) : (B.getD m Sg.zero).follows.length ≤ 1000 := by
  rw [List.getD_eq_getElem?_getD, List.getElem?_eq_getElem hm]
  exact h _ (List.getElem_mem hm)
end
end Go.Proofs.Ytafgeoafmkbeoaa
