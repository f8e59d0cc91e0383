/-
  Lists that came in, as lists of numbers; rows of the call's own. No function of the program is named here.
-/
import Derived.Test.YtkafaceanlkjjaaKeep
import Derived.ProofKit
import Derived.OpenShut
namespace Go.Proofs.Ytkafaceanlkjjaa
open Go Go.ChangeShapes Go.WideShapes Go.ChangeAt Go.RowKit

/-- The slice's place number i, below block B, holds v. -/
def At (w : World) (B : Nat) (A : Option Addr) (i : Nat) (v : Value) : Prop := ∃ b off, A = some ⟨b, off, none⟩ ∧ b < B ∧ w.cell? ⟨b, off + i, none⟩ = some v
/-- A list of numbers that came in: at each place its number. -/
def Nums (w : World) (B : Nat) (A : Option Addr) (k : IntKind) (xs : List Int) : Prop := ∀ i (h : i < xs.length), At w B A i (.int k xs[i])

theorem At.below {w w' : World} {B : Nat} {A : Option Addr} {i : Nat} {v : Value} (h : At w B A i v) (hb : Below B w w') : At w' B A i v := by
  obtain ⟨b, off, e, hB, hc⟩ := h
  exact ⟨b, off, e, hB, (hb.cell (p := ⟨b, off + i, none⟩) hB).trans hc⟩

theorem Nums.below {w w' : World} {B : Nat} {A : Option Addr} {k : IntKind} {xs : List Int} (h : Nums w B A k xs) (hb : Below B w w') : Nums w' B A k xs := fun i hi => (h i hi).below hb

theorem Nums.mono {w : World} {B B' : Nat} {A : Option Addr} {k : IntKind} {xs : List Int} (h : Nums w B A k xs) (hb : B ≤ B') : Nums w B' A k xs := fun i hi => by
  obtain ⟨b, off, e, hB, hc⟩ := h i hi
  exact ⟨b, off, e, Nat.lt_of_lt_of_le hB hb, hc⟩

/-- Out of the row's reading. -/
theorem nums_in {P : Program} {H : Type} {enc : TypeId × Value → H} {W : World} {sp : Nat → Bool} {held : Bool} {fuel : Nat} {t e : TypeId} {k : IntKind} {A : Option Addr} {n cap : Nat} {x : DataW H × List MemPlace}
    (ht : P.underlying t = some (.slice e)) (he : P.underlying e = some (.int k)) (h1 : P.cellsOf e = 1)
    (hf : DataW.trod enc P W 0 sp held fuel t [.slice A n cap] = some x) (hx : ∀ y ∈ x.2, y.block < W.heap.size) :
    ∃ xs : List Int, xs.length = n ∧ Nums W W.heap.size A k xs ∧ (∀ z ∈ xs, (Lit.int k z).wf = true) ∧ n ≤ cap ∧ n ≤ maxLen := by
  rcases open_ints ht he h1 hf with ⟨hv, _⟩ | ⟨a, n', cap', zs, hv, _, hl, hm, hz, hxe, hcell, hws⟩
  · obtain ⟨rfl, rfl, rfl⟩ : A = none ∧ n = 0 ∧ cap = 0 := by simpa using hv
    exact ⟨[], rfl, fun i h => absurd h (Nat.not_lt_zero i), fun z h => absurd h (by simp), Nat.le_refl 0, Nat.zero_le _⟩
  · obtain ⟨rfl, rfl, rfl⟩ : A = some a ∧ n = n' ∧ cap = cap' := by simpa using hv
    have hge : n ≤ zs.length := by rw [hz]; split <;> omega
    refine ⟨zs.take n, by rw [List.length_take]; omega, fun i hi => ?_, fun z h => hws z (List.mem_of_mem_take h), hl, Nat.le_trans hl hm⟩
    rw [List.length_take] at hi
    have hi' : i < zs.length := by omega
    have hc := hcell i hi'
    have hc0 := hcell 0 (by omega)
    obtain ⟨b, off, spot⟩ := a
    obtain rfl : spot = none := by simpa [Addr.add] using World.cell?_spot hc0
    rw [Addr.add_lit] at hc
    refine ⟨b, off, rfl, hx (.cell b off) (by rw [hxe]; exact MemPlace.mem_row.2 ⟨0, by omega, by simp⟩), hc.trans ?_⟩
    rw [List.getElem_take, List.getD_eq_getElem?_getD, List.getElem?_eq_getElem hi']
    rfl

theorem Keeps.storeAt {F : Nat → Prop} {w w' : World} {g : Nat} (k : Keeps F w w') (h : F g) (i : Nat) (u : Value) : Keeps F w (w'.setCell ⟨g, i, none⟩ u) := k.store (.inl h) u
/-- What an append leaves. -/
theorem Keeps.of_grown {w w' : World} {row : Option Nat} (h : w.grownBy w' row) : Keeps (fun i => row = some i) w w' :=
  ⟨⟨h.os, h.tape, h.output⟩, h.size, fun i hi hn => h.block i hi fun e => hn e.symm⟩
/-- A row of the call's own is kept where its block is. -/
theorem own_kept {F : Nat → Prop} {w w' : World} {base n size : Nat} {e : TypeId} {v : Value} {xs : List Value} (h : w.ownsRow base e size v n xs) (k : Keeps F w w') (hF : ∀ g, v.ownBlock = some g → ¬ F g) : w'.ownsRow base e size v n xs := by
  refine ⟨h.1, ?_⟩
  rcases h.2 with hn | ⟨g, cap, cur, rfl, hb, hg, rest⟩
  · exact .inl hn
  · exact .inr ⟨g, cap, cur, rfl, hb, Has.kept hg k (hF g rfl), rest⟩
end Go.Proofs.Ytkafaceanlkjjaa
