/-
  Forests in memory: a list of nodes that a slice owns, each with its children's list; lists of numbers that are read.
-/
import Derived.Test.YtkafaceanlkjjaaFp
import Derived.Test.YtkafaceanlkjjaaRd
import Derived.Laws.AppendOwnNone
namespace Go.Proofs.Ytkafaceanlkjjaa
open Go Go.RowKit

/-- A list of numbers of the call's own, in a block that G names. -/
def Kids (G : Nat → Prop) (w : World) (v : Value) (xs : List Int) : Prop := w.ownsRow 0 3 1 v xs.length (xs.map (Value.int .i64)) ∧ ∀ g, v.ownBlock = some g → G g
/-- A list of nodes of the call's own; its row lies from block B on; all its blocks G names. -/
def Nodes (G : Nat → Prop) (w : World) (B : Nat) (A : Option Addr) (c : Nat) (l : List Nd) : Prop :=
  ∃ rows : List (Nd × Value), rows.map Prod.fst = l ∧ w.ownsRow B 41 9 (.slice A l.length c) l.length (flat rows) ∧ (∀ p ∈ rows, Kids G w p.2 p.1.kids) ∧ ∀ b off s, A = some ⟨b, off, s⟩ → G b
/-- All blocks from B on G names. -/
def Fut (G : Nat → Prop) (B : Nat) : Prop := ∀ i, B ≤ i → G i
theorem Fut.mono {G : Nat → Prop} {B B' : Nat} (h : Fut G B) (hb : B ≤ B') : Fut G B' := fun i hi => h i (Nat.le_trans hb hi)
theorem Fut.any (B : Nat) : Fut (fun _ => True) B := fun _ _ => trivial

section
variable {G : Nat → Prop} {w w' : World} {F : Nat → Prop} {B B' base n size : Nat} {e : TypeId} {A : Option Addr} {c : Nat} {l : List Nd} {v : Value} {xs : List Int} {us : List Value}
theorem own_in (h : w.ownsRow base e size v n us) : ∀ g, v.ownBlock = some g → g < w.heap.size := fun g hg => (h.lt g hg).2
theorem own_base (h : w.ownsRow base e size v n us) (hb : B ≤ base) : w.ownsRow B e size v n us := by
  refine ⟨h.1, h.2.imp id fun ⟨g, cap, cur, hv, hg, rest⟩ => ⟨g, cap, cur, hv, Nat.le_trans hb hg, rest⟩⟩
theorem own_from (h : w.ownsRow base e size v n us) (hb : ∀ g, v.ownBlock = some g → B ≤ g) : w.ownsRow B e size v n us := by
  refine ⟨h.1, h.2.imp id fun ⟨g, cap, cur, hv, _, rest⟩ => ⟨g, cap, cur, hv, hb g (by rw [hv]; rfl), rest⟩⟩
theorem Kids.kept (h : Kids G w v xs) (k : Keeps F w w') (hF : ∀ i, i < w.heap.size → ¬ F i) : Kids G w' v xs := ⟨own_kept h.1 k fun g hg => hF g (own_in h.1 g hg), h.2⟩
theorem Kids.keptG (h : Kids G w v xs) (k : Keeps F w w') (hF : ∀ i, G i → i < w.heap.size → ¬ F i) : Kids G w' v xs := ⟨own_kept h.1 k fun g hg => hF g (h.2 g hg) (own_in h.1 g hg), h.2⟩
theorem Kids.wide {G' : Nat → Prop} (h : Kids G w v xs) (hG : ∀ i, G i → i < w.heap.size → G' i) : Kids G' w v xs := ⟨h.1, fun g hg => hG g (h.2 g hg) (own_in h.1 g hg)⟩
theorem Kids.aside {g i : Nat} {u : Value} {cs : Array Value} {t : TypeId} {fr : Nat × Nat} (h : Kids G w v xs) (hg : Has w g (.cells cs t fr)) (ht : t ≠ 3) : Kids G (w.setCell ⟨g, i, none⟩ u) v xs :=
  ⟨own_kept h.1 (Keeps.storeAt (F := fun j => j = g) (Keeps.refl _ _) rfl i u) fun g' hg' e => by
    rcases h.1.2 with ⟨rfl, _⟩ | ⟨g2, cap, cur, rfl, _, hh, _⟩
    · cases hg'
    · obtain rfl : g2 = g' := by simpa [Value.ownBlock] using hg'
      exact Has.apart hg hh (fun e => ht (by injection e)) e.symm, h.2⟩
theorem Nodes.kept (h : Nodes G w B A c l) (k : Keeps F w w') (hF : ∀ i, i < w.heap.size → ¬ F i) : Nodes G w' B A c l := by
  obtain ⟨rows, h1, h2, h3, h4⟩ := h
  exact ⟨rows, h1, own_kept h2 k fun g hg => hF g (own_in h2 g hg), fun p hp => (h3 p hp).kept k hF, h4⟩
theorem Nodes.keptG (h : Nodes G w B A c l) (k : Keeps F w w') (hF : ∀ i, G i → i < w.heap.size → ¬ F i) : Nodes G w' B A c l := by
  obtain ⟨rows, h1, h2, h3, h4⟩ := h
  refine ⟨rows, h1, own_kept h2 k fun g hg => ?_, fun p hp => (h3 p hp).keptG k hF, h4⟩
  obtain ⟨a, rfl, rfl⟩ : ∃ a, A = some a ∧ a.block = g := by
    cases A with
    | none => cases hg
    | some a => exact ⟨a, rfl, by simpa [Value.ownBlock] using hg⟩
  exact hF _ (h4 _ _ _ rfl) (own_in h2 _ hg)
theorem Nodes.wide {G' : Nat → Prop} (h : Nodes G w B A c l) (hG : ∀ i, G i → i < w.heap.size → G' i) : Nodes G' w B A c l := by
  obtain ⟨rows, h1, h2, h3, h4⟩ := h
  refine ⟨rows, h1, h2, fun p hp => (h3 p hp).wide hG, fun b off s e => ?_⟩
  subst e
  exact hG b (h4 b off s rfl) (own_in h2 b rfl)
theorem Nodes.below (h : Nodes G w B A c l) (k : Below w.heap.size w w') : Nodes G w' B A c l := h.kept (Keeps.of_below (F := fun i => w.heap.size ≤ i) k fun _ _ h => h) fun _ hi => Nat.not_le.2 hi
theorem Kids.below (h : Kids G w v xs) (k : Below w.heap.size w w') : Kids G w' v xs := h.kept (Keeps.of_below (F := fun i => w.heap.size ≤ i) k fun _ _ h => h) fun _ hi => Nat.not_le.2 hi
theorem Nodes.drewN (h : Nodes G w B A c l) (n : Nat) : Nodes G (w.drewN n) B A c l := h
theorem Nodes.nil (w : World) (B : Nat) : Nodes G w B none 0 [] := ⟨[], rfl, World.ownsRow_nil _ _ _ _, fun _ h => absurd h (by simp), fun _ _ _ h => absurd h (by simp)⟩
theorem Nodes.from_ (h : Nodes G w B A c l) (hb : B' ≤ B) : Nodes G w B' A c l := by
  obtain ⟨rows, h1, h2, h3, h4⟩ := h
  exact ⟨rows, h1, own_base h2 hb, h3, h4⟩
theorem Nodes.cap (h : Nodes G w B A c l) : l.length ≤ c := by
  obtain ⟨rows, h1, h2, h3, h4⟩ := h
  rcases h2.2 with ⟨hv, h0⟩ | ⟨g, cap, cur, hv, _, _, hc, _⟩
  · omega
  · injection hv with _ _ e; omega
theorem Nodes.inside (h : Nodes G w B A c l) : ∀ b off s, A = some ⟨b, off, s⟩ → b < w.heap.size := by
  rintro b off s rfl
  obtain ⟨rows, h1, h2, h3, h4⟩ := h
  exact own_in h2 b rfl

/-- A node of it, cell by cell. -/
theorem Nodes.at_ (h : Nodes G w B A c l) {i : Nat} (hi : i < l.length) : ∃ g k, A = some ⟨g, 0, none⟩ ∧ B ≤ g ∧ Kids G w k l[i].kids ∧ (∀ j, w.frozen? ⟨g, j, none⟩ = false) ∧ ∀ f, f < 9 → w.cell? ⟨g, i * 9 + f, none⟩ = (l[i].cells k)[f]? := by
  obtain ⟨rows, rfl, h2, h3, h4⟩ := h
  have hi' : i < rows.length := by simpa using hi
  rcases h2.2 with ⟨_, h0⟩ | ⟨g, cap, cur, hv, hg, hh, _⟩
  · omega
  obtain ⟨rfl, rfl⟩ : A = some ⟨g, 0, none⟩ ∧ c = cap := by injection hv with e1 _ e3; exact ⟨e1, e3⟩
  refine ⟨g, rows[i].2, rfl, hg, ?_, fun j => h2.frozenAt j, fun f hf => ?_⟩
  · rw [List.getElem_map]
    exact h3 _ (List.getElem_mem hi')
  · rw [h2.cellAt _ (by simp; omega), flat_get (List.getElem?_eq_getElem hi') hf, List.getElem_map]
/-- One cell is written: the node is another one. -/
theorem Nodes.store {g : Nat} (h : Nodes G w B (some ⟨g, 0, none⟩) c l) {i : Nat} (hi : i < l.length) {f : Nat} (hf : f < 9) {u : Value} {d : Nd} (hd : ∀ k', ∃ k'', d.cells k'' = (l[i].cells k').set f u ∧ (Kids G w k' l[i].kids → Kids G w k'' d.kids)) :
    Nodes G (w.setCell ⟨g, i * 9 + f, none⟩ u) B (some ⟨g, 0, none⟩) c (l.set i d) := by
  obtain ⟨rows, rfl, h2, h3, h4⟩ := h
  have hi' : i < rows.length := by simpa using hi
  obtain ⟨k'', hk1, hk2⟩ := hd rows[i].2
  rw [List.getElem_map] at hk1 hk2
  have hg : ∃ cur, Has w g (.cells cur 41 (0, 0)) := by
    rcases h2.2 with ⟨hv, _⟩ | ⟨g', cap, cur, hv, _, hh, _⟩
    · cases hv
    · obtain rfl : g = g' := by injection hv with e1; simpa using e1
      exact ⟨cur, hh⟩
  obtain ⟨cur, hg⟩ := hg
  refine ⟨rows.set i (d, k''), by rw [List.map_set], ?_, fun p hp => ?_, h4⟩
  · have := (h2.stored (i * 9 + f) u).1
    rw [List.length_set]
    rw [flat_set (List.getElem?_eq_getElem hi') hf hk1]
    exact this
  · rcases List.mem_or_eq_of_mem_set hp with hp | rfl
    · exact (h3 p hp).aside hg (by decide)
    · exact (hk2 (h3 _ (List.getElem_mem hi'))).aside hg (by decide)
/-- A list of the call's own may be read. -/
theorem Kids.form (h : Kids G w v xs) : ∃ A c, v = .slice A xs.length c ∧ xs.length ≤ c ∧ Nums w w.heap.size A .i64 xs := by
  have h := h.1
  rcases h.2 with ⟨rfl, h0⟩ | ⟨g, cap, cur, rfl, _, hh, hc, _⟩
  · exact ⟨none, 0, by rw [h0], by omega, fun i hi => by omega⟩
  · refine ⟨_, cap, rfl, hc, fun i hi => ⟨g, 0, rfl, Has.inside hh, ?_⟩⟩
    rw [Nat.zero_add, h.cellAt i (by omega), List.getElem?_map, List.getElem?_eq_getElem hi]
    rfl
end
end Go.Proofs.Ytkafaceanlkjjaa
