/-
  More promises of arena; what may be written over; a node is the same as itself.
-/
import Derived.Test.YtkafaceanlkjjaaFx
import Derived.Test.YtkafaceanlkjjaaFs
namespace Go.Proofs.Ytkafaceanlkjjaa
open Go Go.RowKit

/-- Node and Len. -/
structure ForestMore (Rep : (Nat → Prop) → World → Nat → List Nd → Prop) : Prop where
  node : ∀ (S : Nat → Prop) (w : World) (b : Nat) (l : List Nd) (id : Int), Rep S w b l → Good l →
    Calls Try.prog 25 #[at_ b, .int .i64 id] w fun e w' => ∃ (d : Nd) (A : Option Addr) (c : Nat), e = .returned (.tuple #[.agg #[.int .i64 d.kind, .int .i64 d.parent, .int .i64 d.host, .int .i64 d.shadow, .int .i64 d.mode, .bool d.slot, .string d.name, .string d.want, .slice A d.kids.length c], .bool (thereB l id)]) ∧
      d = (if thereB l id = true then nd l id else Nd.zero) ∧ Kids (fun i => w.heap.size ≤ i) w' (.slice A d.kids.length c) d.kids ∧ Below w.heap.size w w'
  len : ∀ (S : Nat → Prop) (w : World) (b : Nat) (l : List Nd), Rep S w b l → Good l →
    Calls Try.prog 52 #[at_ b] w fun e w' => e = .returned (.int .i64 l.length) ∧ Below w.heap.size w w'

theorem wrap_small {n : Int} (h0 : -9223372036854775808 ≤ n) (h1 : n ≤ 9223372036854775807) : IntKind.i64.wrap n = n := by
  rw [IntKind.wrap_i64]
  omega
theorem oneB_refl (d : Nd) : oneB d d = true := by simp [oneB, sameInts]
theorem sameL_refl (l : List Nd) : sameL l l = true := by
  rw [sameL, decide_eq_true_iff]
  exact ⟨rfl, fun i _ => oneB_refl _⟩

section
variable {G : Nat → Prop} {w : World}
/-- A number is written over in a list of the call's own. -/
theorem Kids.write {A : Option Addr} {n c j : Nat} {ks : List Int} (h : Kids G w (.slice A n c) ks) (hj : j < ks.length) (y : Int) : ∃ g, A = some ⟨g, 0, none⟩ ∧ G g ∧ n = ks.length ∧ (∃ x, w.cell? ⟨g, j, none⟩ = some (.int .i64 x)) ∧ w.frozen? ⟨g, j, none⟩ = false ∧ Has w g (.cells (w.heap[g]?.elim #[] fun | .cells cs _ _ => cs | _ => #[]) 3 (0, 0)) ∧ Kids G (w.setCell ⟨g, j, none⟩ (.int .i64 y)) (.slice A n c) (ks.set j y) := by
  obtain ⟨h1, h2⟩ := h
  rcases h1.2 with ⟨_, h0⟩ | ⟨g, cap, cur, e, _, hh, _⟩
  · omega
  · injection e with e1 e2 e3
    subst e1
    subst e2
    subst e3
    refine ⟨g, rfl, h2 g rfl, rfl, ⟨ks[j], ?_⟩, h1.frozenAt j, ?_, ?_, h2⟩
    · rw [h1.cellAt j (by omega), List.getElem?_map, List.getElem?_eq_getElem hj]
      rfl
    · rw [hh]
      exact hh
    · have := (h1.stored j (.int .i64 y)).1
      rw [List.length_set, List.map_set]
      exact this
/-- .. and what it is in other lists. -/
theorem Kids.written {g j : Nat} {v : Value} {ks : List Int} (h : Kids G w v ks) (y : Int) : ∃ ks', ks'.length = ks.length ∧ Kids G (w.setCell ⟨g, j, none⟩ (.int .i64 y)) v ks' := by
  obtain ⟨h1, h2⟩ := h
  rcases h1.2 with ⟨rfl, h0⟩ | ⟨g', cap, cur, rfl, _, hh, _⟩
  · exact ⟨ks, rfl, ⟨h1.1, .inl ⟨rfl, h0⟩⟩, h2⟩
  · by_cases e : g' = g
    · subst e
      refine ⟨ks.set j y, List.length_set, ?_, h2⟩
      have := (h1.stored j (.int .i64 y)).1
      rw [List.length_set, List.map_set]
      exact this
    · refine ⟨ks, rfl, own_kept h1 (Keeps.storeAt (F := fun i => i = g) (Keeps.refl _ _) rfl j _) fun i hi e' => ?_, h2⟩
      have : g' = i := by simpa [Value.ownBlock] using hi
      exact e (this.trans e')
theorem Nodes.written {B g j c : Nat} {A : Option Addr} {l : List Nd} (h : Nodes G w B A c l) (y : Int) {cs : Array Value} (hg : Has w g (.cells cs 3 (0, 0))) : ∃ l', l'.length = l.length ∧ (∀ i, (l'.getD i Nd.zero).kids.length = (l.getD i Nd.zero).kids.length) ∧ Nodes G (w.setCell ⟨g, j, none⟩ (.int .i64 y)) B A c l' := by
  obtain ⟨rows, rfl, h2, h3, h4⟩ := h
  have each : ∀ rs : List (Nd × Value), (∀ p ∈ rs, Kids G w p.2 p.1.kids) → ∃ rs' : List (Nd × Value), rs'.length = rs.length ∧ flat rs' = flat rs ∧ (∀ p ∈ rs', Kids G (w.setCell ⟨g, j, none⟩ (.int .i64 y)) p.2 p.1.kids) ∧ ∀ i, ((rs'.map Prod.fst).getD i Nd.zero).kids.length = ((rs.map Prod.fst).getD i Nd.zero).kids.length := by
    intro rs
    induction rs with
    | nil => exact fun _ => ⟨[], rfl, rfl, fun _ h => absurd h (by simp), fun _ => rfl⟩
    | cons p r ih =>
      intro hk
      obtain ⟨r', e1, e2, e3, e4⟩ := ih fun q hq => hk q (by simp [hq])
      obtain ⟨ks', hl, hk'⟩ := (hk p (by simp)).written (g := g) (j := j) y
      refine ⟨({ p.1 with kids := ks' }, p.2) :: r', by simp [e1], by rw [flat_cons, flat_cons, e2]; rfl, fun q hq => ?_, fun i => ?_⟩
      · rcases List.mem_cons.1 hq with rfl | hq
        · exact hk'
        · exact e3 q hq
      · cases i with
        | zero => exact hl
        | succ i => simpa using e4 i
  obtain ⟨rows', e1, e2, e3, e4⟩ := each rows h3
  have hlen : (rows'.map Prod.fst).length = (rows.map Prod.fst).length := by simp [e1]
  refine ⟨rows'.map Prod.fst, hlen, e4, rows', rfl, ?_, e3, h4⟩
  rw [hlen, e2]
  refine own_kept h2 (Keeps.storeAt (F := fun i => i = g) (Keeps.refl _ _) rfl j _) fun i hi e => ?_
  subst e
  rcases h2.2 with ⟨hv, _⟩ | ⟨g', cap, cur, hv, _, hh, _⟩
  · rw [hv] at hi; cases hi
  · rw [hv] at hi
    obtain rfl : g' = i := by simpa [Value.ownBlock] using hi
    exact Has.apart hh hg (by simp) rfl
end
end Go.Proofs.Ytkafaceanlkjjaa
