/-
  What a package arena must do (the document's promises, as contracts), and what towncrierlaw04.do and made do with such a one.
-/
import Derived.Test.YtkafaceanlkjjaaFg
import Derived.Test.YtkafaceanlkjjaaFw
import Derived.Test.YtkafaceanlkjjaaWay
namespace Go.Proofs.Ytkafaceanlkjjaa
open Go Go.RowKit

/-- A forest as calls make it. -/
structure Good (l : List Nd) : Prop where
  tree : Tree l
  len : l.length ≤ 128
  few : Few 200 l
theorem good_nil : Good [] := ⟨tree_nil, Nat.zero_le _, fun _ h => absurd h (by simp)⟩
theorem good_act {l : List Nd} {x : Ac} (h : Good l) (hx : x.l.length ≤ 200) : Good (actL l x) := ⟨tree_act h.tree, actL_length l x h.len, actL_kids h.few hx⟩

/-- Where a forest lies. -/
abbrev at_ (b : Nat) : Value := .pointer (some ⟨b, 0, none⟩)

/-- The promises: 'Rep S w b l': in w the forest at b holds l, in blocks that S names. -/
structure ForestOk (Rep : (Nat → Prop) → World → Nat → List Nd → Prop) : Prop where
  keep : ∀ {S F : Nat → Prop} {w w' : World} {b : Nat} {l : List Nd}, Rep S w b l → Keeps F w w' → (∀ i, S i → i < w.heap.size → ¬ F i) → Rep S w' b l
  wide : ∀ {S S' : Nat → Prop} {w : World} {b : Nat} {l : List Nd}, Rep S w b l → (∀ i, S i → i < w.heap.size → S' i) → Rep S' w b l
  new : ∀ (S : Nat → Prop) (w : World), Fut S w.heap.size → Calls Try.prog 26 #[] w fun e w' => ∃ b, e = .returned (at_ b) ∧ Rep S w' b [] ∧ Below w.heap.size w w'
  make : ∀ (S : Nat → Prop) (w : World) (b : Nat) (l : List Nd) (k pa ho sh m : Int) (sl : Bool) (na wa : ByteArray) (ks : List Int) (A1 : Option Addr) (c1 : Nat), Rep S w b l → Good l → Fut S w.heap.size → na.size ≤ 9223372036854775807 → wa.size ≤ 9223372036854775807 → ListIn w A1 c1 ks →
    Calls Try.prog 27 #[at_ b, .agg #[.int .i64 k, .int .i64 pa, .int .i64 ho, .int .i64 sh, .int .i64 m, .bool sl, .string na, .string wa, .slice A1 ks.length c1]] w fun e w' =>
      e = .returned (.tuple #[.int .i64 (mkNo l ⟨k, pa, ho, sh, m, sl, na, wa, ks⟩), .int .i64 (mkErr l.length ⟨k, pa, ho, sh, m, sl, na, wa, ks⟩)]) ∧ Rep S w' b (mkL l ⟨k, pa, ho, sh, m, sl, na, wa, ks⟩) ∧ Keeps S w w'
  put : ∀ (S : Nat → Prop) (w : World) (b : Nat) (l : List Nd) (p : Int) (ks : List Int) (A2 : Option Addr) (c2 : Nat), Rep S w b l → Good l → Fut S w.heap.size → ks.length ≤ 200 → ListIn w A2 c2 ks → (0 < ks.length → ∀ b' off s, A2 = some ⟨b', off, s⟩ → b' < w.heap.size → ¬ S b') →
    Calls Try.prog 28 #[at_ b, .int .i64 p, .slice A2 ks.length c2] w fun e w' => e = .returned (.int .i64 (putErr l p ks)) ∧ Rep S w' b (putL l p ks) ∧ Keeps S w w'
  tie : ∀ (S : Nat → Prop) (w : World) (b : Nat) (l : List Nd) (h r : Int), Rep S w b l → Good l → Fut S w.heap.size →
    Calls Try.prog 29 #[at_ b, .int .i64 h, .int .i64 r] w fun e w' => e = .returned (.int .i64 (tieErr l h r)) ∧ Rep S w' b (tieL l h r) ∧ Keeps S w w'
  name : ∀ (S : Nat → Prop) (w : World) (b : Nat) (l : List Nd) (id : Int) (s : ByteArray), Rep S w b l → Good l → Fut S w.heap.size → s.size ≤ 9223372036854775807 →
    Calls Try.prog 30 #[at_ b, .int .i64 id, .string s] w fun e w' => e = .returned (.int .i64 (nameErr l id s)) ∧ Rep S w' b (nameL l id s) ∧ Keeps S w w'
  want : ∀ (S : Nat → Prop) (w : World) (b : Nat) (l : List Nd) (id : Int) (s : ByteArray), Rep S w b l → Good l → Fut S w.heap.size → s.size ≤ 9223372036854775807 →
    Calls Try.prog 31 #[at_ b, .int .i64 id, .string s] w fun e w' => e = .returned (.int .i64 (wantErr l id s)) ∧ Rep S w' b (wantL l id s) ∧ Keeps S w w'

section
variable {Rep : (Nat → Prop) → World → Nat → List Nd → Prop}
theorem ForestOk.below (O : ForestOk Rep) {S : Nat → Prop} {w w' : World} {b : Nat} {l : List Nd} (h : Rep S w b l) (hb : Below w.heap.size w w') : Rep S w' b l :=
  O.keep h (Keeps.of_below (F := fun i => w.heap.size ≤ i) hb fun _ _ h => h) fun _ _ hi => Nat.not_le.2 hi

/-- An append of a whole list, as one operation. -/
theorem wp_append_gives {P : Program} {w : World} {o : Oper} {a : Act} {K : Act → World → Prop} {Q : Exit → Act → World → Prop} (s x : Operand) (t : TypeId)
    (ho : o.op = .call { callee := .builtin .append, args := #[s, x], argTypes := #[t, t] })
    (base : Nat) (e : TypeId) (i : TypeInfo) (z : Value) (size bytes : Nat) (ht : P.underlying t = some (.slice e)) (hi : P.info? e = some i) (hz : i.zero = some z)
    (hsize : i.size = size) (hby : i.bytes = bytes) (hzs : z.cells.size = size) (hsz : 0 < size)
    (v : Value) (n : Nat) (xs : List Value) (hs : a.eval s = v) (hown : w.ownsRow base e size v n xs)
    (X : Value) (m : Nat) (us : List Value) (hx : a.eval x = X) (hG : Gives w size X m us) (h1 : ∀ u ∈ us, u.oneCell' = true)
    (h63 : n + m ≤ maxLen) (hbytes : (n + m) * bytes ≤ 140737488355328) (hbase : base ≤ w.heap.size)
    (h : ∀ v' w', w'.ownsRow base e size v' (n + m) (xs ++ us) → w.grownBy w' v.ownBlock → K (a.put o.dst v') w') : o.wp P a w K Q := by
  rcases hG with ⟨rfl, rfl, rfl⟩ | ⟨ad, c, rfl, hl, hc⟩
  · have hrun := run_append_owned_none (P := P) (w := w) base t o.type e i size ht hi v n xs hown
    have hk := h v w (by rw [List.append_nil]; exact hown) ⟨rfl, rfl, rfl, Nat.le_refl _, fun _ _ _ => rfl⟩
    unfold Oper.wp
    simp [execOp, ho, resolve, invoke, builtin, hs, hx, hrun, Result.andThen]
    exact hk
  · exact wp_append_own w s x t ho base e i z size bytes ht hi hz hsize hby hzs hsz v n xs hs hown ad m c us hx hl hc h1 h63 hbytes hbase fun v' w' h2 h3 _ => h v' w' h2 h3

/-- A number and an error's number; the forest is l' then. -/
def Did (Rep : (Nat → Prop) → World → Nat → List Nd → Prop) (S : Nat → Prop) (w : World) (b : Nat) (l' : List Nd) (no err : Int) (e : Ending) (w' : World) : Prop :=
  e = .returned (.tuple #[.int .i64 no, .int .i64 err]) ∧ Rep S w' b l' ∧ Keeps S w w'

end
end Go.Proofs.Ytkafaceanlkjjaa
