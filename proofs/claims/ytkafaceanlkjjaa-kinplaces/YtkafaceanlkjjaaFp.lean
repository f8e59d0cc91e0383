/-
  Forests, plain: nodes, and what the document says of Make, Put, Tie, Name and Want on a list of them. No program is named here.
-/
import Derived.Test.YtkafaceanlkjjaaRt
namespace Go.Proofs.Ytkafaceanlkjjaa
open Go

/-- A node. -/
structure Nd where
  kind : Int
  parent : Int
  host : Int
  shadow : Int
  mode : Int
  slot : Bool
  name : ByteArray
  want : ByteArray
  kids : List Int
def Nd.zero : Nd := ⟨0, 0, 0, 0, 0, false, ⟨#[]⟩, ⟨#[]⟩, []⟩
/-- Its nine cells; k is where its children stand. -/
def Nd.cells (d : Nd) (k : Value) : List Value := [.int .i64 d.kind, .int .i64 d.parent, .int .i64 d.host, .int .i64 d.shadow, .int .i64 d.mode, .bool d.slot, .string d.name, .string d.want, k]
theorem Nd.cells_length (d : Nd) (k : Value) : (d.cells k).length = 9 := rfl

/-- Nodes, one behind the other. -/
def flat (rows : List (Nd × Value)) : List Value := rows.flatMap fun p => p.1.cells p.2
section
variable {rows : List (Nd × Value)} {p p' : Nd × Value} {i f : Nat} {u : Value}
theorem flat_cons (p : Nd × Value) (rows : List (Nd × Value)) : flat (p :: rows) = p.1.cells p.2 ++ flat rows := by simp [flat]
theorem flat_append (a b : List (Nd × Value)) : flat (a ++ b) = flat a ++ flat b := by simp [flat]
theorem flat_length : ∀ rows : List (Nd × Value), (flat rows).length = rows.length * 9
  | [] => rfl
  | p :: r => by rw [flat_cons, List.length_append, flat_length r, Nd.cells_length, List.length_cons]; omega
theorem flat_get : ∀ {rows : List (Nd × Value)} {i : Nat}, rows[i]? = some p → f < 9 → (flat rows)[i * 9 + f]? = (p.1.cells p.2)[f]?
  | [], i, h, _ => by simp at h
  | q :: r, 0, h, hf => by
    obtain rfl : q = p := by simpa using h
    rw [flat_cons, List.getElem?_append_left (by rw [Nd.cells_length]; omega), Nat.zero_mul, Nat.zero_add]
  | q :: r, i + 1, h, hf => by
    rw [flat_cons, List.getElem?_append_right (by rw [Nd.cells_length]; omega), Nd.cells_length, show (i + 1) * 9 + f - 9 = i * 9 + f by omega]
    exact flat_get (by simpa using h) hf
theorem flat_set : ∀ {rows : List (Nd × Value)} {i : Nat}, rows[i]? = some p → f < 9 → p'.1.cells p'.2 = (p.1.cells p.2).set f u → flat (rows.set i p') = (flat rows).set (i * 9 + f) u
  | [], i, h, _, _ => by simp at h
  | q :: r, 0, h, hf, hc => by
    obtain rfl : q = p := by simpa using h
    rw [List.set_cons_zero, flat_cons, flat_cons, List.set_append_left _ _ (by rw [Nd.cells_length]; omega), Nat.zero_mul, Nat.zero_add, hc]
  | q :: r, i + 1, h, hf, hc => by
    rw [List.set_cons_succ, flat_cons, flat_cons, List.set_append_right _ _ (by rw [Nd.cells_length]; omega), Nd.cells_length, show (i + 1) * 9 + f - 9 = i * 9 + f by omega]
    rw [flat_set (by simpa using h) hf hc]
theorem flat_one {rows : List (Nd × Value)} (h1 : ∀ p ∈ rows, p.2.oneCell' = true) : ∀ u ∈ flat rows, u.oneCell' = true := by
  intro u hu
  obtain ⟨p, hp, hu⟩ := List.mem_flatMap.1 hu
  simp only [Nd.cells, List.mem_cons, List.not_mem_nil, or_false] at hu
  rcases hu with rfl | rfl | rfl | rfl | rfl | rfl | rfl | rfl | rfl
  all_goals first | rfl | exact h1 p hp
end

/-- Is it there? -/
def thereB (l : List Nd) (id : Int) : Bool := decide (1 ≤ id) && decide (id ≤ (l.length : Int))
theorem thereB_iff {l : List Nd} {id : Int} : thereB l id = true ↔ 1 ≤ id ∧ id ≤ (l.length : Int) := by simp [thereB]
theorem there_lt {l : List Nd} {id : Int} (h : thereB l id = true) : (id - 1).toNat < l.length := by have := thereB_iff.1 h; omega
def nd (l : List Nd) (id : Int) : Nd := l.getD (id - 1).toNat Nd.zero
theorem nd_get {l : List Nd} {id : Int} (h : thereB l id = true) : l[(id - 1).toNat]? = some (nd l id) := by
  rw [nd, List.getD_eq_getElem?_getD, List.getElem?_eq_getElem (there_lt h)]
  rfl
/-- One node is turned. -/
def modN (l : List Nd) (id : Int) (f : Nd → Nd) : List Nd := l.set (id - 1).toNat (f (nd l id))
theorem modN_length (l : List Nd) (id : Int) (f : Nd → Nd) : (modN l id f).length = l.length := List.length_set
theorem modN_there (l : List Nd) (id : Int) (f : Nd → Nd) (k : Int) : thereB (modN l id f) k = thereB l k := by unfold thereB; rw [modN_length]

/-- Empty, or a word. -/
def okName (s : ByteArray) : Bool := s.toList.isEmpty || rightL s.data.toList

/-- Make: the error's number. -/
def mkErr (n : Nat) (d : Nd) : Int :=
  if d.kind < 1 ∨ 4 < d.kind then 2
  else if (d.kind = 3 ∧ d.mode ≠ 1 ∧ d.mode ≠ 2) ∨ (d.kind ≠ 3 ∧ d.mode ≠ 0) then 1
  else if (d.kind ≠ 2 ∧ (d.slot = true ∨ d.want.toList.isEmpty = false)) ∨ (d.slot = false ∧ d.name.toList.isEmpty = false) ∨ okName d.name = false ∨ okName d.want = false then 1
  else if 128 ≤ n then 9 else 0
def bare (d : Nd) : Nd := ⟨d.kind, 0, 0, 0, d.mode, d.slot, d.name, d.want, []⟩
def mkL (l : List Nd) (d : Nd) : List Nd := if mkErr l.length d = 0 then l ++ [bare d] else l
def mkNo (l : List Nd) (d : Nd) : Int := if mkErr l.length d = 0 then (l.length : Int) + 1 else 0

/-- What is above, one step. -/
def upOf (l : List Nd) (id : Int) : Int := if (nd l id).parent = 0 then (nd l id).host else (nd l id).parent
def overN (l : List Nd) : Nat → Int → List Int
  | 0, _ => []
  | n + 1, id => if thereB l id then id :: overN l n (upOf l id) else []
def over (l : List Nd) (id : Int) : List Int := overN l (l.length + 1) id

/-- Is a number in a list? -/
def hasB (xs : List Int) (x : Int) : Bool := decide (x ∈ xs)
/-- Put: the error's number, and the nodes. -/
def kidIn (l : List Nd) (kids : List Int) (i : Nat) : Bool := thereB l (kids.getD i 0) && !hasB (kids.take i) (kids.getD i 0)
def kidOk (l : List Nd) (up : List Int) (parent k : Int) : Bool := !(decide ((nd l k).kind = 1) || decide ((nd l k).kind = 3) || hasB up k || (decide ((nd l k).parent ≠ 0) && decide ((nd l k).parent ≠ parent)))
def putErr (l : List Nd) (parent : Int) (kids : List Int) : Int :=
  if thereB l parent = false then 1
  else if ¬ ∀ i, i < kids.length → kidIn l kids i = true then 1
  else if ¬ ∀ k, k ∈ kids → kidOk l (over l parent) parent k = true then 3
  else 0
def clr (l : List Nd) (parent : Int) : List Nd := l.map fun d => if d.parent = parent then { d with parent := 0 } else d
def toPar (l : List Nd) (parent : Int) (kids : List Int) : List Nd := kids.foldl (fun l k => modN l k fun d => { d with parent := parent }) l
def putL (l : List Nd) (parent : Int) (kids : List Int) : List Nd := if putErr l parent kids = 0 then modN (toPar (clr l parent) parent kids) parent fun d => { d with kids := kids } else l

def tieErr (l : List Nd) (h r : Int) : Int :=
  if thereB l h = false ∨ thereB l r = false then 1
  else if (nd l h).kind ≠ 2 ∨ (nd l r).kind ≠ 3 then 2
  else if (nd l h).shadow ≠ 0 ∨ (nd l r).host ≠ 0 then 6
  else if hasB (over l h) r = true then 3
  else 0
def tieL (l : List Nd) (h r : Int) : List Nd := if tieErr l h r = 0 then modN (modN l h fun d => { d with shadow := r }) r fun d => { d with host := h } else l

def nameErr (l : List Nd) (id : Int) (s : ByteArray) : Int := if thereB l id = false ∨ okName s = false then 1 else if (nd l id).slot = false then 2 else 0
def nameL (l : List Nd) (id : Int) (s : ByteArray) : List Nd := if nameErr l id s = 0 then modN l id fun d => { d with name := s } else l
def wantErr (l : List Nd) (id : Int) (s : ByteArray) : Int := if thereB l id = false ∨ okName s = false then 1 else if (nd l id).kind ≠ 2 then 2 else 0
def wantL (l : List Nd) (id : Int) (s : ByteArray) : List Nd := if wantErr l id s = 0 then modN l id fun d => { d with want := s } else l

theorem clr_length (l : List Nd) (p : Int) : (clr l p).length = l.length := List.length_map ..
theorem toPar_length : ∀ (kids : List Int) (l : List Nd) (p : Int), (toPar l p kids).length = l.length
  | [], _, _ => rfl
  | k :: r, l, p => by
    show (toPar (modN l k _) p r).length = _
    rw [toPar_length r, modN_length]
theorem mkErr_zero {n : Nat} {d : Nd} (h : mkErr n d = 0) : n < 128 := by
  unfold mkErr at h
  split at h
  · cases h
  · split at h
    · cases h
    · split at h
      · cases h
      · split at h
        · cases h
        · omega
theorem mkL_length (l : List Nd) (d : Nd) : (mkL l d).length ≤ 128 ∨ (mkL l d).length = l.length := by
  unfold mkL
  by_cases h : mkErr l.length d = 0
  · have := mkErr_zero h
    rw [if_pos h]
    left
    simp
    omega
  · rw [if_neg h]
    exact .inr rfl
theorem putL_length (l : List Nd) (p : Int) (kids : List Int) : (putL l p kids).length = l.length := by
  unfold putL
  split
  · rw [modN_length, toPar_length, clr_length]
  · rfl
theorem tieL_length (l : List Nd) (h r : Int) : (tieL l h r).length = l.length := by
  unfold tieL
  split
  · rw [modN_length, modN_length]
  · rfl
theorem nameL_length (l : List Nd) (id : Int) (s : ByteArray) : (nameL l id s).length = l.length := by
  unfold nameL
  split
  · rw [modN_length]
  · rfl
theorem wantL_length (l : List Nd) (id : Int) (s : ByteArray) : (wantL l id s).length = l.length := by
  unfold wantL
  split
  · rw [modN_length]
  · rfl

/-- A call on a forest. -/
structure Ac where
  kind : Int
  a : Int
  b : Int
  s : ByteArray
  n : Nd
  l : List Int
def actL (l : List Nd) (x : Ac) : List Nd :=
  if x.kind = 0 then mkL l x.n else if x.kind = 1 then putL l x.a x.l else if x.kind = 2 then tieL l x.a x.b else if x.kind = 3 then nameL l x.a x.s else if x.kind = 4 then wantL l x.a x.s else l
def actNo (l : List Nd) (x : Ac) : Int := if x.kind = 0 then mkNo l x.n else 0
def actErr (l : List Nd) (x : Ac) : Int :=
  if x.kind = 0 then mkErr l.length x.n else if x.kind = 1 then putErr l x.a x.l else if x.kind = 2 then tieErr l x.a x.b else if x.kind = 3 then nameErr l x.a x.s else if x.kind = 4 then wantErr l x.a x.s else 0
def forest (acts : List Ac) : List Nd := acts.foldl actL []
theorem actL_length (l : List Nd) (x : Ac) (h : l.length ≤ 128) : (actL l x).length ≤ 128 := by
  unfold actL
  split
  · rcases mkL_length l x.n with h' | h' <;> omega
  · split
    · rw [putL_length]; exact h
    · split
      · rw [tieL_length]; exact h
      · split
        · rw [nameL_length]; exact h
        · split
          · rw [wantL_length]; exact h
          · exact h
theorem forest_snoc (acts : List Ac) (x : Ac) : forest (acts ++ [x]) = actL (forest acts) x := by simp [forest]
end Go.Proofs.Ytkafaceanlkjjaa
