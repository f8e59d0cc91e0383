/-
  Words for memory of my own: what a block holds ('Has'), and that nothing old has turned but blocks of a given kind ('Keeps F'). No function of the program is named here.
  Plain facts on lists of bytes: what stands between blanks (split), and that a rune that is no blank has no blank among its bytes. No program is named here.
  What word.Right and towncrierref01.Right do: the same truth.
  Lists that came in, as lists of numbers; rows of the call's own. No function of the program is named here.
  Lists of numbers that a call owns. Only the type of lists of numbers is named here.
  Forests, plain: nodes, and what the document says of Make, Put, Tie, Name and Want on a list of them. No program is named here.
  Forests, plain: how many children a node has at most. No program is named here.
  Forests, plain: a forest stays one. No program is named here.
  Forests, plain: whatever is called, a forest stays one. No program is named here.
  Forests, plain: ways up by parents alone, tree order. No program is named here.
  Forests in memory: a list of nodes that a slice owns, each with its children's list; lists of numbers that are read.
  Lists of numbers: what they give to an append; those that came in; whether a number is among them.
  What towncrierref04.There, named and Over do.
-/
import Derived.Test.YtekmgaigppenlaaProg
import Derived.WalkKit
import Derived.WalkSpells
import Derived.WalkLawsBesides
import Derived.Deep.AppendLies
import Derived.Deep.Draws
import Derived.Deep.QuietTactic
import Derived.BigQuiet
import Derived.Laws.LoneSync
import Derived.Laws.OwnMore
import Derived.Lib.OthersKept
import Derived.Lib.Hide
import Derived.Lib.Strings
import Derived.Lib.IndexBytes
import Derived.Lib.Join
import Derived.Laws.RangeAny
import Derived.ProofKit
import Derived.OpenShut
import Derived.Laws.AppendOwnNone

namespace Go.Proofs.Ytekmgaigppenlaa
open Go Go.RowKit

/-- Block g holds o. -/
def Has (w : World) (g : Nat) (o : Obj) : Prop := w.heap[g]? = some o
/-- The old blocks that F does not name are as they were; none is gone; the streams are as they were. -/
structure Keeps (F : Nat → Prop) (w w' : World) : Prop where
  frame : w'.os = w.os ∧ w'.tape = w.tape ∧ w'.output = w.output
  grows : w.heap.size ≤ w'.heap.size
  old : ∀ i, i < w.heap.size → ¬ F i → w'.heap[i]? = w.heap[i]?
/-- Just these blocks. -/
def Just (l : List Nat) (i : Nat) : Prop := i ∈ l
theorem just_one (g : Nat) : Just [g] g := List.mem_singleton.2 rfl
theorem just_far {B g : Nat} (h : B ≤ g) : ∀ i, i < B → ¬ Just [g] i := fun i hi hj => by have := List.mem_singleton.1 hj; omega
theorem just_ne {g g' : Nat} (h : g' ≠ g) : ¬ Just [g] g' := fun hj => h (List.mem_singleton.1 hj)

section
variable {F G : Nat → Prop} {w w' w'' : World} {g : Nat} {o : Obj}
theorem Has.inside (h : Has w g o) : g < w.heap.size := (Array.getElem?_eq_some_iff.1 h).1
theorem Has.fresh (w : World) (o : Obj) : Has (w.alloc o) w.heap.size o := heap_alloc_new w o
theorem Has.drewN (h : Has w g o) (n : Nat) : Has (w.drewN n) g o := h
theorem Has.kept (h : Has w g o) (k : Keeps F w w') (hg : ¬ F g) : Has w' g o := Eq.trans (k.old g h.inside hg) h
theorem Has.more (h : Has w g o) (o' : Obj) : Has (w.alloc o') g o := Eq.trans (Below.heap_alloc w o' g h.inside) h
theorem Has.below {B : Nat} (h : Has w g o) (k : Below B w w') (hg : g < B) : Has w' g o := Eq.trans (k.block g hg) h
theorem Has.apart {g' : Nat} {o' : Obj} (h : Has w g o) (h' : Has w g' o') (hne : o ≠ o') : g ≠ g' := fun e => by
  subst e
  exact hne (Option.some.inj (Eq.trans (Eq.symm h) h'))
section
variable {t : TypeId} {cs : Array Value} {fr : Nat × Nat}
theorem Has.cell (h : Has w g (.cells cs t fr)) (i : Nat) : w.cell? ⟨g, i, none⟩ = cs[i]? := cell_of_row w g i cs t fr h
theorem Has.free (h : Has w g (.cells cs t (0, 0))) (i : Nat) : w.frozen? ⟨g, i, none⟩ = false := by
  have h' : w.heap[g]? = some (.cells cs t (0, 0)) := h
  simp [World.frozen?, h']
theorem Has.stored (h : Has w g (.cells cs t fr)) (i : Nat) (u : Value) : Has (w.setCell ⟨g, i, none⟩ u) g (.cells (cs.setIfInBounds i u) t fr) := by
  have h' : w.heap[g]? = some (.cells cs t fr) := h
  simp [Has, World.setCell, Array.getElem?_modify, h']
end
theorem Has.aside (h : Has w g o) {p : Addr} (hp : g ≠ p.block) (u : Value) : Has (w.setCell p u) g o := Eq.trans (Below.heap_setCell w p u g hp) h

theorem Keeps.refl (F : Nat → Prop) (w : World) : Keeps F w w := ⟨⟨rfl, rfl, rfl⟩, Nat.le_refl _, fun _ _ _ => rfl⟩
theorem Keeps.wide (k : Keeps F w w') (h : ∀ i, i < w.heap.size → F i → G i) : Keeps G w w' := ⟨k.frame, k.grows, fun i hi hn => k.old i hi fun hF => hn (h i hi hF)⟩
theorem Keeps.trans (k : Keeps F w w') (k' : Keeps G w' w'') (h : ∀ i, i < w.heap.size → G i → F i) : Keeps F w w'' :=
  ⟨⟨k'.frame.1.trans k.frame.1, k'.frame.2.1.trans k.frame.2.1, k'.frame.2.2.trans k.frame.2.2⟩, Nat.le_trans k.grows k'.grows,
    fun i hi hn => (k'.old i (Nat.lt_of_lt_of_le hi k.grows) fun hG => hn (h i hi hG)).trans (k.old i hi hn)⟩
theorem Keeps.also (k : Keeps F w w') (k' : Keeps F w' w'') : Keeps F w w'' := k.trans k' fun _ _ h => h
theorem Keeps.drewN (k : Keeps F w w') (n : Nat) : Keeps F w (w'.drewN n) := ⟨k.frame, k.grows, k.old⟩
theorem Keeps.drew (k : Keeps F w w') : Keeps F w w'.drew := ⟨k.frame, k.grows, k.old⟩
theorem Keeps.alloc (k : Keeps F w w') (o : Obj) : Keeps F w (w'.alloc o) :=
  ⟨k.frame, Nat.le_trans k.grows (by simp), fun i hi hn => (Below.heap_alloc w' o i (Nat.lt_of_lt_of_le hi k.grows)).trans (k.old i hi hn)⟩
theorem Keeps.store (k : Keeps F w w') {p : Addr} (hp : F p.block ∨ w.heap.size ≤ p.block) (u : Value) : Keeps F w (w'.setCell p u) :=
  ⟨k.frame, by simpa [World.setCell] using k.grows, fun i hi hn => (Below.heap_setCell w' p u i (by
    rintro rfl
    exact hp.elim hn fun h => by omega)).trans (k.old i hi hn)⟩
theorem Keeps.store1 (k : Keeps (Just [g]) w w') (i : Nat) (u : Value) : Keeps (Just [g]) w (w'.setCell ⟨g, i, none⟩ u) := k.store (.inl (just_one g)) u
theorem Keeps.of_below {B : Nat} (k : Below B w w') (h : ∀ i, i < w.heap.size → B ≤ i → F i) : Keeps F w w' :=
  ⟨⟨k.os, k.tape, k.output⟩, k.size, fun i hi hn => k.block i ((Nat.lt_or_ge i B).elim id fun hge => absurd (h i hi hge) hn)⟩
/-- What has turned lies above. -/
theorem below_then {B : Nat} (h : Below B w w') (k : Keeps F w' w'') (hB : B ≤ w'.heap.size) (hF : ∀ i, i < B → ¬ F i) : Below B w w'' :=
  ⟨k.frame.1.trans h.os, k.frame.2.1.trans h.tape, k.frame.2.2.trans h.output, Nat.le_trans h.size k.grows, fun i hi => (k.old i (Nat.lt_of_lt_of_le hi hB) (hF i hi)).trans (h.block i hi)⟩
theorem below_draws {B : Nat} {a w : World} (h : Below B a w) (n : Nat) : Below B a (w.drewN n) := ⟨h.os, h.tape, h.output, h.size, h.block⟩
end
end Go.Proofs.Ytekmgaigppenlaa

namespace Go.Proofs.Ytekmgaigppenlaa
open Go

/-- A text as a list with one element, or none where it is empty. -/
def filled (l : List UInt8) : List (List UInt8) := if l.isEmpty then [] else [l]
/-- What stands between blanks; cur: what was met since the last one. -/
def splitGo : List UInt8 → List UInt8 → List (List UInt8)
  | cur, [] => filled cur
  | cur, c :: r => if c = 32 then filled cur ++ splitGo [] r else splitGo (cur ++ [c]) r
def splitL (l : List UInt8) : List (List UInt8) := splitGo [] l
/-- A list of bytes as a Go text. -/
def ba (l : List UInt8) : ByteArray := ⟨l.toArray⟩
/-- Texts as cells. -/
def strs (ls : List (List UInt8)) : List Value := ls.map fun l => Value.string (ba l)

theorem strs_append (a b : List (List UInt8)) : strs (a ++ b) = strs a ++ strs b := by simp [strs]
theorem strs_length (a : List (List UInt8)) : (strs a).length = a.length := by simp [strs]
theorem filled_nil : filled [] = [] := rfl
theorem filled_of_ne {l : List UInt8} (h : l ≠ []) : filled l = [l] := by
  unfold filled
  cases l with
  | nil => exact absurd rfl h
  | cons a r => rfl
theorem filled_le (l : List UInt8) : (filled l).length ≤ 1 := by unfold filled; split <;> simp
theorem splitGo_nil (cur : List UInt8) : splitGo cur [] = filled cur := rfl
theorem splitGo_blank (cur r : List UInt8) : splitGo cur (32 :: r) = filled cur ++ splitGo [] r := by simp [splitGo]
theorem splitGo_other (cur r : List UInt8) (c : UInt8) (h : c ≠ 32) : splitGo cur (c :: r) = splitGo (cur ++ [c]) r := by simp [splitGo, h]
theorem splitGo_run (m cur r : List UInt8) (h : ∀ c ∈ m, c ≠ 32) : splitGo cur (m ++ r) = splitGo (cur ++ m) r := by
  induction m generalizing cur with
  | nil => simp
  | cons a m ih =>
    rw [List.cons_append, splitGo_other _ _ _ (h a (by simp)), ih _ (fun c hc => h c (by simp [hc]))]
    simp
theorem splitGo_len (r cur : List UInt8) : (splitGo cur r).length ≤ r.length + 1 := by
  induction r generalizing cur with
  | nil => rw [splitGo_nil]; have := filled_le cur; simp; omega
  | cons c r ih =>
    by_cases h : c = 32
    · subst h
      rw [splitGo_blank, List.length_append]
      have := filled_le cur; have := ih []; simp; omega
    · rw [splitGo_other _ _ _ h]; have := ih (cur ++ [c]); simp; omega
theorem splitL_len (l : List UInt8) : (splitL l).length ≤ l.length + 1 := splitGo_len l []

/-- The bytes of a rune that begins with no blank. -/
theorem decode_blank (s : ByteArray) (pos : Nat) (h : pos < s.size) (hb : s.data.toList[pos]? = some 32) : Utf8.decode s pos = (32, 1) := by
  have e : s[pos]'h = 32 := by
    have h2 : pos < s.data.toList.length := by rw [← Lib.size_eq]; exact h
    rw [List.getElem?_eq_getElem h2] at hb
    exact Option.some.inj hb
  rw [decode_ascii s pos h (by rw [e]; decide), e]
  rfl
theorem get!_at (s : ByteArray) (k : Nat) (h : k < s.size) : s.data.toList[k]? = some (s.get! k) := by
  have h2 : k < s.data.toList.length := by rw [← Lib.size_eq]; exact h
  rw [List.getElem?_eq_getElem h2]
  have := get_at s k h
  simp only [Nat.add_zero] at this
  rw [this]
  rfl
theorem decode_other (s : ByteArray) (pos : Nat) (h : pos < s.size) (hb : s.data.toList[pos]? ≠ some 32) :
    (Utf8.decode s pos).1 ≠ 32 ∧ 1 ≤ (Utf8.decode s pos).2 ∧ pos + (Utf8.decode s pos).2 ≤ s.size ∧
      ∀ k, k < (Utf8.decode s pos).2 → s.data.toList[pos + k]? ≠ some 32 := by
  by_cases ha : (s[pos]'h).toNat < 128
  · rw [decode_ascii s pos h ha]
    have h0 := get!_at s pos h
    have h1 := get_at s pos h
    simp only [Nat.add_zero] at h1
    rw [h1] at h0
    refine ⟨fun e => hb ?_, Nat.le_refl _, by simp only; omega, fun k hk => ?_⟩
    · rw [h0]
      congr 1
      exact UInt8.toNat_inj.1 e
    · have : k = 0 := by simp only at hk; omega
      subst this
      simpa using hb
  · have hh := decode_high s pos h (by omega)
    refine ⟨by omega, hh.2, ?_⟩
    have hc : ∀ k, pos + k < s.size → (s.get! (pos + k)).toNat / 64 = 2 → s.data.toList[pos + k]? ≠ some 32 := by
      intro k hk h2 e
      rw [get!_at s (pos + k) hk] at e
      rw [Option.some.inj e] at h2
      exact absurd h2 (by decide)
    have hn : ¬ (s.get! (pos + 0)).toNat < 128 := by rw [get_at s pos h]; exact ha
    have key : ∀ d, d = (Utf8.decode s pos).2 → pos + d ≤ s.size ∧ ∀ k, k < d → s.data.toList[pos + k]? ≠ some 32 := by
      intro d hd
      simp only [Utf8.decode, hn, if_false] at hd
      repeat' split at hd
      all_goals simp only [Bool.and_eq_true, beq_iff_eq, decide_eq_true_eq] at *
      all_goals subst hd
      all_goals refine ⟨by omega, fun k hk => ?_⟩
      all_goals
        rcases k with _ | _ | _ | _ | k
        · simpa using hb
        · first | omega | (refine hc 1 (by omega) ?_; omega)
        · first | omega | (refine hc 2 (by omega) ?_; omega)
        · first | omega | (refine hc 3 (by omega) ?_; omega)
        · omega
    exact key _ rfl

/-- One round of a walk over the runes of s: at a blank. -/
theorem step_blank (s : ByteArray) (st pos : Nat) (done : List (List UInt8)) (h : pos < s.size) (hb : s.data.toList[pos]? = some 32)
    (hi : done ++ splitGo ((s.data.toList.drop st).take (pos - st)) (s.data.toList.drop pos) = splitL s.data.toList) :
    (done ++ filled ((s.data.toList.drop st).take (pos - st))) ++ splitGo ((s.data.toList.drop (pos + 1)).take (pos + 1 - (pos + 1))) (s.data.toList.drop (pos + 1)) = splitL s.data.toList := by
  rw [← hi]
  have h2 : pos < s.data.toList.length := by rw [← Lib.size_eq]; exact h
  rw [List.drop_eq_getElem_cons h2]
  have e : s.data.toList[pos] = 32 := by
    rw [List.getElem?_eq_getElem h2] at hb; exact Option.some.inj hb
  rw [e, splitGo_blank]
  simp
/-- At another rune. -/
theorem step_other (s : ByteArray) (st pos d : Nat) (done : List (List UInt8)) (h : pos + d ≤ s.size) (hst : st ≤ pos) (hb : ∀ k, k < d → s.data.toList[pos + k]? ≠ some 32)
    (hi : done ++ splitGo ((s.data.toList.drop st).take (pos - st)) (s.data.toList.drop pos) = splitL s.data.toList) :
    done ++ splitGo ((s.data.toList.drop st).take (pos + d - st)) (s.data.toList.drop (pos + d)) = splitL s.data.toList := by
  rw [← hi]
  have h2 : pos + d ≤ s.data.toList.length := by rw [← Lib.size_eq]; exact h
  have e1 : s.data.toList.drop pos = (s.data.toList.drop pos).take d ++ s.data.toList.drop (pos + d) := by
    rw [← List.drop_drop, List.take_append_drop]
  have e2 : (s.data.toList.drop st).take (pos + d - st) = (s.data.toList.drop st).take (pos - st) ++ (s.data.toList.drop pos).take d := by
    have : pos + d - st = (pos - st) + d := by omega
    rw [this, List.take_add, List.drop_drop]
    congr 3
    omega
  rw [e1, splitGo_run _ _ _ ?_, e2]
  intro c hc
  obtain ⟨k, hk, rfl⟩ := List.mem_iff_getElem.1 hc
  rw [List.length_take] at hk
  have := hb k (by omega)
  rw [List.getElem_take, List.getElem_drop]
  intro e
  exact this (by rw [List.getElem?_eq_getElem (by omega), e])
/-- At the end. -/
theorem step_end (s : ByteArray) (st pos : Nat) (done : List (List UInt8)) (h : s.size ≤ pos) (hst : st ≤ pos)
    (hi : done ++ splitGo ((s.data.toList.drop st).take (pos - st)) (s.data.toList.drop pos) = splitL s.data.toList) :
    done ++ filled (s.data.toList.drop st) = splitL s.data.toList := by
  rw [← hi]
  have h2 : s.data.toList.length ≤ pos := by rw [← Lib.size_eq]; exact h
  rw [List.drop_eq_nil_of_le h2, splitGo_nil, List.take_of_length_le (by rw [List.length_drop]; omega)]
theorem byte_ne {c : UInt8} (h : ¬ c = 32) : (c.toNat : Int) ≠ 32 := by
  intro e
  refine h (UInt8.toNat_inj.1 ?_)
  have : c.toNat = 32 := by omega
  rw [this]
  rfl
theorem byte_at (s : ByteArray) (k : Nat) (h : k < s.size) : s.data.toList[k]? = some (s[k]'h) := by
  have h2 : k < s.data.toList.length := by rw [← Lib.size_eq]; exact h
  rw [List.getElem?_eq_getElem h2]
  rfl
theorem drop_at {l : List UInt8} {k : Nat} {c : UInt8} (h : l[k]? = some c) : l.drop k = c :: l.drop (k + 1) := by
  have hk : k < l.length := by
    rcases Nat.lt_or_ge k l.length with h1 | h1
    · exact h1
    · rw [List.getElem?_eq_none h1] at h; cases h
  rw [List.drop_eq_getElem_cons hk]
  rw [List.getElem?_eq_getElem hk] at h
  rw [Option.some.inj h]
theorem ba_toList (l : List UInt8) : (ba l).toList = l := by rw [Lib.toList_data]; rfl
theorem ba_data (l : List UInt8) : (ba l).data.toList = l := rfl
theorem ba_size (l : List UInt8) : (ba l).size = l.length := rfl
theorem ba_of (s : ByteArray) : ba s.data.toList = s := Lib.mk_data s
theorem ba_ne {l : List UInt8} (h : l ≠ []) : (ba l).toList.isEmpty = false := by
  rw [ba_toList]
  cases l with
  | nil => exact absurd rfl h
  | cons a r => rfl
theorem ba_snoc (s : ByteArray) (k : Nat) (h : k < s.size) (l : List UInt8) : ba l ++ s.extract k (k + 1) = ba (l ++ [s[k]'h]) := by
  rw [← ba_of (ba l ++ s.extract k (k + 1))]
  congr 1
  rw [ByteArray.data_append, Array.toList_append, Lib.extract_data, drop_at (byte_at s k h), ba_data]
  simp
/-- One round of the walk over the bytes of s: at a blank. -/
theorem ref_blank (s : ByteArray) (k : Nat) (cur : List UInt8) (done : List (List UInt8)) (hb : s.data.toList[k]? = some 32)
    (hi : done ++ splitGo cur (s.data.toList.drop k) = splitL s.data.toList) : (done ++ filled cur) ++ splitGo [] (s.data.toList.drop (k + 1)) = splitL s.data.toList := by
  rw [← hi, drop_at hb, splitGo_blank, List.append_assoc]
theorem ref_other (s : ByteArray) (k : Nat) (cur : List UInt8) (c : UInt8) (done : List (List UInt8)) (hb : s.data.toList[k]? = some c) (hc : c ≠ 32)
    (hi : done ++ splitGo cur (s.data.toList.drop k) = splitL s.data.toList) : done ++ splitGo (cur ++ [c]) (s.data.toList.drop (k + 1)) = splitL s.data.toList := by
  rw [← hi, drop_at hb, splitGo_other _ _ _ hc]

end Go.Proofs.Ytekmgaigppenlaa

namespace Go.Proofs.Ytekmgaigppenlaa
open Go Go.RowKit

def letterB (r : Int) : Bool := decide (97 ≤ r ∧ r ≤ 122)
def digitB (r : Int) : Bool := decide (48 ≤ r ∧ r ≤ 57)
/-- A letter from a to z or a digit. -/
def okb (c : UInt8) : Bool := letterB (c.toNat : Int) || digitB (c.toNat : Int)
/-- A word. -/
def rightL (l : List UInt8) : Bool := decide (1 ≤ l.length ∧ l.length ≤ 8 ∧ ∀ c ∈ l, okb c = true)

theorem rightL_len {l : List UInt8} (h : ¬ (1 ≤ l.length ∧ l.length ≤ 8)) : rightL l = false := by
  unfold rightL
  rw [decide_eq_false_iff_not]
  exact fun h2 => h ⟨h2.1, h2.2.1⟩
theorem rightL_bad {l : List UInt8} {k : Nat} {c : UInt8} (h : l[k]? = some c) (hc : okb c = false) : rightL l = false := by
  unfold rightL
  rw [decide_eq_false_iff_not]
  intro h2
  have := h2.2.2 c (List.mem_of_getElem? h)
  rw [hc] at this
  cases this
theorem rightL_all {l : List UInt8} (h1 : 1 ≤ l.length) (h8 : l.length ≤ 8) (h : ∀ (k : Nat) (c : UInt8), l[k]? = some c → okb c = true) : rightL l = true := by
  unfold rightL
  rw [decide_eq_true_iff]
  refine ⟨h1, h8, fun c hc => ?_⟩
  obtain ⟨k, hk, rfl⟩ := List.mem_iff_getElem.1 hc
  exact h k _ (List.getElem?_eq_getElem hk)

set_option maxHeartbeats 400000 in
theorem isLetter_any (r : Int) (w : World) : Calls Try.prog 61 #[.int .i32 r] w fun e w' => e = .returned (.bool (letterB r)) ∧ w = w' := by
  by_cases h1 : 97 ≤ r
  · by_cases h2 : r ≤ 122
    · have e : letterB r = true := by unfold letterB; simp; omega
      rw [e]
      go_enter Try.func61, Try.ntmps61
      go_wp2
      go_ret
      exact ⟨rfl, rfl⟩
    · have e : letterB r = false := by unfold letterB; simp; omega
      have hd : decide (r ≤ 122) = false := by simp; omega
      rw [e]
      go_enter Try.func61, Try.ntmps61
      go_wp2
      go_ret
      exact ⟨rfl, rfl⟩
  · have e : letterB r = false := by unfold letterB; simp; omega
    have hd : decide (97 ≤ r) = false := by simp; omega
    rw [e]
    go_enter Try.func61, Try.ntmps61
    go_wp2
    go_ret
    exact ⟨rfl, rfl⟩

set_option maxHeartbeats 400000 in
theorem isDigit_any (r : Int) (w : World) : Calls Try.prog 62 #[.int .i32 r] w fun e w' => e = .returned (.bool (digitB r)) ∧ w = w' := by
  by_cases h1 : 48 ≤ r
  · by_cases h2 : r ≤ 57
    · have e : digitB r = true := by unfold digitB; simp; omega
      rw [e]
      go_enter Try.func62, Try.ntmps62
      go_wp2
      go_ret
      exact ⟨rfl, rfl⟩
    · have e : digitB r = false := by unfold digitB; simp; omega
      have hd : decide (r ≤ 57) = false := by simp; omega
      rw [e]
      go_enter Try.func62, Try.ntmps62
      go_wp2
      go_ret
      exact ⟨rfl, rfl⟩
  · have e : digitB r = false := by unfold digitB; simp; omega
    have hd : decide (48 ≤ r) = false := by simp; omega
    rw [e]
    go_enter Try.func62, Try.ntmps62
    go_wp2
    go_ret
    exact ⟨rfl, rfl⟩

def SaysOver (w : World) (b : Bool) (e : Ending) (w' : World) : Prop := e = .returned (.bool b) ∧ Below w.heap.size w w'

set_option maxHeartbeats 1000000 in
set_option maxRecDepth 100000 in
theorem right_any (s : ByteArray) (w : World) (hs : s.size ≤ 9223372036854775807) : Calls Try.prog 54 #[.string s] w (SaysOver w (rightL s.data.toList)) := by
  have hsz := Lib.size_eq s
  by_cases h0 : s.size = 0
  · rw [rightL_len (by omega)]
    have g0 : ((s.size : Int) == 0) = true := by rw [beq_iff_eq]; omega
    clear hsz
    go_enter Try.func54, Try.ntmps54
    go_wp2
    go_ret
    exact ⟨rfl, Below.refl _ _⟩
  · have g0 : ((s.size : Int) == 0) = false := by rw [beq_eq_false_iff_ne]; omega
    have h1 : 1 ≤ s.size := by omega
    by_cases h8 : s.size ≤ 8
    · have Hsz := Lib.hid hsz
      clear hsz h0
      go_enter Try.func54, Try.ntmps54
      go_wp2
      go_loopw [] (fun wr => ∃ pos, wr = w.iter s pos ∧ pos ≤ s.size ∧ ∀ k c, k < pos → s.data.toList[k]? = some c → okb c = true) (fun wr => s.size - wr.iterPos w.heap.size)
      case atStart => exact ⟨0, rfl, Nat.zero_le _, fun k c hk => by omega⟩
      case round =>
        obtain ⟨pos, rfl, hpos, hall⟩ := hrel
        have Hall := Lib.hid hall
        clear hall
        have hbel : Below w.heap.size w (w.iter s pos) := (Below.refl _ w).alloc (Nat.le_refl _) _
        by_cases hp : pos < s.size
        · have hat := Lib.hid (byte_at s pos hp)
          obtain ⟨r, d, hnx, hr⟩ : ∃ r d : Nat, (∀ ty, (Instr.next (.pointer (some ⟨w.heap.size, 0, none⟩)) true ty).run Try.prog (w.iter s pos) =
              .ok (.tuple #[.bool true, .int .i64 pos, .int .i32 r]) (w.iter s (pos + d))) ∧ ((letterB r || digitB r) = okb (s[pos]'hp) ∧ (okb (s[pos]'hp) = true → d = 1)) := by
            refine ⟨_, _, fun ty => run_next_any w s pos ty hp, ?_⟩
            by_cases ha : (s[pos]'hp).toNat < 128
            · rw [decode_ascii s pos hp ha]
              exact ⟨rfl, fun _ => rfl⟩
            · have hh := (decode_high s pos hp (by omega)).1
              have e1 : okb (s[pos]'hp) = false := by unfold okb letterB digitB; simp; omega
              have e2 : (letterB ((Utf8.decode s pos).1 : Int) || digitB ((Utf8.decode s pos).1 : Int)) = false := by unfold letterB digitB; simp; omega
              exact ⟨by rw [e1, e2], fun h => by rw [e1] at h; cases h⟩
          obtain ⟨hr1, hr2⟩ := hr
          by_cases hok : okb (s[pos]'hp) = true
          · have hd := hr2 hok
            rw [hok] at hr1
            subst hd
            have Hok := Lib.hid hok
            clear hr2 hok
            cases hl : letterB (r : Int) with
            | true =>
              clear hr1
              have Hl := Lib.hid hl
              clear hl
              go_wp2_with fail
              refine (isLetter_any _ _).mono ?_
              rintro e w' ⟨rfl, rfl⟩
              rw [Hl.out]
              go_wp2
              go_roundw
              case rel =>
                refine ⟨pos + 1, rfl, by omega, fun k c hk hkc => ?_⟩
                by_cases hk2 : k = pos
                · subst hk2
                  rw [hat.out] at hkc
                  rw [← Option.some.inj hkc]
                  exact Hok.out
                · exact Hall.out k c (by omega) hkc
              case measure => simp; omega
            | false =>
              rw [hl, Bool.false_or] at hr1
              have Hl := Lib.hid hl
              have Hr := Lib.hid hr1
              clear hl hr1
              go_wp2_with fail
              refine (isLetter_any _ _).mono ?_
              rintro e w' ⟨rfl, rfl⟩
              rw [Hl.out]
              go_wp2_with fail
              refine (isDigit_any _ _).mono ?_
              rintro e w' ⟨rfl, rfl⟩
              rw [Hr.out]
              go_wp2
              go_roundw
              case rel =>
                refine ⟨pos + 1, rfl, by omega, fun k c hk hkc => ?_⟩
                by_cases hk2 : k = pos
                · subst hk2
                  rw [hat.out] at hkc
                  rw [← Option.some.inj hkc]
                  exact Hok.out
                · exact Hall.out k c (by omega) hkc
              case measure => simp; omega
          · have hok2 : okb (s[pos]'hp) = false := by simpa using hok
            rw [hok2, Bool.or_eq_false_iff] at hr1
            have Hr := Lib.hid hr1
            have hfin := Lib.hid (rightL_bad hat.out hok2)
            clear hr1 hr2 hok hok2
            have hbel2 : Below w.heap.size w (w.iter s (pos + d)) := (Below.refl _ w).alloc (Nat.le_refl _) _
            go_wp2_with fail
            refine (isLetter_any _ _).mono ?_
            rintro e w' ⟨rfl, rfl⟩
            rw [Hr.out.1]
            go_wp2_with fail
            refine (isDigit_any _ _).mono ?_
            rintro e w' ⟨rfl, rfl⟩
            rw [Hr.out.2]
            go_wp2
            go_ret
            rw [hfin.out]
            exact ⟨rfl, hbel2⟩
        · have hnx : ∀ ty, (Instr.next (.pointer (some ⟨w.heap.size, 0, none⟩)) true ty).run Try.prog (w.iter s pos) = _ := fun ty => run_next_end w s pos ty hp
          have e1 : rightL s.data.toList = true := rightL_all (by have := Hsz.out; omega) (by have := Hsz.out; omega) (fun k c hkc => Hall.out k c (by
            rcases Nat.lt_or_ge k s.data.toList.length with h | h
            · have := Hsz.out; omega
            · rw [List.getElem?_eq_none h] at hkc; cases hkc) hkc)
          have E1 := Lib.hid e1
          clear e1
          go_wp2
          go_ret
          rw [E1.out]
          exact ⟨rfl, hbel⟩
    · rw [rightL_len (by omega)]
      clear hsz h0
      go_enter Try.func54, Try.ntmps54
      go_wp2
      go_ret
      exact ⟨rfl, Below.refl _ _⟩

set_option maxHeartbeats 2000000 in
set_option maxRecDepth 100000 in
theorem refRight_any (s : ByteArray) (w : World) (hs : s.size ≤ 9223372036854775807) : Calls Try.prog 63 #[.string s] w fun e w' => e = .returned (.bool (rightL s.data.toList)) ∧ w = w' := by
  have hsz := Lib.size_eq s
  by_cases h0 : s.size < 1
  · rw [rightL_len (by omega)]
    have g0 : decide ((s.size : Int) < 1) = true := by simp; omega
    clear hsz
    go_enter Try.func63, Try.ntmps63
    go_wp2
    go_ret
    exact ⟨rfl, rfl⟩
  · have g0 : decide ((s.size : Int) < 1) = false := by simp; omega
    by_cases h8 : s.size ≤ 8
    · have g8 : decide (8 < (s.size : Int)) = false := by simp; omega
      have Hsz := Lib.hid hsz
      clear hsz
      go_enter Try.func63, Try.ntmps63
      go_wp2
      go_loop [3] (fun i => ∃ k : Nat, i = .int .i64 k ∧ k ≤ s.size ∧ ∀ j c, j < k → s.data.toList[j]? = some c → okb c = true) (fun i => s.size - (intOf i).toNat)
      case atStart => exact ⟨0, rfl, Nat.zero_le _, fun k c hk => by omega⟩
      case round =>
        obtain ⟨k, rfl, hk, hall⟩ := hrel
        have Hall := Lib.hid hall
        clear hall
        by_cases hlt : k < s.size
        · have hat := Lib.hid (byte_at s k hlt)
          obtain ⟨x, hx⟩ : ∃ x, x = s[k]'hlt := ⟨_, rfl⟩
          rw [← hx] at hat
          have hstep : okb x = true → ∀ j c, j < k + 1 → s.data.toList[j]? = some c → okb c = true := by
            intro hok j c hj hjc
            by_cases hj2 : j = k
            · subst hj2
              rw [hat.out] at hjc
              rw [← Option.some.inj hjc]
              exact hok
            · exact Hall.out j c (by omega) hjc
          have Hstep := Lib.hid hstep
          have hokb : okb x = true ↔ (97 ≤ (x.toNat : Int) ∧ (x.toNat : Int) ≤ 122) ∨ (48 ≤ (x.toNat : Int) ∧ (x.toNat : Int) ≤ 57) := by
            unfold okb letterB digitB
            simp
          have hbad : okb x = false → rightL s.data.toList = false := fun h => rightL_bad hat.out h
          have Hokb := Lib.hid hokb
          have Hbad := Lib.hid hbad
          subst hx
          clear hstep hokb hbad
          by_cases c1 : 97 ≤ ((s[k]'hlt).toNat : Int)
          · by_cases c2 : ((s[k]'hlt).toNat : Int) ≤ 122
            · go_wp2
              go_round
              case rel => exact ⟨k + 1, by go_num, by omega, Hstep.out (Hokb.out.2 (.inl ⟨c1, c2⟩))⟩
              case measure => simp [intOf]; omega
            · have d2 : decide (((s[k]'hlt).toNat : Int) ≤ 122) = false := by simp; omega
              have d4 : decide (((s[k]'hlt).toNat : Int) ≤ 57) = false := by simp; omega
              go_wp2
              go_ret
              rw [Hbad.out (by rw [Bool.eq_false_iff]; intro h; have := Hokb.out.1 h; omega)]
              exact ⟨rfl, rfl⟩
          · have d1 : decide (97 ≤ ((s[k]'hlt).toNat : Int)) = false := by simp; omega
            by_cases c3 : 48 ≤ ((s[k]'hlt).toNat : Int)
            · by_cases c4 : ((s[k]'hlt).toNat : Int) ≤ 57
              · go_wp2
                go_round
                case rel => exact ⟨k + 1, by go_num, by omega, Hstep.out (Hokb.out.2 (.inr ⟨c3, c4⟩))⟩
                case measure => simp [intOf]; omega
              · have d4 : decide (((s[k]'hlt).toNat : Int) ≤ 57) = false := by simp; omega
                go_wp2
                go_ret
                rw [Hbad.out (by rw [Bool.eq_false_iff]; intro h; have := Hokb.out.1 h; omega)]
                exact ⟨rfl, rfl⟩
            · have d3 : decide (48 ≤ ((s[k]'hlt).toNat : Int)) = false := by simp; omega
              go_wp2
              go_ret
              rw [Hbad.out (by rw [Bool.eq_false_iff]; intro h; have := Hokb.out.1 h; omega)]
              exact ⟨rfl, rfl⟩
        · have e1 : rightL s.data.toList = true := rightL_all (by have := Hsz.out; omega) (by have := Hsz.out; omega) (fun j c hjc => Hall.out j c (by
            rcases Nat.lt_or_ge j s.data.toList.length with h | h
            · have := Hsz.out; omega
            · rw [List.getElem?_eq_none h] at hjc; cases hjc) hjc)
          have E1 := Lib.hid e1
          clear e1
          go_wp2
          go_ret
          rw [E1.out]
          exact ⟨rfl, rfl⟩
    · have g8 : decide (8 < (s.size : Int)) = true := by simp; omega
      rw [rightL_len (by omega)]
      clear hsz
      go_enter Try.func63, Try.ntmps63
      go_wp2
      go_ret
      exact ⟨rfl, rfl⟩
end Go.Proofs.Ytekmgaigppenlaa

namespace Go.Proofs.Ytekmgaigppenlaa
open Go Go.ChangeShapes Go.WideShapes Go.ChangeAt Go.RowKit

/-- The slice's place number i, below block B, holds v. -/
def At (w : World) (B : Nat) (A : Option Addr) (i : Nat) (v : Value) : Prop := ∃ b off, A = some ⟨b, off, none⟩ ∧ b < B ∧ w.cell? ⟨b, off + i, none⟩ = some v
/-- A list of numbers that came in: at each place its number. -/
def Nums (w : World) (B : Nat) (A : Option Addr) (k : IntKind) (xs : List Int) : Prop := ∀ i (h : i < xs.length), At w B A i (.int k xs[i])

theorem At.below {w w' : World} {B : Nat} {A : Option Addr} {i : Nat} {v : Value} (h : At w B A i v) (hb : Below B w w') : At w' B A i v := by
  obtain ⟨b, off, e, hB, hc⟩ := h
  exact ⟨b, off, e, hB, (hb.cell (p := ⟨b, off + i, none⟩) hB).trans hc⟩

theorem Nums.below {w w' : World} {B : Nat} {A : Option Addr} {k : IntKind} {xs : List Int} (h : Nums w B A k xs) (hb : Below B w w') : Nums w' B A k xs := fun i hi => (h i hi).below hb

theorem Nums.mono {w : World} {B B' : Nat} {A : Option Addr} {k : IntKind} {xs : List Int} (h : Nums w B A k xs) (hb : B ≤ B') : Nums w B' A k xs := fun i hi => by
  obtain ⟨b, off, e, hB, hc⟩ := h i hi
  exact ⟨b, off, e, Nat.lt_of_lt_of_le hB hb, hc⟩

/-- Out of the row's reading. -/
theorem nums_in {P : Program} {H : Type} {enc : TypeId × Value → H} {W : World} {sp : Nat → Bool} {held : Bool} {fuel : Nat} {t e : TypeId} {k : IntKind} {A : Option Addr} {n cap : Nat} {x : DataW H × List MemPlace}
    (ht : P.underlying t = some (.slice e)) (he : P.underlying e = some (.int k)) (h1 : P.cellsOf e = 1)
    (hf : DataW.trod enc P W 0 sp held fuel t [.slice A n cap] = some x) (hx : ∀ y ∈ x.2, y.block < W.heap.size) :
    ∃ xs : List Int, xs.length = n ∧ Nums W W.heap.size A k xs ∧ (∀ z ∈ xs, (Lit.int k z).wf = true) ∧ n ≤ cap ∧ n ≤ maxLen := by
  rcases open_ints ht he h1 hf with ⟨hv, _⟩ | ⟨a, n', cap', zs, hv, _, hl, hm, hz, hxe, hcell, hws⟩
  · obtain ⟨rfl, rfl, rfl⟩ : A = none ∧ n = 0 ∧ cap = 0 := by simpa using hv
    exact ⟨[], rfl, fun i h => absurd h (Nat.not_lt_zero i), fun z h => absurd h (by simp), Nat.le_refl 0, Nat.zero_le _⟩
  · obtain ⟨rfl, rfl, rfl⟩ : A = some a ∧ n = n' ∧ cap = cap' := by simpa using hv
    have hge : n ≤ zs.length := by rw [hz]; split <;> omega
    refine ⟨zs.take n, by rw [List.length_take]; omega, fun i hi => ?_, fun z h => hws z (List.mem_of_mem_take h), hl, Nat.le_trans hl hm⟩
    rw [List.length_take] at hi
    have hi' : i < zs.length := by omega
    have hc := hcell i hi'
    have hc0 := hcell 0 (by omega)
    obtain ⟨b, off, spot⟩ := a
    obtain rfl : spot = none := by simpa [Addr.add] using World.cell?_spot hc0
    rw [Addr.add_lit] at hc
    refine ⟨b, off, rfl, hx (.cell b off) (by rw [hxe]; exact MemPlace.mem_row.2 ⟨0, by omega, by simp⟩), hc.trans ?_⟩
    rw [List.getElem_take, List.getD_eq_getElem?_getD, List.getElem?_eq_getElem hi']
    rfl

theorem Keeps.storeAt {F : Nat → Prop} {w w' : World} {g : Nat} (k : Keeps F w w') (h : F g) (i : Nat) (u : Value) : Keeps F w (w'.setCell ⟨g, i, none⟩ u) := k.store (.inl h) u
/-- What an append leaves. -/
theorem Keeps.of_grown {w w' : World} {row : Option Nat} (h : w.grownBy w' row) : Keeps (fun i => row = some i) w w' :=
  ⟨⟨h.os, h.tape, h.output⟩, h.size, fun i hi hn => h.block i hi fun e => hn e.symm⟩
/-- A row of the call's own is kept where its block is. -/
theorem own_kept {F : Nat → Prop} {w w' : World} {base n size : Nat} {e : TypeId} {v : Value} {xs : List Value} (h : w.ownsRow base e size v n xs) (k : Keeps F w w') (hF : ∀ g, v.ownBlock = some g → ¬ F g) : w'.ownsRow base e size v n xs := by
  refine ⟨h.1, ?_⟩
  rcases h.2 with hn | ⟨g, cap, cur, rfl, hb, hg, rest⟩
  · exact .inl hn
  · exact .inr ⟨g, cap, cur, rfl, hb, Has.kept hg k (hF g rfl), rest⟩
end Go.Proofs.Ytekmgaigppenlaa

namespace Go.Proofs.Ytekmgaigppenlaa
open Go Go.RowKit

/-- Is a number in a list? -/
def hasB (xs : List Int) (x : Int) : Bool := decide (x ∈ xs)
/-- A list of numbers of the call's own, in a block that G names. -/
def Kids (G : Nat → Prop) (w : World) (v : Value) (xs : List Int) : Prop := w.ownsRow 0 3 1 v xs.length (xs.map (Value.int .i64)) ∧ ∀ g, v.ownBlock = some g → G g
/-- All blocks from B on G names. -/
def Fut (G : Nat → Prop) (B : Nat) : Prop := ∀ i, B ≤ i → G i
theorem Fut.mono {G : Nat → Prop} {B B' : Nat} (h : Fut G B) (hb : B ≤ B') : Fut G B' := fun i hi => h i (Nat.le_trans hb hi)
theorem Fut.any (B : Nat) : Fut (fun _ => True) B := fun _ _ => trivial

section
variable {G : Nat → Prop} {w w' : World} {F : Nat → Prop} {B B' base n size : Nat} {e : TypeId} {v : Value} {xs : List Int} {us : List Value}
theorem own_in (h : w.ownsRow base e size v n us) : ∀ g, v.ownBlock = some g → g < w.heap.size := fun g hg => (h.lt g hg).2
theorem own_base (h : w.ownsRow base e size v n us) (hb : B ≤ base) : w.ownsRow B e size v n us := by
  refine ⟨h.1, h.2.imp id fun ⟨g, cap, cur, hv, hg, rest⟩ => ⟨g, cap, cur, hv, Nat.le_trans hb hg, rest⟩⟩
theorem own_from (h : w.ownsRow base e size v n us) (hb : ∀ g, v.ownBlock = some g → B ≤ g) : w.ownsRow B e size v n us := by
  refine ⟨h.1, h.2.imp id fun ⟨g, cap, cur, hv, _, rest⟩ => ⟨g, cap, cur, hv, hb g (by rw [hv]; rfl), rest⟩⟩
theorem Kids.kept (h : Kids G w v xs) (k : Keeps F w w') (hF : ∀ i, i < w.heap.size → ¬ F i) : Kids G w' v xs := ⟨own_kept h.1 k fun g hg => hF g (own_in h.1 g hg), h.2⟩
theorem Kids.keptG (h : Kids G w v xs) (k : Keeps F w w') (hF : ∀ i, G i → i < w.heap.size → ¬ F i) : Kids G w' v xs := ⟨own_kept h.1 k fun g hg => hF g (h.2 g hg) (own_in h.1 g hg), h.2⟩
theorem Kids.wide {G' : Nat → Prop} (h : Kids G w v xs) (hG : ∀ i, G i → i < w.heap.size → G' i) : Kids G' w v xs := ⟨h.1, fun g hg => hG g (h.2 g hg) (own_in h.1 g hg)⟩
theorem Kids.aside {g i : Nat} {u : Value} {cs : Array Value} {t : TypeId} {fr : Nat × Nat} (h : Kids G w v xs) (hg : Has w g (.cells cs t fr)) (ht : t ≠ 3) : Kids G (w.setCell ⟨g, i, none⟩ u) v xs :=
  ⟨own_kept h.1 (Keeps.storeAt (F := fun j => j = g) (Keeps.refl _ _) rfl i u) fun g' hg' e => by
    rcases h.1.2 with ⟨rfl, _⟩ | ⟨g2, cap, cur, rfl, _, hh, _⟩
    · cases hg'
    · obtain rfl : g2 = g' := by simpa [Value.ownBlock] using hg'
      exact Has.apart hg hh (fun e => ht (by injection e)) e.symm, h.2⟩
theorem Kids.below (h : Kids G w v xs) (k : Below w.heap.size w w') : Kids G w' v xs := h.kept (Keeps.of_below (F := fun i => w.heap.size ≤ i) k fun _ _ h => h) fun _ hi => Nat.not_le.2 hi
/-- A list of the call's own may be read. -/
theorem Kids.form (h : Kids G w v xs) : ∃ A c, v = .slice A xs.length c ∧ xs.length ≤ c ∧ Nums w w.heap.size A .i64 xs := by
  have h := h.1
  rcases h.2 with ⟨rfl, h0⟩ | ⟨g, cap, cur, rfl, _, hh, hc, _⟩
  · exact ⟨none, 0, by rw [h0], by omega, fun i hi => by omega⟩
  · refine ⟨_, cap, rfl, hc, fun i hi => ⟨g, 0, rfl, Has.inside hh, ?_⟩⟩
    rw [Nat.zero_add, h.cellAt i (by omega), List.getElem?_map, List.getElem?_eq_getElem hi]
    rfl
end
theorem own_empty (w : World) : (w.alloc (.cells #[] 3)).ownsRow w.heap.size 3 1 (.slice (some ⟨w.heap.size, 0, none⟩) 0 0) 0 [] :=
  ⟨rfl, .inr ⟨w.heap.size, 0, #[], rfl, Nat.le_refl _, Has.fresh w (.cells #[] 3), Nat.le_refl _, Nat.zero_le _, rfl, rfl⟩⟩
theorem wrap_small {n : Int} (h0 : -9223372036854775808 ≤ n) (h1 : n ≤ 9223372036854775807) : IntKind.i64.wrap n = n := by
  rw [IntKind.wrap_i64]
  omega
section
variable {w : World} {base base' n n' size size' i : Nat} {e e' : TypeId} {v v' : Value} {us us' : List Value}
/-- A row lies not in a block of another kind. -/
theorem own_apart (h : w.ownsRow base e size v n us) {cs : Array Value} {t : TypeId} {fr : Nat × Nat} (hi : Has w i (.cells cs t fr)) (ht : t ≠ e) : v.ownBlock ≠ some i := fun hv => by
  rcases h.2 with ⟨rfl, _⟩ | ⟨g', cap, cur, rfl, _, hh, _⟩
  · cases hv
  · obtain rfl : g' = i := by simpa [Value.ownBlock] using hv
    exact Has.apart hh hi (fun e => ht (by injection e with _ e; exact e.symm)) rfl
theorem own_apart2 (h : w.ownsRow base e size v n us) (h' : w.ownsRow base' e' size' v' n' us') (ht : e' ≠ e) : ∀ g, v'.ownBlock = some g → v.ownBlock ≠ some g := fun g hg => by
  rcases h'.2 with ⟨rfl, _⟩ | ⟨g', cap, cur, rfl, _, hh, _⟩
  · cases hg
  · obtain rfl : g' = g := by simpa [Value.ownBlock] using hg
    exact own_apart h hh ht
end
end Go.Proofs.Ytekmgaigppenlaa

namespace Go.Proofs.Ytekmgaigppenlaa
open Go

/-- A node. -/
structure Nd where
  kind : Int
  parent : Int
  host : Int
  shadow : Int
  mode : Int
  slot : Bool
  name : ByteArray
  want : ByteArray
  kids : List Int
def Nd.zero : Nd := ⟨0, 0, 0, 0, 0, false, ⟨#[]⟩, ⟨#[]⟩, []⟩
/-- Its nine cells; k is where its children stand. -/
def Nd.cells (d : Nd) (k : Value) : List Value := [.int .i64 d.kind, .int .i64 d.parent, .int .i64 d.host, .int .i64 d.shadow, .int .i64 d.mode, .bool d.slot, .string d.name, .string d.want, k]
theorem Nd.cells_length (d : Nd) (k : Value) : (d.cells k).length = 9 := rfl

/-- Nodes, one behind the other. -/
def flat (rows : List (Nd × Value)) : List Value := rows.flatMap fun p => p.1.cells p.2
section
variable {rows : List (Nd × Value)} {p p' : Nd × Value} {i f : Nat} {u : Value}
theorem flat_cons (p : Nd × Value) (rows : List (Nd × Value)) : flat (p :: rows) = p.1.cells p.2 ++ flat rows := by simp [flat]
theorem flat_append (a b : List (Nd × Value)) : flat (a ++ b) = flat a ++ flat b := by simp [flat]
theorem flat_length : ∀ rows : List (Nd × Value), (flat rows).length = rows.length * 9
  | [] => rfl
  | p :: r => by rw [flat_cons, List.length_append, flat_length r, Nd.cells_length, List.length_cons]; omega
theorem flat_get : ∀ {rows : List (Nd × Value)} {i : Nat}, rows[i]? = some p → f < 9 → (flat rows)[i * 9 + f]? = (p.1.cells p.2)[f]?
  | [], i, h, _ => by simp at h
  | q :: r, 0, h, hf => by
    obtain rfl : q = p := by simpa using h
    rw [flat_cons, List.getElem?_append_left (by rw [Nd.cells_length]; omega), Nat.zero_mul, Nat.zero_add]
  | q :: r, i + 1, h, hf => by
    rw [flat_cons, List.getElem?_append_right (by rw [Nd.cells_length]; omega), Nd.cells_length, show (i + 1) * 9 + f - 9 = i * 9 + f by omega]
    exact flat_get (by simpa using h) hf
theorem flat_set : ∀ {rows : List (Nd × Value)} {i : Nat}, rows[i]? = some p → f < 9 → p'.1.cells p'.2 = (p.1.cells p.2).set f u → flat (rows.set i p') = (flat rows).set (i * 9 + f) u
  | [], i, h, _, _ => by simp at h
  | q :: r, 0, h, hf, hc => by
    obtain rfl : q = p := by simpa using h
    rw [List.set_cons_zero, flat_cons, flat_cons, List.set_append_left _ _ (by rw [Nd.cells_length]; omega), Nat.zero_mul, Nat.zero_add, hc]
  | q :: r, i + 1, h, hf, hc => by
    rw [List.set_cons_succ, flat_cons, flat_cons, List.set_append_right _ _ (by rw [Nd.cells_length]; omega), Nd.cells_length, show (i + 1) * 9 + f - 9 = i * 9 + f by omega]
    rw [flat_set (by simpa using h) hf hc]
theorem flat_one {rows : List (Nd × Value)} (h1 : ∀ p ∈ rows, p.2.oneCell' = true) : ∀ u ∈ flat rows, u.oneCell' = true := by
  intro u hu
  obtain ⟨p, hp, hu⟩ := List.mem_flatMap.1 hu
  simp only [Nd.cells, List.mem_cons, List.not_mem_nil, or_false] at hu
  rcases hu with rfl | rfl | rfl | rfl | rfl | rfl | rfl | rfl | rfl
  all_goals first | rfl | exact h1 p hp
end

/-- Is it there? -/
def thereB (l : List Nd) (id : Int) : Bool := decide (1 ≤ id) && decide (id ≤ (l.length : Int))
theorem thereB_iff {l : List Nd} {id : Int} : thereB l id = true ↔ 1 ≤ id ∧ id ≤ (l.length : Int) := by simp [thereB]
theorem there_lt {l : List Nd} {id : Int} (h : thereB l id = true) : (id - 1).toNat < l.length := by have := thereB_iff.1 h; omega
def nd (l : List Nd) (id : Int) : Nd := l.getD (id - 1).toNat Nd.zero
theorem nd_get {l : List Nd} {id : Int} (h : thereB l id = true) : l[(id - 1).toNat]? = some (nd l id) := by
  rw [nd, List.getD_eq_getElem?_getD, List.getElem?_eq_getElem (there_lt h)]
  rfl
/-- One node is turned. -/
def modN (l : List Nd) (id : Int) (f : Nd → Nd) : List Nd := l.set (id - 1).toNat (f (nd l id))
theorem modN_length (l : List Nd) (id : Int) (f : Nd → Nd) : (modN l id f).length = l.length := List.length_set
theorem modN_there (l : List Nd) (id : Int) (f : Nd → Nd) (k : Int) : thereB (modN l id f) k = thereB l k := by unfold thereB; rw [modN_length]

/-- Empty, or a word. -/
def okName (s : ByteArray) : Bool := s.toList.isEmpty || rightL s.data.toList

/-- Make: the error's number. -/
def mkErr (n : Nat) (d : Nd) : Int :=
  if d.kind < 1 ∨ 4 < d.kind then 2
  else if (d.kind = 3 ∧ d.mode ≠ 1 ∧ d.mode ≠ 2) ∨ (d.kind ≠ 3 ∧ d.mode ≠ 0) then 1
  else if (d.kind ≠ 2 ∧ (d.slot = true ∨ d.want.toList.isEmpty = false)) ∨ (d.slot = false ∧ d.name.toList.isEmpty = false) ∨ okName d.name = false ∨ okName d.want = false then 1
  else if 128 ≤ n then 9 else 0
def bare (d : Nd) : Nd := ⟨d.kind, 0, 0, 0, d.mode, d.slot, d.name, d.want, []⟩
def mkL (l : List Nd) (d : Nd) : List Nd := if mkErr l.length d = 0 then l ++ [bare d] else l
def mkNo (l : List Nd) (d : Nd) : Int := if mkErr l.length d = 0 then (l.length : Int) + 1 else 0

/-- What is above, one step. -/
def upOf (l : List Nd) (id : Int) : Int := if (nd l id).parent = 0 then (nd l id).host else (nd l id).parent
def overN (l : List Nd) : Nat → Int → List Int
  | 0, _ => []
  | n + 1, id => if thereB l id then id :: overN l n (upOf l id) else []
def over (l : List Nd) (id : Int) : List Int := overN l (l.length + 1) id

/-- Put: the error's number, and the nodes. -/
def kidIn (l : List Nd) (kids : List Int) (i : Nat) : Bool := thereB l (kids.getD i 0) && !hasB (kids.take i) (kids.getD i 0)
def kidOk (l : List Nd) (up : List Int) (parent k : Int) : Bool := !(decide ((nd l k).kind = 1) || decide ((nd l k).kind = 3) || hasB up k || (decide ((nd l k).parent ≠ 0) && decide ((nd l k).parent ≠ parent)))
def putErr (l : List Nd) (parent : Int) (kids : List Int) : Int :=
  if thereB l parent = false then 1
  else if ¬ ∀ i, i < kids.length → kidIn l kids i = true then 1
  else if ¬ ∀ k, k ∈ kids → kidOk l (over l parent) parent k = true then 3
  else 0
def clr (l : List Nd) (parent : Int) : List Nd := l.map fun d => if d.parent = parent then { d with parent := 0 } else d
def toPar (l : List Nd) (parent : Int) (kids : List Int) : List Nd := kids.foldl (fun l k => modN l k fun d => { d with parent := parent }) l
def putL (l : List Nd) (parent : Int) (kids : List Int) : List Nd := if putErr l parent kids = 0 then modN (toPar (clr l parent) parent kids) parent fun d => { d with kids := kids } else l

def tieErr (l : List Nd) (h r : Int) : Int :=
  if thereB l h = false ∨ thereB l r = false then 1
  else if (nd l h).kind ≠ 2 ∨ (nd l r).kind ≠ 3 then 2
  else if (nd l h).shadow ≠ 0 ∨ (nd l r).host ≠ 0 then 6
  else if hasB (over l h) r = true then 3
  else 0
def tieL (l : List Nd) (h r : Int) : List Nd := if tieErr l h r = 0 then modN (modN l h fun d => { d with shadow := r }) r fun d => { d with host := h } else l

def nameErr (l : List Nd) (id : Int) (s : ByteArray) : Int := if thereB l id = false ∨ okName s = false then 1 else if (nd l id).slot = false then 2 else 0
def nameL (l : List Nd) (id : Int) (s : ByteArray) : List Nd := if nameErr l id s = 0 then modN l id fun d => { d with name := s } else l
def wantErr (l : List Nd) (id : Int) (s : ByteArray) : Int := if thereB l id = false ∨ okName s = false then 1 else if (nd l id).kind ≠ 2 then 2 else 0
def wantL (l : List Nd) (id : Int) (s : ByteArray) : List Nd := if wantErr l id s = 0 then modN l id fun d => { d with want := s } else l

theorem clr_length (l : List Nd) (p : Int) : (clr l p).length = l.length := List.length_map ..
theorem toPar_length : ∀ (kids : List Int) (l : List Nd) (p : Int), (toPar l p kids).length = l.length
  | [], _, _ => rfl
  | k :: r, l, p => by
    show (toPar (modN l k _) p r).length = _
    rw [toPar_length r, modN_length]
theorem mkErr_zero {n : Nat} {d : Nd} (h : mkErr n d = 0) : n < 128 := by
  unfold mkErr at h
  split at h
  · cases h
  · split at h
    · cases h
    · split at h
      · cases h
      · split at h
        · cases h
        · omega
theorem mkL_length (l : List Nd) (d : Nd) : (mkL l d).length ≤ 128 ∨ (mkL l d).length = l.length := by
  unfold mkL
  by_cases h : mkErr l.length d = 0
  · have := mkErr_zero h
    rw [if_pos h]
    left
    simp
    omega
  · rw [if_neg h]
    exact .inr rfl
theorem putL_length (l : List Nd) (p : Int) (kids : List Int) : (putL l p kids).length = l.length := by
  unfold putL
  split
  · rw [modN_length, toPar_length, clr_length]
  · rfl
theorem tieL_length (l : List Nd) (h r : Int) : (tieL l h r).length = l.length := by
  unfold tieL
  split
  · rw [modN_length, modN_length]
  · rfl
theorem nameL_length (l : List Nd) (id : Int) (s : ByteArray) : (nameL l id s).length = l.length := by
  unfold nameL
  split
  · rw [modN_length]
  · rfl
theorem wantL_length (l : List Nd) (id : Int) (s : ByteArray) : (wantL l id s).length = l.length := by
  unfold wantL
  split
  · rw [modN_length]
  · rfl

/-- A call on a forest. -/
structure Ac where
  kind : Int
  a : Int
  b : Int
  s : ByteArray
  n : Nd
  l : List Int
def actL (l : List Nd) (x : Ac) : List Nd :=
  if x.kind = 0 then mkL l x.n else if x.kind = 1 then putL l x.a x.l else if x.kind = 2 then tieL l x.a x.b else if x.kind = 3 then nameL l x.a x.s else if x.kind = 4 then wantL l x.a x.s else l
def actNo (l : List Nd) (x : Ac) : Int := if x.kind = 0 then mkNo l x.n else 0
def actErr (l : List Nd) (x : Ac) : Int :=
  if x.kind = 0 then mkErr l.length x.n else if x.kind = 1 then putErr l x.a x.l else if x.kind = 2 then tieErr l x.a x.b else if x.kind = 3 then nameErr l x.a x.s else if x.kind = 4 then wantErr l x.a x.s else 0
def forest (acts : List Ac) : List Nd := acts.foldl actL []
theorem actL_length (l : List Nd) (x : Ac) (h : l.length ≤ 128) : (actL l x).length ≤ 128 := by
  unfold actL
  split
  · rcases mkL_length l x.n with h' | h' <;> omega
  · split
    · rw [putL_length]; exact h
    · split
      · rw [tieL_length]; exact h
      · split
        · rw [nameL_length]; exact h
        · split
          · rw [wantL_length]; exact h
          · exact h
theorem forest_snoc (acts : List Ac) (x : Ac) : forest (acts ++ [x]) = actL (forest acts) x := by simp [forest]
end Go.Proofs.Ytekmgaigppenlaa

namespace Go.Proofs.Ytekmgaigppenlaa
open Go

/-- No node has more children than a list that was handed in. -/
def Few (K : Nat) (l : List Nd) : Prop := ∀ d ∈ l, d.kids.length ≤ K
theorem few_mod {K : Nat} {l : List Nd} {id : Int} {f : Nd → Nd} (h : Few K l) (hf : ∀ d, d.kids.length ≤ K → (f d).kids.length ≤ K) : Few K (modN l id f) := by
  intro d hd
  rcases List.mem_or_eq_of_mem_set hd with hd | rfl
  · exact h d hd
  · refine hf _ ?_
    unfold nd
    rw [List.getD_eq_getElem?_getD]
    cases e : l[(id - 1).toNat]? with
    | none => exact Nat.zero_le _
    | some d => exact h d (List.mem_of_getElem? e)
theorem few_toPar {K : Nat} {p : Int} : ∀ (kids : List Int) {l : List Nd}, Few K l → Few K (toPar l p kids)
  | [], _, h => h
  | k :: r, l, h => by
    show Few K (toPar (modN l k _) p r)
    exact few_toPar r (few_mod h fun _ h => h)
theorem few_clr {K : Nat} {l : List Nd} {p : Int} (h : Few K l) : Few K (clr l p) := by
  intro d hd
  obtain ⟨d', hd', rfl⟩ := List.mem_map.1 hd
  split <;> exact h d' hd'
theorem actL_kids {K : Nat} {l : List Nd} {x : Ac} (h : Few K l) (hx : x.l.length ≤ K) : Few K (actL l x) := by
  unfold actL
  split
  · unfold mkL
    split
    · intro d hd
      rcases List.mem_append.1 hd with hd | hd
      · exact h d hd
      · obtain rfl := List.mem_singleton.1 hd
        exact Nat.zero_le _
    · exact h
  · split
    · unfold putL
      split
      · exact few_mod (few_toPar _ (few_clr h)) fun _ _ => hx
      · exact h
    · split
      · unfold tieL
        split
        · exact few_mod (few_mod h fun _ h => h) fun _ h => h
        · exact h
      · split
        · unfold nameL
          split
          · exact few_mod h fun _ h => h
          · exact h
        · split
          · unfold wantL
            split
            · exact few_mod h fun _ h => h
            · exact h
          · exact h
end Go.Proofs.Ytekmgaigppenlaa

namespace Go.Proofs.Ytekmgaigppenlaa
open Go

section
variable {l : List Nd} {id k : Int} {f : Nd → Nd}
theorem there_mod : thereB (modN l id f) k = thereB l k := modN_there l id f k
theorem nd_mod (hi : thereB l id = true) (hk : thereB l k = true) : nd (modN l id f) k = if k = id then f (nd l id) else nd l k := by
  have h1 := thereB_iff.1 hi
  have h2 := thereB_iff.1 hk
  unfold modN
  by_cases e : k = id
  · subst e
    rw [if_pos rfl, nd, List.getD_eq_getElem?_getD, List.getElem?_set_self (there_lt hi)]
    rfl
  · rw [if_neg e, nd, List.getD_eq_getElem?_getD, List.getElem?_set_ne (by omega), ← List.getD_eq_getElem?_getD]
    rfl
theorem there_len {l' : List Nd} (h : l'.length = l.length) : thereB l' k = thereB l k := by unfold thereB; rw [h]
theorem nd_clr {p : Int} (hk : thereB l k = true) : nd (clr l p) k = if (nd l k).parent = p then { nd l k with parent := 0 } else nd l k := by
  have := nd_get hk
  rw [nd, clr, List.getD_eq_getElem?_getD, List.getElem?_map, this]
  rfl
theorem nd_toPar {p : Int} : ∀ (ks : List Int) (l : List Nd) (k : Int), (∀ x ∈ ks, thereB l x = true) → thereB l k = true → nd (toPar l p ks) k = if k ∈ ks then { nd l k with parent := p } else nd l k
  | [], _, _, _, _ => by simp [toPar]
  | x :: r, l, k, hx, hk => by
    have hx0 := hx x (by simp)
    show nd (toPar (modN l x _) p r) k = _
    rw [nd_toPar r (modN l x _) k (fun y hy => by rw [there_mod]; exact hx y (by simp [hy])) (by rw [there_mod]; exact hk), nd_mod hx0 hk]
    by_cases e : k = x
    · subst e
      simp
    · simp [e]
end

/-- What Put makes of a node. -/
theorem put_nd {l : List Nd} {p : Int} {ks : List Int} {k : Int} (h : putErr l p ks = 0) (hp : thereB l p = true) (hks : ∀ x ∈ ks, thereB l x = true) (hk : thereB l k = true) :
    nd (putL l p ks) k = { nd l k with parent := if k ∈ ks then p else if (nd l k).parent = p then 0 else (nd l k).parent, kids := if k = p then ks else (nd l k).kids } := by
  have hc : ∀ x, thereB (clr l p) x = thereB l x := fun x => there_len (clr_length l p)
  have ht : ∀ x, thereB (toPar (clr l p) p ks) x = thereB l x := fun x => there_len (by rw [toPar_length, clr_length])
  unfold putL
  rw [if_pos h, nd_mod (by rw [ht]; exact hp) (by rw [ht]; exact hk), nd_toPar ks _ p (fun x hx => by rw [hc]; exact hks x hx) (by rw [hc]; exact hp), nd_toPar ks _ k (fun x hx => by rw [hc]; exact hks x hx) (by rw [hc]; exact hk), nd_clr hk, nd_clr hp]
  by_cases e : k = p
  · subst e
    by_cases m : k ∈ ks <;> by_cases q : (nd l k).parent = k <;> simp [m, q]
  · by_cases m : k ∈ ks <;> by_cases q : (nd l k).parent = p <;> simp [m, q, e]

/-- What an error's 0 says. -/
theorem put_zero {l : List Nd} {p : Int} {ks : List Int} (h : putErr l p ks = 0) : thereB l p = true ∧ (∀ i, i < ks.length → kidIn l ks i = true) ∧ ∀ k, k ∈ ks → kidOk l (over l p) p k = true := by
  unfold putErr at h
  split at h
  · cases h
  · rename_i h1
    split at h
    · cases h
    · rename_i h2
      split at h
      · cases h
      · rename_i h3
        exact ⟨by simpa using h1, Decidable.not_not.1 h2, Decidable.not_not.1 h3⟩
theorem kids_there {l : List Nd} {ks : List Int} (h : ∀ i, i < ks.length → kidIn l ks i = true) : ∀ x ∈ ks, thereB l x = true := by
  intro x hx
  obtain ⟨i, hi, rfl⟩ := List.mem_iff_getElem.1 hx
  have := h i hi
  unfold kidIn at this
  rw [List.getD_eq_getElem?_getD, List.getElem?_eq_getElem hi, Option.getD_some, Bool.and_eq_true] at this
  exact this.1
theorem kids_nodup {l : List Nd} {ks : List Int} (h : ∀ i, i < ks.length → kidIn l ks i = true) : ks.Nodup := by
  refine List.pairwise_iff_getElem.2 fun i j hi hj hij e' => ?_
  have := h j hj
  unfold kidIn at this
  rw [List.getD_eq_getElem?_getD, List.getElem?_eq_getElem hj, Option.getD_some, Bool.and_eq_true] at this
  have h2 := this.2
  have : hasB (ks.take j) ks[j] = true := by
    rw [hasB, decide_eq_true_iff, ← e', List.mem_iff_getElem?]
    exact ⟨i, by rw [List.getElem?_take, if_pos hij, List.getElem?_eq_getElem hi]⟩
  rw [this] at h2
  cases h2

theorem there_pos {l : List Nd} {i : Int} (h : thereB l i = true) : i ≠ 0 := by have := thereB_iff.1 h; omega
theorem there_zero (l : List Nd) : thereB l 0 = false := by
  cases h : thereB l 0 with
  | false => rfl
  | true => exact absurd rfl (there_pos h)

theorem up_go {l : List Nd} {n : Nat} {i : Int} (h : thereB l i = true) : overN l (n + 1) i = i :: overN l n (upOf l i) := by rw [overN, if_pos h]
theorem up_no {l : List Nd} {n : Nat} {i : Int} (h : thereB l i = false) : overN l n i = [] := by
  cases n with
  | zero => rfl
  | succ n => rw [overN, if_neg (by rw [h]; decide)]
theorem over_le (l : List Nd) : ∀ (n : Nat) (i : Int), (overN l n i).length ≤ n
  | 0, _ => Nat.le_refl 0
  | n + 1, i => by
    cases ht : thereB l i with
    | false => rw [up_no ht]; exact Nat.zero_le _
    | true =>
      have := over_le l n (upOf l i)
      rw [up_go ht]
      simpa using this
/-- Where a way up ends, it stays so. -/
theorem up_more {l : List Nd} : ∀ (n : Nat) (i : Int), (overN l n i).length < n → overN l (n + 1) i = overN l n i
  | 0, _, h => absurd h (Nat.not_lt_zero _)
  | n + 1, i, h => by
    cases ht : thereB l i with
    | false => rw [up_no ht, up_no ht]
    | true =>
      rw [up_go ht] at h
      rw [up_go ht, up_go ht, up_more n (upOf l i) (by simpa using h)]
theorem up_stay {l : List Nd} {n : Nat} {i : Int} (h : (overN l n i).length < n) : ∀ m, overN l (n + m) i = overN l n i
  | 0 => rfl
  | m + 1 => by
    have := up_stay h m
    rw [← Nat.add_assoc, up_more (n + m) i (by rw [this]; exact Nat.lt_of_lt_of_le h (Nat.le_add_right _ _)), this]
/-- A way up that ends, from the next one on. -/
def Ends (l : List Nd) (i : Int) : Prop := ∃ n, (overN l n i).length < n
theorem ends_no {l : List Nd} {i : Int} (h : thereB l i = false) : Ends l i := ⟨1, by rw [up_no h]; decide⟩
theorem ends_up {l : List Nd} {i : Int} (h : Ends l (upOf l i)) : Ends l i := by
  cases ht : thereB l i with
  | false => exact ends_no ht
  | true =>
    obtain ⟨n, hn⟩ := h
    exact ⟨n + 1, by rw [up_go ht]; simpa using hn⟩
/-- What is on the way up from i, is there. -/
theorem up_there {l : List Nd} : ∀ (n : Nat) (i x : Int), x ∈ overN l n i → thereB l x = true
  | 0, _, _, h => absurd h (by simp [overN])
  | n + 1, i, x, h => by
    cases ht : thereB l i with
    | false => rw [up_no ht] at h; cases h
    | true =>
      rw [up_go ht] at h
      rcases List.mem_cons.1 h with rfl | h
      · exact ht
      · exact up_there n _ x h
/-- The way up from one on a way up is on it. -/
theorem up_tail {l : List Nd} : ∀ (n : Nat) (i x : Int), x ∈ overN l n i → ∀ m, ∃ k, ∀ y, y ∈ overN l m x → y ∈ overN l (n + k) i
  | 0, _, _, h, _ => absurd h (by simp [overN])
  | n + 1, i, x, h, m => by
    cases ht : thereB l i with
    | false => rw [up_no ht] at h; cases h
    | true =>
      rw [up_go ht] at h
      rcases List.mem_cons.1 h with rfl | h
      · refine ⟨m, fun y hy => ?_⟩
        have mono : ∀ (a b : Nat) (j : Int), a ≤ b → ∀ y, y ∈ overN l a j → y ∈ overN l b j := by
          intro a
          induction a with
          | zero => intro b j _ y hy; exact absurd hy (by simp [overN])
          | succ a ih =>
            intro b j hab y hy
            cases b with
            | zero => omega
            | succ b =>
              cases hj : thereB l j with
              | false => rw [up_no hj] at hy; cases hy
              | true =>
                rw [up_go hj] at hy ⊢
                rcases List.mem_cons.1 hy with rfl | hy
                · exact List.mem_cons_self
                · exact List.mem_cons_of_mem _ (ih b _ (by omega) y hy)
        exact mono m _ _ (by omega) y hy
      · obtain ⟨k, hk⟩ := up_tail n (upOf l i) x h m
        refine ⟨k, fun y hy => ?_⟩
        rw [show n + 1 + k = (n + k) + 1 by omega, up_go ht]
        exact List.mem_cons_of_mem _ (hk y hy)
/-- Nobody is above itself, where all ways end. -/
theorem up_nodup {l : List Nd} (he : ∀ i, Ends l i) : ∀ (n : Nat) (i : Int), i ∉ overN l n (upOf l i) ∨ thereB l i = false := by
  intro n i
  cases ht : thereB l i with
  | false => exact .inr rfl
  | true =>
    refine .inl fun hm => ?_
    -- from i one comes to i again: so no way up from i ends
    have step : ∀ (a : Nat) (j : Int), i ∈ overN l a j → ∀ m, (overN l m i).length = m → ∃ b, 0 < b ∧ (overN l (b + m) j).length = b + m ∨ j = i := by
      intro a
      induction a with
      | zero => intro j h; exact absurd h (by simp [overN])
      | succ a ih =>
        intro j h m hmm
        cases hj : thereB l j with
        | false => rw [up_no hj] at h; cases h
        | true =>
          rw [up_go hj] at h
          rcases List.mem_cons.1 h with rfl | h
          · exact ⟨0, .inr rfl⟩
          · rcases ih _ h m hmm with ⟨b, hb | hb⟩
            · exact ⟨b + 1, .inl ⟨by omega, by rw [show b + 1 + m = (b + m) + 1 by omega, up_go hj]; simp [hb.2]⟩⟩
            · exact ⟨1, .inl ⟨by omega, by rw [show 1 + m = m + 1 by omega, up_go hj, hb]; simp [hmm]⟩⟩
    have full : ∀ m, (overN l m i).length = m := by
      intro m
      induction m with
      | zero => rfl
      | succ m ih =>
        rcases step n (upOf l i) hm m ih with ⟨b, hb | hb⟩
        · rw [up_go ht]
          have hle : ∀ (c d : Nat) (j : Int), (overN l (c + d) j).length = c + d → (overN l d j).length = d := by
            intro c
            induction c with
            | zero => intro d j h; simpa using h
            | succ c ihc =>
              intro d j h
              refine ihc d j ?_
              rcases Nat.lt_or_ge (overN l (c + d) j).length (c + d) with hlt | hge
              · have := up_more _ _ hlt
                rw [show c + 1 + d = c + d + 1 by omega, this] at h
                omega
              · have := over_le l (c + d) j
                omega
          have := hle b m _ hb.2
          simpa using this
        · rw [up_go ht, hb]
          simpa using ih
    obtain ⟨k, hk⟩ := he i
    rw [full k] at hk
    exact absurd hk (Nat.lt_irrefl k)
/-- A forest. -/
structure Tree (l : List Nd) : Prop where
  kid : ∀ i, thereB l i = true → ∀ k ∈ (nd l i).kids, thereB l k = true ∧ (nd l k).parent = i
  once : ∀ i, thereB l i = true → (nd l i).kids.Nodup
  par : ∀ i, thereB l i = true → (nd l i).parent ≠ 0 → thereB l (nd l i).parent = true ∧ i ∈ (nd l (nd l i).parent).kids
  bare : ∀ i, thereB l i = true → ((nd l i).kind = 1 ∨ (nd l i).kind = 3) → (nd l i).parent = 0
  shade : ∀ i, thereB l i = true → (nd l i).shadow ≠ 0 → thereB l (nd l i).shadow = true ∧ (nd l (nd l i).shadow).host = i ∧ (nd l (nd l i).shadow).kind = 3
  host : ∀ i, thereB l i = true → (nd l i).host ≠ 0 → (nd l i).kind = 3 ∧ thereB l (nd l i).host = true
  ends : ∀ i, Ends l i

end Go.Proofs.Ytekmgaigppenlaa

namespace Go.Proofs.Ytekmgaigppenlaa
open Go

/-- Numbers below n, each once: there are n at most. -/
theorem pigeon : ∀ (n : Nat) (xs : List Nat), xs.Nodup → (∀ x ∈ xs, x < n) → xs.length ≤ n
  | 0, xs, _, h => by
    cases xs with
    | nil => exact Nat.le_refl 0
    | cons x r => exact absurd (h x (by simp)) (Nat.not_lt_zero x)
  | n + 1, xs, hd, h => by
    by_cases hm : n ∈ xs
    · have hl := List.length_erase_of_mem hm
      have := pigeon n (xs.erase n) (hd.erase n) (fun x hx => by
        have h1 := (hd.mem_erase_iff).1 hx
        have := h x h1.2
        omega)
      omega
    · have := pigeon n xs hd (fun x hx => by
        have := h x hx
        have : x ≠ n := fun e => hm (e ▸ hx)
        omega)
      omega

section
variable {l l' : List Nd}
theorem up_once (he : ∀ i, Ends l i) : ∀ (n : Nat) (i : Int), (overN l n i).Nodup
  | 0, _ => List.nodup_nil
  | n + 1, i => by
    cases ht : thereB l i with
    | false => rw [up_no ht]; exact List.nodup_nil
    | true =>
      rw [up_go ht]
      refine List.nodup_cons.2 ⟨?_, up_once he n _⟩
      rcases up_nodup he n i with h | h
      · exact h
      · rw [ht] at h; cases h
/-- A way up is no longer than there are nodes. -/
theorem up_short (he : ∀ i, Ends l i) (n : Nat) (i : Int) : (overN l n i).length ≤ l.length := by
  have h1 : ((overN l n i).map fun x => (x - 1).toNat).Nodup := by
    refine List.pairwise_map.2 ((up_once he n i).imp_of_mem fun {x y} hx hy hne e => hne ?_)
    have h1 := thereB_iff.1 (up_there n i x hx)
    have h2 := thereB_iff.1 (up_there n i y hy)
    omega
  have := pigeon l.length _ h1 (fun x hx => by
    obtain ⟨y, hy, rfl⟩ := List.mem_map.1 hx
    exact there_lt (up_there n i y hy))
  simpa using this
/-- So all of it is told. -/
theorem up_all (he : ∀ i, Ends l i) {n : Nat} {i x : Int} (h : x ∈ overN l n i) : x ∈ over l i := by
  have hs : (overN l (l.length + 1) i).length < l.length + 1 := Nat.lt_succ_of_le (up_short he _ i)
  have mono : ∀ (a : Nat) (j : Int) (y : Int), y ∈ overN l a j → y ∈ overN l (a + (l.length + 1)) j := by
    intro a
    induction a with
    | zero => intro j y hy; exact absurd hy (by simp [overN])
    | succ a ih =>
      intro j y hy
      cases hj : thereB l j with
      | false => rw [up_no hj] at hy; cases hy
      | true =>
        rw [up_go hj] at hy
        rw [show a + 1 + (l.length + 1) = (a + (l.length + 1)) + 1 by omega, up_go hj]
        rcases List.mem_cons.1 hy with rfl | hy
        · exact List.mem_cons_self
        · exact List.mem_cons_of_mem _ (ih _ y hy)
  have := mono n i x h
  rw [Nat.add_comm, up_stay hs] at this
  exact this
/-- One step further. -/
theorem up_next : ∀ (n : Nat) (j x : Int), x ∈ overN l n j → thereB l (upOf l x) = true → upOf l x ∈ overN l (n + 1) j
  | 0, _, _, h, _ => absurd h (by simp [overN])
  | n + 1, j, x, h, ht => by
    cases hj : thereB l j with
    | false => rw [up_no hj] at h; cases h
    | true =>
      rw [up_go hj] at h
      rw [up_go hj]
      rcases List.mem_cons.1 h with rfl | h
      · rw [up_go ht]
        exact List.mem_cons_of_mem _ List.mem_cons_self
      · exact List.mem_cons_of_mem _ (up_next n _ x h ht)
theorem up_same (hlen : l'.length = l.length) : ∀ (n : Nat) (i : Int), (∀ x ∈ overN l n i, upOf l' x = upOf l x) → overN l' n i = overN l n i
  | 0, _, _ => rfl
  | n + 1, i, h => by
    cases ht : thereB l i with
    | false => rw [up_no ht, up_no (by rw [there_len hlen]; exact ht)]
    | true =>
      rw [up_go ht] at h
      rw [up_go ht, up_go (by rw [there_len hlen]; exact ht), h i List.mem_cons_self, up_same hlen n (upOf l i) fun x hx => h x (List.mem_cons_of_mem _ hx)]
/-- Ways are led to q, or end. -/
theorem ends_led (hlen : l'.length = l.length) (he : ∀ i, Ends l i) (q : Int) (hq : ∀ n x, x ∈ overN l n q → upOf l' x = upOf l x)
    (hc : ∀ i, thereB l i = true → upOf l' i = upOf l i ∨ upOf l' i = q ∨ thereB l (upOf l' i) = false) : ∀ i, Ends l' i := by
  have hqe : Ends l' q := by
    obtain ⟨n, hn⟩ := he q
    exact ⟨n, by rw [up_same hlen n q (hq n)]; exact hn⟩
  have all : ∀ (n : Nat) (i : Int), (overN l n i).length < n → Ends l' i := by
    intro n
    induction n with
    | zero => intro i h; exact absurd h (Nat.not_lt_zero _)
    | succ n ih =>
      intro i h
      cases ht : thereB l i with
      | false => exact ends_no (by rw [there_len hlen]; exact ht)
      | true =>
        rcases hc i ht with e | e | e
        · refine ends_up ?_
          rw [e]
          rw [up_go ht] at h
          exact ih _ (by simpa using h)
        · exact ends_up (by rw [e]; exact hqe)
        · exact ends_up (ends_no (by rw [there_len hlen]; exact e))
  intro i
  obtain ⟨n, hn⟩ := he i
  exact all n i hn
end

theorem tree_put {l : List Nd} {p : Int} {ks : List Int} (T : Tree l) : Tree (putL l p ks) := by
  by_cases h0 : putErr l p ks = 0
  case neg =>
    unfold putL
    rw [if_neg h0]
    exact T
  obtain ⟨hp, hin, hok⟩ := put_zero h0
  have hks := kids_there hin
  have hnd := kids_nodup hin
  have hlen := putL_length l p ks
  have hth : ∀ x, thereB (putL l p ks) x = thereB l x := fun x => there_len hlen
  have hn : ∀ {k}, thereB l k = true → nd (putL l p ks) k = _ := fun {k} hk => put_nd h0 hp hks hk
  have hp0 := there_pos hp
  have hko : ∀ k ∈ ks, (nd l k).kind ≠ 1 ∧ (nd l k).kind ≠ 3 ∧ k ∉ over l p ∧ ((nd l k).parent = 0 ∨ (nd l k).parent = p) := fun k hk => by
    have := hok k hk
    simp only [kidOk, hasB, Bool.not_eq_true', Bool.or_eq_false_iff, decide_eq_false_iff_not, Bool.and_eq_false_iff] at this
    obtain ⟨⟨⟨a, b⟩, c⟩, d⟩ := this
    refine ⟨a, b, c, ?_⟩
    rcases d with d | d
    · exact .inl (Decidable.not_not.1 d)
    · exact .inr (Decidable.not_not.1 d)
  refine ⟨?_, ?_, ?_, ?_, ?_, ?_, ?_⟩
  · intro i hi k hk
    rw [hth] at hi
    rw [hn hi] at hk
    simp only at hk
    by_cases e : i = p
    · rw [if_pos e] at hk
      refine ⟨by rw [hth]; exact hks k hk, ?_⟩
      rw [hn (hks k hk)]
      simp only
      rw [if_pos hk, e]
    · rw [if_neg e] at hk
      obtain ⟨h1, h2⟩ := T.kid i hi k hk
      refine ⟨by rw [hth]; exact h1, ?_⟩
      rw [hn h1]
      simp only
      have hnk : k ∉ ks := fun hm => by
        rcases (hko k hm).2.2.2 with h | h
        · exact there_pos hi (h2.symm.trans h)
        · exact e (h2.symm.trans h)
      rw [if_neg hnk, if_neg (by rw [h2]; exact e), h2]
  · intro i hi
    rw [hth] at hi
    rw [hn hi]
    simp only
    split
    · exact hnd
    · exact T.once i hi
  · intro i hi h
    rw [hth] at hi
    rw [hn hi] at h ⊢
    simp only at h ⊢
    by_cases hm : i ∈ ks
    · rw [if_pos hm]
      refine ⟨by rw [hth]; exact hp, ?_⟩
      rw [hn hp]
      simp only
      rw [if_pos trivial]
      exact hm
    · rw [if_neg hm] at h ⊢
      by_cases hq : (nd l i).parent = p
      · rw [if_pos hq] at h
        exact absurd rfl h
      · rw [if_neg hq] at h ⊢
        obtain ⟨h1, h2⟩ := T.par i hi h
        refine ⟨by rw [hth]; exact h1, ?_⟩
        rw [hn h1]
        simp only
        rw [if_neg hq]
        exact h2
  · intro i hi h
    rw [hth] at hi
    rw [hn hi] at h ⊢
    simp only at h ⊢
    have hm : i ∉ ks := fun hm => by
      have := hko i hm
      rcases h with h | h
      · exact this.1 h
      · exact this.2.1 h
    rw [if_neg hm]
    split
    · rfl
    · exact T.bare i hi h
  · intro i hi h
    rw [hth] at hi
    rw [hn hi] at h ⊢
    simp only at h ⊢
    obtain ⟨h1, h2, h3⟩ := T.shade i hi h
    refine ⟨by rw [hth]; exact h1, ?_⟩
    rw [hn h1]
    exact ⟨h2, h3⟩
  · intro i hi h
    rw [hth] at hi
    rw [hn hi] at h ⊢
    simp only at h ⊢
    obtain ⟨h1, h2⟩ := T.host i hi h
    exact ⟨h1, by rw [hth]; exact h2⟩
  · have hup : ∀ i, thereB l i = true → upOf (putL l p ks) i = if i ∈ ks then p else if (nd l i).parent = p then (nd l i).host else upOf l i := fun i hi => by
      unfold upOf
      rw [hn hi]
      simp only
      by_cases hm : i ∈ ks
      · rw [if_pos hm, if_pos hm, if_neg hp0]
      · rw [if_neg hm, if_neg hm]
        by_cases hq : (nd l i).parent = p
        · rw [if_pos hq, if_pos hq, if_pos rfl]
        · rw [if_neg hq, if_neg hq]
    refine ends_led hlen T.ends p (fun n x hx => ?_) fun i hi => ?_
    · have hxt := up_there n p x hx
      rw [hup x hxt, if_neg (fun hm => (hko x hm).2.2.1 (up_all T.ends hx))]
      by_cases hq : (nd l x).parent = p
      · exfalso
        have hux : upOf l x = p := by
          unfold upOf
          rw [hq, if_neg hp0]
        have hn1 : p ∈ overN l n (upOf l p) ∨ x = p := by
          cases n with
          | zero => exact absurd hx (by simp [overN])
          | succ n =>
            rw [up_go hp] at hx
            rcases List.mem_cons.1 hx with e | hx
            · exact .inr e
            · refine .inl ?_
              have := up_next n (upOf l p) x hx (by rw [hux]; exact hp)
              rw [hux] at this
              exact this
        rcases hn1 with h | h
        · rcases up_nodup T.ends n p with h' | h'
          · exact h' h
          · rw [hp] at h'; cases h'
        · subst h
          rcases up_nodup T.ends 1 x with h' | h'
          · refine h' ?_
            rw [hux, up_go hp]
            exact List.mem_cons_self
          · rw [hp] at h'; cases h'
      · rw [if_neg hq]
    · rw [hup i hi]
      by_cases hm : i ∈ ks
      · rw [if_pos hm]
        exact .inr (.inl rfl)
      · rw [if_neg hm]
        by_cases hq : (nd l i).parent = p
        · rw [if_pos hq]
          refine .inr (.inr ?_)
          have : (nd l i).host = 0 := by
            by_cases hh : (nd l i).host = 0
            · exact hh
            · have := T.bare i hi (.inr (T.host i hi hh).1)
              exact absurd (this.symm.trans hq) (fun e => hp0 e.symm)
          rw [this]
          exact there_zero l
        · rw [if_neg hq]
          exact .inl rfl
/-- What is neither parent, host, shadow root, kind nor children, is of no matter. -/
theorem tree_like {l l' : List Nd} (T : Tree l) (hlen : l'.length = l.length) (h : ∀ i, thereB l i = true → (nd l' i).kind = (nd l i).kind ∧ (nd l' i).parent = (nd l i).parent ∧ (nd l' i).host = (nd l i).host ∧ (nd l' i).shadow = (nd l i).shadow ∧ (nd l' i).kids = (nd l i).kids) : Tree l' := by
  have hth : ∀ x, thereB l' x = thereB l x := fun x => there_len hlen
  refine ⟨?_, ?_, ?_, ?_, ?_, ?_, ?_⟩
  · intro i hi k hk
    rw [hth] at hi
    rw [(h i hi).2.2.2.2] at hk
    obtain ⟨h1, h2⟩ := T.kid i hi k hk
    exact ⟨by rw [hth]; exact h1, by rw [(h k h1).2.1]; exact h2⟩
  · intro i hi
    rw [hth] at hi
    rw [(h i hi).2.2.2.2]
    exact T.once i hi
  · intro i hi hq
    rw [hth] at hi
    rw [(h i hi).2.1] at hq ⊢
    obtain ⟨h1, h2⟩ := T.par i hi hq
    exact ⟨by rw [hth]; exact h1, by rw [(h _ h1).2.2.2.2]; exact h2⟩
  · intro i hi hq
    rw [hth] at hi
    rw [(h i hi).1] at hq
    rw [(h i hi).2.1]
    exact T.bare i hi hq
  · intro i hi hq
    rw [hth] at hi
    rw [(h i hi).2.2.2.1] at hq ⊢
    obtain ⟨h1, h2, h3⟩ := T.shade i hi hq
    exact ⟨by rw [hth]; exact h1, by rw [(h _ h1).2.2.1]; exact h2, by rw [(h _ h1).1]; exact h3⟩
  · intro i hi hq
    rw [hth] at hi
    rw [(h i hi).2.2.1] at hq ⊢
    rw [(h i hi).1]
    obtain ⟨h1, h2⟩ := T.host i hi hq
    exact ⟨h1, by rw [hth]; exact h2⟩
  · have hup : ∀ i, thereB l i = true → upOf l' i = upOf l i := fun i hi => by
      unfold upOf
      rw [(h i hi).2.1, (h i hi).2.2.1]
    exact ends_led hlen T.ends 0 (fun n x hx => hup x (up_there n 0 x hx)) fun i hi => .inl (hup i hi)
theorem tree_mod {l : List Nd} {id : Int} {f : Nd → Nd} (T : Tree l) (hi : thereB l id = true) (hf : ∀ d, (f d).kind = d.kind ∧ (f d).parent = d.parent ∧ (f d).host = d.host ∧ (f d).shadow = d.shadow ∧ (f d).kids = d.kids) : Tree (modN l id f) :=
  tree_like T (modN_length l id f) fun i hk => by
    rw [nd_mod hi hk]
    by_cases e : i = id
    · rw [if_pos e, e]
      exact hf _
    · rw [if_neg e]
      exact ⟨rfl, rfl, rfl, rfl, rfl⟩
theorem tree_name {l : List Nd} {id : Int} {s : ByteArray} (T : Tree l) : Tree (nameL l id s) := by
  unfold nameL
  split
  · rename_i h
    refine tree_mod T ?_ fun _ => ⟨rfl, rfl, rfl, rfl, rfl⟩
    unfold nameErr at h
    cases ht : thereB l id with
    | true => rfl
    | false => rw [if_pos (.inl ht)] at h; cases h
  · exact T
theorem tree_want {l : List Nd} {id : Int} {s : ByteArray} (T : Tree l) : Tree (wantL l id s) := by
  unfold wantL
  split
  · rename_i h
    refine tree_mod T ?_ fun _ => ⟨rfl, rfl, rfl, rfl, rfl⟩
    unfold wantErr at h
    cases ht : thereB l id with
    | true => rfl
    | false => rw [if_pos (.inl ht)] at h; cases h
  · exact T

theorem tree_tie {l : List Nd} {h r : Int} (T : Tree l) : Tree (tieL l h r) := by
  by_cases h0 : tieErr l h r = 0
  case neg =>
    unfold tieL
    rw [if_neg h0]
    exact T
  have hz : thereB l h = true ∧ thereB l r = true ∧ (nd l h).kind = 2 ∧ (nd l r).kind = 3 ∧ (nd l h).shadow = 0 ∧ (nd l r).host = 0 ∧ r ∉ over l h := by
    unfold tieErr at h0
    split at h0
    · cases h0
    · rename_i h1
      split at h0
      · cases h0
      · rename_i h2
        split at h0
        · cases h0
        · rename_i h3
          split at h0
          · cases h0
          · rename_i h4
            simp only [not_or, Bool.not_eq_false, ne_eq, Decidable.not_not] at h1 h2 h3
            exact ⟨h1.1, h1.2, h2.1, h2.2, h3.1, h3.2, by simpa [hasB] using h4⟩
  obtain ⟨hh, hr, kh, kr, sh, hor, hov⟩ := hz
  have hne : h ≠ r := fun e => by
    rw [e, kr] at kh
    cases kh
  have hlen := tieL_length l h r
  have hth : ∀ x, thereB (tieL l h r) x = thereB l x := fun x => there_len hlen
  have hn : ∀ k, thereB l k = true → nd (tieL l h r) k = { nd l k with shadow := if k = h then r else (nd l k).shadow, host := if k = r then h else (nd l k).host } := fun k hk => by
    unfold tieL
    rw [if_pos h0, nd_mod (by rw [there_mod]; exact hr) (by rw [there_mod]; exact hk)]
    by_cases e : k = r
    · subst e
      have e3 : ¬ k = h := fun e => hne e.symm
      rw [if_pos rfl, nd_mod hh hr, if_neg e3, if_neg e3, if_pos rfl]
    · rw [if_neg e, nd_mod hh hk, if_neg e]
      by_cases e2 : k = h
      · subst e2
        rw [if_pos rfl, if_pos rfl]
      · rw [if_neg e2, if_neg e2]
  have pr : (nd l r).parent = 0 := T.bare r hr (.inr kr)
  refine ⟨?_, ?_, ?_, ?_, ?_, ?_, ?_⟩
  · intro i hi k hk
    rw [hth] at hi
    rw [hn i hi] at hk
    obtain ⟨h1, h2⟩ := T.kid i hi k hk
    exact ⟨by rw [hth]; exact h1, by rw [hn k h1]; exact h2⟩
  · intro i hi
    rw [hth] at hi
    rw [hn i hi]
    exact T.once i hi
  · intro i hi hq
    rw [hth] at hi
    rw [hn i hi] at hq ⊢
    obtain ⟨h1, h2⟩ := T.par i hi hq
    exact ⟨by rw [hth]; exact h1, by rw [hn _ h1]; exact h2⟩
  · intro i hi hq
    rw [hth] at hi
    rw [hn i hi] at hq ⊢
    exact T.bare i hi hq
  · intro i hi hq
    rw [hth] at hi
    rw [hn i hi] at hq ⊢
    simp only at hq ⊢
    by_cases e : i = h
    · rw [if_pos e]
      refine ⟨by rw [hth]; exact hr, ?_⟩
      rw [hn r hr]
      simp only
      exact ⟨by rw [if_pos trivial, e], kr⟩
    · rw [if_neg e] at hq ⊢
      obtain ⟨h1, h2, h3⟩ := T.shade i hi hq
      refine ⟨by rw [hth]; exact h1, ?_⟩
      rw [hn _ h1]
      simp only
      have hne2 : (nd l i).shadow ≠ r := fun e2 => by
        rw [e2, hor] at h2
        exact there_pos hi h2.symm
      exact ⟨by rw [if_neg hne2]; exact h2, h3⟩
  · intro i hi hq
    rw [hth] at hi
    rw [hn i hi] at hq ⊢
    simp only at hq ⊢
    by_cases e : i = r
    · rw [if_pos e]
      exact ⟨by rw [e]; exact kr, by rw [hth]; exact hh⟩
    · rw [if_neg e] at hq ⊢
      obtain ⟨h1, h2⟩ := T.host i hi hq
      exact ⟨h1, by rw [hth]; exact h2⟩
  · have hup : ∀ i, thereB l i = true → upOf (tieL l h r) i = if i = r then h else upOf l i := fun i hi => by
      unfold upOf
      rw [hn i hi]
      simp only
      by_cases e : i = r
      · rw [if_pos e, if_pos e, e, pr, if_pos rfl]
      · rw [if_neg e, if_neg e]
    refine ends_led hlen T.ends h (fun n x hx => ?_) fun i hi => ?_
    · rw [hup x (up_there n h x hx), if_neg]
      rintro rfl
      exact hov (up_all T.ends hx)
    · rw [hup i hi]
      by_cases e : i = r
      · rw [if_pos e]
        exact .inr (.inl rfl)
      · rw [if_neg e]
        exact .inl rfl

theorem tree_make {l : List Nd} {d : Nd} (T : Tree l) : Tree (mkL l d) := by
  unfold mkL
  split
  case isFalse => exact T
  have ht : ∀ i, thereB (l ++ [bare d]) i = true → (thereB l i = true ∧ nd (l ++ [bare d]) i = nd l i) ∨ (thereB l i = false ∧ nd (l ++ [bare d]) i = bare d) := fun i hi => by
    have h1 := thereB_iff.1 hi
    rw [List.length_append] at h1
    simp only [List.length_cons, List.length_nil] at h1
    by_cases h2 : i ≤ (l.length : Int)
    · have : thereB l i = true := thereB_iff.2 ⟨h1.1, h2⟩
      refine .inl ⟨this, ?_⟩
      rw [nd, nd, List.getD_eq_getElem?_getD, List.getD_eq_getElem?_getD, List.getElem?_append_left (there_lt this)]
    · refine .inr ⟨?_, ?_⟩
      · cases h : thereB l i with
        | false => rfl
        | true => exact absurd (thereB_iff.1 h).2 h2
      · rw [nd, List.getD_eq_getElem?_getD, List.getElem?_append_right (by omega), show (i - 1).toNat - l.length = 0 by omega]
        rfl
  have hb : ∀ i, thereB l i = true → thereB (l ++ [bare d]) i = true ∧ nd (l ++ [bare d]) i = nd l i := fun i hi => by
    have h1 := thereB_iff.1 hi
    have h2 : thereB (l ++ [bare d]) i = true := thereB_iff.2 ⟨h1.1, by simp; omega⟩
    rcases ht i h2 with h | h
    · exact ⟨h2, h.2⟩
    · rw [hi] at h; exact absurd h.1 (by decide)
  refine ⟨?_, ?_, ?_, ?_, ?_, ?_, ?_⟩
  · intro i hi k hk
    rcases ht i hi with ⟨h1, h2⟩ | ⟨_, h2⟩
    · rw [h2] at hk
      obtain ⟨h3, h4⟩ := T.kid i h1 k hk
      exact ⟨(hb k h3).1, by rw [(hb k h3).2]; exact h4⟩
    · rw [h2] at hk
      exact absurd hk (by simp [bare])
  · intro i hi
    rcases ht i hi with ⟨h1, h2⟩ | ⟨_, h2⟩
    · rw [h2]; exact T.once i h1
    · rw [h2]; exact List.nodup_nil
  · intro i hi hq
    rcases ht i hi with ⟨h1, h2⟩ | ⟨_, h2⟩
    · rw [h2] at hq ⊢
      obtain ⟨h3, h4⟩ := T.par i h1 hq
      exact ⟨(hb _ h3).1, by rw [(hb _ h3).2]; exact h4⟩
    · rw [h2] at hq
      exact absurd rfl hq
  · intro i hi hq
    rcases ht i hi with ⟨h1, h2⟩ | ⟨_, h2⟩
    · rw [h2] at hq ⊢; exact T.bare i h1 hq
    · rw [h2]; rfl
  · intro i hi hq
    rcases ht i hi with ⟨h1, h2⟩ | ⟨_, h2⟩
    · rw [h2] at hq ⊢
      obtain ⟨h3, h4, h5⟩ := T.shade i h1 hq
      exact ⟨(hb _ h3).1, by rw [(hb _ h3).2]; exact h4, by rw [(hb _ h3).2]; exact h5⟩
    · rw [h2] at hq
      exact absurd rfl hq
  · intro i hi hq
    rcases ht i hi with ⟨h1, h2⟩ | ⟨_, h2⟩
    · rw [h2] at hq ⊢
      obtain ⟨h3, h4⟩ := T.host i h1 hq
      exact ⟨h3, (hb _ h4).1⟩
    · rw [h2] at hq
      exact absurd rfl hq
  · have hup : ∀ i, thereB l i = true → upOf (l ++ [bare d]) i = upOf l i := fun i hi => by
      unfold upOf
      rw [(hb i hi).2]
    have hto : ∀ i, thereB l i = true → upOf l i = 0 ∨ thereB l (upOf l i) = true := fun i hi => by
      unfold upOf
      by_cases h1 : (nd l i).parent = 0
      · rw [if_pos h1]
        by_cases h2 : (nd l i).host = 0
        · exact .inl h2
        · exact .inr (T.host i hi h2).2
      · rw [if_neg h1]
        exact .inr (T.par i hi h1).1
    have old : ∀ (n : Nat) (i : Int), thereB l i = true → overN (l ++ [bare d]) n i = overN l n i := by
      intro n
      induction n with
      | zero => intro i _; rfl
      | succ n ih =>
        intro i hi
        rw [up_go hi, up_go (hb i hi).1, hup i hi]
        rcases hto i hi with h | h
        · rw [h, up_no (there_zero l), up_no (there_zero _)]
        · rw [ih _ h]
    intro i
    cases hi : thereB (l ++ [bare d]) i with
    | false => exact ends_no hi
    | true =>
      rcases ht i hi with ⟨h1, _⟩ | ⟨_, h2⟩
      · obtain ⟨n, hn⟩ := T.ends i
        exact ⟨n, by rw [old n i h1]; exact hn⟩
      · refine ends_up (ends_no ?_)
        have : upOf (l ++ [bare d]) i = 0 := by
          unfold upOf
          rw [h2]
          rfl
        rw [this]
        exact there_zero _

theorem tree_nil : Tree [] := by
  have h : ∀ i, thereB [] i = false := fun i => by
    cases h : thereB [] i with
    | false => rfl
    | true =>
      have := thereB_iff.1 h
      simp at this
      omega
  refine ⟨?_, ?_, ?_, ?_, ?_, ?_, fun i => ends_no (h i)⟩
  all_goals (intro i hi; rw [h i] at hi; cases hi)
theorem tree_act {l : List Nd} {x : Ac} (T : Tree l) : Tree (actL l x) := by
  unfold actL
  split
  · exact tree_make T
  · split
    · exact tree_put T
    · split
      · exact tree_tie T
      · split
        · exact tree_name T
        · split
          · exact tree_want T
          · exact T
/-- Whatever is called, it is a forest. -/
theorem tree_forest (acts : List Ac) : Tree (forest acts) := by
  have : ∀ (acts : List Ac) (l : List Nd), Tree l → Tree (acts.foldl actL l) := by
    intro acts
    induction acts with
    | nil => intro l T; exact T
    | cons x r ih => intro l T; exact ih _ (tree_act T)
  exact this acts [] tree_nil
end Go.Proofs.Ytekmgaigppenlaa

namespace Go.Proofs.Ytekmgaigppenlaa
open Go

/-- A node, its parent, and so on. -/
def parN (l : List Nd) : Nat → Int → List Int
  | 0, _ => []
  | n + 1, id => if thereB l id then id :: parN l n (nd l id).parent else []
def parL (l : List Nd) (id : Int) : List Int := parN l (l.length + 1) id
/-- A node and all below it. -/
def ordN (l : List Nd) : Nat → Int → List Int
  | 0, _ => []
  | n + 1, id => if thereB l id then id :: (nd l id).kids.flatMap (ordN l n) else []
def ordL (l : List Nd) (id : Int) : List Int := ordN l (l.length + 1) id
/-- The last one of a list; 0: there is none. -/
def lastL (xs : List Int) : Int := xs.getLastD 0
def rootL (l : List Nd) (id : Int) : Int := lastL (parL l id)

section
variable {l : List Nd} {n : Nat} {i x k : Int}
theorem par_go (h : thereB l i = true) : parN l (n + 1) i = i :: parN l n (nd l i).parent := by rw [parN, if_pos h]
theorem par_no (h : thereB l i = false) : parN l n i = [] := by
  cases n with
  | zero => rfl
  | succ n => rw [parN, if_neg (by rw [h]; decide)]
/-- It is the beginning of the way up. -/
theorem par_pre : ∀ (n : Nat) (i : Int), parN l n i <+: overN l n i
  | 0, _ => List.prefix_refl _
  | n + 1, i => by
    cases h : thereB l i with
    | false => rw [par_no h]; exact List.nil_prefix
    | true =>
      rw [par_go h, up_go h, List.cons_prefix_cons]
      refine ⟨rfl, ?_⟩
      by_cases hp : (nd l i).parent = 0
      · rw [hp, par_no (there_zero l)]
        exact List.nil_prefix
      · have e : upOf l i = (nd l i).parent := if_neg hp
        rw [e]
        exact par_pre n _
theorem par_short (T : Tree l) (n : Nat) (i : Int) : (parN l n i).length ≤ l.length := Nat.le_trans (par_pre n i).length_le (up_short T.ends n i)
theorem par_once (T : Tree l) (n : Nat) (i : Int) : (parN l n i).Nodup := (up_once T.ends n i).sublist (par_pre n i).sublist
theorem par_more : ∀ (n : Nat) (i : Int), (parN l n i).length < n → parN l (n + 1) i = parN l n i
  | 0, _, h => absurd h (Nat.not_lt_zero _)
  | n + 1, i, h => by
    cases ht : thereB l i with
    | false => rw [par_no ht, par_no ht]
    | true =>
      rw [par_go ht] at h
      rw [par_go ht, par_go (n := n) ht, par_more n _ (by simpa using h)]
theorem parL_no (h : thereB l i = false) : parL l i = [] := par_no h
theorem parL_step (T : Tree l) (h : thereB l i = true) : parL l i = i :: parL l (nd l i).parent := by
  have e : parL l i = i :: parN l l.length (nd l i).parent := par_go h
  have hs : (parL l i).length ≤ l.length := par_short T (l.length + 1) i
  rw [e] at hs
  simp only [List.length_cons] at hs
  rw [e]
  show _ = i :: parN l (l.length + 1) _
  rw [par_more l.length _ (by omega)]
theorem parL_len (T : Tree l) (i : Int) : (parL l i).length ≤ l.length := par_short T _ i
theorem parL_once (T : Tree l) (i : Int) : (parL l i).Nodup := par_once T _ i
theorem par_there : ∀ (n : Nat) (i x : Int), x ∈ parN l n i → thereB l x = true := fun n i x h => up_there n i x ((par_pre n i).subset h)
theorem parL_there (h : x ∈ parL l i) : thereB l x = true := par_there _ i x h
theorem parL_self (T : Tree l) (h : thereB l i = true) : i ∈ parL l i := by rw [parL_step T h]; exact List.mem_cons_self
theorem parL_kid (T : Tree l) (h : thereB l i = true) (hk : k ∈ (nd l i).kids) : parL l k = k :: parL l i := by
  obtain ⟨h1, h2⟩ := T.kid i h k hk
  rw [parL_step T h1, h2]
/-- The way up from one on a way up is its end. -/
theorem parL_tail (T : Tree l) : ∀ (m : Nat) (i : Int), (parL l i).length ≤ m → ∀ x, x ∈ parL l i → parL l x <:+ parL l i
  | 0, i, hm, x, h => by
    have : parL l i = [] := List.length_eq_zero_iff.1 (by omega)
    rw [this] at h
    cases h
  | m + 1, i, hm, x, h => by
    cases ht : thereB l i with
    | false => rw [parL_no ht] at h; cases h
    | true =>
      have e := parL_step T ht
      rw [e] at h
      rcases List.mem_cons.1 h with rfl | h
      · exact List.suffix_refl _
      · rw [e] at hm
        rw [e]
        exact (parL_tail T m _ (by simpa using hm) x h).trans (List.suffix_cons _ _)
theorem parL_suffix (T : Tree l) (h : x ∈ parL l i) : parL l x <:+ parL l i := parL_tail T _ i (Nat.le_refl _) x h
theorem parL_trans (T : Tree l) {y : Int} (h : x ∈ parL l i) (h' : y ∈ parL l x) : y ∈ parL l i := (parL_suffix T h).subset h'
theorem parL_par (T : Tree l) (h : x ∈ parL l i) (hp : thereB l (nd l x).parent = true) : (nd l x).parent ∈ parL l i := by
  refine parL_trans T h ?_
  rw [parL_step T (parL_there h)]
  exact List.mem_cons_of_mem _ (parL_self T hp)
/-- Two on one way up, of one length: one. -/
theorem parL_same (T : Tree l) {a b : Int} (ha : a ∈ parL l i) (hb : b ∈ parL l i) (hl : (parL l a).length = (parL l b).length) : a = b := by
  obtain ⟨p, hp⟩ := parL_suffix T ha
  obtain ⟨q, hq⟩ := parL_suffix T hb
  have e : parL l a = parL l b := (List.append_inj' (hp.trans hq.symm) hl).2
  rw [parL_step T (parL_there ha), parL_step T (parL_there hb)] at e
  exact (List.cons.inj e).1

/-- How much is below at most. -/
theorem ord_no (h : thereB l i = false) : ordN l n i = [] := by
  cases n with
  | zero => rfl
  | succ n => rw [ordN, if_neg (by rw [h]; decide)]
theorem ord_go (h : thereB l i = true) : ordN l (n + 1) i = i :: (nd l i).kids.flatMap (ordN l n) := by rw [ordN, if_pos h]
theorem flatMap_same {f g : Int → List Int} : ∀ (ks : List Int), (∀ k ∈ ks, f k = g k) → ks.flatMap f = ks.flatMap g
  | [], _ => rfl
  | k :: r, h => by rw [List.flatMap_cons, List.flatMap_cons, h k (by simp), flatMap_same r fun k' hk' => h k' (by simp [hk'])]
theorem ord_stay (T : Tree l) : ∀ (n m : Nat) (i : Int), l.length + 1 ≤ n + (parL l i).length → l.length + 1 ≤ m + (parL l i).length → ordN l n i = ordN l m i
  | 0, m, i, hn, _ => by have := parL_len T i; omega
  | n + 1, 0, i, _, hm => by have := parL_len T i; omega
  | n + 1, m + 1, i, hn, hm => by
    cases ht : thereB l i with
    | false => rw [ord_no ht, ord_no ht]
    | true =>
      rw [ord_go ht, ord_go ht]
      congr 1
      refine flatMap_same _ fun k hk => ?_
      have e := congrArg List.length (parL_kid T ht hk)
      simp only [List.length_cons] at e
      exact ord_stay T n m k (by omega) (by omega)
theorem ordL_no (h : thereB l i = false) : ordL l i = [] := ord_no h
theorem ordL_step (T : Tree l) (h : thereB l i = true) : ordL l i = i :: (nd l i).kids.flatMap (ordL l) := by
  have e : ordL l i = i :: (nd l i).kids.flatMap (ordN l l.length) := ord_go h
  rw [e]
  congr 1
  refine flatMap_same _ fun k hk => ?_
  have e' := congrArg List.length (parL_kid T h hk)
  have h1 := congrArg List.length (parL_step T h)
  simp only [List.length_cons] at e' h1
  exact ord_stay T _ _ k (by omega) (by omega)

/-- What is below has it above. -/
theorem ord_above (T : Tree l) : ∀ (n : Nat) (i x : Int), x ∈ ordN l n i → i ∈ parL l x
  | 0, _, _, h => by cases h
  | n + 1, i, x, h => by
    cases ht : thereB l i with
    | false => rw [ord_no ht] at h; cases h
    | true =>
      rw [ord_go ht] at h
      rcases List.mem_cons.1 h with rfl | h
      · exact parL_self T ht
      · obtain ⟨k, hk, hx⟩ := List.mem_flatMap.1 h
        have h1 := ord_above T n k x hx
        have h2 := (T.kid i ht k hk).2
        have := parL_par T h1 (by rw [h2]; exact ht)
        rwa [h2] at this
theorem ord_kid : ∀ (n : Nat) (i y k : Int), y ∈ ordN l n i → thereB l y = true → thereB l k = true → k ∈ (nd l y).kids → k ∈ ordN l (n + 1) i
  | 0, _, _, _, h, _, _, _ => by cases h
  | n + 1, i, y, k, h, hy, hkt, hk => by
    cases ht : thereB l i with
    | false => rw [ord_no ht] at h; cases h
    | true =>
      rw [ord_go ht] at h
      rw [ord_go ht]
      rcases List.mem_cons.1 h with rfl | h
      · refine List.mem_cons_of_mem _ (List.mem_flatMap.2 ⟨k, hk, ?_⟩)
        rw [ord_go hkt]
        exact List.mem_cons_self
      · obtain ⟨k', hk', hx⟩ := List.mem_flatMap.1 h
        exact List.mem_cons_of_mem _ (List.mem_flatMap.2 ⟨k', hk', ord_kid n k' y k hx hy hkt hk⟩)
theorem ordL_kid (T : Tree l) {y : Int} (h : y ∈ ordL l i) (hy : thereB l y = true) (hk : k ∈ (nd l y).kids) : k ∈ ordL l i := by
  have := ord_kid (l.length + 1) i y k h hy (T.kid y hy k hk).1 hk
  rw [ord_stay T (l.length + 1 + 1) (l.length + 1) i (by omega) (by omega)] at this
  exact this
theorem ordL_mem (T : Tree l) : x ∈ ordL l i ↔ i ∈ parL l x := by
  refine ⟨ord_above T _ i x, fun h => ?_⟩
  have go : ∀ (m : Nat) (x : Int), (parL l x).length ≤ m → i ∈ parL l x → x ∈ ordL l i := by
    intro m
    induction m with
    | zero =>
      intro x hm h
      have : parL l x = [] := List.length_eq_zero_iff.1 (by omega)
      rw [this] at h
      cases h
    | succ m ih =>
      intro x hm h
      cases ht : thereB l x with
      | false => rw [parL_no ht] at h; cases h
      | true =>
        have e := parL_step T ht
        rw [e] at h hm
        rcases List.mem_cons.1 h with rfl | h
        · rw [ordL_step T ht]
          exact List.mem_cons_self
        · have hpt : thereB l (nd l x).parent = true := by
            cases hq : thereB l (nd l x).parent with
            | true => rfl
            | false => rw [parL_no hq] at h; cases h
          have h0 : (nd l x).parent ≠ 0 := there_pos hpt
          exact ordL_kid T (ih _ (by simpa using hm) h) hpt (T.par x ht h0).2
  exact go _ x (Nat.le_refl _) h
theorem ordL_there (T : Tree l) (h : x ∈ ordL l i) : thereB l x = true := by
  have h1 := (ordL_mem T).1 h
  cases ht : thereB l x with
  | true => rfl
  | false => rw [parL_no ht] at h1; cases h1

theorem flatMap_nodup {f : Int → List Int} : ∀ (ks : List Int), ks.Nodup → (∀ k ∈ ks, (f k).Nodup) → (∀ a ∈ ks, ∀ b ∈ ks, ∀ x, x ∈ f a → x ∈ f b → a = b) → (ks.flatMap f).Nodup
  | [], _, _, _ => List.nodup_nil
  | k :: r, hn, hf, hd => by
    rw [List.flatMap_cons, List.nodup_append]
    obtain ⟨h1, h2⟩ := List.nodup_cons.1 hn
    refine ⟨hf k (by simp), flatMap_nodup r h2 (fun k' hk' => hf k' (by simp [hk'])) (fun a ha b hb => hd a (by simp [ha]) b (by simp [hb])), fun x hx y hy e => ?_⟩
    subst e
    obtain ⟨k', hk', hx'⟩ := List.mem_flatMap.1 hy
    have := hd k (by simp) k' (by simp [hk']) x hx hx'
    subst this
    exact h1 hk'
theorem ord_once (T : Tree l) : ∀ (n : Nat) (i : Int), (ordN l n i).Nodup
  | 0, _ => List.nodup_nil
  | n + 1, i => by
    cases ht : thereB l i with
    | false => rw [ord_no ht]; exact List.nodup_nil
    | true =>
      rw [ord_go ht, List.nodup_cons]
      refine ⟨fun h => ?_, flatMap_nodup _ (T.once i ht) (fun k _ => ord_once T n k) fun a ha b hb x hxa hxb => ?_⟩
      · obtain ⟨k, hk, hx⟩ := List.mem_flatMap.1 h
        have h1 := ord_above T n k i hx
        have h2 := parL_once T k
        rw [parL_kid T ht hk] at h2
        exact (List.nodup_cons.1 h2).1 h1
      · refine parL_same T (ord_above T n a x hxa) (ord_above T n b x hxb) ?_
        rw [parL_kid T ht ha, parL_kid T ht hb]
        rfl
theorem ordL_once (T : Tree l) (i : Int) : (ordL l i).Nodup := ord_once T _ i
theorem ordL_len (T : Tree l) (i : Int) : (ordL l i).length ≤ l.length := by
  have h := pigeon l.length ((ordL l i).map fun x => (x - 1).toNat) (by
    refine List.pairwise_map.2 ((ordL_once T i).imp_of_mem fun {a b} ha hb hab e => hab ?_)
    have h1 := thereB_iff.1 (ordL_there T ha)
    have h2 := thereB_iff.1 (ordL_there T hb)
    omega) fun y hy => by
      obtain ⟨x, hx, rfl⟩ := List.mem_map.1 hy
      exact there_lt (ordL_there T hx)
  simpa using h

/-- Each has its parent ahead of it. -/
def Beh (l : List Nd) : List Int → List Int → Prop
  | _, [] => True
  | acc, x :: r => (nd l x).parent ∈ acc ∧ Beh l (x :: acc) r
theorem beh_mono : ∀ (xs acc acc' : List Int), (∀ y, y ∈ acc → y ∈ acc') → Beh l acc xs → Beh l acc' xs
  | [], _, _, _, _ => trivial
  | x :: r, acc, acc', h, hb => ⟨h _ hb.1, beh_mono r _ _ (fun y hy => by
      rcases List.mem_cons.1 hy with rfl | hy
      · exact List.mem_cons_self
      · exact List.mem_cons_of_mem _ (h y hy)) hb.2⟩
theorem beh_append : ∀ (xs ys acc : List Int), Beh l acc xs → Beh l acc ys → Beh l acc (xs ++ ys)
  | [], _, _, _, h => h
  | _ :: r, ys, _, h, h' => ⟨h.1, beh_append r ys _ h.2 (beh_mono ys _ _ (fun _ hy => List.mem_cons_of_mem _ hy) h')⟩
theorem beh_flat {f : Int → List Int} {acc : List Int} : ∀ (ks : List Int), (∀ k ∈ ks, Beh l acc (f k)) → Beh l acc (ks.flatMap f)
  | [], _ => trivial
  | k :: r, h => by
    rw [List.flatMap_cons]
    exact beh_append _ _ _ (h k (by simp)) (beh_flat r fun k' hk' => h k' (by simp [hk']))
theorem beh_ord (T : Tree l) : ∀ (n : Nat) (i : Int) (acc : List Int), (nd l i).parent ∈ acc → Beh l acc (ordN l n i)
  | 0, _, _, _ => trivial
  | n + 1, i, acc, h => by
    cases ht : thereB l i with
    | false => rw [ord_no ht]; trivial
    | true =>
      rw [ord_go ht]
      exact ⟨h, beh_flat _ fun k hk => beh_ord T n k _ (by rw [(T.kid i ht k hk).2]; exact List.mem_cons_self)⟩
theorem beh_at : ∀ (xs acc : List Int) (j : Nat) (hj : j < xs.length), Beh l acc xs → (nd l xs[j]).parent ∈ acc ∨ (nd l xs[j]).parent ∈ xs.take j
  | [], _, j, hj, _ => absurd hj (Nat.not_lt_zero j)
  | _ :: _, _, 0, _, h => .inl h.1
  | x :: r, acc, j + 1, hj, h => by
    rcases beh_at r (x :: acc) j (by simpa using hj) h.2 with h' | h'
    · rcases List.mem_cons.1 h' with h' | h'
      · right
        rw [List.take_succ_cons]
        simp only [List.getElem_cons_succ, h']
        exact List.mem_cons_self
      · exact .inl h'
    · right
      rw [List.take_succ_cons]
      exact List.mem_cons_of_mem _ h'
/-- In tree order each one but the first stands behind its parent. -/
theorem ordL_behind (T : Tree l) {j : Nat} (hj : j < (ordL l i).length) (h0 : 0 < j) : (nd l (ordL l i)[j]).parent ∈ (ordL l i).take j := by
  cases ht : thereB l i with
  | false =>
    rw [ordL_no ht] at hj
    exact absurd hj (Nat.not_lt_zero j)
  | true =>
    obtain ⟨m, rfl⟩ : ∃ m, j = m + 1 := ⟨j - 1, by omega⟩
    have e := ordL_step T ht
    have hb : Beh l [i] ((nd l i).kids.flatMap (ordL l)) := beh_flat _ fun k hk => beh_ord T _ k _ (by rw [(T.kid i ht k hk).2]; exact List.mem_cons_self)
    generalize hz : ordL l i = z at hj e ⊢
    subst e
    have hm : m < ((nd l i).kids.flatMap (ordL l)).length := by simpa using hj
    simp only [List.getElem_cons_succ, List.take_succ_cons]
    rcases beh_at _ _ m hm hb with h | h
    · rw [List.mem_singleton.1 h]
      exact List.mem_cons_self
    · exact List.mem_cons_of_mem _ h

theorem lastL_suffix {xs ys : List Int} (h : xs <:+ ys) (hx : xs ≠ []) : lastL ys = lastL xs := by
  obtain ⟨p, rfl⟩ := h
  unfold lastL
  rw [List.getLastD_eq_getLast?, List.getLastD_eq_getLast?, List.getLast?_append, List.getLast?_eq_some_getLast hx, Option.some_or]
theorem lastL_mem {xs : List Int} (h : xs ≠ []) : lastL xs ∈ xs := by
  unfold lastL
  rw [List.getLastD_eq_getLast?, List.getLast?_eq_some_getLast h]
  exact List.getLast_mem h
theorem rootL_no (h : thereB l i = false) : rootL l i = 0 := by
  unfold rootL
  rw [parL_no h]
  rfl
theorem parL_ne (T : Tree l) (h : thereB l i = true) : parL l i ≠ [] := by
  rw [parL_step T h]
  simp
theorem rootL_mem (T : Tree l) (h : thereB l i = true) : rootL l i ∈ parL l i := lastL_mem (parL_ne T h)
theorem rootL_there (T : Tree l) (h : thereB l i = true) : thereB l (rootL l i) = true := parL_there (rootL_mem T h)
/-- A root has no parent. -/
theorem rootL_bare (T : Tree l) (h : thereB l i = true) : (nd l (rootL l i)).parent = 0 := by
  refine Decidable.byContradiction fun hp => ?_
  have hr := rootL_mem T h
  have ht := parL_there hr
  have hpt := (T.par _ ht hp).1
  have e : parL l (rootL l i) = rootL l i :: parL l (nd l (rootL l i)).parent := parL_step T ht
  have hs := lastL_suffix (parL_suffix T hr) (parL_ne T ht)
  have hs2 : lastL (parL l (rootL l i)) = lastL (parL l (nd l (rootL l i)).parent) := lastL_suffix (by rw [e]; exact List.suffix_cons _ _) (parL_ne T hpt)
  have hm := lastL_mem (parL_ne T hpt)
  have hn := parL_once T (rootL l i)
  rw [e] at hn
  refine (List.nodup_cons.1 hn).1 ?_
  rw [← hs2, ← hs] at hm
  exact hm
theorem parL_root (T : Tree l) (h : thereB l i = true) : parL l (rootL l i) = [rootL l i] := by
  rw [parL_step T (rootL_there T h), rootL_bare T h, parL_no (there_zero l)]
/-- What has a root above has it as its root. -/
theorem rootL_of (T : Tree l) (h : thereB l i = true) (hx : rootL l i ∈ parL l x) : rootL l x = rootL l i := by
  have := lastL_suffix (parL_suffix T hx) (parL_ne T (rootL_there T h))
  unfold rootL
  rw [this, parL_root T h]
  rfl
end
end Go.Proofs.Ytekmgaigppenlaa

namespace Go.Proofs.Ytekmgaigppenlaa
open Go Go.RowKit

/-- A list of nodes of the call's own; its row lies from block B on; all its blocks G names. -/
def Nodes (G : Nat → Prop) (w : World) (B : Nat) (A : Option Addr) (c : Nat) (l : List Nd) : Prop :=
  ∃ rows : List (Nd × Value), rows.map Prod.fst = l ∧ w.ownsRow B 57 9 (.slice A l.length c) l.length (flat rows) ∧ (∀ p ∈ rows, Kids G w p.2 p.1.kids) ∧ ∀ b off s, A = some ⟨b, off, s⟩ → G b

section
variable {G : Nat → Prop} {w w' : World} {F : Nat → Prop} {B B' base n size : Nat} {e : TypeId} {A : Option Addr} {c : Nat} {l : List Nd} {v : Value} {xs : List Int} {us : List Value}
theorem Nodes.kept (h : Nodes G w B A c l) (k : Keeps F w w') (hF : ∀ i, i < w.heap.size → ¬ F i) : Nodes G w' B A c l := by
  obtain ⟨rows, h1, h2, h3, h4⟩ := h
  exact ⟨rows, h1, own_kept h2 k fun g hg => hF g (own_in h2 g hg), fun p hp => (h3 p hp).kept k hF, h4⟩
theorem Nodes.keptG (h : Nodes G w B A c l) (k : Keeps F w w') (hF : ∀ i, G i → i < w.heap.size → ¬ F i) : Nodes G w' B A c l := by
  obtain ⟨rows, h1, h2, h3, h4⟩ := h
  refine ⟨rows, h1, own_kept h2 k fun g hg => ?_, fun p hp => (h3 p hp).keptG k hF, h4⟩
  obtain ⟨a, rfl, rfl⟩ : ∃ a, A = some a ∧ a.block = g := by
    cases A with
    | none => cases hg
    | some a => exact ⟨a, rfl, by simpa [Value.ownBlock] using hg⟩
  exact hF _ (h4 _ _ _ rfl) (own_in h2 _ hg)
theorem Nodes.wide {G' : Nat → Prop} (h : Nodes G w B A c l) (hG : ∀ i, G i → i < w.heap.size → G' i) : Nodes G' w B A c l := by
  obtain ⟨rows, h1, h2, h3, h4⟩ := h
  refine ⟨rows, h1, h2, fun p hp => (h3 p hp).wide hG, fun b off s e => ?_⟩
  subst e
  exact hG b (h4 b off s rfl) (own_in h2 b rfl)
theorem Nodes.below (h : Nodes G w B A c l) (k : Below w.heap.size w w') : Nodes G w' B A c l := h.kept (Keeps.of_below (F := fun i => w.heap.size ≤ i) k fun _ _ h => h) fun _ hi => Nat.not_le.2 hi
theorem Nodes.drewN (h : Nodes G w B A c l) (n : Nat) : Nodes G (w.drewN n) B A c l := h
theorem Nodes.nil (w : World) (B : Nat) : Nodes G w B none 0 [] := ⟨[], rfl, World.ownsRow_nil _ _ _ _, fun _ h => absurd h (by simp), fun _ _ _ h => absurd h (by simp)⟩
theorem Nodes.from_ (h : Nodes G w B A c l) (hb : B' ≤ B) : Nodes G w B' A c l := by
  obtain ⟨rows, h1, h2, h3, h4⟩ := h
  exact ⟨rows, h1, own_base h2 hb, h3, h4⟩
theorem Nodes.cap (h : Nodes G w B A c l) : l.length ≤ c := by
  obtain ⟨rows, h1, h2, h3, h4⟩ := h
  rcases h2.2 with ⟨hv, h0⟩ | ⟨g, cap, cur, hv, _, _, hc, _⟩
  · omega
  · injection hv with _ _ e; omega
theorem Nodes.inside (h : Nodes G w B A c l) : ∀ b off s, A = some ⟨b, off, s⟩ → b < w.heap.size := by
  rintro b off s rfl
  obtain ⟨rows, h1, h2, h3, h4⟩ := h
  exact own_in h2 b rfl

/-- A node of it, cell by cell. -/
theorem Nodes.at_ (h : Nodes G w B A c l) {i : Nat} (hi : i < l.length) : ∃ g k, A = some ⟨g, 0, none⟩ ∧ B ≤ g ∧ Kids G w k l[i].kids ∧ (∀ j, w.frozen? ⟨g, j, none⟩ = false) ∧ ∀ f, f < 9 → w.cell? ⟨g, i * 9 + f, none⟩ = (l[i].cells k)[f]? := by
  obtain ⟨rows, rfl, h2, h3, h4⟩ := h
  have hi' : i < rows.length := by simpa using hi
  rcases h2.2 with ⟨_, h0⟩ | ⟨g, cap, cur, hv, hg, hh, _⟩
  · omega
  obtain ⟨rfl, rfl⟩ : A = some ⟨g, 0, none⟩ ∧ c = cap := by injection hv with e1 _ e3; exact ⟨e1, e3⟩
  refine ⟨g, rows[i].2, rfl, hg, ?_, fun j => h2.frozenAt j, fun f hf => ?_⟩
  · rw [List.getElem_map]
    exact h3 _ (List.getElem_mem hi')
  · rw [h2.cellAt _ (by simp; omega), flat_get (List.getElem?_eq_getElem hi') hf, List.getElem_map]
/-- One cell is written: the node is another one. -/
theorem Nodes.store {g : Nat} (h : Nodes G w B (some ⟨g, 0, none⟩) c l) {i : Nat} (hi : i < l.length) {f : Nat} (hf : f < 9) {u : Value} {d : Nd} (hd : ∀ k', ∃ k'', d.cells k'' = (l[i].cells k').set f u ∧ (Kids G w k' l[i].kids → Kids G w k'' d.kids)) :
    Nodes G (w.setCell ⟨g, i * 9 + f, none⟩ u) B (some ⟨g, 0, none⟩) c (l.set i d) := by
  obtain ⟨rows, rfl, h2, h3, h4⟩ := h
  have hi' : i < rows.length := by simpa using hi
  obtain ⟨k'', hk1, hk2⟩ := hd rows[i].2
  rw [List.getElem_map] at hk1 hk2
  have hg : ∃ cur, Has w g (.cells cur 57 (0, 0)) := by
    rcases h2.2 with ⟨hv, _⟩ | ⟨g', cap, cur, hv, _, hh, _⟩
    · cases hv
    · obtain rfl : g = g' := by injection hv with e1; simpa using e1
      exact ⟨cur, hh⟩
  obtain ⟨cur, hg⟩ := hg
  refine ⟨rows.set i (d, k''), by rw [List.map_set], ?_, fun p hp => ?_, h4⟩
  · have := (h2.stored (i * 9 + f) u).1
    rw [List.length_set]
    rw [flat_set (List.getElem?_eq_getElem hi') hf hk1]
    exact this
  · rcases List.mem_or_eq_of_mem_set hp with hp | rfl
    · exact (h3 p hp).aside hg (by decide)
    · exact (hk2 (h3 _ (List.getElem_mem hi'))).aside hg (by decide)
end
end Go.Proofs.Ytekmgaigppenlaa

namespace Go.Proofs.Ytekmgaigppenlaa
open Go Go.ChangeShapes Go.WideShapes Go.ChangeAt Go.RowKit
variable {G : Nat → Prop}

/-- What a slice gives to an append: m elements of so many cells; nil gives none. -/
def Gives (w : World) (size : Nat) (x : Value) (m : Nat) (us : List Value) : Prop :=
  (x = .slice none 0 0 ∧ m = 0 ∧ us = []) ∨ ∃ ad c, x = .slice (some ad) m c ∧ us.length = m * size ∧ ∀ j u, us[j]? = some u → w.cell? (ad.add j) = some u

theorem own_gives {w : World} {base n size : Nat} {e : TypeId} {v : Value} {us : List Value} (h : w.ownsRow base e size v n us) : Gives w size v n us := by
  rcases h.2 with ⟨rfl, rfl⟩ | ⟨g, cap, cur, rfl, _, hg, _⟩
  · exact .inl ⟨rfl, rfl, List.eq_nil_of_length_eq_zero (by simpa using h.1)⟩
  · exact .inr ⟨_, _, rfl, h.1, h.cells rfl⟩
theorem nums_gives {w : World} {B n c : Nat} {A : Option Addr} {xs : List Int} (h : Nums w B A .i64 xs) (hn : n = xs.length) (h0 : A = none → c = 0) : Gives w 1 (.slice A n c) n (xs.map (Value.int .i64)) := by
  subst hn
  cases A with
  | none =>
    obtain rfl := h0 rfl
    have : xs = [] := by
      cases xs with
      | nil => rfl
      | cons x r =>
        obtain ⟨_, _, e, _⟩ := h 0 (by simp)
        cases e
    subst this
    exact .inl ⟨rfl, rfl, rfl⟩
  | some a =>
    refine .inr ⟨a, c, rfl, by simp, fun j u hu => ?_⟩
    obtain ⟨hj, rfl⟩ := List.getElem?_eq_some_iff.1 hu
    rw [List.length_map] at hj
    obtain ⟨b, off, e, _, hc⟩ := h j hj
    cases e
    rw [Addr.add_lit, hc, List.getElem_map]

theorem wpList_append_gives {P : Program} {w : World} {ops : Array Oper} {rest : List Oper} {o : Oper} {a : Act} {Q : Exit → Act → World → Prop} (hgd : o.guard = none) (s x : Operand) (t : TypeId)
    (ho : o.op = .call { callee := .builtin .append, args := #[s, x], argTypes := #[t, t] })
    (base : Nat) (e : TypeId) (i : TypeInfo) (z : Value) (size bytes : Nat) (ht : P.underlying t = some (.slice e)) (hi : P.info? e = some i) (hz : i.zero = some z)
    (hsize : i.size = size) (hby : i.bytes = bytes) (hzs : z.cells.size = size) (hsz : 0 < size)
    (v : Value) (n : Nat) (xs : List Value) (hs : a.eval s = v) (hown : w.ownsRow base e size v n xs)
    (X : Value) (m : Nat) (us : List Value) (hx : a.eval x = X) (hG : Gives w size X m us) (h1 : ∀ u ∈ us, u.oneCell' = true)
    (h63 : n + m ≤ maxLen) (hbytes : (n + m) * bytes ≤ 140737488355328) (hbase : base ≤ w.heap.size)
    (h : ∀ v' w', w'.ownsRow base e size v' (n + m) (xs ++ us) → w.grownBy w' v.ownBlock → wpList P ops Q rest (a.put o.dst v') w') : wpList P ops Q (o :: rest) a w := by
  rcases hG with ⟨rfl, rfl, rfl⟩ | ⟨ad, c, rfl, hl, hc⟩
  · refine wpList_append_own_none hgd s x t ho base e i size ht hi v n xs hs hown hx (h v w ?_ ⟨rfl, rfl, rfl, Nat.le_refl _, fun _ _ _ => rfl⟩)
    rw [List.append_nil]
    exact hown
  · exact wpList_append_own w hgd s x t ho base e i z size bytes ht hi hz hsize hby hzs hsz v n xs hs hown ad m c us hx hl hc h1 h63 hbytes hbase fun v' w' h2 h3 _ => h v' w' h2 h3

theorem own_form {w : World} {base n size : Nat} {e : TypeId} {v : Value} {us : List Value} (h : w.ownsRow base e size v n us) : ∃ A c, v = .slice A n c ∧ n ≤ c := by
  rcases h.2 with ⟨rfl, rfl⟩ | ⟨g, cap, cur, rfl, _, _, hc, _⟩
  · exact ⟨_, _, rfl, Nat.le_refl _⟩
  · exact ⟨_, _, rfl, hc⟩

theorem Try.infoInt : (Try.prog.info? 3).map (fun i => (i.zero, i.size, i.bytes)) = some (some (.int .i64 0), 1, 8) := by kernel_rfl

theorem kids_one (xs : List Int) : ∀ u ∈ xs.map (Value.int .i64), u.oneCell' = true := by
  intro u hu
  obtain ⟨x, _, rfl⟩ := List.mem_map.1 hu
  rfl
theorem Kids.one {w : World} {v : Value} {xs : List Int} (h : Kids G w v xs) : v.oneCell' = true := by
  rcases h.1.2 with ⟨rfl, _⟩ | ⟨g, cap, cur, rfl, _⟩ <;> rfl

/-- A new list of numbers, and nothing else. -/
theorem kids_new {wr w2 : World} {v2 : Value} {kd : List Int} (ho : w2.ownsRow wr.heap.size 3 1 v2 (0 + kd.length) ([] ++ kd.map (Value.int .i64))) (hg : (wr.alloc (.cells #[] 3)).grownBy w2 (some wr.heap.size)) (hG : Fut G wr.heap.size) :
    Kids G w2 v2 kd ∧ Below wr.heap.size wr w2 ∧ wr.heap.size < w2.heap.size := by
  rw [Nat.zero_add, List.nil_append] at ho
  refine ⟨⟨own_base ho (Nat.zero_le _), fun g hg => hG g (ho.lt g hg).1⟩, ((Below.refl _ wr).alloc (Nat.le_refl _) _).grown hg (by simp) fun k hk => ?_, ?_⟩
  · have : wr.heap.size = k := by simpa using hk
    omega
  · have := hg.size
    simp at this
    omega
theorem cell_in {w : World} {a : Addr} {v : Value} (h : w.cell? a = some v) : a.block < w.heap.size := by
  rcases Nat.lt_or_ge a.block w.heap.size with h' | h'
  · exact h'
  · rw [World.cell?, Array.getElem?_eq_none h'] at h
    cases h

/-- A list of numbers within what came in. -/
structure ListIn (w : World) (A : Option Addr) (c : Nat) (xs : List Int) : Prop where
  cap : xs.length ≤ c
  nil : A = none → c = 0
  nums : Nums w w.heap.size A .i64 xs

section
variable {H : Type} {enc : TypeId × Value → H} {W : World} {sp : Nat → Bool} {held : Bool} {fuel : Nat} {cs : List Value} {y : DataW H × List MemPlace}

theorem list_in (h : DataW.trod enc Try.prog W 0 sp held fuel 55 cs = some y) : ∃ A c xs, cs = [.slice A (List.length xs) c] ∧ ListIn W A c xs := by
  rcases open_ints Try.underlying55 Try.underlying3 (by kernel_rfl) h with ⟨rfl, _⟩ | ⟨a, n, cap, zs, rfl, _, hl, hm, hz, hxe, hcell, hws⟩
  · exact ⟨none, 0, [], rfl, Nat.le_refl 0, fun _ => rfl, fun i hi => absurd hi (Nat.not_lt_zero i)⟩
  · have hge : n ≤ zs.length := by rw [hz]; split <;> omega
    have hlen : (zs.take n).length = n := by rw [List.length_take]; omega
    refine ⟨some a, cap, zs.take n, by rw [hlen], by rw [hlen]; exact hl, fun e => absurd e (by simp), fun i hi => ?_⟩
    rw [hlen] at hi
    have hi' : i < zs.length := by omega
    have hc := hcell i hi'
    have hc0 := hcell 0 (by omega)
    obtain ⟨b, off, spot⟩ := a
    obtain rfl : spot = none := by simpa [Addr.add] using World.cell?_spot hc0
    rw [Addr.add_lit] at hc
    refine ⟨b, off, rfl, cell_in hc, hc.trans ?_⟩
    rw [List.getElem_take, List.getD_eq_getElem?_getD, List.getElem?_eq_getElem hi']
    rfl

/-- One cell of a row, by its part. -/
theorem part_one {cs : List Value} {i n : Nat} {v : Value} (h : (cs.drop i).take n = [v]) (hn : n = 1) : cs[i]? = some v := by
  subst hn
  have : ((cs.drop i).take 1)[0]? = some v := by rw [h]; rfl
  rw [List.getElem?_take, if_pos (by omega), List.getElem?_drop] at this
  exact this

end
theorem ListIn.below {w w' : World} {A : Option Addr} {c : Nat} {xs : List Int} (h : ListIn w A c xs) (hb : Below w.heap.size w w') : ListIn w' A c xs := ⟨h.cap, h.nil, (h.nums.below hb).mono hb.size⟩
theorem listNone (W : World) : ListIn W none 0 [] := ⟨Nat.le_refl 0, fun _ => rfl, fun i hi => absurd hi (Nat.not_lt_zero i)⟩
/-- A literal of numbers. -/
theorem listLit {W : World} {b : Nat} {t : TypeId} {fr : Nat × Nat} {xs : List Int} (hh : Has W b (.cells (xs.map (Value.int .i64)).toArray t fr)) : ListIn W (some ⟨b, 0, none⟩) xs.length xs :=
  ⟨Nat.le_refl _, (fun e => by cases e), fun i hi => ⟨b, 0, rfl, hh.inside, by rw [hh.cell, Nat.zero_add, List.getElem?_toArray, List.getElem?_map, List.getElem?_eq_getElem hi]; rfl⟩⟩
/-- A list that lies elsewhere stays. -/
theorem ListIn.kept {S : Nat → Prop} {w w' : World} {A : Option Addr} {c : Nat} {xs : List Int} (h : ListIn w A c xs) (k : Keeps S w w') (hA : 0 < xs.length → ∀ b' off s, A = some ⟨b', off, s⟩ → b' < w.heap.size → ¬ S b') : ListIn w' A c xs :=
  ⟨h.cap, h.nil, fun i hi => by
    obtain ⟨b', off, e, hb, hc⟩ := h.nums i hi
    refine ⟨b', off, e, Nat.lt_of_lt_of_le hb k.grows, ?_⟩
    have ho := k.old b' hb (hA (by omega) _ _ _ e hb)
    rw [← hc]
    unfold World.cell?
    simp only [ho]⟩
theorem has_take {xs : List Int} {x : Int} {k : Nat} (h : hasB (xs.take k) x = false) (hk : k < xs.length) (hx : xs[k] ≠ x) : hasB (xs.take (k + 1)) x = false := by
  unfold hasB at *
  rw [List.take_add_one, List.getElem?_eq_getElem hk]
  simp only [List.mem_append, Option.toList_some, List.mem_singleton, decide_eq_false_iff_not] at *
  rintro (h' | h')
  · exact h h'
  · exact hx h'.symm

set_option maxHeartbeats 1000000 in
theorem has_any (xs : List Int) (A : Option Addr) (n c : Nat) (x : Int) (w : World) {B : Nat} (hn : n = xs.length) (hl : n ≤ 1000000) (h : Nums w B A .i64 xs) :
    Calls Try.prog 59 #[.slice A n c, .int .i64 x] w fun e w' => e = .returned (.bool (hasB xs x)) ∧ w = w' := by
  have Hn := Lib.hid hn
  have H := Lib.hid h
  clear hn h
  go_enter Try.func59, Try.ntmps59
  go_wp2
  go_loop [5] (fun i => ∃ k : Nat, i = .int .i64 k ∧ k ≤ n ∧ hasB (xs.take k) x = false) (fun i => n - (intOf i).toNat)
  case atStart => exact ⟨0, rfl, Nat.zero_le _, by simp [hasB]⟩
  case round =>
    obtain ⟨k, rfl, hk, hc⟩ := hrel
    have Hc := Lib.hid hc
    clear hc
    by_cases hlt : (k : Int) < n
    · have hkl : k < xs.length := by rw [← Hn.out]; omega
      obtain ⟨b, off, rfl, hb, hcell⟩ := H.out k hkl
      obtain ⟨y, hy⟩ : ∃ y, y = xs[k] := ⟨_, rfl⟩
      rw [← hy] at hcell
      have Hy := Lib.hid hy
      clear hy hb
      by_cases hxy : y = x
      · have e1 : hasB xs x = true := by
          rw [hasB, decide_eq_true_iff, ← hxy, Hy.out]
          exact List.getElem_mem hkl
        have E1 := Lib.hid e1
        clear e1
        subst hxy
        go_wp2
        go_ret
        rw [E1.out]
        exact ⟨rfl, rfl⟩
      · have hxy' : (y == x) = false := by simpa using hxy
        have e2 := has_take Hc.out hkl (by rw [← Hy.out]; exact hxy)
        have E2 := Lib.hid e2
        clear e2
        go_wp2
        go_round
        case rel => exact ⟨k + 1, by go_num, by omega, E2.out⟩
        case measure => simp [intOf]; omega
    · have e1 : hasB xs x = false := by
        have := Hc.out
        rw [List.take_of_length_le (by rw [← Hn.out]; omega)] at this
        exact this
      have E1 := Lib.hid e1
      clear e1
      go_wp2
      go_ret
      rw [E1.out]
      exact ⟨rfl, rfl⟩
end Go.Proofs.Ytekmgaigppenlaa

namespace Go.Proofs.Ytekmgaigppenlaa
open Go Go.RowKit

theorem there_any (l : List Nd) (A : Option Addr) (c : Nat) (id : Int) (w : World) :
    Calls Try.prog 58 #[.slice A l.length c, .int .i64 id] w fun e w' => e = .returned (.bool (thereB l id)) ∧ w = w' := by
  by_cases h1 : 1 ≤ id
  · have g1 : decide (1 ≤ id) = true := decide_eq_true h1
    have e1 : thereB l id = decide (id ≤ (l.length : Int)) := by unfold thereB; rw [g1]; rfl
    rw [e1]
    clear e1
    go_enter Try.func58, Try.ntmps58
    go_wp2
    go_ret
    exact ⟨rfl, rfl⟩
  · have g1 : decide (1 ≤ id) = false := decide_eq_false h1
    have e1 : thereB l id = false := by unfold thereB; rw [g1]; rfl
    rw [e1]
    clear e1
    go_enter Try.func58, Try.ntmps58
    go_wp2
    go_ret
    exact ⟨rfl, rfl⟩

theorem named_any (s : ByteArray) (w : World) (hs : s.size ≤ 9223372036854775807) :
    Calls Try.prog 56 #[.string s] w fun e w' => e = .returned (.bool (okName s)) ∧ w = w' := by
  cases h0 : s.toList.isEmpty with
  | true =>
    have e1 : okName s = true := by unfold okName; rw [h0]; rfl
    rw [e1]
    go_enter Try.func56, Try.ntmps56
    go_wp2
    go_ret
    exact ⟨rfl, rfl⟩
  | false =>
    have e1 : okName s = rightL s.data.toList := by unfold okName; rw [h0]; rfl
    rw [e1]
    clear e1
    go_enter Try.func56, Try.ntmps56
    go_wp2_with fail
    refine (refRight_any s w hs).mono ?_
    rintro e w1 ⟨rfl, rfl⟩
    go_wp2
    go_ret
    exact ⟨rfl, rfl⟩
end Go.Proofs.Ytekmgaigppenlaa
