/-
  Words for memory of my own: what a block holds ('Has'), and that nothing old has turned but blocks of a given kind ('Keeps F'). No function of the program is named here.
  Plain facts on lists of bytes: what stands between blanks (split), and that a rune that is no blank has no blank among its bytes. No program is named here.
  What word.Right and towncrierref01.Right do: the same truth.
  Lists that came in, as lists of numbers; rows of the call's own. No function of the program is named here.
  Lists of numbers that a call owns. Only the type of lists of numbers is named here.
  Forests, plain: nodes, and what the document says of Make, Put, Tie, Name and Want on a list of them. No program is named here.
  Forests in memory: a list of nodes that a slice owns, each with its children's list; lists of numbers that are read.
  Lists of numbers: what they give to an append; those that came in; whether a number is among them.
  What towncrierref04.There, named and Over do.
  What an append of a whole list does, and towncrierref04.Copy.
  What towncrierref04.Over does.
  What towncrierref04.Name, Want and Tie do.
  What towncrierref04.Tie does.
-/
import Derived.Test.YtekmgaigppenlaaProg
import Derived.WalkKit
import Derived.WalkSpells
import Derived.WalkLawsBesides
import Derived.Deep.AppendLies
import Derived.Deep.Draws
import Derived.Deep.QuietTactic
import Derived.BigQuiet
import Derived.Laws.LoneSync
import Derived.Laws.OwnMore
import Derived.Lib.OthersKept
import Derived.Lib.Hide
import Derived.Lib.Strings
import Derived.Lib.IndexBytes
import Derived.Lib.Join
import Derived.Laws.RangeAny
import Derived.ProofKit
import Derived.OpenShut
import Derived.Laws.AppendOwnNone

namespace Go.Proofs.Ytekmgaigppenlaa
open Go Go.RowKit

/-- Block g holds o. -/
def Has (w : World) (g : Nat) (o : Obj) : Prop := w.heap[g]? = some o
/-- The old blocks that F does not name are as they were; none is gone; the streams are as they were. -/
structure Keeps (F : Nat → Prop) (w w' : World) : Prop where
  frame : w'.os = w.os ∧ w'.tape = w.tape ∧ w'.output = w.output
  grows : w.heap.size ≤ w'.heap.size
  old : ∀ i, i < w.heap.size → ¬ F i → w'.heap[i]? = w.heap[i]?
/-- Just these blocks. -/
def Just (l : List Nat) (i : Nat) : Prop := i ∈ l
theorem just_one (g : Nat) : Just [g] g := List.mem_singleton.2 rfl
theorem just_far {B g : Nat} (h : B ≤ g) : ∀ i, i < B → ¬ Just [g] i := fun i hi hj => by have := List.mem_singleton.1 hj; omega
theorem just_ne {g g' : Nat} (h : g' ≠ g) : ¬ Just [g] g' := fun hj => h (List.mem_singleton.1 hj)

section
variable {F G : Nat → Prop} {w w' w'' : World} {g : Nat} {o : Obj}
theorem Has.inside (h : Has w g o) : g < w.heap.size := (Array.getElem?_eq_some_iff.1 h).1
theorem Has.fresh (w : World) (o : Obj) : Has (w.alloc o) w.heap.size o := heap_alloc_new w o
theorem Has.drewN (h : Has w g o) (n : Nat) : Has (w.drewN n) g o := h
theorem Has.kept (h : Has w g o) (k : Keeps F w w') (hg : ¬ F g) : Has w' g o := Eq.trans (k.old g h.inside hg) h
theorem Has.more (h : Has w g o) (o' : Obj) : Has (w.alloc o') g o := Eq.trans (Below.heap_alloc w o' g h.inside) h
theorem Has.below {B : Nat} (h : Has w g o) (k : Below B w w') (hg : g < B) : Has w' g o := Eq.trans (k.block g hg) h
theorem Has.apart {g' : Nat} {o' : Obj} (h : Has w g o) (h' : Has w g' o') (hne : o ≠ o') : g ≠ g' := fun e => by
  subst e
  exact hne (Option.some.inj (Eq.trans (Eq.symm h) h'))
section
variable {t : TypeId} {cs : Array Value} {fr : Nat × Nat}
theorem Has.cell (h : Has w g (.cells cs t fr)) (i : Nat) : w.cell? ⟨g, i, none⟩ = cs[i]? := cell_of_row w g i cs t fr h
theorem Has.free (h : Has w g (.cells cs t (0, 0))) (i : Nat) : w.frozen? ⟨g, i, none⟩ = false := by
  have h' : w.heap[g]? = some (.cells cs t (0, 0)) := h
  simp [World.frozen?, h']
theorem Has.stored (h : Has w g (.cells cs t fr)) (i : Nat) (u : Value) : Has (w.setCell ⟨g, i, none⟩ u) g (.cells (cs.setIfInBounds i u) t fr) := by
  have h' : w.heap[g]? = some (.cells cs t fr) := h
  simp [Has, World.setCell, Array.getElem?_modify, h']
end
theorem Has.aside (h : Has w g o) {p : Addr} (hp : g ≠ p.block) (u : Value) : Has (w.setCell p u) g o := Eq.trans (Below.heap_setCell w p u g hp) h

theorem Keeps.refl (F : Nat → Prop) (w : World) : Keeps F w w := ⟨⟨rfl, rfl, rfl⟩, Nat.le_refl _, fun _ _ _ => rfl⟩
theorem Keeps.wide (k : Keeps F w w') (h : ∀ i, i < w.heap.size → F i → G i) : Keeps G w w' := ⟨k.frame, k.grows, fun i hi hn => k.old i hi fun hF => hn (h i hi hF)⟩
theorem Keeps.trans (k : Keeps F w w') (k' : Keeps G w' w'') (h : ∀ i, i < w.heap.size → G i → F i) : Keeps F w w'' :=
  ⟨⟨k'.frame.1.trans k.frame.1, k'.frame.2.1.trans k.frame.2.1, k'.frame.2.2.trans k.frame.2.2⟩, Nat.le_trans k.grows k'.grows,
    fun i hi hn => (k'.old i (Nat.lt_of_lt_of_le hi k.grows) fun hG => hn (h i hi hG)).trans (k.old i hi hn)⟩
theorem Keeps.also (k : Keeps F w w') (k' : Keeps F w' w'') : Keeps F w w'' := k.trans k' fun _ _ h => h
theorem Keeps.drewN (k : Keeps F w w') (n : Nat) : Keeps F w (w'.drewN n) := ⟨k.frame, k.grows, k.old⟩
theorem Keeps.drew (k : Keeps F w w') : Keeps F w w'.drew := ⟨k.frame, k.grows, k.old⟩
theorem Keeps.alloc (k : Keeps F w w') (o : Obj) : Keeps F w (w'.alloc o) :=
  ⟨k.frame, Nat.le_trans k.grows (by simp), fun i hi hn => (Below.heap_alloc w' o i (Nat.lt_of_lt_of_le hi k.grows)).trans (k.old i hi hn)⟩
theorem Keeps.store (k : Keeps F w w') {p : Addr} (hp : F p.block ∨ w.heap.size ≤ p.block) (u : Value) : Keeps F w (w'.setCell p u) :=
  ⟨k.frame, by simpa [World.setCell] using k.grows, fun i hi hn => (Below.heap_setCell w' p u i (by
    rintro rfl
    exact hp.elim hn fun h => by omega)).trans (k.old i hi hn)⟩
theorem Keeps.store1 (k : Keeps (Just [g]) w w') (i : Nat) (u : Value) : Keeps (Just [g]) w (w'.setCell ⟨g, i, none⟩ u) := k.store (.inl (just_one g)) u
theorem Keeps.of_below {B : Nat} (k : Below B w w') (h : ∀ i, i < w.heap.size → B ≤ i → F i) : Keeps F w w' :=
  ⟨⟨k.os, k.tape, k.output⟩, k.size, fun i hi hn => k.block i ((Nat.lt_or_ge i B).elim id fun hge => absurd (h i hi hge) hn)⟩
/-- What has turned lies above. -/
theorem below_then {B : Nat} (h : Below B w w') (k : Keeps F w' w'') (hB : B ≤ w'.heap.size) (hF : ∀ i, i < B → ¬ F i) : Below B w w'' :=
  ⟨k.frame.1.trans h.os, k.frame.2.1.trans h.tape, k.frame.2.2.trans h.output, Nat.le_trans h.size k.grows, fun i hi => (k.old i (Nat.lt_of_lt_of_le hi hB) (hF i hi)).trans (h.block i hi)⟩
theorem below_draws {B : Nat} {a w : World} (h : Below B a w) (n : Nat) : Below B a (w.drewN n) := ⟨h.os, h.tape, h.output, h.size, h.block⟩
end
end Go.Proofs.Ytekmgaigppenlaa

namespace Go.Proofs.Ytekmgaigppenlaa
open Go

/-- A text as a list with one element, or none where it is empty. -/
def filled (l : List UInt8) : List (List UInt8) := if l.isEmpty then [] else [l]
/-- What stands between blanks; cur: what was met since the last one. -/
def splitGo : List UInt8 → List UInt8 → List (List UInt8)
  | cur, [] => filled cur
  | cur, c :: r => if c = 32 then filled cur ++ splitGo [] r else splitGo (cur ++ [c]) r
def splitL (l : List UInt8) : List (List UInt8) := splitGo [] l
/-- A list of bytes as a Go text. -/
def ba (l : List UInt8) : ByteArray := ⟨l.toArray⟩
/-- Texts as cells. -/
def strs (ls : List (List UInt8)) : List Value := ls.map fun l => Value.string (ba l)

theorem strs_append (a b : List (List UInt8)) : strs (a ++ b) = strs a ++ strs b := by simp [strs]
theorem strs_length (a : List (List UInt8)) : (strs a).length = a.length := by simp [strs]
theorem filled_nil : filled [] = [] := rfl
theorem filled_of_ne {l : List UInt8} (h : l ≠ []) : filled l = [l] := by
  unfold filled
  cases l with
  | nil => exact absurd rfl h
  | cons a r => rfl
theorem filled_le (l : List UInt8) : (filled l).length ≤ 1 := by unfold filled; split <;> simp
theorem splitGo_nil (cur : List UInt8) : splitGo cur [] = filled cur := rfl
theorem splitGo_blank (cur r : List UInt8) : splitGo cur (32 :: r) = filled cur ++ splitGo [] r := by simp [splitGo]
theorem splitGo_other (cur r : List UInt8) (c : UInt8) (h : c ≠ 32) : splitGo cur (c :: r) = splitGo (cur ++ [c]) r := by simp [splitGo, h]
theorem splitGo_run (m cur r : List UInt8) (h : ∀ c ∈ m, c ≠ 32) : splitGo cur (m ++ r) = splitGo (cur ++ m) r := by
  induction m generalizing cur with
  | nil => simp
  | cons a m ih =>
    rw [List.cons_append, splitGo_other _ _ _ (h a (by simp)), ih _ (fun c hc => h c (by simp [hc]))]
    simp
theorem splitGo_len (r cur : List UInt8) : (splitGo cur r).length ≤ r.length + 1 := by
  induction r generalizing cur with
  | nil => rw [splitGo_nil]; have := filled_le cur; simp; omega
  | cons c r ih =>
    by_cases h : c = 32
    · subst h
      rw [splitGo_blank, List.length_append]
      have := filled_le cur; have := ih []; simp; omega
    · rw [splitGo_other _ _ _ h]; have := ih (cur ++ [c]); simp; omega
theorem splitL_len (l : List UInt8) : (splitL l).length ≤ l.length + 1 := splitGo_len l []

/-- The bytes of a rune that begins with no blank. -/
theorem decode_blank (s : ByteArray) (pos : Nat) (h : pos < s.size) (hb : s.data.toList[pos]? = some 32) : Utf8.decode s pos = (32, 1) := by
  have e : s[pos]'h = 32 := by
    have h2 : pos < s.data.toList.length := by rw [← Lib.size_eq]; exact h
    rw [List.getElem?_eq_getElem h2] at hb
    exact Option.some.inj hb
  rw [decode_ascii s pos h (by rw [e]; decide), e]
  rfl
theorem get!_at (s : ByteArray) (k : Nat) (h : k < s.size) : s.data.toList[k]? = some (s.get! k) := by
  have h2 : k < s.data.toList.length := by rw [← Lib.size_eq]; exact h
  rw [List.getElem?_eq_getElem h2]
  have := get_at s k h
  simp only [Nat.add_zero] at this
  rw [this]
  rfl
theorem decode_other (s : ByteArray) (pos : Nat) (h : pos < s.size) (hb : s.data.toList[pos]? ≠ some 32) :
    (Utf8.decode s pos).1 ≠ 32 ∧ 1 ≤ (Utf8.decode s pos).2 ∧ pos + (Utf8.decode s pos).2 ≤ s.size ∧
      ∀ k, k < (Utf8.decode s pos).2 → s.data.toList[pos + k]? ≠ some 32 := by
  by_cases ha : (s[pos]'h).toNat < 128
  · rw [decode_ascii s pos h ha]
    have h0 := get!_at s pos h
    have h1 := get_at s pos h
    simp only [Nat.add_zero] at h1
    rw [h1] at h0
    refine ⟨fun e => hb ?_, Nat.le_refl _, by simp only; omega, fun k hk => ?_⟩
    · rw [h0]
      congr 1
      exact UInt8.toNat_inj.1 e
    · have : k = 0 := by simp only at hk; omega
      subst this
      simpa using hb
  · have hh := decode_high s pos h (by omega)
    refine ⟨by omega, hh.2, ?_⟩
    have hc : ∀ k, pos + k < s.size → (s.get! (pos + k)).toNat / 64 = 2 → s.data.toList[pos + k]? ≠ some 32 := by
      intro k hk h2 e
      rw [get!_at s (pos + k) hk] at e
      rw [Option.some.inj e] at h2
      exact absurd h2 (by decide)
    have hn : ¬ (s.get! (pos + 0)).toNat < 128 := by rw [get_at s pos h]; exact ha
    have key : ∀ d, d = (Utf8.decode s pos).2 → pos + d ≤ s.size ∧ ∀ k, k < d → s.data.toList[pos + k]? ≠ some 32 := by
      intro d hd
      simp only [Utf8.decode, hn, if_false] at hd
      repeat' split at hd
      all_goals simp only [Bool.and_eq_true, beq_iff_eq, decide_eq_true_eq] at *
      all_goals subst hd
      all_goals refine ⟨by omega, fun k hk => ?_⟩
      all_goals
        rcases k with _ | _ | _ | _ | k
        · simpa using hb
        · first | omega | (refine hc 1 (by omega) ?_; omega)
        · first | omega | (refine hc 2 (by omega) ?_; omega)
        · first | omega | (refine hc 3 (by omega) ?_; omega)
        · omega
    exact key _ rfl

/-- One round of a walk over the runes of s: at a blank. -/
theorem step_blank (s : ByteArray) (st pos : Nat) (done : List (List UInt8)) (h : pos < s.size) (hb : s.data.toList[pos]? = some 32)
    (hi : done ++ splitGo ((s.data.toList.drop st).take (pos - st)) (s.data.toList.drop pos) = splitL s.data.toList) :
    (done ++ filled ((s.data.toList.drop st).take (pos - st))) ++ splitGo ((s.data.toList.drop (pos + 1)).take (pos + 1 - (pos + 1))) (s.data.toList.drop (pos + 1)) = splitL s.data.toList := by
  rw [← hi]
  have h2 : pos < s.data.toList.length := by rw [← Lib.size_eq]; exact h
  rw [List.drop_eq_getElem_cons h2]
  have e : s.data.toList[pos] = 32 := by
    rw [List.getElem?_eq_getElem h2] at hb; exact Option.some.inj hb
  rw [e, splitGo_blank]
  simp
/-- At another rune. -/
theorem step_other (s : ByteArray) (st pos d : Nat) (done : List (List UInt8)) (h : pos + d ≤ s.size) (hst : st ≤ pos) (hb : ∀ k, k < d → s.data.toList[pos + k]? ≠ some 32)
    (hi : done ++ splitGo ((s.data.toList.drop st).take (pos - st)) (s.data.toList.drop pos) = splitL s.data.toList) :
    done ++ splitGo ((s.data.toList.drop st).take (pos + d - st)) (s.data.toList.drop (pos + d)) = splitL s.data.toList := by
  rw [← hi]
  have h2 : pos + d ≤ s.data.toList.length := by rw [← Lib.size_eq]; exact h
  have e1 : s.data.toList.drop pos = (s.data.toList.drop pos).take d ++ s.data.toList.drop (pos + d) := by
    rw [← List.drop_drop, List.take_append_drop]
  have e2 : (s.data.toList.drop st).take (pos + d - st) = (s.data.toList.drop st).take (pos - st) ++ (s.data.toList.drop pos).take d := by
    have : pos + d - st = (pos - st) + d := by omega
    rw [this, List.take_add, List.drop_drop]
    congr 3
    omega
  rw [e1, splitGo_run _ _ _ ?_, e2]
  intro c hc
  obtain ⟨k, hk, rfl⟩ := List.mem_iff_getElem.1 hc
  rw [List.length_take] at hk
  have := hb k (by omega)
  rw [List.getElem_take, List.getElem_drop]
  intro e
  exact this (by rw [List.getElem?_eq_getElem (by omega), e])
/-- At the end. -/
theorem step_end (s : ByteArray) (st pos : Nat) (done : List (List UInt8)) (h : s.size ≤ pos) (hst : st ≤ pos)
    (hi : done ++ splitGo ((s.data.toList.drop st).take (pos - st)) (s.data.toList.drop pos) = splitL s.data.toList) :
    done ++ filled (s.data.toList.drop st) = splitL s.data.toList := by
  rw [← hi]
  have h2 : s.data.toList.length ≤ pos := by rw [← Lib.size_eq]; exact h
  rw [List.drop_eq_nil_of_le h2, splitGo_nil, List.take_of_length_le (by rw [List.length_drop]; omega)]
theorem byte_ne {c : UInt8} (h : ¬ c = 32) : (c.toNat : Int) ≠ 32 := by
  intro e
  refine h (UInt8.toNat_inj.1 ?_)
  have : c.toNat = 32 := by omega
  rw [this]
  rfl
theorem byte_at (s : ByteArray) (k : Nat) (h : k < s.size) : s.data.toList[k]? = some (s[k]'h) := by
  have h2 : k < s.data.toList.length := by rw [← Lib.size_eq]; exact h
  rw [List.getElem?_eq_getElem h2]
  rfl
theorem drop_at {l : List UInt8} {k : Nat} {c : UInt8} (h : l[k]? = some c) : l.drop k = c :: l.drop (k + 1) := by
  have hk : k < l.length := by
    rcases Nat.lt_or_ge k l.length with h1 | h1
    · exact h1
    · rw [List.getElem?_eq_none h1] at h; cases h
  rw [List.drop_eq_getElem_cons hk]
  rw [List.getElem?_eq_getElem hk] at h
  rw [Option.some.inj h]
theorem ba_toList (l : List UInt8) : (ba l).toList = l := by rw [Lib.toList_data]; rfl
theorem ba_data (l : List UInt8) : (ba l).data.toList = l := rfl
theorem ba_size (l : List UInt8) : (ba l).size = l.length := rfl
theorem ba_of (s : ByteArray) : ba s.data.toList = s := Lib.mk_data s
theorem ba_ne {l : List UInt8} (h : l ≠ []) : (ba l).toList.isEmpty = false := by
  rw [ba_toList]
  cases l with
  | nil => exact absurd rfl h
  | cons a r => rfl
theorem ba_snoc (s : ByteArray) (k : Nat) (h : k < s.size) (l : List UInt8) : ba l ++ s.extract k (k + 1) = ba (l ++ [s[k]'h]) := by
  rw [← ba_of (ba l ++ s.extract k (k + 1))]
  congr 1
  rw [ByteArray.data_append, Array.toList_append, Lib.extract_data, drop_at (byte_at s k h), ba_data]
  simp
/-- One round of the walk over the bytes of s: at a blank. -/
theorem ref_blank (s : ByteArray) (k : Nat) (cur : List UInt8) (done : List (List UInt8)) (hb : s.data.toList[k]? = some 32)
    (hi : done ++ splitGo cur (s.data.toList.drop k) = splitL s.data.toList) : (done ++ filled cur) ++ splitGo [] (s.data.toList.drop (k + 1)) = splitL s.data.toList := by
  rw [← hi, drop_at hb, splitGo_blank, List.append_assoc]
theorem ref_other (s : ByteArray) (k : Nat) (cur : List UInt8) (c : UInt8) (done : List (List UInt8)) (hb : s.data.toList[k]? = some c) (hc : c ≠ 32)
    (hi : done ++ splitGo cur (s.data.toList.drop k) = splitL s.data.toList) : done ++ splitGo (cur ++ [c]) (s.data.toList.drop (k + 1)) = splitL s.data.toList := by
  rw [← hi, drop_at hb, splitGo_other _ _ _ hc]

end Go.Proofs.Ytekmgaigppenlaa

namespace Go.Proofs.Ytekmgaigppenlaa
open Go Go.RowKit

def letterB (r : Int) : Bool := decide (97 ≤ r ∧ r ≤ 122)
def digitB (r : Int) : Bool := decide (48 ≤ r ∧ r ≤ 57)
/-- A letter from a to z or a digit. -/
def okb (c : UInt8) : Bool := letterB (c.toNat : Int) || digitB (c.toNat : Int)
/-- A word. -/
def rightL (l : List UInt8) : Bool := decide (1 ≤ l.length ∧ l.length ≤ 8 ∧ ∀ c ∈ l, okb c = true)

theorem rightL_len {l : List UInt8} (h : ¬ (1 ≤ l.length ∧ l.length ≤ 8)) : rightL l = false := by
  unfold rightL
  rw [decide_eq_false_iff_not]
  exact fun h2 => h ⟨h2.1, h2.2.1⟩
theorem rightL_bad {l : List UInt8} {k : Nat} {c : UInt8} (h : l[k]? = some c) (hc : okb c = false) : rightL l = false := by
  unfold rightL
  rw [decide_eq_false_iff_not]
  intro h2
  have := h2.2.2 c (List.mem_of_getElem? h)
  rw [hc] at this
  cases this
theorem rightL_all {l : List UInt8} (h1 : 1 ≤ l.length) (h8 : l.length ≤ 8) (h : ∀ (k : Nat) (c : UInt8), l[k]? = some c → okb c = true) : rightL l = true := by
  unfold rightL
  rw [decide_eq_true_iff]
  refine ⟨h1, h8, fun c hc => ?_⟩
  obtain ⟨k, hk, rfl⟩ := List.mem_iff_getElem.1 hc
  exact h k _ (List.getElem?_eq_getElem hk)

set_option maxHeartbeats 400000 in
theorem isLetter_any (r : Int) (w : World) : Calls Try.prog 61 #[.int .i32 r] w fun e w' => e = .returned (.bool (letterB r)) ∧ w = w' := by
  by_cases h1 : 97 ≤ r
  · by_cases h2 : r ≤ 122
    · have e : letterB r = true := by unfold letterB; simp; omega
      rw [e]
      go_enter Try.func61, Try.ntmps61
      go_wp2
      go_ret
      exact ⟨rfl, rfl⟩
    · have e : letterB r = false := by unfold letterB; simp; omega
      have hd : decide (r ≤ 122) = false := by simp; omega
      rw [e]
      go_enter Try.func61, Try.ntmps61
      go_wp2
      go_ret
      exact ⟨rfl, rfl⟩
  · have e : letterB r = false := by unfold letterB; simp; omega
    have hd : decide (97 ≤ r) = false := by simp; omega
    rw [e]
    go_enter Try.func61, Try.ntmps61
    go_wp2
    go_ret
    exact ⟨rfl, rfl⟩

set_option maxHeartbeats 400000 in
theorem isDigit_any (r : Int) (w : World) : Calls Try.prog 62 #[.int .i32 r] w fun e w' => e = .returned (.bool (digitB r)) ∧ w = w' := by
  by_cases h1 : 48 ≤ r
  · by_cases h2 : r ≤ 57
    · have e : digitB r = true := by unfold digitB; simp; omega
      rw [e]
      go_enter Try.func62, Try.ntmps62
      go_wp2
      go_ret
      exact ⟨rfl, rfl⟩
    · have e : digitB r = false := by unfold digitB; simp; omega
      have hd : decide (r ≤ 57) = false := by simp; omega
      rw [e]
      go_enter Try.func62, Try.ntmps62
      go_wp2
      go_ret
      exact ⟨rfl, rfl⟩
  · have e : digitB r = false := by unfold digitB; simp; omega
    have hd : decide (48 ≤ r) = false := by simp; omega
    rw [e]
    go_enter Try.func62, Try.ntmps62
    go_wp2
    go_ret
    exact ⟨rfl, rfl⟩

def SaysOver (w : World) (b : Bool) (e : Ending) (w' : World) : Prop := e = .returned (.bool b) ∧ Below w.heap.size w w'

set_option maxHeartbeats 1000000 in
set_option maxRecDepth 100000 in
theorem right_any (s : ByteArray) (w : World) (hs : s.size ≤ 9223372036854775807) : Calls Try.prog 54 #[.string s] w (SaysOver w (rightL s.data.toList)) := by
  have hsz := Lib.size_eq s
  by_cases h0 : s.size = 0
  · rw [rightL_len (by omega)]
    have g0 : ((s.size : Int) == 0) = true := by rw [beq_iff_eq]; omega
    clear hsz
    go_enter Try.func54, Try.ntmps54
    go_wp2
    go_ret
    exact ⟨rfl, Below.refl _ _⟩
  · have g0 : ((s.size : Int) == 0) = false := by rw [beq_eq_false_iff_ne]; omega
    have h1 : 1 ≤ s.size := by omega
    by_cases h8 : s.size ≤ 8
    · have Hsz := Lib.hid hsz
      clear hsz h0
      go_enter Try.func54, Try.ntmps54
      go_wp2
      go_loopw [] (fun wr => ∃ pos, wr = w.iter s pos ∧ pos ≤ s.size ∧ ∀ k c, k < pos → s.data.toList[k]? = some c → okb c = true) (fun wr => s.size - wr.iterPos w.heap.size)
      case atStart => exact ⟨0, rfl, Nat.zero_le _, fun k c hk => by omega⟩
      case round =>
        obtain ⟨pos, rfl, hpos, hall⟩ := hrel
        have Hall := Lib.hid hall
        clear hall
        have hbel : Below w.heap.size w (w.iter s pos) := (Below.refl _ w).alloc (Nat.le_refl _) _
        by_cases hp : pos < s.size
        · have hat := Lib.hid (byte_at s pos hp)
          obtain ⟨r, d, hnx, hr⟩ : ∃ r d : Nat, (∀ ty, (Instr.next (.pointer (some ⟨w.heap.size, 0, none⟩)) true ty).run Try.prog (w.iter s pos) =
              .ok (.tuple #[.bool true, .int .i64 pos, .int .i32 r]) (w.iter s (pos + d))) ∧ ((letterB r || digitB r) = okb (s[pos]'hp) ∧ (okb (s[pos]'hp) = true → d = 1)) := by
            refine ⟨_, _, fun ty => run_next_any w s pos ty hp, ?_⟩
            by_cases ha : (s[pos]'hp).toNat < 128
            · rw [decode_ascii s pos hp ha]
              exact ⟨rfl, fun _ => rfl⟩
            · have hh := (decode_high s pos hp (by omega)).1
              have e1 : okb (s[pos]'hp) = false := by unfold okb letterB digitB; simp; omega
              have e2 : (letterB ((Utf8.decode s pos).1 : Int) || digitB ((Utf8.decode s pos).1 : Int)) = false := by unfold letterB digitB; simp; omega
              exact ⟨by rw [e1, e2], fun h => by rw [e1] at h; cases h⟩
          obtain ⟨hr1, hr2⟩ := hr
          by_cases hok : okb (s[pos]'hp) = true
          · have hd := hr2 hok
            rw [hok] at hr1
            subst hd
            have Hok := Lib.hid hok
            clear hr2 hok
            cases hl : letterB (r : Int) with
            | true =>
              clear hr1
              have Hl := Lib.hid hl
              clear hl
              go_wp2_with fail
              refine (isLetter_any _ _).mono ?_
              rintro e w' ⟨rfl, rfl⟩
              rw [Hl.out]
              go_wp2
              go_roundw
              case rel =>
                refine ⟨pos + 1, rfl, by omega, fun k c hk hkc => ?_⟩
                by_cases hk2 : k = pos
                · subst hk2
                  rw [hat.out] at hkc
                  rw [← Option.some.inj hkc]
                  exact Hok.out
                · exact Hall.out k c (by omega) hkc
              case measure => simp; omega
            | false =>
              rw [hl, Bool.false_or] at hr1
              have Hl := Lib.hid hl
              have Hr := Lib.hid hr1
              clear hl hr1
              go_wp2_with fail
              refine (isLetter_any _ _).mono ?_
              rintro e w' ⟨rfl, rfl⟩
              rw [Hl.out]
              go_wp2_with fail
              refine (isDigit_any _ _).mono ?_
              rintro e w' ⟨rfl, rfl⟩
              rw [Hr.out]
              go_wp2
              go_roundw
              case rel =>
                refine ⟨pos + 1, rfl, by omega, fun k c hk hkc => ?_⟩
                by_cases hk2 : k = pos
                · subst hk2
                  rw [hat.out] at hkc
                  rw [← Option.some.inj hkc]
                  exact Hok.out
                · exact Hall.out k c (by omega) hkc
              case measure => simp; omega
          · have hok2 : okb (s[pos]'hp) = false := by simpa using hok
            rw [hok2, Bool.or_eq_false_iff] at hr1
            have Hr := Lib.hid hr1
            have hfin := Lib.hid (rightL_bad hat.out hok2)
            clear hr1 hr2 hok hok2
            have hbel2 : Below w.heap.size w (w.iter s (pos + d)) := (Below.refl _ w).alloc (Nat.le_refl _) _
            go_wp2_with fail
            refine (isLetter_any _ _).mono ?_
            rintro e w' ⟨rfl, rfl⟩
            rw [Hr.out.1]
            go_wp2_with fail
            refine (isDigit_any _ _).mono ?_
            rintro e w' ⟨rfl, rfl⟩
            rw [Hr.out.2]
            go_wp2
            go_ret
            rw [hfin.out]
            exact ⟨rfl, hbel2⟩
        · have hnx : ∀ ty, (Instr.next (.pointer (some ⟨w.heap.size, 0, none⟩)) true ty).run Try.prog (w.iter s pos) = _ := fun ty => run_next_end w s pos ty hp
          have e1 : rightL s.data.toList = true := rightL_all (by have := Hsz.out; omega) (by have := Hsz.out; omega) (fun k c hkc => Hall.out k c (by
            rcases Nat.lt_or_ge k s.data.toList.length with h | h
            · have := Hsz.out; omega
            · rw [List.getElem?_eq_none h] at hkc; cases hkc) hkc)
          have E1 := Lib.hid e1
          clear e1
          go_wp2
          go_ret
          rw [E1.out]
          exact ⟨rfl, hbel⟩
    · rw [rightL_len (by omega)]
      clear hsz h0
      go_enter Try.func54, Try.ntmps54
      go_wp2
      go_ret
      exact ⟨rfl, Below.refl _ _⟩

set_option maxHeartbeats 2000000 in
set_option maxRecDepth 100000 in
theorem refRight_any (s : ByteArray) (w : World) (hs : s.size ≤ 9223372036854775807) : Calls Try.prog 63 #[.string s] w fun e w' => e = .returned (.bool (rightL s.data.toList)) ∧ w = w' := by
  have hsz := Lib.size_eq s
  by_cases h0 : s.size < 1
  · rw [rightL_len (by omega)]
    have g0 : decide ((s.size : Int) < 1) = true := by simp; omega
    clear hsz
    go_enter Try.func63, Try.ntmps63
    go_wp2
    go_ret
    exact ⟨rfl, rfl⟩
  · have g0 : decide ((s.size : Int) < 1) = false := by simp; omega
    by_cases h8 : s.size ≤ 8
    · have g8 : decide (8 < (s.size : Int)) = false := by simp; omega
      have Hsz := Lib.hid hsz
      clear hsz
      go_enter Try.func63, Try.ntmps63
      go_wp2
      go_loop [3] (fun i => ∃ k : Nat, i = .int .i64 k ∧ k ≤ s.size ∧ ∀ j c, j < k → s.data.toList[j]? = some c → okb c = true) (fun i => s.size - (intOf i).toNat)
      case atStart => exact ⟨0, rfl, Nat.zero_le _, fun k c hk => by omega⟩
      case round =>
        obtain ⟨k, rfl, hk, hall⟩ := hrel
        have Hall := Lib.hid hall
        clear hall
        by_cases hlt : k < s.size
        · have hat := Lib.hid (byte_at s k hlt)
          obtain ⟨x, hx⟩ : ∃ x, x = s[k]'hlt := ⟨_, rfl⟩
          rw [← hx] at hat
          have hstep : okb x = true → ∀ j c, j < k + 1 → s.data.toList[j]? = some c → okb c = true := by
            intro hok j c hj hjc
            by_cases hj2 : j = k
            · subst hj2
              rw [hat.out] at hjc
              rw [← Option.some.inj hjc]
              exact hok
            · exact Hall.out j c (by omega) hjc
          have Hstep := Lib.hid hstep
          have hokb : okb x = true ↔ (97 ≤ (x.toNat : Int) ∧ (x.toNat : Int) ≤ 122) ∨ (48 ≤ (x.toNat : Int) ∧ (x.toNat : Int) ≤ 57) := by
            unfold okb letterB digitB
            simp
          have hbad : okb x = false → rightL s.data.toList = false := fun h => rightL_bad hat.out h
          have Hokb := Lib.hid hokb
          have Hbad := Lib.hid hbad
          subst hx
          clear hstep hokb hbad
          by_cases c1 : 97 ≤ ((s[k]'hlt).toNat : Int)
          · by_cases c2 : ((s[k]'hlt).toNat : Int) ≤ 122
            · go_wp2
              go_round
              case rel => exact ⟨k + 1, by go_num, by omega, Hstep.out (Hokb.out.2 (.inl ⟨c1, c2⟩))⟩
              case measure => simp [intOf]; omega
            · have d2 : decide (((s[k]'hlt).toNat : Int) ≤ 122) = false := by simp; omega
              have d4 : decide (((s[k]'hlt).toNat : Int) ≤ 57) = false := by simp; omega
              go_wp2
              go_ret
              rw [Hbad.out (by rw [Bool.eq_false_iff]; intro h; have := Hokb.out.1 h; omega)]
              exact ⟨rfl, rfl⟩
          · have d1 : decide (97 ≤ ((s[k]'hlt).toNat : Int)) = false := by simp; omega
            by_cases c3 : 48 ≤ ((s[k]'hlt).toNat : Int)
            · by_cases c4 : ((s[k]'hlt).toNat : Int) ≤ 57
              · go_wp2
                go_round
                case rel => exact ⟨k + 1, by go_num, by omega, Hstep.out (Hokb.out.2 (.inr ⟨c3, c4⟩))⟩
                case measure => simp [intOf]; omega
              · have d4 : decide (((s[k]'hlt).toNat : Int) ≤ 57) = false := by simp; omega
                go_wp2
                go_ret
                rw [Hbad.out (by rw [Bool.eq_false_iff]; intro h; have := Hokb.out.1 h; omega)]
                exact ⟨rfl, rfl⟩
            · have d3 : decide (48 ≤ ((s[k]'hlt).toNat : Int)) = false := by simp; omega
              go_wp2
              go_ret
              rw [Hbad.out (by rw [Bool.eq_false_iff]; intro h; have := Hokb.out.1 h; omega)]
              exact ⟨rfl, rfl⟩
        · have e1 : rightL s.data.toList = true := rightL_all (by have := Hsz.out; omega) (by have := Hsz.out; omega) (fun j c hjc => Hall.out j c (by
            rcases Nat.lt_or_ge j s.data.toList.length with h | h
            · have := Hsz.out; omega
            · rw [List.getElem?_eq_none h] at hjc; cases hjc) hjc)
          have E1 := Lib.hid e1
          clear e1
          go_wp2
          go_ret
          rw [E1.out]
          exact ⟨rfl, rfl⟩
    · have g8 : decide (8 < (s.size : Int)) = true := by simp; omega
      rw [rightL_len (by omega)]
      clear hsz
      go_enter Try.func63, Try.ntmps63
      go_wp2
      go_ret
      exact ⟨rfl, rfl⟩
end Go.Proofs.Ytekmgaigppenlaa

namespace Go.Proofs.Ytekmgaigppenlaa
open Go Go.ChangeShapes Go.WideShapes Go.ChangeAt Go.RowKit

/-- The slice's place number i, below block B, holds v. -/
def At (w : World) (B : Nat) (A : Option Addr) (i : Nat) (v : Value) : Prop := ∃ b off, A = some ⟨b, off, none⟩ ∧ b < B ∧ w.cell? ⟨b, off + i, none⟩ = some v
/-- A list of numbers that came in: at each place its number. -/
def Nums (w : World) (B : Nat) (A : Option Addr) (k : IntKind) (xs : List Int) : Prop := ∀ i (h : i < xs.length), At w B A i (.int k xs[i])

theorem At.below {w w' : World} {B : Nat} {A : Option Addr} {i : Nat} {v : Value} (h : At w B A i v) (hb : Below B w w') : At w' B A i v := by
  obtain ⟨b, off, e, hB, hc⟩ := h
  exact ⟨b, off, e, hB, (hb.cell (p := ⟨b, off + i, none⟩) hB).trans hc⟩

theorem Nums.below {w w' : World} {B : Nat} {A : Option Addr} {k : IntKind} {xs : List Int} (h : Nums w B A k xs) (hb : Below B w w') : Nums w' B A k xs := fun i hi => (h i hi).below hb

theorem Nums.mono {w : World} {B B' : Nat} {A : Option Addr} {k : IntKind} {xs : List Int} (h : Nums w B A k xs) (hb : B ≤ B') : Nums w B' A k xs := fun i hi => by
  obtain ⟨b, off, e, hB, hc⟩ := h i hi
  exact ⟨b, off, e, Nat.lt_of_lt_of_le hB hb, hc⟩

/-- Out of the row's reading. -/
theorem nums_in {P : Program} {H : Type} {enc : TypeId × Value → H} {W : World} {sp : Nat → Bool} {held : Bool} {fuel : Nat} {t e : TypeId} {k : IntKind} {A : Option Addr} {n cap : Nat} {x : DataW H × List MemPlace}
    (ht : P.underlying t = some (.slice e)) (he : P.underlying e = some (.int k)) (h1 : P.cellsOf e = 1)
    (hf : DataW.trod enc P W 0 sp held fuel t [.slice A n cap] = some x) (hx : ∀ y ∈ x.2, y.block < W.heap.size) :
    ∃ xs : List Int, xs.length = n ∧ Nums W W.heap.size A k xs ∧ (∀ z ∈ xs, (Lit.int k z).wf = true) ∧ n ≤ cap ∧ n ≤ maxLen := by
  rcases open_ints ht he h1 hf with ⟨hv, _⟩ | ⟨a, n', cap', zs, hv, _, hl, hm, hz, hxe, hcell, hws⟩
  · obtain ⟨rfl, rfl, rfl⟩ : A = none ∧ n = 0 ∧ cap = 0 := by simpa using hv
    exact ⟨[], rfl, fun i h => absurd h (Nat.not_lt_zero i), fun z h => absurd h (by simp), Nat.le_refl 0, Nat.zero_le _⟩
  · obtain ⟨rfl, rfl, rfl⟩ : A = some a ∧ n = n' ∧ cap = cap' := by simpa using hv
    have hge : n ≤ zs.length := by rw [hz]; split <;> omega
    refine ⟨zs.take n, by rw [List.length_take]; omega, fun i hi => ?_, fun z h => hws z (List.mem_of_mem_take h), hl, Nat.le_trans hl hm⟩
    rw [List.length_take] at hi
    have hi' : i < zs.length := by omega
    have hc := hcell i hi'
    have hc0 := hcell 0 (by omega)
    obtain ⟨b, off, spot⟩ := a
    obtain rfl : spot = none := by simpa [Addr.add] using World.cell?_spot hc0
    rw [Addr.add_lit] at hc
    refine ⟨b, off, rfl, hx (.cell b off) (by rw [hxe]; exact MemPlace.mem_row.2 ⟨0, by omega, by simp⟩), hc.trans ?_⟩
    rw [List.getElem_take, List.getD_eq_getElem?_getD, List.getElem?_eq_getElem hi']
    rfl

theorem Keeps.storeAt {F : Nat → Prop} {w w' : World} {g : Nat} (k : Keeps F w w') (h : F g) (i : Nat) (u : Value) : Keeps F w (w'.setCell ⟨g, i, none⟩ u) := k.store (.inl h) u
/-- What an append leaves. -/
theorem Keeps.of_grown {w w' : World} {row : Option Nat} (h : w.grownBy w' row) : Keeps (fun i => row = some i) w w' :=
  ⟨⟨h.os, h.tape, h.output⟩, h.size, fun i hi hn => h.block i hi fun e => hn e.symm⟩
/-- A row of the call's own is kept where its block is. -/
theorem own_kept {F : Nat → Prop} {w w' : World} {base n size : Nat} {e : TypeId} {v : Value} {xs : List Value} (h : w.ownsRow base e size v n xs) (k : Keeps F w w') (hF : ∀ g, v.ownBlock = some g → ¬ F g) : w'.ownsRow base e size v n xs := by
  refine ⟨h.1, ?_⟩
  rcases h.2 with hn | ⟨g, cap, cur, rfl, hb, hg, rest⟩
  · exact .inl hn
  · exact .inr ⟨g, cap, cur, rfl, hb, Has.kept hg k (hF g rfl), rest⟩
end Go.Proofs.Ytekmgaigppenlaa

namespace Go.Proofs.Ytekmgaigppenlaa
open Go Go.RowKit

/-- Is a number in a list? -/
def hasB (xs : List Int) (x : Int) : Bool := decide (x ∈ xs)
/-- A list of numbers of the call's own, in a block that G names. -/
def Kids (G : Nat → Prop) (w : World) (v : Value) (xs : List Int) : Prop := w.ownsRow 0 3 1 v xs.length (xs.map (Value.int .i64)) ∧ ∀ g, v.ownBlock = some g → G g
/-- All blocks from B on G names. -/
def Fut (G : Nat → Prop) (B : Nat) : Prop := ∀ i, B ≤ i → G i
theorem Fut.mono {G : Nat → Prop} {B B' : Nat} (h : Fut G B) (hb : B ≤ B') : Fut G B' := fun i hi => h i (Nat.le_trans hb hi)
theorem Fut.any (B : Nat) : Fut (fun _ => True) B := fun _ _ => trivial

section
variable {G : Nat → Prop} {w w' : World} {F : Nat → Prop} {B B' base n size : Nat} {e : TypeId} {v : Value} {xs : List Int} {us : List Value}
theorem own_in (h : w.ownsRow base e size v n us) : ∀ g, v.ownBlock = some g → g < w.heap.size := fun g hg => (h.lt g hg).2
theorem own_base (h : w.ownsRow base e size v n us) (hb : B ≤ base) : w.ownsRow B e size v n us := by
  refine ⟨h.1, h.2.imp id fun ⟨g, cap, cur, hv, hg, rest⟩ => ⟨g, cap, cur, hv, Nat.le_trans hb hg, rest⟩⟩
theorem own_from (h : w.ownsRow base e size v n us) (hb : ∀ g, v.ownBlock = some g → B ≤ g) : w.ownsRow B e size v n us := by
  refine ⟨h.1, h.2.imp id fun ⟨g, cap, cur, hv, _, rest⟩ => ⟨g, cap, cur, hv, hb g (by rw [hv]; rfl), rest⟩⟩
theorem Kids.kept (h : Kids G w v xs) (k : Keeps F w w') (hF : ∀ i, i < w.heap.size → ¬ F i) : Kids G w' v xs := ⟨own_kept h.1 k fun g hg => hF g (own_in h.1 g hg), h.2⟩
theorem Kids.keptG (h : Kids G w v xs) (k : Keeps F w w') (hF : ∀ i, G i → i < w.heap.size → ¬ F i) : Kids G w' v xs := ⟨own_kept h.1 k fun g hg => hF g (h.2 g hg) (own_in h.1 g hg), h.2⟩
theorem Kids.wide {G' : Nat → Prop} (h : Kids G w v xs) (hG : ∀ i, G i → i < w.heap.size → G' i) : Kids G' w v xs := ⟨h.1, fun g hg => hG g (h.2 g hg) (own_in h.1 g hg)⟩
theorem Kids.aside {g i : Nat} {u : Value} {cs : Array Value} {t : TypeId} {fr : Nat × Nat} (h : Kids G w v xs) (hg : Has w g (.cells cs t fr)) (ht : t ≠ 3) : Kids G (w.setCell ⟨g, i, none⟩ u) v xs :=
  ⟨own_kept h.1 (Keeps.storeAt (F := fun j => j = g) (Keeps.refl _ _) rfl i u) fun g' hg' e => by
    rcases h.1.2 with ⟨rfl, _⟩ | ⟨g2, cap, cur, rfl, _, hh, _⟩
    · cases hg'
    · obtain rfl : g2 = g' := by simpa [Value.ownBlock] using hg'
      exact Has.apart hg hh (fun e => ht (by injection e)) e.symm, h.2⟩
theorem Kids.below (h : Kids G w v xs) (k : Below w.heap.size w w') : Kids G w' v xs := h.kept (Keeps.of_below (F := fun i => w.heap.size ≤ i) k fun _ _ h => h) fun _ hi => Nat.not_le.2 hi
/-- A list of the call's own may be read. -/
theorem Kids.form (h : Kids G w v xs) : ∃ A c, v = .slice A xs.length c ∧ xs.length ≤ c ∧ Nums w w.heap.size A .i64 xs := by
  have h := h.1
  rcases h.2 with ⟨rfl, h0⟩ | ⟨g, cap, cur, rfl, _, hh, hc, _⟩
  · exact ⟨none, 0, by rw [h0], by omega, fun i hi => by omega⟩
  · refine ⟨_, cap, rfl, hc, fun i hi => ⟨g, 0, rfl, Has.inside hh, ?_⟩⟩
    rw [Nat.zero_add, h.cellAt i (by omega), List.getElem?_map, List.getElem?_eq_getElem hi]
    rfl
end
theorem own_empty (w : World) : (w.alloc (.cells #[] 3)).ownsRow w.heap.size 3 1 (.slice (some ⟨w.heap.size, 0, none⟩) 0 0) 0 [] :=
  ⟨rfl, .inr ⟨w.heap.size, 0, #[], rfl, Nat.le_refl _, Has.fresh w (.cells #[] 3), Nat.le_refl _, Nat.zero_le _, rfl, rfl⟩⟩
theorem wrap_small {n : Int} (h0 : -9223372036854775808 ≤ n) (h1 : n ≤ 9223372036854775807) : IntKind.i64.wrap n = n := by
  rw [IntKind.wrap_i64]
  omega
section
variable {w : World} {base base' n n' size size' i : Nat} {e e' : TypeId} {v v' : Value} {us us' : List Value}
/-- A row lies not in a block of another kind. -/
theorem own_apart (h : w.ownsRow base e size v n us) {cs : Array Value} {t : TypeId} {fr : Nat × Nat} (hi : Has w i (.cells cs t fr)) (ht : t ≠ e) : v.ownBlock ≠ some i := fun hv => by
  rcases h.2 with ⟨rfl, _⟩ | ⟨g', cap, cur, rfl, _, hh, _⟩
  · cases hv
  · obtain rfl : g' = i := by simpa [Value.ownBlock] using hv
    exact Has.apart hh hi (fun e => ht (by injection e with _ e; exact e.symm)) rfl
theorem own_apart2 (h : w.ownsRow base e size v n us) (h' : w.ownsRow base' e' size' v' n' us') (ht : e' ≠ e) : ∀ g, v'.ownBlock = some g → v.ownBlock ≠ some g := fun g hg => by
  rcases h'.2 with ⟨rfl, _⟩ | ⟨g', cap, cur, rfl, _, hh, _⟩
  · cases hg
  · obtain rfl : g' = g := by simpa [Value.ownBlock] using hg
    exact own_apart h hh ht
end
end Go.Proofs.Ytekmgaigppenlaa

namespace Go.Proofs.Ytekmgaigppenlaa
open Go

/-- A node. -/
structure Nd where
  kind : Int
  parent : Int
  host : Int
  shadow : Int
  mode : Int
  slot : Bool
  name : ByteArray
  want : ByteArray
  kids : List Int
def Nd.zero : Nd := ⟨0, 0, 0, 0, 0, false, ⟨#[]⟩, ⟨#[]⟩, []⟩
/-- Its nine cells; k is where its children stand. -/
def Nd.cells (d : Nd) (k : Value) : List Value := [.int .i64 d.kind, .int .i64 d.parent, .int .i64 d.host, .int .i64 d.shadow, .int .i64 d.mode, .bool d.slot, .string d.name, .string d.want, k]
theorem Nd.cells_length (d : Nd) (k : Value) : (d.cells k).length = 9 := rfl

/-- Nodes, one behind the other. -/
def flat (rows : List (Nd × Value)) : List Value := rows.flatMap fun p => p.1.cells p.2
section
variable {rows : List (Nd × Value)} {p p' : Nd × Value} {i f : Nat} {u : Value}
theorem flat_cons (p : Nd × Value) (rows : List (Nd × Value)) : flat (p :: rows) = p.1.cells p.2 ++ flat rows := by simp [flat]
theorem flat_append (a b : List (Nd × Value)) : flat (a ++ b) = flat a ++ flat b := by simp [flat]
theorem flat_length : ∀ rows : List (Nd × Value), (flat rows).length = rows.length * 9
  | [] => rfl
  | p :: r => by rw [flat_cons, List.length_append, flat_length r, Nd.cells_length, List.length_cons]; omega
theorem flat_get : ∀ {rows : List (Nd × Value)} {i : Nat}, rows[i]? = some p → f < 9 → (flat rows)[i * 9 + f]? = (p.1.cells p.2)[f]?
  | [], i, h, _ => by simp at h
  | q :: r, 0, h, hf => by
    obtain rfl : q = p := by simpa using h
    rw [flat_cons, List.getElem?_append_left (by rw [Nd.cells_length]; omega), Nat.zero_mul, Nat.zero_add]
  | q :: r, i + 1, h, hf => by
    rw [flat_cons, List.getElem?_append_right (by rw [Nd.cells_length]; omega), Nd.cells_length, show (i + 1) * 9 + f - 9 = i * 9 + f by omega]
    exact flat_get (by simpa using h) hf
theorem flat_set : ∀ {rows : List (Nd × Value)} {i : Nat}, rows[i]? = some p → f < 9 → p'.1.cells p'.2 = (p.1.cells p.2).set f u → flat (rows.set i p') = (flat rows).set (i * 9 + f) u
  | [], i, h, _, _ => by simp at h
  | q :: r, 0, h, hf, hc => by
    obtain rfl : q = p := by simpa using h
    rw [List.set_cons_zero, flat_cons, flat_cons, List.set_append_left _ _ (by rw [Nd.cells_length]; omega), Nat.zero_mul, Nat.zero_add, hc]
  | q :: r, i + 1, h, hf, hc => by
    rw [List.set_cons_succ, flat_cons, flat_cons, List.set_append_right _ _ (by rw [Nd.cells_length]; omega), Nd.cells_length, show (i + 1) * 9 + f - 9 = i * 9 + f by omega]
    rw [flat_set (by simpa using h) hf hc]
theorem flat_one {rows : List (Nd × Value)} (h1 : ∀ p ∈ rows, p.2.oneCell' = true) : ∀ u ∈ flat rows, u.oneCell' = true := by
  intro u hu
  obtain ⟨p, hp, hu⟩ := List.mem_flatMap.1 hu
  simp only [Nd.cells, List.mem_cons, List.not_mem_nil, or_false] at hu
  rcases hu with rfl | rfl | rfl | rfl | rfl | rfl | rfl | rfl | rfl
  all_goals first | rfl | exact h1 p hp
end

/-- Is it there? -/
def thereB (l : List Nd) (id : Int) : Bool := decide (1 ≤ id) && decide (id ≤ (l.length : Int))
theorem thereB_iff {l : List Nd} {id : Int} : thereB l id = true ↔ 1 ≤ id ∧ id ≤ (l.length : Int) := by simp [thereB]
theorem there_lt {l : List Nd} {id : Int} (h : thereB l id = true) : (id - 1).toNat < l.length := by have := thereB_iff.1 h; omega
def nd (l : List Nd) (id : Int) : Nd := l.getD (id - 1).toNat Nd.zero
theorem nd_get {l : List Nd} {id : Int} (h : thereB l id = true) : l[(id - 1).toNat]? = some (nd l id) := by
  rw [nd, List.getD_eq_getElem?_getD, List.getElem?_eq_getElem (there_lt h)]
  rfl
/-- One node is turned. -/
def modN (l : List Nd) (id : Int) (f : Nd → Nd) : List Nd := l.set (id - 1).toNat (f (nd l id))
theorem modN_length (l : List Nd) (id : Int) (f : Nd → Nd) : (modN l id f).length = l.length := List.length_set
theorem modN_there (l : List Nd) (id : Int) (f : Nd → Nd) (k : Int) : thereB (modN l id f) k = thereB l k := by unfold thereB; rw [modN_length]

/-- Empty, or a word. -/
def okName (s : ByteArray) : Bool := s.toList.isEmpty || rightL s.data.toList

/-- Make: the error's number. -/
def mkErr (n : Nat) (d : Nd) : Int :=
  if d.kind < 1 ∨ 4 < d.kind then 2
  else if (d.kind = 3 ∧ d.mode ≠ 1 ∧ d.mode ≠ 2) ∨ (d.kind ≠ 3 ∧ d.mode ≠ 0) then 1
  else if (d.kind ≠ 2 ∧ (d.slot = true ∨ d.want.toList.isEmpty = false)) ∨ (d.slot = false ∧ d.name.toList.isEmpty = false) ∨ okName d.name = false ∨ okName d.want = false then 1
  else if 128 ≤ n then 9 else 0
def bare (d : Nd) : Nd := ⟨d.kind, 0, 0, 0, d.mode, d.slot, d.name, d.want, []⟩
def mkL (l : List Nd) (d : Nd) : List Nd := if mkErr l.length d = 0 then l ++ [bare d] else l
def mkNo (l : List Nd) (d : Nd) : Int := if mkErr l.length d = 0 then (l.length : Int) + 1 else 0

/-- What is above, one step. -/
def upOf (l : List Nd) (id : Int) : Int := if (nd l id).parent = 0 then (nd l id).host else (nd l id).parent
def overN (l : List Nd) : Nat → Int → List Int
  | 0, _ => []
  | n + 1, id => if thereB l id then id :: overN l n (upOf l id) else []
def over (l : List Nd) (id : Int) : List Int := overN l (l.length + 1) id

/-- Put: the error's number, and the nodes. -/
def kidIn (l : List Nd) (kids : List Int) (i : Nat) : Bool := thereB l (kids.getD i 0) && !hasB (kids.take i) (kids.getD i 0)
def kidOk (l : List Nd) (up : List Int) (parent k : Int) : Bool := !(decide ((nd l k).kind = 1) || decide ((nd l k).kind = 3) || hasB up k || (decide ((nd l k).parent ≠ 0) && decide ((nd l k).parent ≠ parent)))
def putErr (l : List Nd) (parent : Int) (kids : List Int) : Int :=
  if thereB l parent = false then 1
  else if ¬ ∀ i, i < kids.length → kidIn l kids i = true then 1
  else if ¬ ∀ k, k ∈ kids → kidOk l (over l parent) parent k = true then 3
  else 0
def clr (l : List Nd) (parent : Int) : List Nd := l.map fun d => if d.parent = parent then { d with parent := 0 } else d
def toPar (l : List Nd) (parent : Int) (kids : List Int) : List Nd := kids.foldl (fun l k => modN l k fun d => { d with parent := parent }) l
def putL (l : List Nd) (parent : Int) (kids : List Int) : List Nd := if putErr l parent kids = 0 then modN (toPar (clr l parent) parent kids) parent fun d => { d with kids := kids } else l

def tieErr (l : List Nd) (h r : Int) : Int :=
  if thereB l h = false ∨ thereB l r = false then 1
  else if (nd l h).kind ≠ 2 ∨ (nd l r).kind ≠ 3 then 2
  else if (nd l h).shadow ≠ 0 ∨ (nd l r).host ≠ 0 then 6
  else if hasB (over l h) r = true then 3
  else 0
def tieL (l : List Nd) (h r : Int) : List Nd := if tieErr l h r = 0 then modN (modN l h fun d => { d with shadow := r }) r fun d => { d with host := h } else l

def nameErr (l : List Nd) (id : Int) (s : ByteArray) : Int := if thereB l id = false ∨ okName s = false then 1 else if (nd l id).slot = false then 2 else 0
def nameL (l : List Nd) (id : Int) (s : ByteArray) : List Nd := if nameErr l id s = 0 then modN l id fun d => { d with name := s } else l
def wantErr (l : List Nd) (id : Int) (s : ByteArray) : Int := if thereB l id = false ∨ okName s = false then 1 else if (nd l id).kind ≠ 2 then 2 else 0
def wantL (l : List Nd) (id : Int) (s : ByteArray) : List Nd := if wantErr l id s = 0 then modN l id fun d => { d with want := s } else l

theorem clr_length (l : List Nd) (p : Int) : (clr l p).length = l.length := List.length_map ..
theorem toPar_length : ∀ (kids : List Int) (l : List Nd) (p : Int), (toPar l p kids).length = l.length
  | [], _, _ => rfl
  | k :: r, l, p => by
    show (toPar (modN l k _) p r).length = _
    rw [toPar_length r, modN_length]
theorem mkErr_zero {n : Nat} {d : Nd} (h : mkErr n d = 0) : n < 128 := by
  unfold mkErr at h
  split at h
  · cases h
  · split at h
    · cases h
    · split at h
      · cases h
      · split at h
        · cases h
        · omega
theorem mkL_length (l : List Nd) (d : Nd) : (mkL l d).length ≤ 128 ∨ (mkL l d).length = l.length := by
  unfold mkL
  by_cases h : mkErr l.length d = 0
  · have := mkErr_zero h
    rw [if_pos h]
    left
    simp
    omega
  · rw [if_neg h]
    exact .inr rfl
theorem putL_length (l : List Nd) (p : Int) (kids : List Int) : (putL l p kids).length = l.length := by
  unfold putL
  split
  · rw [modN_length, toPar_length, clr_length]
  · rfl
theorem tieL_length (l : List Nd) (h r : Int) : (tieL l h r).length = l.length := by
  unfold tieL
  split
  · rw [modN_length, modN_length]
  · rfl
theorem nameL_length (l : List Nd) (id : Int) (s : ByteArray) : (nameL l id s).length = l.length := by
  unfold nameL
  split
  · rw [modN_length]
  · rfl
theorem wantL_length (l : List Nd) (id : Int) (s : ByteArray) : (wantL l id s).length = l.length := by
  unfold wantL
  split
  · rw [modN_length]
  · rfl

/-- A call on a forest. -/
structure Ac where
  kind : Int
  a : Int
  b : Int
  s : ByteArray
  n : Nd
  l : List Int
def actL (l : List Nd) (x : Ac) : List Nd :=
  if x.kind = 0 then mkL l x.n else if x.kind = 1 then putL l x.a x.l else if x.kind = 2 then tieL l x.a x.b else if x.kind = 3 then nameL l x.a x.s else if x.kind = 4 then wantL l x.a x.s else l
def actNo (l : List Nd) (x : Ac) : Int := if x.kind = 0 then mkNo l x.n else 0
def actErr (l : List Nd) (x : Ac) : Int :=
  if x.kind = 0 then mkErr l.length x.n else if x.kind = 1 then putErr l x.a x.l else if x.kind = 2 then tieErr l x.a x.b else if x.kind = 3 then nameErr l x.a x.s else if x.kind = 4 then wantErr l x.a x.s else 0
def forest (acts : List Ac) : List Nd := acts.foldl actL []
theorem actL_length (l : List Nd) (x : Ac) (h : l.length ≤ 128) : (actL l x).length ≤ 128 := by
  unfold actL
  split
  · rcases mkL_length l x.n with h' | h' <;> omega
  · split
    · rw [putL_length]; exact h
    · split
      · rw [tieL_length]; exact h
      · split
        · rw [nameL_length]; exact h
        · split
          · rw [wantL_length]; exact h
          · exact h
theorem forest_snoc (acts : List Ac) (x : Ac) : forest (acts ++ [x]) = actL (forest acts) x := by simp [forest]
end Go.Proofs.Ytekmgaigppenlaa

namespace Go.Proofs.Ytekmgaigppenlaa
open Go Go.RowKit

/-- A list of nodes of the call's own; its row lies from block B on; all its blocks G names. -/
def Nodes (G : Nat → Prop) (w : World) (B : Nat) (A : Option Addr) (c : Nat) (l : List Nd) : Prop :=
  ∃ rows : List (Nd × Value), rows.map Prod.fst = l ∧ w.ownsRow B 57 9 (.slice A l.length c) l.length (flat rows) ∧ (∀ p ∈ rows, Kids G w p.2 p.1.kids) ∧ ∀ b off s, A = some ⟨b, off, s⟩ → G b

section
variable {G : Nat → Prop} {w w' : World} {F : Nat → Prop} {B B' base n size : Nat} {e : TypeId} {A : Option Addr} {c : Nat} {l : List Nd} {v : Value} {xs : List Int} {us : List Value}
theorem Nodes.kept (h : Nodes G w B A c l) (k : Keeps F w w') (hF : ∀ i, i < w.heap.size → ¬ F i) : Nodes G w' B A c l := by
  obtain ⟨rows, h1, h2, h3, h4⟩ := h
  exact ⟨rows, h1, own_kept h2 k fun g hg => hF g (own_in h2 g hg), fun p hp => (h3 p hp).kept k hF, h4⟩
theorem Nodes.keptG (h : Nodes G w B A c l) (k : Keeps F w w') (hF : ∀ i, G i → i < w.heap.size → ¬ F i) : Nodes G w' B A c l := by
  obtain ⟨rows, h1, h2, h3, h4⟩ := h
  refine ⟨rows, h1, own_kept h2 k fun g hg => ?_, fun p hp => (h3 p hp).keptG k hF, h4⟩
  obtain ⟨a, rfl, rfl⟩ : ∃ a, A = some a ∧ a.block = g := by
    cases A with
    | none => cases hg
    | some a => exact ⟨a, rfl, by simpa [Value.ownBlock] using hg⟩
  exact hF _ (h4 _ _ _ rfl) (own_in h2 _ hg)
theorem Nodes.wide {G' : Nat → Prop} (h : Nodes G w B A c l) (hG : ∀ i, G i → i < w.heap.size → G' i) : Nodes G' w B A c l := by
  obtain ⟨rows, h1, h2, h3, h4⟩ := h
  refine ⟨rows, h1, h2, fun p hp => (h3 p hp).wide hG, fun b off s e => ?_⟩
  subst e
  exact hG b (h4 b off s rfl) (own_in h2 b rfl)
theorem Nodes.below (h : Nodes G w B A c l) (k : Below w.heap.size w w') : Nodes G w' B A c l := h.kept (Keeps.of_below (F := fun i => w.heap.size ≤ i) k fun _ _ h => h) fun _ hi => Nat.not_le.2 hi
theorem Nodes.drewN (h : Nodes G w B A c l) (n : Nat) : Nodes G (w.drewN n) B A c l := h
theorem Nodes.nil (w : World) (B : Nat) : Nodes G w B none 0 [] := ⟨[], rfl, World.ownsRow_nil _ _ _ _, fun _ h => absurd h (by simp), fun _ _ _ h => absurd h (by simp)⟩
theorem Nodes.from_ (h : Nodes G w B A c l) (hb : B' ≤ B) : Nodes G w B' A c l := by
  obtain ⟨rows, h1, h2, h3, h4⟩ := h
  exact ⟨rows, h1, own_base h2 hb, h3, h4⟩
theorem Nodes.cap (h : Nodes G w B A c l) : l.length ≤ c := by
  obtain ⟨rows, h1, h2, h3, h4⟩ := h
  rcases h2.2 with ⟨hv, h0⟩ | ⟨g, cap, cur, hv, _, _, hc, _⟩
  · omega
  · injection hv with _ _ e; omega
theorem Nodes.inside (h : Nodes G w B A c l) : ∀ b off s, A = some ⟨b, off, s⟩ → b < w.heap.size := by
  rintro b off s rfl
  obtain ⟨rows, h1, h2, h3, h4⟩ := h
  exact own_in h2 b rfl

/-- A node of it, cell by cell. -/
theorem Nodes.at_ (h : Nodes G w B A c l) {i : Nat} (hi : i < l.length) : ∃ g k, A = some ⟨g, 0, none⟩ ∧ B ≤ g ∧ Kids G w k l[i].kids ∧ (∀ j, w.frozen? ⟨g, j, none⟩ = false) ∧ ∀ f, f < 9 → w.cell? ⟨g, i * 9 + f, none⟩ = (l[i].cells k)[f]? := by
  obtain ⟨rows, rfl, h2, h3, h4⟩ := h
  have hi' : i < rows.length := by simpa using hi
  rcases h2.2 with ⟨_, h0⟩ | ⟨g, cap, cur, hv, hg, hh, _⟩
  · omega
  obtain ⟨rfl, rfl⟩ : A = some ⟨g, 0, none⟩ ∧ c = cap := by injection hv with e1 _ e3; exact ⟨e1, e3⟩
  refine ⟨g, rows[i].2, rfl, hg, ?_, fun j => h2.frozenAt j, fun f hf => ?_⟩
  · rw [List.getElem_map]
    exact h3 _ (List.getElem_mem hi')
  · rw [h2.cellAt _ (by simp; omega), flat_get (List.getElem?_eq_getElem hi') hf, List.getElem_map]
/-- One cell is written: the node is another one. -/
theorem Nodes.store {g : Nat} (h : Nodes G w B (some ⟨g, 0, none⟩) c l) {i : Nat} (hi : i < l.length) {f : Nat} (hf : f < 9) {u : Value} {d : Nd} (hd : ∀ k', ∃ k'', d.cells k'' = (l[i].cells k').set f u ∧ (Kids G w k' l[i].kids → Kids G w k'' d.kids)) :
    Nodes G (w.setCell ⟨g, i * 9 + f, none⟩ u) B (some ⟨g, 0, none⟩) c (l.set i d) := by
  obtain ⟨rows, rfl, h2, h3, h4⟩ := h
  have hi' : i < rows.length := by simpa using hi
  obtain ⟨k'', hk1, hk2⟩ := hd rows[i].2
  rw [List.getElem_map] at hk1 hk2
  have hg : ∃ cur, Has w g (.cells cur 57 (0, 0)) := by
    rcases h2.2 with ⟨hv, _⟩ | ⟨g', cap, cur, hv, _, hh, _⟩
    · cases hv
    · obtain rfl : g = g' := by injection hv with e1; simpa using e1
      exact ⟨cur, hh⟩
  obtain ⟨cur, hg⟩ := hg
  refine ⟨rows.set i (d, k''), by rw [List.map_set], ?_, fun p hp => ?_, h4⟩
  · have := (h2.stored (i * 9 + f) u).1
    rw [List.length_set]
    rw [flat_set (List.getElem?_eq_getElem hi') hf hk1]
    exact this
  · rcases List.mem_or_eq_of_mem_set hp with hp | rfl
    · exact (h3 p hp).aside hg (by decide)
    · exact (hk2 (h3 _ (List.getElem_mem hi'))).aside hg (by decide)
end
end Go.Proofs.Ytekmgaigppenlaa

namespace Go.Proofs.Ytekmgaigppenlaa
open Go Go.ChangeShapes Go.WideShapes Go.ChangeAt Go.RowKit
variable {G : Nat → Prop}

/-- What a slice gives to an append: m elements of so many cells; nil gives none. -/
def Gives (w : World) (size : Nat) (x : Value) (m : Nat) (us : List Value) : Prop :=
  (x = .slice none 0 0 ∧ m = 0 ∧ us = []) ∨ ∃ ad c, x = .slice (some ad) m c ∧ us.length = m * size ∧ ∀ j u, us[j]? = some u → w.cell? (ad.add j) = some u

theorem own_gives {w : World} {base n size : Nat} {e : TypeId} {v : Value} {us : List Value} (h : w.ownsRow base e size v n us) : Gives w size v n us := by
  rcases h.2 with ⟨rfl, rfl⟩ | ⟨g, cap, cur, rfl, _, hg, _⟩
  · exact .inl ⟨rfl, rfl, List.eq_nil_of_length_eq_zero (by simpa using h.1)⟩
  · exact .inr ⟨_, _, rfl, h.1, h.cells rfl⟩
theorem nums_gives {w : World} {B n c : Nat} {A : Option Addr} {xs : List Int} (h : Nums w B A .i64 xs) (hn : n = xs.length) (h0 : A = none → c = 0) : Gives w 1 (.slice A n c) n (xs.map (Value.int .i64)) := by
  subst hn
  cases A with
  | none =>
    obtain rfl := h0 rfl
    have : xs = [] := by
      cases xs with
      | nil => rfl
      | cons x r =>
        obtain ⟨_, _, e, _⟩ := h 0 (by simp)
        cases e
    subst this
    exact .inl ⟨rfl, rfl, rfl⟩
  | some a =>
    refine .inr ⟨a, c, rfl, by simp, fun j u hu => ?_⟩
    obtain ⟨hj, rfl⟩ := List.getElem?_eq_some_iff.1 hu
    rw [List.length_map] at hj
    obtain ⟨b, off, e, _, hc⟩ := h j hj
    cases e
    rw [Addr.add_lit, hc, List.getElem_map]

theorem wpList_append_gives {P : Program} {w : World} {ops : Array Oper} {rest : List Oper} {o : Oper} {a : Act} {Q : Exit → Act → World → Prop} (hgd : o.guard = none) (s x : Operand) (t : TypeId)
    (ho : o.op = .call { callee := .builtin .append, args := #[s, x], argTypes := #[t, t] })
    (base : Nat) (e : TypeId) (i : TypeInfo) (z : Value) (size bytes : Nat) (ht : P.underlying t = some (.slice e)) (hi : P.info? e = some i) (hz : i.zero = some z)
    (hsize : i.size = size) (hby : i.bytes = bytes) (hzs : z.cells.size = size) (hsz : 0 < size)
    (v : Value) (n : Nat) (xs : List Value) (hs : a.eval s = v) (hown : w.ownsRow base e size v n xs)
    (X : Value) (m : Nat) (us : List Value) (hx : a.eval x = X) (hG : Gives w size X m us) (h1 : ∀ u ∈ us, u.oneCell' = true)
    (h63 : n + m ≤ maxLen) (hbytes : (n + m) * bytes ≤ 140737488355328) (hbase : base ≤ w.heap.size)
    (h : ∀ v' w', w'.ownsRow base e size v' (n + m) (xs ++ us) → w.grownBy w' v.ownBlock → wpList P ops Q rest (a.put o.dst v') w') : wpList P ops Q (o :: rest) a w := by
  rcases hG with ⟨rfl, rfl, rfl⟩ | ⟨ad, c, rfl, hl, hc⟩
  · refine wpList_append_own_none hgd s x t ho base e i size ht hi v n xs hs hown hx (h v w ?_ ⟨rfl, rfl, rfl, Nat.le_refl _, fun _ _ _ => rfl⟩)
    rw [List.append_nil]
    exact hown
  · exact wpList_append_own w hgd s x t ho base e i z size bytes ht hi hz hsize hby hzs hsz v n xs hs hown ad m c us hx hl hc h1 h63 hbytes hbase fun v' w' h2 h3 _ => h v' w' h2 h3

theorem own_form {w : World} {base n size : Nat} {e : TypeId} {v : Value} {us : List Value} (h : w.ownsRow base e size v n us) : ∃ A c, v = .slice A n c ∧ n ≤ c := by
  rcases h.2 with ⟨rfl, rfl⟩ | ⟨g, cap, cur, rfl, _, _, hc, _⟩
  · exact ⟨_, _, rfl, Nat.le_refl _⟩
  · exact ⟨_, _, rfl, hc⟩

theorem Try.infoInt : (Try.prog.info? 3).map (fun i => (i.zero, i.size, i.bytes)) = some (some (.int .i64 0), 1, 8) := by kernel_rfl

theorem kids_one (xs : List Int) : ∀ u ∈ xs.map (Value.int .i64), u.oneCell' = true := by
  intro u hu
  obtain ⟨x, _, rfl⟩ := List.mem_map.1 hu
  rfl
theorem Kids.one {w : World} {v : Value} {xs : List Int} (h : Kids G w v xs) : v.oneCell' = true := by
  rcases h.1.2 with ⟨rfl, _⟩ | ⟨g, cap, cur, rfl, _⟩ <;> rfl

/-- A new list of numbers, and nothing else. -/
theorem kids_new {wr w2 : World} {v2 : Value} {kd : List Int} (ho : w2.ownsRow wr.heap.size 3 1 v2 (0 + kd.length) ([] ++ kd.map (Value.int .i64))) (hg : (wr.alloc (.cells #[] 3)).grownBy w2 (some wr.heap.size)) (hG : Fut G wr.heap.size) :
    Kids G w2 v2 kd ∧ Below wr.heap.size wr w2 ∧ wr.heap.size < w2.heap.size := by
  rw [Nat.zero_add, List.nil_append] at ho
  refine ⟨⟨own_base ho (Nat.zero_le _), fun g hg => hG g (ho.lt g hg).1⟩, ((Below.refl _ wr).alloc (Nat.le_refl _) _).grown hg (by simp) fun k hk => ?_, ?_⟩
  · have : wr.heap.size = k := by simpa using hk
    omega
  · have := hg.size
    simp at this
    omega
theorem cell_in {w : World} {a : Addr} {v : Value} (h : w.cell? a = some v) : a.block < w.heap.size := by
  rcases Nat.lt_or_ge a.block w.heap.size with h' | h'
  · exact h'
  · rw [World.cell?, Array.getElem?_eq_none h'] at h
    cases h

/-- A list of numbers within what came in. -/
structure ListIn (w : World) (A : Option Addr) (c : Nat) (xs : List Int) : Prop where
  cap : xs.length ≤ c
  nil : A = none → c = 0
  nums : Nums w w.heap.size A .i64 xs

section
variable {H : Type} {enc : TypeId × Value → H} {W : World} {sp : Nat → Bool} {held : Bool} {fuel : Nat} {cs : List Value} {y : DataW H × List MemPlace}

theorem list_in (h : DataW.trod enc Try.prog W 0 sp held fuel 55 cs = some y) : ∃ A c xs, cs = [.slice A (List.length xs) c] ∧ ListIn W A c xs := by
  rcases open_ints Try.underlying55 Try.underlying3 (by kernel_rfl) h with ⟨rfl, _⟩ | ⟨a, n, cap, zs, rfl, _, hl, hm, hz, hxe, hcell, hws⟩
  · exact ⟨none, 0, [], rfl, Nat.le_refl 0, fun _ => rfl, fun i hi => absurd hi (Nat.not_lt_zero i)⟩
  · have hge : n ≤ zs.length := by rw [hz]; split <;> omega
    have hlen : (zs.take n).length = n := by rw [List.length_take]; omega
    refine ⟨some a, cap, zs.take n, by rw [hlen], by rw [hlen]; exact hl, fun e => absurd e (by simp), fun i hi => ?_⟩
    rw [hlen] at hi
    have hi' : i < zs.length := by omega
    have hc := hcell i hi'
    have hc0 := hcell 0 (by omega)
    obtain ⟨b, off, spot⟩ := a
    obtain rfl : spot = none := by simpa [Addr.add] using World.cell?_spot hc0
    rw [Addr.add_lit] at hc
    refine ⟨b, off, rfl, cell_in hc, hc.trans ?_⟩
    rw [List.getElem_take, List.getD_eq_getElem?_getD, List.getElem?_eq_getElem hi']
    rfl

/-- One cell of a row, by its part. -/
theorem part_one {cs : List Value} {i n : Nat} {v : Value} (h : (cs.drop i).take n = [v]) (hn : n = 1) : cs[i]? = some v := by
  subst hn
  have : ((cs.drop i).take 1)[0]? = some v := by rw [h]; rfl
  rw [List.getElem?_take, if_pos (by omega), List.getElem?_drop] at this
  exact this

end
theorem ListIn.below {w w' : World} {A : Option Addr} {c : Nat} {xs : List Int} (h : ListIn w A c xs) (hb : Below w.heap.size w w') : ListIn w' A c xs := ⟨h.cap, h.nil, (h.nums.below hb).mono hb.size⟩
theorem listNone (W : World) : ListIn W none 0 [] := ⟨Nat.le_refl 0, fun _ => rfl, fun i hi => absurd hi (Nat.not_lt_zero i)⟩
/-- A literal of numbers. -/
theorem listLit {W : World} {b : Nat} {t : TypeId} {fr : Nat × Nat} {xs : List Int} (hh : Has W b (.cells (xs.map (Value.int .i64)).toArray t fr)) : ListIn W (some ⟨b, 0, none⟩) xs.length xs :=
  ⟨Nat.le_refl _, (fun e => by cases e), fun i hi => ⟨b, 0, rfl, hh.inside, by rw [hh.cell, Nat.zero_add, List.getElem?_toArray, List.getElem?_map, List.getElem?_eq_getElem hi]; rfl⟩⟩
/-- A list that lies elsewhere stays. -/
theorem ListIn.kept {S : Nat → Prop} {w w' : World} {A : Option Addr} {c : Nat} {xs : List Int} (h : ListIn w A c xs) (k : Keeps S w w') (hA : 0 < xs.length → ∀ b' off s, A = some ⟨b', off, s⟩ → b' < w.heap.size → ¬ S b') : ListIn w' A c xs :=
  ⟨h.cap, h.nil, fun i hi => by
    obtain ⟨b', off, e, hb, hc⟩ := h.nums i hi
    refine ⟨b', off, e, Nat.lt_of_lt_of_le hb k.grows, ?_⟩
    have ho := k.old b' hb (hA (by omega) _ _ _ e hb)
    rw [← hc]
    unfold World.cell?
    simp only [ho]⟩
theorem has_take {xs : List Int} {x : Int} {k : Nat} (h : hasB (xs.take k) x = false) (hk : k < xs.length) (hx : xs[k] ≠ x) : hasB (xs.take (k + 1)) x = false := by
  unfold hasB at *
  rw [List.take_add_one, List.getElem?_eq_getElem hk]
  simp only [List.mem_append, Option.toList_some, List.mem_singleton, decide_eq_false_iff_not] at *
  rintro (h' | h')
  · exact h h'
  · exact hx h'.symm

set_option maxHeartbeats 1000000 in
theorem has_any (xs : List Int) (A : Option Addr) (n c : Nat) (x : Int) (w : World) {B : Nat} (hn : n = xs.length) (hl : n ≤ 1000000) (h : Nums w B A .i64 xs) :
    Calls Try.prog 59 #[.slice A n c, .int .i64 x] w fun e w' => e = .returned (.bool (hasB xs x)) ∧ w = w' := by
  have Hn := Lib.hid hn
  have H := Lib.hid h
  clear hn h
  go_enter Try.func59, Try.ntmps59
  go_wp2
  go_loop [5] (fun i => ∃ k : Nat, i = .int .i64 k ∧ k ≤ n ∧ hasB (xs.take k) x = false) (fun i => n - (intOf i).toNat)
  case atStart => exact ⟨0, rfl, Nat.zero_le _, by simp [hasB]⟩
  case round =>
    obtain ⟨k, rfl, hk, hc⟩ := hrel
    have Hc := Lib.hid hc
    clear hc
    by_cases hlt : (k : Int) < n
    · have hkl : k < xs.length := by rw [← Hn.out]; omega
      obtain ⟨b, off, rfl, hb, hcell⟩ := H.out k hkl
      obtain ⟨y, hy⟩ : ∃ y, y = xs[k] := ⟨_, rfl⟩
      rw [← hy] at hcell
      have Hy := Lib.hid hy
      clear hy hb
      by_cases hxy : y = x
      · have e1 : hasB xs x = true := by
          rw [hasB, decide_eq_true_iff, ← hxy, Hy.out]
          exact List.getElem_mem hkl
        have E1 := Lib.hid e1
        clear e1
        subst hxy
        go_wp2
        go_ret
        rw [E1.out]
        exact ⟨rfl, rfl⟩
      · have hxy' : (y == x) = false := by simpa using hxy
        have e2 := has_take Hc.out hkl (by rw [← Hy.out]; exact hxy)
        have E2 := Lib.hid e2
        clear e2
        go_wp2
        go_round
        case rel => exact ⟨k + 1, by go_num, by omega, E2.out⟩
        case measure => simp [intOf]; omega
    · have e1 : hasB xs x = false := by
        have := Hc.out
        rw [List.take_of_length_le (by rw [← Hn.out]; omega)] at this
        exact this
      have E1 := Lib.hid e1
      clear e1
      go_wp2
      go_ret
      rw [E1.out]
      exact ⟨rfl, rfl⟩
end Go.Proofs.Ytekmgaigppenlaa

namespace Go.Proofs.Ytekmgaigppenlaa
open Go Go.RowKit

theorem there_any (l : List Nd) (A : Option Addr) (c : Nat) (id : Int) (w : World) :
    Calls Try.prog 58 #[.slice A l.length c, .int .i64 id] w fun e w' => e = .returned (.bool (thereB l id)) ∧ w = w' := by
  by_cases h1 : 1 ≤ id
  · have g1 : decide (1 ≤ id) = true := decide_eq_true h1
    have e1 : thereB l id = decide (id ≤ (l.length : Int)) := by unfold thereB; rw [g1]; rfl
    rw [e1]
    clear e1
    go_enter Try.func58, Try.ntmps58
    go_wp2
    go_ret
    exact ⟨rfl, rfl⟩
  · have g1 : decide (1 ≤ id) = false := decide_eq_false h1
    have e1 : thereB l id = false := by unfold thereB; rw [g1]; rfl
    rw [e1]
    clear e1
    go_enter Try.func58, Try.ntmps58
    go_wp2
    go_ret
    exact ⟨rfl, rfl⟩

theorem named_any (s : ByteArray) (w : World) (hs : s.size ≤ 9223372036854775807) :
    Calls Try.prog 56 #[.string s] w fun e w' => e = .returned (.bool (okName s)) ∧ w = w' := by
  cases h0 : s.toList.isEmpty with
  | true =>
    have e1 : okName s = true := by unfold okName; rw [h0]; rfl
    rw [e1]
    go_enter Try.func56, Try.ntmps56
    go_wp2
    go_ret
    exact ⟨rfl, rfl⟩
  | false =>
    have e1 : okName s = rightL s.data.toList := by unfold okName; rw [h0]; rfl
    rw [e1]
    clear e1
    go_enter Try.func56, Try.ntmps56
    go_wp2_with fail
    refine (refRight_any s w hs).mono ?_
    rintro e w1 ⟨rfl, rfl⟩
    go_wp2
    go_ret
    exact ⟨rfl, rfl⟩
end Go.Proofs.Ytekmgaigppenlaa

namespace Go.Proofs.Ytekmgaigppenlaa
open Go Go.RowKit
variable {G : Nat → Prop}

theorem Try.infoNode : (Try.prog.info? 57).map (fun i => (i.zero, i.size, i.bytes)) = some (some (.agg #[.int .i64 0, .int .i64 0, .int .i64 0, .int .i64 0, .int .i64 0, .bool false, .string ⟨#[]⟩, .string ⟨#[]⟩, .slice none 0 0]), 9, 104) := by kernel_rfl

/-- A node's children stand elsewhere. -/
theorem Nodes.kidsTo {w : World} {B g c j : Nat} {l : List Nd} {v : Value} (h : Nodes G w B (some ⟨g, 0, none⟩) c l) (hj : j < l.length) (hk : Kids G w v l[j].kids) : (∃ x, w.cell? ⟨g, j * 9 + 8, none⟩ = some x) ∧ w.frozen? ⟨g, j * 9 + 8, none⟩ = false ∧ Nodes G (w.setCell ⟨g, j * 9 + 8, none⟩ v) B (some ⟨g, 0, none⟩) c l := by
  obtain ⟨g', k', e, _, _, hf, hc⟩ := h.at_ hj
  obtain rfl : g = g' := by simpa using e
  refine ⟨⟨k', hc 8 (by omega)⟩, hf _, ?_⟩
  have := h.store hj (f := 8) (by omega) (u := v) (d := l[j]) (fun k' => ⟨v, rfl, fun _ => hk⟩)
  rw [List.set_getElem_self] at this
  exact this

set_option maxHeartbeats 4000000 in
set_option maxRecDepth 100000 in
theorem copy_any (l : List Nd) (A : Option Addr) (c : Nat) (w : World) (hl : l.length ≤ 1000) (hk : ∀ d ∈ l, d.kids.length ≤ 100000) (hG : Fut G w.heap.size) (h : Nodes G w 0 A c l) :
    Calls Try.prog 57 #[.slice A l.length c] w fun e w' => ∃ A' c', e = .returned (.slice A' l.length c') ∧ Nodes G w' w.heap.size A' c' l ∧ Below w.heap.size w w' := by
  obtain ⟨i0, hi, hz0, hz1, hz2⟩ := info_parts Try.infoInt
  obtain ⟨j0, qi, qz0, qz1, qz2⟩ := info_parts Try.infoNode
  have Hi := Lib.hid hi
  have Hz0 := Lib.hid hz0
  have Hz1 := Lib.hid hz1
  have Hz2 := Lib.hid hz2
  have Qi := Lib.hid qi
  have Qz0 := Lib.hid qz0
  have Qz1 := Lib.hid qz1
  have Qz2 := Lib.hid qz2
  have Hk := Lib.hid hk
  have H := Lib.hid h
  clear hi hz0 hz1 hz2 qi qz0 qz1 qz2 hk h
  go_enter Try.func57, Try.ntmps57
  obtain ⟨rows, hr1, hr2, hr3, -⟩ := H.out
  have hrl : rows.length = l.length := by rw [← hr1, List.length_map]
  have hown0 : (w.alloc (.cells #[] 57)).ownsRow w.heap.size 57 9 (.slice (some ⟨w.heap.size, 0, none⟩) 0 0) 0 [] := World.ownsRow_lit w #[] 0 (Nat.le_refl _) (Nat.zero_le _) rfl
  have hgv : Gives (w.alloc (.cells #[] 57)) 9 (.slice A l.length c) l.length (flat rows) := own_gives (hr2.alloc _)
  have hone := flat_one (fun p hp => (hr3 p hp).one)
  have Hown0 := Lib.hid hown0
  have Hgv := Lib.hid hgv
  have Hone := Lib.hid hone
  have Hr1 := Lib.hid hr1
  have Hr3 := Lib.hid hr3
  have Hrl := Lib.hid hrl
  clear hown0 hgv hone hr1 hr2 hr3 hrl
  go_wp2_with (at_builtin; refine wpList_append_gives rfl (.tmp 5) (.tmp 6) 40 rfl w.heap.size 57 j0 _ 9 104 Try.underlying40 Qi.out Qz0.out Qz1.out Qz2.out rfl (by decide) (.slice (some ⟨w.heap.size, 0, none⟩) 0 0) 0 [] rfl Hown0.out _ l.length (flat rows) rfl Hgv.out Hone.out (by unfold maxLen; omega) (by omega) (by simp) ?_; intro v1 w1 ho hg; obtain ⟨A1, c1, rfl, hc1⟩ := own_form (by rw [Nat.zero_add] at ho; exact ho))
  have hN1 : Nodes G w1 w.heap.size A1 c1 l := by
    rw [Nat.zero_add, List.nil_append] at ho
    refine ⟨rows, Hr1.out, ho, fun p hp => ?_, fun b off s e => by subst e; exact hG b (ho.lt b rfl).1⟩
    have k1 : Kids G (w.alloc (.cells #[] 57)) p.2 p.1.kids := (Hr3.out p hp).kept (F := fun _ => False) ((Keeps.refl _ _).alloc _) fun _ _ h => h
    refine ⟨own_kept k1.1 (Keeps.of_grown hg) fun g hg' e => ?_, k1.2⟩
    have := own_in (Hr3.out p hp).1 g hg'
    have : w.heap.size = g := by simpa [Value.ownBlock] using e
    omega
  have hb1 : Below w.heap.size w w1 := by
    refine ((Below.refl _ w).alloc (Nat.le_refl _) _).grown hg (by simp) fun k hk => ?_
    have : w.heap.size = k := by simpa [Value.ownBlock] using hk
    omega
  clear ho hg Hown0 Hgv Hone Hr1 Hr3 Hrl
  go_loopw [4] (fun i wr => ∃ j : Nat, i = .int .i64 j ∧ j ≤ l.length ∧ Nodes G wr w.heap.size A1 c1 l ∧ Below w.heap.size w wr) (fun i _ => l.length - (intOf i).toNat)
  case atStart => exact ⟨0, rfl, Nat.zero_le _, hN1, hb1⟩
  case round =>
    obtain ⟨j, rfl, hj, hN, hb⟩ := hrel
    clear hN1 hb1
    by_cases hjl : (j : Int) < l.length
    · have hj' : j < l.length := by omega
      obtain ⟨g, k, rfl, -, hk1, hf1, hcell⟩ := (H.out.below hb).at_ hj'
      obtain ⟨g', k', rfl, hg', -, hf2, hcell2⟩ := hN.at_ hj'
      have c8 : (wr.alloc (.cells #[] 3)).cell? ⟨g, j * 9 + 8, none⟩ = some k := by
        rw [World.cell?_alloc_past _ _ _ ((H.out.below hb).inside _ _ _ rfl)]
        exact hcell 8 (by omega)
      have hkl : l[j].kids.length ≤ 100000 := Hk.out _ (List.getElem_mem hj')
      obtain ⟨kd, hkd⟩ : ∃ kd, kd = l[j].kids := ⟨_, rfl⟩
      rw [← hkd] at hk1 hkl
      have Hkd := Lib.hid hkd
      have Hc2 := Lib.hid hcell2
      have Hf2 := Lib.hid hf2
      clear hcell hcell2 hkd hf1 hf2
      have hown : (wr.alloc (.cells #[] 3)).ownsRow wr.heap.size 3 1 (.slice (some ⟨wr.heap.size, 0, none⟩) 0 0) 0 [] := World.ownsRow_lit wr #[] 0 (Nat.le_refl _) (Nat.zero_le _) rfl
      have hgv : Gives (wr.alloc (.cells #[] 3)) 1 k kd.length (kd.map (Value.int .i64)) := own_gives (hk1.1.alloc _)
      have Hown := Lib.hid hown
      have Hgv := Lib.hid hgv
      clear hown hgv
      obtain ⟨Ak, ck, rfl, _⟩ := own_form hk1.1
      go_wp2_with (at_builtin; refine wpList_append_gives rfl (.tmp 16) (.tmp 21) 55 rfl wr.heap.size 3 i0 _ 1 8 Try.underlying55 Hi.out Hz0.out Hz1.out Hz2.out rfl (by decide) (.slice (some ⟨wr.heap.size, 0, none⟩) 0 0) 0 [] rfl Hown.out _ kd.length (kd.map (Value.int .i64)) rfl Hgv.out (kids_one kd) (by unfold maxLen; omega) (by omega) (by simp) ?_; intro v2 w2 ho2 hg2; obtain ⟨A2, c2, rfl, hc2⟩ := own_form (by rw [Nat.zero_add] at ho2; exact ho2); obtain ⟨hk2, hb2, hs2⟩ := kids_new (G := G) ho2 hg2 (hG.mono hb.size); rw [Hkd.out] at hk2; obtain ⟨⟨x8, hx8⟩, hz8, hN3⟩ := (hN.below hb2).kidsTo hj' hk2)
      go_roundw
      case rel => exact ⟨j + 1, by go_num, by omega, by rw [← Hkd.out] at hN3; exact hN3, (hb.trans (hb2.mono hb.size)).setCell hg' _⟩
      case measure => simp [intOf]; omega
    · go_wp2
      go_ret
      exact ⟨_, _, rfl, hN, hb⟩
end Go.Proofs.Ytekmgaigppenlaa

namespace Go.Proofs.Ytekmgaigppenlaa
open Go Go.RowKit
variable {G : Nat → Prop}

theorem upOf_there {l : List Nd} {id : Int} (h : thereB l id = true) : nd l id = l[(id - 1).toNat]'(there_lt h) := by
  have := nd_get h
  rw [List.getElem?_eq_getElem (there_lt h)] at this
  exact (Option.some.inj this).symm
theorem over_go {l : List Nd} {n : Nat} {id : Int} (h : thereB l id = true) : overN l (n + 1) id = id :: overN l n (upOf l id) := by rw [overN, if_pos h]
theorem over_end {l : List Nd} {n : Nat} {id : Int} (h : thereB l id = false) : overN l n id = [] := by
  cases n with
  | zero => rfl
  | succ n => rw [overN, if_neg (by rw [h]; decide)]
theorem over_len (l : List Nd) : ∀ (n : Nat) (id : Int), (overN l n id).length ≤ n
  | 0, _ => Nat.le_refl 0
  | n + 1, id => by
    rw [overN]
    split
    · have := over_len l n (upOf l id)
      simp
      omega
    · simp

/-- An element more. -/
theorem kids_more {w2 : World} {base : Nat} {v2 : Value} {xs : List Int} {x : Int} (ho : w2.ownsRow base 3 1 v2 (xs.length + 1) (xs.map (Value.int .i64) ++ [.int .i64 x])) :
    w2.ownsRow base 3 1 v2 (xs ++ [x]).length ((xs ++ [x]).map (Value.int .i64)) := by
  rw [List.map_append, List.length_append]
  exact ho

set_option maxHeartbeats 4000000 in
set_option maxRecDepth 100000 in
theorem over_any (l : List Nd) (A : Option Addr) (c : Nat) (id : Int) (w : World) (hl : l.length ≤ 1000) (h : Nodes G w 0 A c l) :
    Calls Try.prog 60 #[.slice A l.length c, .int .i64 id] w fun e w' => ∃ v, e = .returned v ∧ Kids (fun _ => True) w' v (over l id) ∧ Below w.heap.size w w' := by
  obtain ⟨i0, hi, hz0, hz1, hz2⟩ := info_parts Try.infoInt
  have Hi := Lib.hid hi
  have Hz0 := Lib.hid hz0
  have Hz1 := Lib.hid hz1
  have Hz2 := Lib.hid hz2
  have H := Lib.hid h
  clear hi hz0 hz1 hz2 h
  obtain ⟨R, hR⟩ : ∃ R, R = over l id := ⟨_, rfl⟩
  rw [← hR]
  have hR0 : ([] : List Int) ++ overN l (l.length + 1 - 0) id = R := by rw [hR]; rfl
  have HR0 := Lib.hid hR0
  clear hR hR0
  go_enter Try.func60, Try.ntmps60
  go_wp2_with fail
  go_loopw [1, 5, 6] (fun a o i wr => ∃ (j : Nat) (id : Int) (xs : List Int), a = .int .i64 id ∧ i = .int .i64 j ∧ j ≤ l.length + 1 ∧ xs.length = j ∧ xs ++ overN l (l.length + 1 - j) id = R ∧ wr.ownsRow w.heap.size 3 1 o xs.length (xs.map (Value.int .i64)) ∧ Below w.heap.size w wr) (fun _ _ i _ => l.length + 1 - (intOf i).toNat)
  case atStart => exact ⟨0, id, [], rfl, rfl, Nat.zero_le _, rfl, HR0.out, World.ownsRow_nil _ _ _ _, Below.refl _ _⟩
  case round =>
    obtain ⟨j, id, xs, rfl, rfl, hj, hxl, hxs, hown, hb⟩ := hrel
    have Hxs := Lib.hid hxs
    have Hxl := Lib.hid hxl
    clear HR0 hxs hxl
    obtain ⟨Ao, co, rfl, hco⟩ := own_form hown
    by_cases hjl : (j : Int) ≤ l.length
    · cases hth : thereB l id with
      | true =>
        have hup := upOf_there hth
        have hgo : overN l (l.length + 1 - j) id = id :: overN l (l.length + 1 - (j + 1)) (upOf l id) := by
          rw [show l.length + 1 - j = (l.length + 1 - (j + 1)) + 1 by omega]
          exact over_go hth
        have Hgo := Lib.hid hgo
        have hid := thereB_iff.1 hth
        obtain ⟨h1, h2⟩ := hid
        obtain ⟨m, hm⟩ : ∃ m : Nat, id = (m : Int) + 1 := ⟨(id - 1).toNat, by omega⟩
        subst hm
        have hml : m < l.length := by omega
        have hmn : ((m : Int) + 1 - 1).toNat = m := by omega
        obtain ⟨g, k, rfl, -, -, -, hcell⟩ := H.out.at_ hml
        have hgw : g < w.heap.size := H.out.inside _ _ _ rfl
        have hndm : nd l ((m : Int) + 1) = l[m] := by
          rw [hup]
          congr 1
        have c1 : w.cell? ⟨g, m * 9 + 1, none⟩ = some (.int .i64 (nd l ((m : Int) + 1)).parent) := by rw [hndm]; exact hcell 1 (by omega)
        have c2 : w.cell? ⟨g, m * 9 + 2, none⟩ = some (.int .i64 (nd l ((m : Int) + 1)).host) := by rw [hndm]; exact hcell 2 (by omega)
        have hfin : (xs ++ [(m : Int) + 1]) ++ overN l (l.length + 1 - (j + 1)) (upOf l ((m : Int) + 1)) = R := by
          rw [List.append_assoc, List.singleton_append, ← Hgo.out]
          exact Hxs.out
        have hupo : upOf l ((m : Int) + 1) = if (nd l ((m : Int) + 1)).parent = 0 then (nd l ((m : Int) + 1)).host else (nd l ((m : Int) + 1)).parent := rfl
        obtain ⟨pa, hpa⟩ : ∃ pa, pa = (nd l ((m : Int) + 1)).parent := ⟨_, rfl⟩
        obtain ⟨ho, hho⟩ : ∃ ho, ho = (nd l ((m : Int) + 1)).host := ⟨_, rfl⟩
        obtain ⟨up, hupu⟩ : ∃ up, up = upOf l ((m : Int) + 1) := ⟨_, rfl⟩
        rw [← hpa] at c1 hupo
        rw [← hho] at c2 hupo
        rw [← hupu] at hfin hupo
        have C1 := Lib.hid c1
        have C2 := Lib.hid c2
        have Hfin := Lib.hid hfin
        have hgv : Gives (wr.alloc (.cells #[.int .i64 ((m : Int) + 1)] 3)) 1 (.slice (some ⟨wr.heap.size, 0, none⟩) 1 1) 1 [.int .i64 ((m : Int) + 1)] := .inr ⟨_, 1, rfl, rfl, World.news_of_block (Has.fresh _ _)⟩
        have Hgv := Lib.hid hgv
        have hxb : xs.length ≤ 1001 := by rw [Hxl.out]; omega
        have Hth := Lib.hid hth
        have hbw := hb.size
        clear hcell hgo hup hndm hth hpa hho hupu c1 c2 hfin Hgo hgv Hxs
        by_cases hp0 : pa = 0
        · have hu2 : up = ho := by rw [hupo, if_pos hp0]
          subst hp0
          subst hu2
          clear hupo
          go_wp2_with fail
          refine (there_any l _ c _ wr).mono ?_
          rintro e w1 ⟨rfl, rfl⟩
          rw [Hth.out]
          go_wp2_with (at_builtin; refine wpList_append_gives rfl (.tmp 19) (.tmp 21) 55 rfl w.heap.size 3 i0 _ 1 8 Try.underlying55 Hi.out Hz0.out Hz1.out Hz2.out rfl (by decide) (.slice Ao xs.length co) xs.length (xs.map (Value.int .i64)) rfl (hown.alloc _) _ 1 [.int .i64 ((m : Int) + 1)] rfl Hgv.out (by intro u hu; obtain rfl := List.mem_singleton.1 hu; rfl) (by unfold maxLen; omega) (by omega) (by simp; omega) ?_; intro v2 w2 ho2 hg2; obtain ⟨A2, c2, rfl, hc2⟩ := own_form ho2; have hb2 : Below w.heap.size w w2 := (hb.alloc hbw _).grown hg2 (by simp; omega) (fun k hk => (hown.lt k hk).1); have d1 := (hb2.cell (p := ⟨g, m * 9 + 1, none⟩) hgw).trans C1.out; have d2 := (hb2.cell (p := ⟨g, m * 9 + 2, none⟩) hgw).trans C2.out)
          go_roundw
          case rel => exact ⟨j + 1, _, xs ++ [(m : Int) + 1], rfl, by go_num, by omega, by simp [Hxl.out], Hfin.out, by have := kids_more ho2; simpa using this, hb2⟩
          case measure => simp [intOf]; omega
        · have hu2 : up = pa := by rw [hupo, if_neg hp0]
          subst hu2
          clear hupo
          have hp0' : (up == 0) = false := by simpa using hp0
          go_wp2_with fail
          refine (there_any l _ c _ wr).mono ?_
          rintro e w1 ⟨rfl, rfl⟩
          rw [Hth.out]
          go_wp2_with (at_builtin; refine wpList_append_gives rfl (.tmp 19) (.tmp 21) 55 rfl w.heap.size 3 i0 _ 1 8 Try.underlying55 Hi.out Hz0.out Hz1.out Hz2.out rfl (by decide) (.slice Ao xs.length co) xs.length (xs.map (Value.int .i64)) rfl (hown.alloc _) _ 1 [.int .i64 ((m : Int) + 1)] rfl Hgv.out (by intro u hu; obtain rfl := List.mem_singleton.1 hu; rfl) (by unfold maxLen; omega) (by omega) (by simp; omega) ?_; intro v2 w2 ho2 hg2; obtain ⟨A2, c2, rfl, hc2⟩ := own_form ho2; have hb2 : Below w.heap.size w w2 := (hb.alloc hbw _).grown hg2 (by simp; omega) (fun k hk => (hown.lt k hk).1); have d1 := (hb2.cell (p := ⟨g, m * 9 + 1, none⟩) hgw).trans C1.out; have d2 := (hb2.cell (p := ⟨g, m * 9 + 2, none⟩) hgw).trans C2.out)
          go_roundw
          case rel => exact ⟨j + 1, _, xs ++ [(m : Int) + 1], rfl, by go_num, by omega, by simp [Hxl.out], Hfin.out, by have := kids_more ho2; simpa using this, hb2⟩
          case measure => simp [intOf]; omega
      | false =>
        go_wp2_with fail
        refine (there_any l A c id wr).mono ?_
        rintro e w1 ⟨rfl, rfl⟩
        rw [hth]
        go_wp2
        go_ret
        refine ⟨_, rfl, ?_, hb⟩
        have := Hxs.out
        rw [over_end hth, List.append_nil] at this
        rw [← this]
        exact ⟨own_base hown (Nat.zero_le _), fun _ _ => trivial⟩
    · go_wp2
      go_ret
      refine ⟨_, rfl, ?_, hb⟩
      have := Hxs.out
      rw [show l.length + 1 - j = 0 by omega] at this
      rw [← this, overN, List.append_nil]
      exact ⟨own_base hown (Nat.zero_le _), fun _ _ => trivial⟩
end Go.Proofs.Ytekmgaigppenlaa

namespace Go.Proofs.Ytekmgaigppenlaa
open Go Go.RowKit
variable {G : Nat → Prop}

section
variable {w : World} {B g c m f : Nat} {l : List Nd} {u : Value} {F : Nd → Nd}
theorem nd_at {l : List Nd} {m : Nat} (hm : m < l.length) : nd l ((m : Int) + 1) = l[m] := by
  rw [nd, show ((m : Int) + 1 - 1).toNat = m by omega, List.getD_eq_getElem?_getD, List.getElem?_eq_getElem hm]
  rfl
theorem modN_at {l : List Nd} {m : Nat} (hm : m < l.length) (F : Nd → Nd) : modN l ((m : Int) + 1) F = l.set m (F l[m]) := by
  rw [modN, nd_at hm, show ((m : Int) + 1 - 1).toNat = m by omega]
theorem there_at {l : List Nd} {id : Int} (h : thereB l id = true) : ∃ m : Nat, id = (m : Int) + 1 ∧ m < l.length := by
  have := thereB_iff.1 h
  exact ⟨(id - 1).toNat, by omega, by omega⟩
/-- One field of one node is written. -/
theorem Nodes.turn (h : Nodes G w B (some ⟨g, 0, none⟩) c l) (hm : m < l.length) (hf : f < 9) (hF : ∀ d k, (F d).cells k = (d.cells k).set f u) (hk : ∀ d, (F d).kids = d.kids) :
    (∃ x, w.cell? ⟨g, m * 9 + f, none⟩ = some x) ∧ w.frozen? ⟨g, m * 9 + f, none⟩ = false ∧ Nodes G (w.setCell ⟨g, m * 9 + f, none⟩ u) B (some ⟨g, 0, none⟩) c (modN l ((m : Int) + 1) F) := by
  obtain ⟨g', k', e, _, _, hz, hc⟩ := h.at_ hm
  obtain rfl : g = g' := by simpa using e
  refine ⟨⟨(l[m].cells k')[f]'(by rw [Nd.cells_length]; exact hf), by rw [hc f hf, List.getElem?_eq_getElem]⟩, hz _, ?_⟩
  rw [modN_at hm]
  exact h.store hm hf fun k => ⟨k, hF _ k, fun h => by rw [hk]; exact h⟩
theorem Nodes.some_ {A : Option Addr} (h : Nodes G w B A c l) (hm : m < l.length) : ∃ g, A = some ⟨g, 0, none⟩ ∧ B ≤ g := by
  obtain ⟨g, k, e, hg, _⟩ := h.at_ hm
  exact ⟨g, e, hg⟩
end

/-- The nodes then, and an error's number. -/
def Gave (G : Nat → Prop) (w : World) (l' : List Nd) (err : Int) (e : Ending) (w' : World) : Prop := ∃ A' c', e = .returned (.tuple #[.slice A' l'.length c', .int .i64 err]) ∧ Nodes G w' 0 A' c' l' ∧ Below w.heap.size w w'

set_option maxHeartbeats 2000000 in
theorem name_any (l : List Nd) (A : Option Addr) (c : Nat) (id : Int) (s : ByteArray) (w : World) (hs : s.size ≤ 9223372036854775807) (hl : l.length ≤ 1000) (hk : ∀ d ∈ l, d.kids.length ≤ 100000) (hG : Fut G w.heap.size) (h : Nodes G w 0 A c l) :
    Calls Try.prog 49 #[.slice A l.length c, .int .i64 id, .string s] w (Gave G w (nameL l id s) (nameErr l id s)) := by
  have H := Lib.hid h
  have Hk := Lib.hid hk
  clear h hk
  have hnot : ∀ (x : Bool) (w : World), (Op.unary .not (.bool x)).run Try.prog w = .ok (.bool (!x)) w := fun _ _ => rfl
  cases hth : thereB l id with
  | false =>
    have e1 : nameErr l id s = 1 := by unfold nameErr; rw [if_pos (.inl hth)]
    have e2 : nameL l id s = l := by unfold nameL; rw [e1]; rfl
    rw [e1, e2]
    have Hth := Lib.hid hth
    clear hth e1 e2
    go_enter Try.func49, Try.ntmps49
    go_wp2_with fail
    refine (there_any l A c id w).mono ?_
    rintro e w1 ⟨rfl, rfl⟩
    rw [Hth.out]
    go_wp2
    go_ret2
    exact ⟨_, _, rfl, H.out, Below.refl _ _⟩
  | true =>
    have Hth := Lib.hid hth
    cases hok : okName s with
    | false =>
      have e1 : nameErr l id s = 1 := by unfold nameErr; rw [if_pos (.inr hok)]
      have e2 : nameL l id s = l := by unfold nameL; rw [e1]; rfl
      rw [e1, e2]
      have Hok := Lib.hid hok
      clear hth hok e1 e2
      go_enter Try.func49, Try.ntmps49
      go_wp2_with fail
      refine (there_any l A c id w).mono ?_
      rintro e w1 ⟨rfl, rfl⟩
      rw [Hth.out]
      go_wp2_with fail
      refine (named_any s w hs).mono ?_
      rintro e w1 ⟨rfl, rfl⟩
      rw [Hok.out]
      go_wp2
      go_ret2
      exact ⟨_, _, rfl, H.out, Below.refl _ _⟩
    | true =>
      obtain ⟨m, rfl, hm⟩ := there_at hth
      obtain ⟨g, k, rfl, -, -, -, hcell⟩ := H.out.at_ hm
      have c5 : w.cell? ⟨g, m * 9 + 5, none⟩ = some (.bool (nd l ((m : Int) + 1)).slot) := by rw [nd_at hm]; exact hcell 5 (by omega)
      have Hok := Lib.hid hok
      have he : nameErr l ((m : Int) + 1) s = if (nd l ((m : Int) + 1)).slot = false then 2 else 0 := by unfold nameErr; rw [if_neg (by rw [hth, hok]; simp)]
      have hL : nameL l ((m : Int) + 1) s = if nameErr l ((m : Int) + 1) s = 0 then modN l ((m : Int) + 1) (fun d => { d with name := s }) else l := rfl
      clear hcell hth hok
      cases hsl : (nd l ((m : Int) + 1)).slot with
      | false =>
        rw [hsl, if_pos rfl] at he
        rw [he, if_neg (by decide)] at hL
        rw [hsl] at c5
        rw [he, hL]
        clear he hL hsl
        go_enter Try.func49, Try.ntmps49
        go_wp2_with fail
        refine (there_any l _ c _ w).mono ?_
        rintro e w1 ⟨rfl, rfl⟩
        rw [Hth.out]
        go_wp2_with fail
        refine (named_any s w hs).mono ?_
        rintro e w1 ⟨rfl, rfl⟩
        rw [Hok.out]
        go_wp2
        go_ret2
        exact ⟨_, _, rfl, H.out, Below.refl _ _⟩
      | true =>
        rw [hsl, if_neg (by decide)] at he
        rw [he, if_pos rfl] at hL
        rw [hsl] at c5
        rw [he, hL]
        clear he hL hsl
        go_enter Try.func49, Try.ntmps49
        go_wp2_with fail
        refine (there_any l _ c _ w).mono ?_
        rintro e w1 ⟨rfl, rfl⟩
        rw [Hth.out]
        go_wp2_with fail
        refine (named_any s w hs).mono ?_
        rintro e w1 ⟨rfl, rfl⟩
        rw [Hok.out]
        go_wp2_with fail
        refine (copy_any l _ c w hl Hk.out hG H.out).mono ?_
        rintro e w1 ⟨A', c', rfl, hN, hb⟩
        obtain ⟨g', rfl, hg'⟩ := hN.some_ hm
        obtain ⟨⟨x, hx⟩, hz, hN2⟩ := hN.turn (F := fun d => { d with name := s }) (u := .string s) (f := 6) hm (by omega) (fun _ _ => rfl) (fun _ => rfl)
        have HN2 := Lib.hid hN2
        have hlen := modN_length l ((m : Int) + 1) (fun d => { d with name := s })
        have Hlen := Lib.hid hlen
        clear hN2 hlen
        go_wp2
        go_ret2
        refine ⟨_, _, ?_, HN2.out.from_ (Nat.zero_le _), hb.setCell hg' _⟩
        rw [Hlen.out]
        rfl
set_option maxHeartbeats 2000000 in
theorem want_any (l : List Nd) (A : Option Addr) (c : Nat) (id : Int) (s : ByteArray) (w : World) (hs : s.size ≤ 9223372036854775807) (hl : l.length ≤ 1000) (hk : ∀ d ∈ l, d.kids.length ≤ 100000) (hG : Fut G w.heap.size) (h : Nodes G w 0 A c l) :
    Calls Try.prog 50 #[.slice A l.length c, .int .i64 id, .string s] w (Gave G w (wantL l id s) (wantErr l id s)) := by
  have H := Lib.hid h
  have Hk := Lib.hid hk
  clear h hk
  have hnot : ∀ (x : Bool) (w : World), (Op.unary .not (.bool x)).run Try.prog w = .ok (.bool (!x)) w := fun _ _ => rfl
  cases hth : thereB l id with
  | false =>
    have e1 : wantErr l id s = 1 := by unfold wantErr; rw [if_pos (.inl hth)]
    have e2 : wantL l id s = l := by unfold wantL; rw [e1]; rfl
    rw [e1, e2]
    have Hth := Lib.hid hth
    clear hth e1 e2
    go_enter Try.func50, Try.ntmps50
    go_wp2_with fail
    refine (there_any l A c id w).mono ?_
    rintro e w1 ⟨rfl, rfl⟩
    rw [Hth.out]
    go_wp2
    go_ret2
    exact ⟨_, _, rfl, H.out, Below.refl _ _⟩
  | true =>
    have Hth := Lib.hid hth
    cases hok : okName s with
    | false =>
      have e1 : wantErr l id s = 1 := by unfold wantErr; rw [if_pos (.inr hok)]
      have e2 : wantL l id s = l := by unfold wantL; rw [e1]; rfl
      rw [e1, e2]
      have Hok := Lib.hid hok
      clear hth hok e1 e2
      go_enter Try.func50, Try.ntmps50
      go_wp2_with fail
      refine (there_any l A c id w).mono ?_
      rintro e w1 ⟨rfl, rfl⟩
      rw [Hth.out]
      go_wp2_with fail
      refine (named_any s w hs).mono ?_
      rintro e w1 ⟨rfl, rfl⟩
      rw [Hok.out]
      go_wp2
      go_ret2
      exact ⟨_, _, rfl, H.out, Below.refl _ _⟩
    | true =>
      obtain ⟨m, rfl, hm⟩ := there_at hth
      obtain ⟨g, k, rfl, -, -, -, hcell⟩ := H.out.at_ hm
      have c5 : w.cell? ⟨g, m * 9, none⟩ = some (.int .i64 (nd l ((m : Int) + 1)).kind) := by rw [nd_at hm]; exact hcell 0 (by omega)
      have Hok := Lib.hid hok
      have he : wantErr l ((m : Int) + 1) s = if (nd l ((m : Int) + 1)).kind ≠ 2 then 2 else 0 := by unfold wantErr; rw [if_neg (by rw [hth, hok]; simp)]
      have hL : wantL l ((m : Int) + 1) s = if wantErr l ((m : Int) + 1) s = 0 then modN l ((m : Int) + 1) (fun d => { d with want := s }) else l := rfl
      clear hcell hth hok
      obtain ⟨kk, hkk⟩ : ∃ kk, kk = (nd l ((m : Int) + 1)).kind := ⟨_, rfl⟩
      rw [← hkk] at he c5
      clear hkk
      by_cases hsl : kk ≠ 2
      · rw [if_pos hsl] at he
        rw [he, if_neg (by decide)] at hL
        rw [he, hL]
        clear he hL
        have hb2 : (kk == 2) = false := by simpa using hsl
        go_enter Try.func50, Try.ntmps50
        go_wp2_with fail
        refine (there_any l _ c _ w).mono ?_
        rintro e w1 ⟨rfl, rfl⟩
        rw [Hth.out]
        go_wp2_with fail
        refine (named_any s w hs).mono ?_
        rintro e w1 ⟨rfl, rfl⟩
        rw [Hok.out]
        go_wp2
        go_ret2
        exact ⟨_, _, rfl, H.out, Below.refl _ _⟩
      · rw [if_neg hsl] at he
        rw [he, if_pos rfl] at hL
        rw [he, hL]
        clear he hL
        obtain rfl : kk = 2 := by omega
        go_enter Try.func50, Try.ntmps50
        go_wp2_with fail
        refine (there_any l _ c _ w).mono ?_
        rintro e w1 ⟨rfl, rfl⟩
        rw [Hth.out]
        go_wp2_with fail
        refine (named_any s w hs).mono ?_
        rintro e w1 ⟨rfl, rfl⟩
        rw [Hok.out]
        go_wp2_with fail
        refine (copy_any l _ c w hl Hk.out hG H.out).mono ?_
        rintro e w1 ⟨A', c', rfl, hN, hb⟩
        obtain ⟨g', rfl, hg'⟩ := hN.some_ hm
        obtain ⟨⟨x, hx⟩, hz, hN2⟩ := hN.turn (F := fun d => { d with want := s }) (u := .string s) (f := 7) hm (by omega) (fun _ _ => rfl) (fun _ => rfl)
        have HN2 := Lib.hid hN2
        have hlen := modN_length l ((m : Int) + 1) (fun d => { d with want := s })
        have Hlen := Lib.hid hlen
        clear hN2 hlen
        go_wp2
        go_ret2
        refine ⟨_, _, ?_, HN2.out.from_ (Nat.zero_le _), hb.setCell hg' _⟩
        rw [Hlen.out]
        rfl
end Go.Proofs.Ytekmgaigppenlaa

namespace Go.Proofs.Ytekmgaigppenlaa
open Go Go.RowKit
variable {G : Nat → Prop}

theorem tie_same {l : List Nd} {h r e : Int} (he : tieErr l h r = e) (h0 : e ≠ 0) : tieL l h r = l := by unfold tieL; rw [he, if_neg h0]
theorem Gave.same {w : World} {l l' : List Nd} {A : Option Addr} {c : Nat} {err e : Int} (he : err = e) (hl : l' = l) (h : Nodes G w 0 A c l) : Gave G w l' err (.returned (.tuple #[.slice A l.length c, .int .i64 e])) w := by
  subst he
  subst hl
  exact ⟨_, _, rfl, h, Below.refl _ _⟩
theorem Gave.later {w w' : World} {l l' : List Nd} {A : Option Addr} {c : Nat} {err e : Int} (he : err = e) (hl : l' = l) (h : Nodes G w 0 A c l) (hb : Below w.heap.size w w') : Gave G w l' err (.returned (.tuple #[.slice A l.length c, .int .i64 e])) w' := by
  subst he
  subst hl
  exact ⟨_, _, rfl, h.below hb, hb⟩

set_option maxHeartbeats 4000000 in
theorem tie_any (l : List Nd) (A : Option Addr) (c : Nat) (h r : Int) (w : World) (hl : l.length ≤ 1000) (hk : ∀ d ∈ l, d.kids.length ≤ 100000) (hG : Fut G w.heap.size) (hN : Nodes G w 0 A c l) :
    Calls Try.prog 48 #[.slice A l.length c, .int .i64 h, .int .i64 r] w (Gave G w (tieL l h r) (tieErr l h r)) := by
  have H := Lib.hid hN
  have Hk := Lib.hid hk
  clear hN hk
  have hnot : ∀ (x : Bool) (w : World), (Op.unary .not (.bool x)).run Try.prog w = .ok (.bool (!x)) w := fun _ _ => rfl
  go_enter Try.func48, Try.ntmps48
  go_wp2_with fail
  refine (there_any l A c h w).mono ?_
  rintro e w1 ⟨rfl, rfl⟩
  cases hth : thereB l h with
  | false =>
    have e1 : tieErr l h r = 1 := by unfold tieErr; rw [if_pos (.inl hth)]
    have E1 := Lib.hid e1
    clear e1 hth
    go_wp2
    go_ret2
    exact Gave.same E1.out (tie_same E1.out (by decide)) H.out
  | true =>
    go_wp2_with fail
    refine (there_any l A c r w).mono ?_
    rintro e w1 ⟨rfl, rfl⟩
    cases htr : thereB l r with
    | false =>
      have e1 : tieErr l h r = 1 := by unfold tieErr; rw [if_pos (.inr htr)]
      have E1 := Lib.hid e1
      clear e1 hth htr
      go_wp2
      go_ret2
      exact Gave.same E1.out (tie_same E1.out (by decide)) H.out
    | true =>
      obtain ⟨m, rfl, hm⟩ := there_at hth
      obtain ⟨q, rfl, hq⟩ := there_at htr
      obtain ⟨g, k, rfl, -, -, -, hcm⟩ := H.out.at_ hm
      obtain ⟨g', k', e', -, -, -, hcq⟩ := H.out.at_ hq
      obtain rfl : g = g' := by simpa using e'
      have e0 : tieErr l ((m : Int) + 1) ((q : Int) + 1) = if (nd l ((m : Int) + 1)).kind ≠ 2 ∨ (nd l ((q : Int) + 1)).kind ≠ 3 then 2 else if (nd l ((m : Int) + 1)).shadow ≠ 0 ∨ (nd l ((q : Int) + 1)).host ≠ 0 then 6 else if hasB (over l ((m : Int) + 1)) ((q : Int) + 1) = true then 3 else 0 := by
        unfold tieErr
        rw [if_neg (by rw [hth, htr]; simp)]
      have c1 : w.cell? ⟨g, m * 9, none⟩ = some (.int .i64 (nd l ((m : Int) + 1)).kind) := by rw [nd_at hm]; exact hcm 0 (by omega)
      have c2 : w.cell? ⟨g, m * 9 + 3, none⟩ = some (.int .i64 (nd l ((m : Int) + 1)).shadow) := by rw [nd_at hm]; exact hcm 3 (by omega)
      have c3 : w.cell? ⟨g, q * 9, none⟩ = some (.int .i64 (nd l ((q : Int) + 1)).kind) := by rw [nd_at hq]; exact hcq 0 (by omega)
      have c4 : w.cell? ⟨g, q * 9 + 2, none⟩ = some (.int .i64 (nd l ((q : Int) + 1)).host) := by rw [nd_at hq]; exact hcq 2 (by omega)
      obtain ⟨k1, hk1⟩ : ∃ x, x = (nd l ((m : Int) + 1)).kind := ⟨_, rfl⟩
      obtain ⟨k2, hk2⟩ : ∃ x, x = (nd l ((m : Int) + 1)).shadow := ⟨_, rfl⟩
      obtain ⟨k3, hk3⟩ : ∃ x, x = (nd l ((q : Int) + 1)).kind := ⟨_, rfl⟩
      obtain ⟨k4, hk4⟩ : ∃ x, x = (nd l ((q : Int) + 1)).host := ⟨_, rfl⟩
      rw [← hk1] at c1 e0
      rw [← hk2] at c2 e0
      rw [← hk3] at c3 e0
      rw [← hk4] at c4 e0
      have E0 := Lib.hid e0
      clear hcm hcq e0 hk1 hk2 hk3 hk4 hth htr e'
      by_cases h1 : k1 = 2
      · subst h1
        by_cases h3 : k3 = 3
        · subst h3
          by_cases h2 : k2 = 0
          · subst h2
            by_cases h4 : k4 = 0
            · subst h4
              go_wp2_with fail
              refine (over_any l _ c _ w hl H.out).mono ?_
              rintro e w1 ⟨v, rfl, hK, hb⟩
              obtain ⟨Av, cv, rfl, hcv, hnum⟩ := hK.form
              go_wp2_with fail
              refine (has_any (over l ((m : Int) + 1)) Av _ cv _ w1 rfl (Nat.le_trans (over_len l (l.length + 1) _) (by omega)) hnum).mono ?_
              rintro e w2 ⟨rfl, rfl⟩
              cases hh : hasB (over l ((m : Int) + 1)) ((q : Int) + 1) with
              | true =>
                have e1 : tieErr l ((m : Int) + 1) ((q : Int) + 1) = 3 := by rw [E0.out, if_neg (by simp), if_neg (by simp), if_pos hh]
                have E1 := Lib.hid e1
                clear e1 hh
                go_wp2
                go_ret2
                exact Gave.later E1.out (tie_same E1.out (by decide)) H.out hb
              | false =>
                have e1 : tieErr l ((m : Int) + 1) ((q : Int) + 1) = 0 := by rw [E0.out, if_neg (by simp), if_neg (by simp), if_neg (by rw [hh]; decide)]
                have e2 : tieL l ((m : Int) + 1) ((q : Int) + 1) = modN (modN l ((m : Int) + 1) fun d => { d with shadow := (q : Int) + 1 }) ((q : Int) + 1) fun d => { d with host := (m : Int) + 1 } := by unfold tieL; rw [if_pos e1]
                have E1 := Lib.hid e1
                have E2 := Lib.hid e2
                have hN1 := H.out.below hb
                clear e1 e2 hh hnum hK
                go_wp2_with fail
                refine (copy_any l _ c w1 hl Hk.out (hG.mono hb.size) hN1).mono ?_
                rintro e w2 ⟨A', c', rfl, hN2, hb2⟩
                obtain ⟨g', rfl, hg'⟩ := hN2.some_ hm
                obtain ⟨⟨x, hx⟩, hz, hN3⟩ := hN2.turn (F := fun d => { d with shadow := (q : Int) + 1 }) (u := .int .i64 ((q : Int) + 1)) (f := 3) hm (by omega) (fun _ _ => rfl) (fun _ => rfl)
                have hq' : q < (modN l ((m : Int) + 1) fun d => { d with shadow := (q : Int) + 1 }).length := by rw [modN_length]; exact hq
                obtain ⟨⟨y, hy⟩, hz', hN4⟩ := hN3.turn (F := fun d => { d with host := (m : Int) + 1 }) (u := .int .i64 ((m : Int) + 1)) (f := 2) hq' (by omega) (fun _ _ => rfl) (fun _ => rfl)
                have hB2 : Below w.heap.size w w2 := hb.trans (hb2.mono hb.size)
                have hgw : w.heap.size ≤ g' := Nat.le_trans hb.size hg'
                have HN4 := Lib.hid hN4
                have hlen : (modN (modN l ((m : Int) + 1) fun d => { d with shadow := (q : Int) + 1 }) ((q : Int) + 1) fun d => { d with host := (m : Int) + 1 }).length = l.length := by rw [modN_length, modN_length]
                have Hlen := Lib.hid hlen
                clear hN4 hN3 hlen hN2 hN1
                go_wp2
                go_ret2
                rw [Gave, E1.out, E2.out]
                refine ⟨_, _, ?_, HN4.out.from_ (Nat.zero_le _), (hB2.setCell hgw _).setCell hgw _⟩
                rw [Hlen.out]
                rfl
            · have h4' : (k4 == 0) = false := by simpa using h4
              have e1 : tieErr l ((m : Int) + 1) ((q : Int) + 1) = 6 := by rw [E0.out, if_neg (by simp), if_pos (.inr h4)]
              have E1 := Lib.hid e1
              clear e1
              go_wp2
              go_ret2
              exact Gave.same E1.out (tie_same E1.out (by decide)) H.out
          · have h2' : (k2 == 0) = false := by simpa using h2
            have e1 : tieErr l ((m : Int) + 1) ((q : Int) + 1) = 6 := by rw [E0.out, if_neg (by simp), if_pos (.inl h2)]
            have E1 := Lib.hid e1
            clear e1
            go_wp2
            go_ret2
            exact Gave.same E1.out (tie_same E1.out (by decide)) H.out
        · have h3' : (k3 == 3) = false := by simpa using h3
          have e1 : tieErr l ((m : Int) + 1) ((q : Int) + 1) = 2 := by rw [E0.out, if_pos (.inr h3)]
          have E1 := Lib.hid e1
          clear e1
          go_wp2
          go_ret2
          exact Gave.same E1.out (tie_same E1.out (by decide)) H.out
      · have h1' : (k1 == 2) = false := by simpa using h1
        have e1 : tieErr l ((m : Int) + 1) ((q : Int) + 1) = 2 := by rw [E0.out, if_pos (.inl h1)]
        have E1 := Lib.hid e1
        clear e1
        go_wp2
        go_ret2
        exact Gave.same E1.out (tie_same E1.out (by decide)) H.out
end Go.Proofs.Ytekmgaigppenlaa
