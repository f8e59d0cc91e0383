/-
  Words for memory of my own: what a block holds ('Has'), and that nothing old has turned but blocks of a given kind ('Keeps F'). No function of the program is named here.
  Plain facts on lists of bytes: what stands between blanks (split), and that a rune that is no blank has no blank among its bytes. No program is named here.
  What word.Right and towncrierref01.Right do: the same truth.
  Lists of listeners, plain: what Add, Find, Kill, At do on one list of all that were added. No program is named here.
  Lists that came in, as lists of numbers; rows of the call's own. No function of the program is named here.
  Lists of numbers that a call owns. Only the type of lists of numbers is named here.
  Lists of numbers: what they give to an append; those that came in; whether a number is among them.
  Lists of records that lead to no memory (listeners, entries of a path ..): in rows of a call's own, and read where they came in. No function and no type of the program is named here.
  A map of lists of numbers, by numbers, that a call owns: the slice at each key, as a function. Only the types of the map, its keys and its elements are named here.
  What package ids does: New, Next, Last, Is; and the two calls of sync/atomic that it makes.
  What (*ids.Ids).Next, Last and Is do, and towncrierref02's Next.
  What (*ids.Ids).Is does, and towncrierref02's Next, and towncrierlaw02.awake.
  A region that leaves its order open, walked once, in an order that is typed out: what yields its value in every world that meets S comes up when it is named; a pinned operation comes up when nothing else can. S may be made narrower on the way. No program is named here.
  A region that leaves its order open and writes what it has read: 'x = append(x, ..)'. As Ord, but of the operations named 'late' (each waits for all that was taken first) nothing is asked behind them: what was read may be written by them. No program is named here.
  A region that leaves its order open, walked by a way that is typed out: what is taken first, what comes up alone, and where two may come up, both ways. As Late, but with forks. No program is named here.
-/
import Derived.Test.YtgdgmcehkhimpaaProg
import Derived.WalkKit
import Derived.WalkSpells
import Derived.WalkLawsBesides
import Derived.Deep.AppendLies
import Derived.Deep.Draws
import Derived.Deep.QuietTactic
import Derived.BigQuiet
import Derived.Laws.LoneSync
import Derived.Laws.OwnMore
import Derived.Lib.OthersKept
import Derived.Lib.Hide
import Derived.Lib.Strings
import Derived.Lib.IndexBytes
import Derived.Lib.Join
import Derived.Laws.RangeAny
import Derived.ProofKit
import Derived.OpenShut
import Derived.Laws.AppendOwnNone
import Derived.Maps.OwnSet
import Derived.Deep.RegionHeld3

namespace Go.Proofs.Ytgdgmcehkhimpaa
open Go Go.RowKit

/-- Block g holds o. -/
def Has (w : World) (g : Nat) (o : Obj) : Prop := w.heap[g]? = some o
/-- The old blocks that F does not name are as they were; none is gone; the streams are as they were. -/
structure Keeps (F : Nat → Prop) (w w' : World) : Prop where
  frame : w'.os = w.os ∧ w'.tape = w.tape ∧ w'.output = w.output
  grows : w.heap.size ≤ w'.heap.size
  old : ∀ i, i < w.heap.size → ¬ F i → w'.heap[i]? = w.heap[i]?
/-- Just these blocks. -/
def Just (l : List Nat) (i : Nat) : Prop := i ∈ l
theorem just_one (g : Nat) : Just [g] g := List.mem_singleton.2 rfl
theorem just_far {B g : Nat} (h : B ≤ g) : ∀ i, i < B → ¬ Just [g] i := fun i hi hj => by have := List.mem_singleton.1 hj; omega
theorem just_ne {g g' : Nat} (h : g' ≠ g) : ¬ Just [g] g' := fun hj => h (List.mem_singleton.1 hj)

section
variable {F G : Nat → Prop} {w w' w'' : World} {g : Nat} {o : Obj}
theorem Has.inside (h : Has w g o) : g < w.heap.size := (Array.getElem?_eq_some_iff.1 h).1
theorem Has.fresh (w : World) (o : Obj) : Has (w.alloc o) w.heap.size o := heap_alloc_new w o
theorem Has.drewN (h : Has w g o) (n : Nat) : Has (w.drewN n) g o := h
theorem Has.kept (h : Has w g o) (k : Keeps F w w') (hg : ¬ F g) : Has w' g o := Eq.trans (k.old g h.inside hg) h
theorem Has.more (h : Has w g o) (o' : Obj) : Has (w.alloc o') g o := Eq.trans (Below.heap_alloc w o' g h.inside) h
theorem Has.below {B : Nat} (h : Has w g o) (k : Below B w w') (hg : g < B) : Has w' g o := Eq.trans (k.block g hg) h
theorem Has.apart {g' : Nat} {o' : Obj} (h : Has w g o) (h' : Has w g' o') (hne : o ≠ o') : g ≠ g' := fun e => by
  subst e
  exact hne (Option.some.inj (Eq.trans (Eq.symm h) h'))
section
variable {t : TypeId} {cs : Array Value} {fr : Nat × Nat}
theorem Has.cell (h : Has w g (.cells cs t fr)) (i : Nat) : w.cell? ⟨g, i, none⟩ = cs[i]? := cell_of_row w g i cs t fr h
theorem Has.free (h : Has w g (.cells cs t (0, 0))) (i : Nat) : w.frozen? ⟨g, i, none⟩ = false := by
  have h' : w.heap[g]? = some (.cells cs t (0, 0)) := h
  simp [World.frozen?, h']
theorem Has.stored (h : Has w g (.cells cs t fr)) (i : Nat) (u : Value) : Has (w.setCell ⟨g, i, none⟩ u) g (.cells (cs.setIfInBounds i u) t fr) := by
  have h' : w.heap[g]? = some (.cells cs t fr) := h
  simp [Has, World.setCell, Array.getElem?_modify, h']
end
theorem Has.aside (h : Has w g o) {p : Addr} (hp : g ≠ p.block) (u : Value) : Has (w.setCell p u) g o := Eq.trans (Below.heap_setCell w p u g hp) h

theorem Keeps.refl (F : Nat → Prop) (w : World) : Keeps F w w := ⟨⟨rfl, rfl, rfl⟩, Nat.le_refl _, fun _ _ _ => rfl⟩
theorem Keeps.wide (k : Keeps F w w') (h : ∀ i, i < w.heap.size → F i → G i) : Keeps G w w' := ⟨k.frame, k.grows, fun i hi hn => k.old i hi fun hF => hn (h i hi hF)⟩
theorem Keeps.trans (k : Keeps F w w') (k' : Keeps G w' w'') (h : ∀ i, i < w.heap.size → G i → F i) : Keeps F w w'' :=
  ⟨⟨k'.frame.1.trans k.frame.1, k'.frame.2.1.trans k.frame.2.1, k'.frame.2.2.trans k.frame.2.2⟩, Nat.le_trans k.grows k'.grows,
    fun i hi hn => (k'.old i (Nat.lt_of_lt_of_le hi k.grows) fun hG => hn (h i hi hG)).trans (k.old i hi hn)⟩
theorem Keeps.also (k : Keeps F w w') (k' : Keeps F w' w'') : Keeps F w w'' := k.trans k' fun _ _ h => h
theorem Keeps.drewN (k : Keeps F w w') (n : Nat) : Keeps F w (w'.drewN n) := ⟨k.frame, k.grows, k.old⟩
theorem Keeps.drew (k : Keeps F w w') : Keeps F w w'.drew := ⟨k.frame, k.grows, k.old⟩
theorem Keeps.alloc (k : Keeps F w w') (o : Obj) : Keeps F w (w'.alloc o) :=
  ⟨k.frame, Nat.le_trans k.grows (by simp), fun i hi hn => (Below.heap_alloc w' o i (Nat.lt_of_lt_of_le hi k.grows)).trans (k.old i hi hn)⟩
theorem Keeps.store (k : Keeps F w w') {p : Addr} (hp : F p.block ∨ w.heap.size ≤ p.block) (u : Value) : Keeps F w (w'.setCell p u) :=
  ⟨k.frame, by simpa [World.setCell] using k.grows, fun i hi hn => (Below.heap_setCell w' p u i (by
    rintro rfl
    exact hp.elim hn fun h => by omega)).trans (k.old i hi hn)⟩
theorem Keeps.store1 (k : Keeps (Just [g]) w w') (i : Nat) (u : Value) : Keeps (Just [g]) w (w'.setCell ⟨g, i, none⟩ u) := k.store (.inl (just_one g)) u
theorem Keeps.of_below {B : Nat} (k : Below B w w') (h : ∀ i, i < w.heap.size → B ≤ i → F i) : Keeps F w w' :=
  ⟨⟨k.os, k.tape, k.output⟩, k.size, fun i hi hn => k.block i ((Nat.lt_or_ge i B).elim id fun hge => absurd (h i hi hge) hn)⟩
/-- What has turned lies above. -/
theorem below_then {B : Nat} (h : Below B w w') (k : Keeps F w' w'') (hB : B ≤ w'.heap.size) (hF : ∀ i, i < B → ¬ F i) : Below B w w'' :=
  ⟨k.frame.1.trans h.os, k.frame.2.1.trans h.tape, k.frame.2.2.trans h.output, Nat.le_trans h.size k.grows, fun i hi => (k.old i (Nat.lt_of_lt_of_le hi hB) (hF i hi)).trans (h.block i hi)⟩
theorem below_draws {B : Nat} {a w : World} (h : Below B a w) (n : Nat) : Below B a (w.drewN n) := ⟨h.os, h.tape, h.output, h.size, h.block⟩
end
end Go.Proofs.Ytgdgmcehkhimpaa

namespace Go.Proofs.Ytgdgmcehkhimpaa
open Go

/-- A text as a list with one element, or none where it is empty. -/
def filled (l : List UInt8) : List (List UInt8) := if l.isEmpty then [] else [l]
/-- What stands between blanks; cur: what was met since the last one. -/
def splitGo : List UInt8 → List UInt8 → List (List UInt8)
  | cur, [] => filled cur
  | cur, c :: r => if c = 32 then filled cur ++ splitGo [] r else splitGo (cur ++ [c]) r
def splitL (l : List UInt8) : List (List UInt8) := splitGo [] l
/-- A list of bytes as a Go text. -/
def ba (l : List UInt8) : ByteArray := ⟨l.toArray⟩
/-- Texts as cells. -/
def strs (ls : List (List UInt8)) : List Value := ls.map fun l => Value.string (ba l)

theorem strs_append (a b : List (List UInt8)) : strs (a ++ b) = strs a ++ strs b := by simp [strs]
theorem strs_length (a : List (List UInt8)) : (strs a).length = a.length := by simp [strs]
theorem filled_nil : filled [] = [] := rfl
theorem filled_of_ne {l : List UInt8} (h : l ≠ []) : filled l = [l] := by
  unfold filled
  cases l with
  | nil => exact absurd rfl h
  | cons a r => rfl
theorem filled_le (l : List UInt8) : (filled l).length ≤ 1 := by unfold filled; split <;> simp
theorem splitGo_nil (cur : List UInt8) : splitGo cur [] = filled cur := rfl
theorem splitGo_blank (cur r : List UInt8) : splitGo cur (32 :: r) = filled cur ++ splitGo [] r := by simp [splitGo]
theorem splitGo_other (cur r : List UInt8) (c : UInt8) (h : c ≠ 32) : splitGo cur (c :: r) = splitGo (cur ++ [c]) r := by simp [splitGo, h]
theorem splitGo_run (m cur r : List UInt8) (h : ∀ c ∈ m, c ≠ 32) : splitGo cur (m ++ r) = splitGo (cur ++ m) r := by
  induction m generalizing cur with
  | nil => simp
  | cons a m ih =>
    rw [List.cons_append, splitGo_other _ _ _ (h a (by simp)), ih _ (fun c hc => h c (by simp [hc]))]
    simp
theorem splitGo_len (r cur : List UInt8) : (splitGo cur r).length ≤ r.length + 1 := by
  induction r generalizing cur with
  | nil => rw [splitGo_nil]; have := filled_le cur; simp; omega
  | cons c r ih =>
    by_cases h : c = 32
    · subst h
      rw [splitGo_blank, List.length_append]
      have := filled_le cur; have := ih []; simp; omega
    · rw [splitGo_other _ _ _ h]; have := ih (cur ++ [c]); simp; omega
theorem splitL_len (l : List UInt8) : (splitL l).length ≤ l.length + 1 := splitGo_len l []

/-- The bytes of a rune that begins with no blank. -/
theorem decode_blank (s : ByteArray) (pos : Nat) (h : pos < s.size) (hb : s.data.toList[pos]? = some 32) : Utf8.decode s pos = (32, 1) := by
  have e : s[pos]'h = 32 := by
    have h2 : pos < s.data.toList.length := by rw [← Lib.size_eq]; exact h
    rw [List.getElem?_eq_getElem h2] at hb
    exact Option.some.inj hb
  rw [decode_ascii s pos h (by rw [e]; decide), e]
  rfl
theorem get!_at (s : ByteArray) (k : Nat) (h : k < s.size) : s.data.toList[k]? = some (s.get! k) := by
  have h2 : k < s.data.toList.length := by rw [← Lib.size_eq]; exact h
  rw [List.getElem?_eq_getElem h2]
  have := get_at s k h
  simp only [Nat.add_zero] at this
  rw [this]
  rfl
theorem decode_other (s : ByteArray) (pos : Nat) (h : pos < s.size) (hb : s.data.toList[pos]? ≠ some 32) :
    (Utf8.decode s pos).1 ≠ 32 ∧ 1 ≤ (Utf8.decode s pos).2 ∧ pos + (Utf8.decode s pos).2 ≤ s.size ∧
      ∀ k, k < (Utf8.decode s pos).2 → s.data.toList[pos + k]? ≠ some 32 := by
  by_cases ha : (s[pos]'h).toNat < 128
  · rw [decode_ascii s pos h ha]
    have h0 := get!_at s pos h
    have h1 := get_at s pos h
    simp only [Nat.add_zero] at h1
    rw [h1] at h0
    refine ⟨fun e => hb ?_, Nat.le_refl _, by simp only; omega, fun k hk => ?_⟩
    · rw [h0]
      congr 1
      exact UInt8.toNat_inj.1 e
    · have : k = 0 := by simp only at hk; omega
      subst this
      simpa using hb
  · have hh := decode_high s pos h (by omega)
    refine ⟨by omega, hh.2, ?_⟩
    have hc : ∀ k, pos + k < s.size → (s.get! (pos + k)).toNat / 64 = 2 → s.data.toList[pos + k]? ≠ some 32 := by
      intro k hk h2 e
      rw [get!_at s (pos + k) hk] at e
      rw [Option.some.inj e] at h2
      exact absurd h2 (by decide)
    have hn : ¬ (s.get! (pos + 0)).toNat < 128 := by rw [get_at s pos h]; exact ha
    have key : ∀ d, d = (Utf8.decode s pos).2 → pos + d ≤ s.size ∧ ∀ k, k < d → s.data.toList[pos + k]? ≠ some 32 := by
      intro d hd
      simp only [Utf8.decode, hn, if_false] at hd
      repeat' split at hd
      all_goals simp only [Bool.and_eq_true, beq_iff_eq, decide_eq_true_eq] at *
      all_goals subst hd
      all_goals refine ⟨by omega, fun k hk => ?_⟩
      all_goals
        rcases k with _ | _ | _ | _ | k
        · simpa using hb
        · first | omega | (refine hc 1 (by omega) ?_; omega)
        · first | omega | (refine hc 2 (by omega) ?_; omega)
        · first | omega | (refine hc 3 (by omega) ?_; omega)
        · omega
    exact key _ rfl

/-- One round of a walk over the runes of s: at a blank. -/
theorem step_blank (s : ByteArray) (st pos : Nat) (done : List (List UInt8)) (h : pos < s.size) (hb : s.data.toList[pos]? = some 32)
    (hi : done ++ splitGo ((s.data.toList.drop st).take (pos - st)) (s.data.toList.drop pos) = splitL s.data.toList) :
    (done ++ filled ((s.data.toList.drop st).take (pos - st))) ++ splitGo ((s.data.toList.drop (pos + 1)).take (pos + 1 - (pos + 1))) (s.data.toList.drop (pos + 1)) = splitL s.data.toList := by
  rw [← hi]
  have h2 : pos < s.data.toList.length := by rw [← Lib.size_eq]; exact h
  rw [List.drop_eq_getElem_cons h2]
  have e : s.data.toList[pos] = 32 := by
    rw [List.getElem?_eq_getElem h2] at hb; exact Option.some.inj hb
  rw [e, splitGo_blank]
  simp
/-- At another rune. -/
theorem step_other (s : ByteArray) (st pos d : Nat) (done : List (List UInt8)) (h : pos + d ≤ s.size) (hst : st ≤ pos) (hb : ∀ k, k < d → s.data.toList[pos + k]? ≠ some 32)
    (hi : done ++ splitGo ((s.data.toList.drop st).take (pos - st)) (s.data.toList.drop pos) = splitL s.data.toList) :
    done ++ splitGo ((s.data.toList.drop st).take (pos + d - st)) (s.data.toList.drop (pos + d)) = splitL s.data.toList := by
  rw [← hi]
  have h2 : pos + d ≤ s.data.toList.length := by rw [← Lib.size_eq]; exact h
  have e1 : s.data.toList.drop pos = (s.data.toList.drop pos).take d ++ s.data.toList.drop (pos + d) := by
    rw [← List.drop_drop, List.take_append_drop]
  have e2 : (s.data.toList.drop st).take (pos + d - st) = (s.data.toList.drop st).take (pos - st) ++ (s.data.toList.drop pos).take d := by
    have : pos + d - st = (pos - st) + d := by omega
    rw [this, List.take_add, List.drop_drop]
    congr 3
    omega
  rw [e1, splitGo_run _ _ _ ?_, e2]
  intro c hc
  obtain ⟨k, hk, rfl⟩ := List.mem_iff_getElem.1 hc
  rw [List.length_take] at hk
  have := hb k (by omega)
  rw [List.getElem_take, List.getElem_drop]
  intro e
  exact this (by rw [List.getElem?_eq_getElem (by omega), e])
/-- At the end. -/
theorem step_end (s : ByteArray) (st pos : Nat) (done : List (List UInt8)) (h : s.size ≤ pos) (hst : st ≤ pos)
    (hi : done ++ splitGo ((s.data.toList.drop st).take (pos - st)) (s.data.toList.drop pos) = splitL s.data.toList) :
    done ++ filled (s.data.toList.drop st) = splitL s.data.toList := by
  rw [← hi]
  have h2 : s.data.toList.length ≤ pos := by rw [← Lib.size_eq]; exact h
  rw [List.drop_eq_nil_of_le h2, splitGo_nil, List.take_of_length_le (by rw [List.length_drop]; omega)]
theorem byte_ne {c : UInt8} (h : ¬ c = 32) : (c.toNat : Int) ≠ 32 := by
  intro e
  refine h (UInt8.toNat_inj.1 ?_)
  have : c.toNat = 32 := by omega
  rw [this]
  rfl
theorem byte_at (s : ByteArray) (k : Nat) (h : k < s.size) : s.data.toList[k]? = some (s[k]'h) := by
  have h2 : k < s.data.toList.length := by rw [← Lib.size_eq]; exact h
  rw [List.getElem?_eq_getElem h2]
  rfl
theorem drop_at {l : List UInt8} {k : Nat} {c : UInt8} (h : l[k]? = some c) : l.drop k = c :: l.drop (k + 1) := by
  have hk : k < l.length := by
    rcases Nat.lt_or_ge k l.length with h1 | h1
    · exact h1
    · rw [List.getElem?_eq_none h1] at h; cases h
  rw [List.drop_eq_getElem_cons hk]
  rw [List.getElem?_eq_getElem hk] at h
  rw [Option.some.inj h]
theorem ba_toList (l : List UInt8) : (ba l).toList = l := by rw [Lib.toList_data]; rfl
theorem ba_data (l : List UInt8) : (ba l).data.toList = l := rfl
theorem ba_size (l : List UInt8) : (ba l).size = l.length := rfl
theorem ba_of (s : ByteArray) : ba s.data.toList = s := Lib.mk_data s
theorem ba_ne {l : List UInt8} (h : l ≠ []) : (ba l).toList.isEmpty = false := by
  rw [ba_toList]
  cases l with
  | nil => exact absurd rfl h
  | cons a r => rfl
theorem ba_snoc (s : ByteArray) (k : Nat) (h : k < s.size) (l : List UInt8) : ba l ++ s.extract k (k + 1) = ba (l ++ [s[k]'h]) := by
  rw [← ba_of (ba l ++ s.extract k (k + 1))]
  congr 1
  rw [ByteArray.data_append, Array.toList_append, Lib.extract_data, drop_at (byte_at s k h), ba_data]
  simp
/-- One round of the walk over the bytes of s: at a blank. -/
theorem ref_blank (s : ByteArray) (k : Nat) (cur : List UInt8) (done : List (List UInt8)) (hb : s.data.toList[k]? = some 32)
    (hi : done ++ splitGo cur (s.data.toList.drop k) = splitL s.data.toList) : (done ++ filled cur) ++ splitGo [] (s.data.toList.drop (k + 1)) = splitL s.data.toList := by
  rw [← hi, drop_at hb, splitGo_blank, List.append_assoc]
theorem ref_other (s : ByteArray) (k : Nat) (cur : List UInt8) (c : UInt8) (done : List (List UInt8)) (hb : s.data.toList[k]? = some c) (hc : c ≠ 32)
    (hi : done ++ splitGo cur (s.data.toList.drop k) = splitL s.data.toList) : done ++ splitGo (cur ++ [c]) (s.data.toList.drop (k + 1)) = splitL s.data.toList := by
  rw [← hi, drop_at hb, splitGo_other _ _ _ hc]

end Go.Proofs.Ytgdgmcehkhimpaa

namespace Go.Proofs.Ytgdgmcehkhimpaa
open Go Go.RowKit

def letterB (r : Int) : Bool := decide (97 ≤ r ∧ r ≤ 122)
def digitB (r : Int) : Bool := decide (48 ≤ r ∧ r ≤ 57)
/-- A letter from a to z or a digit. -/
def okb (c : UInt8) : Bool := letterB (c.toNat : Int) || digitB (c.toNat : Int)
/-- A word. -/
def rightL (l : List UInt8) : Bool := decide (1 ≤ l.length ∧ l.length ≤ 8 ∧ ∀ c ∈ l, okb c = true)

theorem rightL_len {l : List UInt8} (h : ¬ (1 ≤ l.length ∧ l.length ≤ 8)) : rightL l = false := by
  unfold rightL
  rw [decide_eq_false_iff_not]
  exact fun h2 => h ⟨h2.1, h2.2.1⟩
theorem rightL_bad {l : List UInt8} {k : Nat} {c : UInt8} (h : l[k]? = some c) (hc : okb c = false) : rightL l = false := by
  unfold rightL
  rw [decide_eq_false_iff_not]
  intro h2
  have := h2.2.2 c (List.mem_of_getElem? h)
  rw [hc] at this
  cases this
theorem rightL_all {l : List UInt8} (h1 : 1 ≤ l.length) (h8 : l.length ≤ 8) (h : ∀ (k : Nat) (c : UInt8), l[k]? = some c → okb c = true) : rightL l = true := by
  unfold rightL
  rw [decide_eq_true_iff]
  refine ⟨h1, h8, fun c hc => ?_⟩
  obtain ⟨k, hk, rfl⟩ := List.mem_iff_getElem.1 hc
  exact h k _ (List.getElem?_eq_getElem hk)

set_option maxHeartbeats 400000 in
theorem isLetter_any (r : Int) (w : World) : Calls Try.prog 33 #[.int .i32 r] w fun e w' => e = .returned (.bool (letterB r)) ∧ w = w' := by
  by_cases h1 : 97 ≤ r
  · by_cases h2 : r ≤ 122
    · have e : letterB r = true := by unfold letterB; simp; omega
      rw [e]
      go_enter Try.func33, Try.ntmps33
      go_wp2
      go_ret
      exact ⟨rfl, rfl⟩
    · have e : letterB r = false := by unfold letterB; simp; omega
      have hd : decide (r ≤ 122) = false := by simp; omega
      rw [e]
      go_enter Try.func33, Try.ntmps33
      go_wp2
      go_ret
      exact ⟨rfl, rfl⟩
  · have e : letterB r = false := by unfold letterB; simp; omega
    have hd : decide (97 ≤ r) = false := by simp; omega
    rw [e]
    go_enter Try.func33, Try.ntmps33
    go_wp2
    go_ret
    exact ⟨rfl, rfl⟩

set_option maxHeartbeats 400000 in
theorem isDigit_any (r : Int) (w : World) : Calls Try.prog 34 #[.int .i32 r] w fun e w' => e = .returned (.bool (digitB r)) ∧ w = w' := by
  by_cases h1 : 48 ≤ r
  · by_cases h2 : r ≤ 57
    · have e : digitB r = true := by unfold digitB; simp; omega
      rw [e]
      go_enter Try.func34, Try.ntmps34
      go_wp2
      go_ret
      exact ⟨rfl, rfl⟩
    · have e : digitB r = false := by unfold digitB; simp; omega
      have hd : decide (r ≤ 57) = false := by simp; omega
      rw [e]
      go_enter Try.func34, Try.ntmps34
      go_wp2
      go_ret
      exact ⟨rfl, rfl⟩
  · have e : digitB r = false := by unfold digitB; simp; omega
    have hd : decide (48 ≤ r) = false := by simp; omega
    rw [e]
    go_enter Try.func34, Try.ntmps34
    go_wp2
    go_ret
    exact ⟨rfl, rfl⟩

def SaysOver (w : World) (b : Bool) (e : Ending) (w' : World) : Prop := e = .returned (.bool b) ∧ Below w.heap.size w w'

set_option maxHeartbeats 1000000 in
set_option maxRecDepth 100000 in
theorem right_any (s : ByteArray) (w : World) (hs : s.size ≤ 9223372036854775807) : Calls Try.prog 26 #[.string s] w (SaysOver w (rightL s.data.toList)) := by
  have hsz := Lib.size_eq s
  by_cases h0 : s.size = 0
  · rw [rightL_len (by omega)]
    have g0 : ((s.size : Int) == 0) = true := by rw [beq_iff_eq]; omega
    clear hsz
    go_enter Try.func26, Try.ntmps26
    go_wp2
    go_ret
    exact ⟨rfl, Below.refl _ _⟩
  · have g0 : ((s.size : Int) == 0) = false := by rw [beq_eq_false_iff_ne]; omega
    have h1 : 1 ≤ s.size := by omega
    by_cases h8 : s.size ≤ 8
    · have Hsz := Lib.hid hsz
      clear hsz h0
      go_enter Try.func26, Try.ntmps26
      go_wp2
      go_loopw [] (fun wr => ∃ pos, wr = w.iter s pos ∧ pos ≤ s.size ∧ ∀ k c, k < pos → s.data.toList[k]? = some c → okb c = true) (fun wr => s.size - wr.iterPos w.heap.size)
      case atStart => exact ⟨0, rfl, Nat.zero_le _, fun k c hk => by omega⟩
      case round =>
        obtain ⟨pos, rfl, hpos, hall⟩ := hrel
        have Hall := Lib.hid hall
        clear hall
        have hbel : Below w.heap.size w (w.iter s pos) := (Below.refl _ w).alloc (Nat.le_refl _) _
        by_cases hp : pos < s.size
        · have hat := Lib.hid (byte_at s pos hp)
          obtain ⟨r, d, hnx, hr⟩ : ∃ r d : Nat, (∀ ty, (Instr.next (.pointer (some ⟨w.heap.size, 0, none⟩)) true ty).run Try.prog (w.iter s pos) =
              .ok (.tuple #[.bool true, .int .i64 pos, .int .i32 r]) (w.iter s (pos + d))) ∧ ((letterB r || digitB r) = okb (s[pos]'hp) ∧ (okb (s[pos]'hp) = true → d = 1)) := by
            refine ⟨_, _, fun ty => run_next_any w s pos ty hp, ?_⟩
            by_cases ha : (s[pos]'hp).toNat < 128
            · rw [decode_ascii s pos hp ha]
              exact ⟨rfl, fun _ => rfl⟩
            · have hh := (decode_high s pos hp (by omega)).1
              have e1 : okb (s[pos]'hp) = false := by unfold okb letterB digitB; simp; omega
              have e2 : (letterB ((Utf8.decode s pos).1 : Int) || digitB ((Utf8.decode s pos).1 : Int)) = false := by unfold letterB digitB; simp; omega
              exact ⟨by rw [e1, e2], fun h => by rw [e1] at h; cases h⟩
          obtain ⟨hr1, hr2⟩ := hr
          by_cases hok : okb (s[pos]'hp) = true
          · have hd := hr2 hok
            rw [hok] at hr1
            subst hd
            have Hok := Lib.hid hok
            clear hr2 hok
            cases hl : letterB (r : Int) with
            | true =>
              clear hr1
              have Hl := Lib.hid hl
              clear hl
              go_wp2_with fail
              refine (isLetter_any _ _).mono ?_
              rintro e w' ⟨rfl, rfl⟩
              rw [Hl.out]
              go_wp2
              go_roundw
              case rel =>
                refine ⟨pos + 1, rfl, by omega, fun k c hk hkc => ?_⟩
                by_cases hk2 : k = pos
                · subst hk2
                  rw [hat.out] at hkc
                  rw [← Option.some.inj hkc]
                  exact Hok.out
                · exact Hall.out k c (by omega) hkc
              case measure => simp; omega
            | false =>
              rw [hl, Bool.false_or] at hr1
              have Hl := Lib.hid hl
              have Hr := Lib.hid hr1
              clear hl hr1
              go_wp2_with fail
              refine (isLetter_any _ _).mono ?_
              rintro e w' ⟨rfl, rfl⟩
              rw [Hl.out]
              go_wp2_with fail
              refine (isDigit_any _ _).mono ?_
              rintro e w' ⟨rfl, rfl⟩
              rw [Hr.out]
              go_wp2
              go_roundw
              case rel =>
                refine ⟨pos + 1, rfl, by omega, fun k c hk hkc => ?_⟩
                by_cases hk2 : k = pos
                · subst hk2
                  rw [hat.out] at hkc
                  rw [← Option.some.inj hkc]
                  exact Hok.out
                · exact Hall.out k c (by omega) hkc
              case measure => simp; omega
          · have hok2 : okb (s[pos]'hp) = false := by simpa using hok
            rw [hok2, Bool.or_eq_false_iff] at hr1
            have Hr := Lib.hid hr1
            have hfin := Lib.hid (rightL_bad hat.out hok2)
            clear hr1 hr2 hok hok2
            have hbel2 : Below w.heap.size w (w.iter s (pos + d)) := (Below.refl _ w).alloc (Nat.le_refl _) _
            go_wp2_with fail
            refine (isLetter_any _ _).mono ?_
            rintro e w' ⟨rfl, rfl⟩
            rw [Hr.out.1]
            go_wp2_with fail
            refine (isDigit_any _ _).mono ?_
            rintro e w' ⟨rfl, rfl⟩
            rw [Hr.out.2]
            go_wp2
            go_ret
            rw [hfin.out]
            exact ⟨rfl, hbel2⟩
        · have hnx : ∀ ty, (Instr.next (.pointer (some ⟨w.heap.size, 0, none⟩)) true ty).run Try.prog (w.iter s pos) = _ := fun ty => run_next_end w s pos ty hp
          have e1 : rightL s.data.toList = true := rightL_all (by have := Hsz.out; omega) (by have := Hsz.out; omega) (fun k c hkc => Hall.out k c (by
            rcases Nat.lt_or_ge k s.data.toList.length with h | h
            · have := Hsz.out; omega
            · rw [List.getElem?_eq_none h] at hkc; cases hkc) hkc)
          have E1 := Lib.hid e1
          clear e1
          go_wp2
          go_ret
          rw [E1.out]
          exact ⟨rfl, hbel⟩
    · rw [rightL_len (by omega)]
      clear hsz h0
      go_enter Try.func26, Try.ntmps26
      go_wp2
      go_ret
      exact ⟨rfl, Below.refl _ _⟩

set_option maxHeartbeats 2000000 in
set_option maxRecDepth 100000 in
theorem refRight_any (s : ByteArray) (w : World) (hs : s.size ≤ 9223372036854775807) : Calls Try.prog 22 #[.string s] w fun e w' => e = .returned (.bool (rightL s.data.toList)) ∧ w = w' := by
  have hsz := Lib.size_eq s
  by_cases h0 : s.size < 1
  · rw [rightL_len (by omega)]
    have g0 : decide ((s.size : Int) < 1) = true := by simp; omega
    clear hsz
    go_enter Try.func22, Try.ntmps22
    go_wp2
    go_ret
    exact ⟨rfl, rfl⟩
  · have g0 : decide ((s.size : Int) < 1) = false := by simp; omega
    by_cases h8 : s.size ≤ 8
    · have g8 : decide (8 < (s.size : Int)) = false := by simp; omega
      have Hsz := Lib.hid hsz
      clear hsz
      go_enter Try.func22, Try.ntmps22
      go_wp2
      go_loop [3] (fun i => ∃ k : Nat, i = .int .i64 k ∧ k ≤ s.size ∧ ∀ j c, j < k → s.data.toList[j]? = some c → okb c = true) (fun i => s.size - (intOf i).toNat)
      case atStart => exact ⟨0, rfl, Nat.zero_le _, fun k c hk => by omega⟩
      case round =>
        obtain ⟨k, rfl, hk, hall⟩ := hrel
        have Hall := Lib.hid hall
        clear hall
        by_cases hlt : k < s.size
        · have hat := Lib.hid (byte_at s k hlt)
          obtain ⟨x, hx⟩ : ∃ x, x = s[k]'hlt := ⟨_, rfl⟩
          rw [← hx] at hat
          have hstep : okb x = true → ∀ j c, j < k + 1 → s.data.toList[j]? = some c → okb c = true := by
            intro hok j c hj hjc
            by_cases hj2 : j = k
            · subst hj2
              rw [hat.out] at hjc
              rw [← Option.some.inj hjc]
              exact hok
            · exact Hall.out j c (by omega) hjc
          have Hstep := Lib.hid hstep
          have hokb : okb x = true ↔ (97 ≤ (x.toNat : Int) ∧ (x.toNat : Int) ≤ 122) ∨ (48 ≤ (x.toNat : Int) ∧ (x.toNat : Int) ≤ 57) := by
            unfold okb letterB digitB
            simp
          have hbad : okb x = false → rightL s.data.toList = false := fun h => rightL_bad hat.out h
          have Hokb := Lib.hid hokb
          have Hbad := Lib.hid hbad
          subst hx
          clear hstep hokb hbad
          by_cases c1 : 97 ≤ ((s[k]'hlt).toNat : Int)
          · by_cases c2 : ((s[k]'hlt).toNat : Int) ≤ 122
            · go_wp2
              go_round
              case rel => exact ⟨k + 1, by go_num, by omega, Hstep.out (Hokb.out.2 (.inl ⟨c1, c2⟩))⟩
              case measure => simp [intOf]; omega
            · have d2 : decide (((s[k]'hlt).toNat : Int) ≤ 122) = false := by simp; omega
              have d4 : decide (((s[k]'hlt).toNat : Int) ≤ 57) = false := by simp; omega
              go_wp2
              go_ret
              rw [Hbad.out (by rw [Bool.eq_false_iff]; intro h; have := Hokb.out.1 h; omega)]
              exact ⟨rfl, rfl⟩
          · have d1 : decide (97 ≤ ((s[k]'hlt).toNat : Int)) = false := by simp; omega
            by_cases c3 : 48 ≤ ((s[k]'hlt).toNat : Int)
            · by_cases c4 : ((s[k]'hlt).toNat : Int) ≤ 57
              · go_wp2
                go_round
                case rel => exact ⟨k + 1, by go_num, by omega, Hstep.out (Hokb.out.2 (.inr ⟨c3, c4⟩))⟩
                case measure => simp [intOf]; omega
              · have d4 : decide (((s[k]'hlt).toNat : Int) ≤ 57) = false := by simp; omega
                go_wp2
                go_ret
                rw [Hbad.out (by rw [Bool.eq_false_iff]; intro h; have := Hokb.out.1 h; omega)]
                exact ⟨rfl, rfl⟩
            · have d3 : decide (48 ≤ ((s[k]'hlt).toNat : Int)) = false := by simp; omega
              go_wp2
              go_ret
              rw [Hbad.out (by rw [Bool.eq_false_iff]; intro h; have := Hokb.out.1 h; omega)]
              exact ⟨rfl, rfl⟩
        · have e1 : rightL s.data.toList = true := rightL_all (by have := Hsz.out; omega) (by have := Hsz.out; omega) (fun j c hjc => Hall.out j c (by
            rcases Nat.lt_or_ge j s.data.toList.length with h | h
            · have := Hsz.out; omega
            · rw [List.getElem?_eq_none h] at hjc; cases hjc) hjc)
          have E1 := Lib.hid e1
          clear e1
          go_wp2
          go_ret
          rw [E1.out]
          exact ⟨rfl, rfl⟩
    · have g8 : decide (8 < (s.size : Int)) = true := by simp; omega
      rw [rightL_len (by omega)]
      clear hsz
      go_enter Try.func22, Try.ntmps22
      go_wp2
      go_ret
      exact ⟨rfl, rfl⟩
end Go.Proofs.Ytgdgmcehkhimpaa

namespace Go.Proofs.Ytgdgmcehkhimpaa
open Go

/-- A listener, and the node at which it was added. -/
structure Ls where
  id : Int
  typ : ByteArray
  cb : Int
  cap : Bool
  once : Bool
  pas : Bool
  sig : Int
  rem : Bool
  node : Int
/-- Is it node's, not removed, and alike? -/
def lsIs (v : Int) (t : ByteArray) (cb : Int) (cap : Bool) (x : Ls) : Bool := (x.node == v) && !x.rem && (x.typ.toList == t.toList) && (x.cb == cb) && (x.cap == cap)
/-- The number of the first one that is, from the number n on; 0: none. -/
def findN (v : Int) (t : ByteArray) (cb : Int) (cap : Bool) : Nat → List Ls → Int
  | _, [] => 0
  | n, x :: r => if lsIs v t cb cap x = true then (n : Int) + 1 else findN v t cb cap (n + 1) r
def findLs (B : List Ls) (v : Int) (t : ByteArray) (cb : Int) (cap : Bool) : Int := findN v t cb cap 0 B
/-- May it be added: the error's number. -/
def lsErr (B : List Ls) (v : Int) (x : Ls) : Int := if v < 1 ∨ x.cb < 1 ∨ x.sig < 0 ∨ rightL x.typ.data.toList = false then 1 else if 512 ≤ B.length then 9 else 0
/-- Is it put behind? -/
def lsGoes (B : List Ls) (v : Int) (x : Ls) : Bool := decide (lsErr B v x = 0) && decide (findLs B v x.typ x.cb x.cap = 0)
def lsNo (B : List Ls) (v : Int) (x : Ls) : Int := if lsGoes B v x = true then (B.length : Int) + 1 else 0
def addLs (B : List Ls) (v : Int) (x : Ls) : List Ls := if lsGoes B v x = true then B ++ [⟨(B.length : Int) + 1, x.typ, x.cb, x.cap, x.once, x.pas, x.sig, false, v⟩] else B
def lThere (B : List Ls) (i : Int) : Bool := decide (1 ≤ i) && decide (i ≤ (B.length : Int))
def Ls.zero : Ls := ⟨0, ⟨#[]⟩, 0, false, false, false, 0, false, 0⟩
def lsAt (B : List Ls) (i : Int) : Ls := B.getD (i - 1).toNat Ls.zero
def lsAlive (B : List Ls) (i : Int) : Bool := lThere B i && !(lsAt B i).rem
def killLs (B : List Ls) (i : Int) : List Ls := if lsAlive B i = true then B.modify (i - 1).toNat fun x => { x with rem := true } else B
/-- A node's listeners. -/
def atLs (B : List Ls) (v : Int) : List Ls := B.filter fun x => (x.node == v) && !x.rem

section
variable {B : List Ls} {v cb : Int} {t : ByteArray} {cap : Bool} {x y : Ls} {i j : Nat}
theorem findN_none : ∀ (B : List Ls) (n : Nat), (∀ x ∈ B, lsIs v t cb cap x = false) → findN v t cb cap n B = 0
  | [], _, _ => rfl
  | x :: r, n, h => by
    rw [findN, if_neg (by rw [h x (by simp)]; decide)]
    exact findN_none r (n + 1) fun y hy => h y (by simp [hy])
theorem findN_hit : ∀ (B : List Ls) (n i : Nat) (x : Ls), B[i]? = some x → lsIs v t cb cap x = true → (∀ j y, j < i → B[j]? = some y → lsIs v t cb cap y = false) → findN v t cb cap n B = ((n + i : Nat) : Int) + 1
  | [], _, _, _, h, _, _ => by cases h
  | z :: r, n, 0, x, h, hx, _ => by
    obtain rfl : z = x := by simpa using h
    rw [findN, if_pos hx]
    simp
  | z :: r, n, i + 1, x, h, hx, ho => by
    rw [findN, if_neg (by rw [ho 0 z (by omega) rfl]; decide), findN_hit r (n + 1) i x (by simpa using h) hx fun j y hj hy => ho (j + 1) y (by omega) (by simpa using hy)]
    omega
theorem find_hit (h : B[i]? = some x) (hx : lsIs v t cb cap x = true) (ho : ∀ j y, j < i → B[j]? = some y → lsIs v t cb cap y = false) : findLs B v t cb cap = (i : Int) + 1 := by
  unfold findLs
  rw [findN_hit B 0 i x h hx ho]
  omega
theorem find_none (h : ∀ x ∈ B, lsIs v t cb cap x = false) : findLs B v t cb cap = 0 := findN_none B 0 h
/-- There is one, or none. -/
theorem find_what : (∀ x ∈ B, lsIs v t cb cap x = false) ∧ findLs B v t cb cap = 0 ∨ ∃ (i : Nat) (x : Ls), B[i]? = some x ∧ lsIs v t cb cap x = true ∧ (∀ (j : Nat) (y : Ls), j < i → B[j]? = some y → lsIs v t cb cap y = false) ∧ findLs B v t cb cap = (i : Int) + 1 := by
  by_cases h : ∀ x ∈ B, lsIs v t cb cap x = false
  · exact .inl ⟨h, find_none h⟩
  · right
    have : ∃ (i : Nat), ∃ (x : Ls), B[i]? = some x ∧ lsIs v t cb cap x = true := by
      refine Classical.byContradiction fun hn => h fun x hx => ?_
      obtain ⟨i, hi⟩ := List.getElem?_of_mem hx
      cases hc : lsIs v t cb cap x with
      | false => rfl
      | true => exact absurd ⟨i, x, hi, hc⟩ hn
    obtain ⟨i0, h0⟩ := this
    have least : ∀ (n i : Nat), i ≤ n → (∃ x, B[i]? = some x ∧ lsIs v t cb cap x = true) → ∃ (i : Nat), ∃ (x : Ls), B[i]? = some x ∧ lsIs v t cb cap x = true ∧ ∀ (j : Nat) (y : Ls), j < i → B[j]? = some y → lsIs v t cb cap y = false := by
      intro n
      induction n with
      | zero =>
        intro i hi ⟨x, h1, h2⟩
        exact ⟨i, x, h1, h2, fun j y hj _ => by omega⟩
      | succ n ih =>
        intro i hi ⟨x, h1, h2⟩
        by_cases hl : ∃ (j : Nat), j < i ∧ ∃ (y : Ls), B[j]? = some y ∧ lsIs v t cb cap y = true
        · obtain ⟨j, hj, hy⟩ := hl
          exact ih j (by omega) hy
        · refine ⟨i, x, h1, h2, fun j y hj hy => ?_⟩
          cases hc : lsIs v t cb cap y with
          | false => rfl
          | true => exact absurd ⟨j, hj, y, hy, hc⟩ hl
    obtain ⟨i, x, h1, h2, h3⟩ := least i0 i0 (Nat.le_refl _) h0
    exact ⟨i, x, h1, h2, h3, find_hit h1 h2 h3⟩
end

/-- Each listener's number is its place, one more; of a node's listeners that aren't removed no two are alike; nodes and callbacks are at least 1. -/
structure LsOk (B : List Ls) : Prop where
  num : ∀ (i : Nat) (x : Ls), B[i]? = some x → x.id = (i : Int) + 1
  one : ∀ (i j : Nat) (x y : Ls), B[i]? = some x → B[j]? = some y → x.rem = false → lsIs x.node x.typ x.cb x.cap y = true → i = j
  few : B.length ≤ 512
  fit : ∀ x ∈ B, 1 ≤ x.node ∧ x.node ≤ 9223372036854775807
section
variable {B : List Ls} {v : Int} {x y z : Ls} {i j : Nat} {k : Int}
theorem lsIs_self (h : x.rem = false) : lsIs x.node x.typ x.cb x.cap x = true := by simp [lsIs, h]
theorem lsIs_iff {t : ByteArray} {cb : Int} {cap : Bool} : lsIs v t cb cap x = true ↔ x.node = v ∧ x.rem = false ∧ x.typ.toList = t.toList ∧ x.cb = cb ∧ x.cap = cap := by
  simp [lsIs, and_assoc]
theorem lsOk_nil : LsOk [] := ⟨(fun i x h => by cases h), (fun i j x y h => by cases h), Nat.zero_le _, fun x hx => by cases hx⟩
theorem snoc_get {B : List Ls} {z x : Ls} {i : Nat} (h : (B ++ [z])[i]? = some x) : (i < B.length ∧ B[i]? = some x) ∨ (i = B.length ∧ x = z) := by
  rw [List.getElem?_append] at h
  by_cases e : i < B.length
  · rw [if_pos e] at h
    exact .inl ⟨e, h⟩
  · rw [if_neg e] at h
    right
    have : i - B.length = 0 := by
      have := (List.getElem?_eq_some_iff.1 h).1
      simp at this
      omega
    rw [this] at h
    exact ⟨by omega, by simpa using h.symm⟩
theorem lsOk_add (h : LsOk B) (hv : v ≤ 9223372036854775807) : LsOk (addLs B v x) := by
  unfold addLs
  split
  case isFalse => exact h
  rename_i hg
  unfold lsGoes at hg
  rw [Bool.and_eq_true, decide_eq_true_iff, decide_eq_true_iff] at hg
  obtain ⟨he, hf⟩ := hg
  have hlen : B.length < 512 := by
    unfold lsErr at he
    split at he
    · cases he
    · split at he
      · cases he
      · omega
  have hno : ∀ y ∈ B, lsIs v x.typ x.cb x.cap y = false := by
    rcases find_what (B := B) (v := v) (t := x.typ) (cb := x.cb) (cap := x.cap) with ⟨h1, -⟩ | ⟨i, y, -, -, -, h2⟩
    · exact h1
    · rw [h2] at hf
      omega
  refine ⟨fun i y hy => ?_, fun i j y z hy hz hr ha => ?_, by rw [List.length_append]; simp; omega, fun y hy => ?_⟩
  · rcases snoc_get hy with ⟨-, hy⟩ | ⟨rfl, rfl⟩
    · exact h.num i y hy
    · rfl
  · rcases snoc_get hy with ⟨hi, hy⟩ | ⟨rfl, rfl⟩
    · rcases snoc_get hz with ⟨hj, hz⟩ | ⟨rfl, rfl⟩
      · exact h.one i j y z hy hz hr ha
      · exfalso
        have := hno y (List.mem_of_getElem? hy)
        rw [Bool.eq_false_iff] at this
        obtain ⟨h1, h2, h3, h4, h5⟩ := lsIs_iff.1 ha
        exact this (lsIs_iff.2 ⟨h1.symm, hr, h3.symm, h4.symm, h5.symm⟩)
    · rcases snoc_get hz with ⟨hj, hz⟩ | ⟨rfl, rfl⟩
      · exfalso
        have := hno z (List.mem_of_getElem? hz)
        rw [Bool.eq_false_iff] at this
        exact this ha
      · rfl
  · rcases List.mem_append.1 hy with hy | hy
    · exact h.fit y hy
    · obtain rfl := List.mem_singleton.1 hy
      refine ⟨?_, hv⟩
      show 1 ≤ v
      unfold lsErr at he
      split at he
      · cases he
      · omega
theorem kill_get (h : (killLs B k)[i]? = some x) : ∃ y, B[i]? = some y ∧ x = (if lsAlive B k = true ∧ (k - 1).toNat = i then { y with rem := true } else y) := by
  unfold killLs at h
  split at h
  · rename_i ha
    rw [List.getElem?_modify] at h
    cases hb : B[i]? with
    | none => rw [hb] at h; cases h
    | some y =>
      rw [hb] at h
      replace h := Option.some.inj h
      dsimp only at h
      refine ⟨y, rfl, ?_⟩
      by_cases e : (k - 1).toNat = i
      · rw [if_pos ⟨ha, e⟩]
        rw [if_pos e] at h
        exact h.symm
      · rw [if_neg fun h' => e h'.2]
        rw [if_neg e] at h
        exact h.symm
  · rename_i ha
    exact ⟨x, h, by rw [if_neg fun h' => ha h'.1]⟩
theorem kill_length : (killLs B k).length = B.length := by
  unfold killLs
  split
  · rw [List.length_modify]
  · rfl
theorem lsOk_kill (h : LsOk B) : LsOk (killLs B k) := by
  refine ⟨fun i x hx => ?_, fun i j x y hx hy hr ha => ?_, by rw [kill_length]; exact h.few, fun x hx => ?_⟩
  · obtain ⟨y, hy, rfl⟩ := kill_get hx
    have := h.num i y hy
    split <;> exact this
  · obtain ⟨x', hx', rfl⟩ := kill_get hx
    obtain ⟨y', hy', rfl⟩ := kill_get hy
    by_cases e1 : lsAlive B k = true ∧ (k - 1).toNat = i
    · rw [if_pos e1] at hr
      cases hr
    · rw [if_neg e1] at hr ha
      by_cases e2 : lsAlive B k = true ∧ (k - 1).toNat = j
      · rw [if_pos e2] at ha
        have := (lsIs_iff.1 ha).2.1
        cases this
      · rw [if_neg e2] at ha
        exact h.one i j x' y' hx' hy' hr ha
  · obtain ⟨i, hi⟩ := List.getElem?_of_mem hx
    obtain ⟨y, hy, rfl⟩ := kill_get hi
    have := h.fit y (List.mem_of_getElem? hy)
    split <;> exact this
/-- Find tells just a listener that is in its node's list. -/
theorem find_self (h : LsOk B) (hx : B[i]? = some x) (hr : x.rem = false) : findLs B x.node x.typ x.cb x.cap = (i : Int) + 1 :=
  find_hit hx (lsIs_self hr) fun j y hj hy => by
    cases hc : lsIs x.node x.typ x.cb x.cap y with
    | false => rfl
    | true =>
      have := h.one i j x y hx hy hr hc
      omega
/-- A node's list has rising numbers. -/
theorem atLs_rise (h : LsOk B) (v : Int) : (atLs B v).Pairwise fun x y => x.id < y.id := by
  refine List.Pairwise.filter _ ?_
  rw [List.pairwise_iff_getElem]
  intro i j hi hj hij
  rw [h.num i _ (List.getElem?_eq_getElem hi), h.num j _ (List.getElem?_eq_getElem hj)]
  omega
theorem atLs_mem : x ∈ atLs B v ↔ x ∈ B ∧ x.node = v ∧ x.rem = false := by
  unfold atLs
  rw [List.mem_filter]
  simp
/-- Behind Add with what may be added Find tells one. -/
theorem add_found (hv : 1 ≤ v) (hc : 1 ≤ x.cb) (hs : 0 ≤ x.sig) (hr : rightL x.typ.data.toList = true) (hl : B.length < 512) : findLs (addLs B v x) v x.typ x.cb x.cap ≠ 0 := by
  have he : lsErr B v x = 0 := by
    unfold lsErr
    have hno : ¬ (v < 1 ∨ x.cb < 1 ∨ x.sig < 0 ∨ rightL x.typ.data.toList = false) := by
      rintro (h | h | h | h)
      · omega
      · omega
      · omega
      · rw [hr] at h
        cases h
    rw [if_neg hno, if_neg (by omega)]
  intro h0
  by_cases hf : findLs B v x.typ x.cb x.cap = 0
  · have hg : lsGoes B v x = true := by unfold lsGoes; rw [decide_eq_true he, decide_eq_true hf]; rfl
    unfold addLs at h0
    rw [if_pos hg] at h0
    rcases find_what (B := B ++ [⟨(B.length : Int) + 1, x.typ, x.cb, x.cap, x.once, x.pas, x.sig, false, v⟩]) (v := v) (t := x.typ) (cb := x.cb) (cap := x.cap) with ⟨h1, -⟩ | ⟨i, y, -, -, -, h2⟩
    · have := h1 ⟨(B.length : Int) + 1, x.typ, x.cb, x.cap, x.once, x.pas, x.sig, false, v⟩ (by simp)
      simp [lsIs] at this
    · rw [h2] at h0
      omega
  · have hg : lsGoes B v x = false := by unfold lsGoes; rw [decide_eq_false hf, Bool.and_false]
    unfold addLs at h0
    rw [if_neg (by rw [hg]; decide)] at h0
    exact hf h0
end
end Go.Proofs.Ytgdgmcehkhimpaa

namespace Go.Proofs.Ytgdgmcehkhimpaa
open Go Go.ChangeShapes Go.WideShapes Go.ChangeAt Go.RowKit

/-- The slice's place number i, below block B, holds v. -/
def At (w : World) (B : Nat) (A : Option Addr) (i : Nat) (v : Value) : Prop := ∃ b off, A = some ⟨b, off, none⟩ ∧ b < B ∧ w.cell? ⟨b, off + i, none⟩ = some v
/-- A list of numbers that came in: at each place its number. -/
def Nums (w : World) (B : Nat) (A : Option Addr) (k : IntKind) (xs : List Int) : Prop := ∀ i (h : i < xs.length), At w B A i (.int k xs[i])

theorem At.below {w w' : World} {B : Nat} {A : Option Addr} {i : Nat} {v : Value} (h : At w B A i v) (hb : Below B w w') : At w' B A i v := by
  obtain ⟨b, off, e, hB, hc⟩ := h
  exact ⟨b, off, e, hB, (hb.cell (p := ⟨b, off + i, none⟩) hB).trans hc⟩

theorem Nums.below {w w' : World} {B : Nat} {A : Option Addr} {k : IntKind} {xs : List Int} (h : Nums w B A k xs) (hb : Below B w w') : Nums w' B A k xs := fun i hi => (h i hi).below hb

theorem Nums.mono {w : World} {B B' : Nat} {A : Option Addr} {k : IntKind} {xs : List Int} (h : Nums w B A k xs) (hb : B ≤ B') : Nums w B' A k xs := fun i hi => by
  obtain ⟨b, off, e, hB, hc⟩ := h i hi
  exact ⟨b, off, e, Nat.lt_of_lt_of_le hB hb, hc⟩

/-- Out of the row's reading. -/
theorem nums_in {P : Program} {H : Type} {enc : TypeId × Value → H} {W : World} {sp : Nat → Bool} {held : Bool} {fuel : Nat} {t e : TypeId} {k : IntKind} {A : Option Addr} {n cap : Nat} {x : DataW H × List MemPlace}
    (ht : P.underlying t = some (.slice e)) (he : P.underlying e = some (.int k)) (h1 : P.cellsOf e = 1)
    (hf : DataW.trod enc P W 0 sp held fuel t [.slice A n cap] = some x) (hx : ∀ y ∈ x.2, y.block < W.heap.size) :
    ∃ xs : List Int, xs.length = n ∧ Nums W W.heap.size A k xs ∧ (∀ z ∈ xs, (Lit.int k z).wf = true) ∧ n ≤ cap ∧ n ≤ maxLen := by
  rcases open_ints ht he h1 hf with ⟨hv, _⟩ | ⟨a, n', cap', zs, hv, _, hl, hm, hz, hxe, hcell, hws⟩
  · obtain ⟨rfl, rfl, rfl⟩ : A = none ∧ n = 0 ∧ cap = 0 := by simpa using hv
    exact ⟨[], rfl, fun i h => absurd h (Nat.not_lt_zero i), fun z h => absurd h (by simp), Nat.le_refl 0, Nat.zero_le _⟩
  · obtain ⟨rfl, rfl, rfl⟩ : A = some a ∧ n = n' ∧ cap = cap' := by simpa using hv
    have hge : n ≤ zs.length := by rw [hz]; split <;> omega
    refine ⟨zs.take n, by rw [List.length_take]; omega, fun i hi => ?_, fun z h => hws z (List.mem_of_mem_take h), hl, Nat.le_trans hl hm⟩
    rw [List.length_take] at hi
    have hi' : i < zs.length := by omega
    have hc := hcell i hi'
    have hc0 := hcell 0 (by omega)
    obtain ⟨b, off, spot⟩ := a
    obtain rfl : spot = none := by simpa [Addr.add] using World.cell?_spot hc0
    rw [Addr.add_lit] at hc
    refine ⟨b, off, rfl, hx (.cell b off) (by rw [hxe]; exact MemPlace.mem_row.2 ⟨0, by omega, by simp⟩), hc.trans ?_⟩
    rw [List.getElem_take, List.getD_eq_getElem?_getD, List.getElem?_eq_getElem hi']
    rfl

theorem Keeps.storeAt {F : Nat → Prop} {w w' : World} {g : Nat} (k : Keeps F w w') (h : F g) (i : Nat) (u : Value) : Keeps F w (w'.setCell ⟨g, i, none⟩ u) := k.store (.inl h) u
/-- What an append leaves. -/
theorem Keeps.of_grown {w w' : World} {row : Option Nat} (h : w.grownBy w' row) : Keeps (fun i => row = some i) w w' :=
  ⟨⟨h.os, h.tape, h.output⟩, h.size, fun i hi hn => h.block i hi fun e => hn e.symm⟩
/-- A row of the call's own is kept where its block is. -/
theorem own_kept {F : Nat → Prop} {w w' : World} {base n size : Nat} {e : TypeId} {v : Value} {xs : List Value} (h : w.ownsRow base e size v n xs) (k : Keeps F w w') (hF : ∀ g, v.ownBlock = some g → ¬ F g) : w'.ownsRow base e size v n xs := by
  refine ⟨h.1, ?_⟩
  rcases h.2 with hn | ⟨g, cap, cur, rfl, hb, hg, rest⟩
  · exact .inl hn
  · exact .inr ⟨g, cap, cur, rfl, hb, Has.kept hg k (hF g rfl), rest⟩
end Go.Proofs.Ytgdgmcehkhimpaa

namespace Go.Proofs.Ytgdgmcehkhimpaa
open Go Go.RowKit

/-- Is a number in a list? -/
def hasB (xs : List Int) (x : Int) : Bool := decide (x ∈ xs)
/-- A list of numbers of the call's own, in a block that G names. -/
def Kids (G : Nat → Prop) (w : World) (v : Value) (xs : List Int) : Prop := w.ownsRow 0 3 1 v xs.length (xs.map (Value.int .i64)) ∧ ∀ g, v.ownBlock = some g → G g
/-- All blocks from B on G names. -/
def Fut (G : Nat → Prop) (B : Nat) : Prop := ∀ i, B ≤ i → G i
theorem Fut.mono {G : Nat → Prop} {B B' : Nat} (h : Fut G B) (hb : B ≤ B') : Fut G B' := fun i hi => h i (Nat.le_trans hb hi)
theorem Fut.any (B : Nat) : Fut (fun _ => True) B := fun _ _ => trivial

section
variable {G : Nat → Prop} {w w' : World} {F : Nat → Prop} {B B' base n size : Nat} {e : TypeId} {v : Value} {xs : List Int} {us : List Value}
theorem own_in (h : w.ownsRow base e size v n us) : ∀ g, v.ownBlock = some g → g < w.heap.size := fun g hg => (h.lt g hg).2
theorem own_base (h : w.ownsRow base e size v n us) (hb : B ≤ base) : w.ownsRow B e size v n us := by
  refine ⟨h.1, h.2.imp id fun ⟨g, cap, cur, hv, hg, rest⟩ => ⟨g, cap, cur, hv, Nat.le_trans hb hg, rest⟩⟩
theorem own_from (h : w.ownsRow base e size v n us) (hb : ∀ g, v.ownBlock = some g → B ≤ g) : w.ownsRow B e size v n us := by
  refine ⟨h.1, h.2.imp id fun ⟨g, cap, cur, hv, _, rest⟩ => ⟨g, cap, cur, hv, hb g (by rw [hv]; rfl), rest⟩⟩
theorem Kids.kept (h : Kids G w v xs) (k : Keeps F w w') (hF : ∀ i, i < w.heap.size → ¬ F i) : Kids G w' v xs := ⟨own_kept h.1 k fun g hg => hF g (own_in h.1 g hg), h.2⟩
theorem Kids.keptG (h : Kids G w v xs) (k : Keeps F w w') (hF : ∀ i, G i → i < w.heap.size → ¬ F i) : Kids G w' v xs := ⟨own_kept h.1 k fun g hg => hF g (h.2 g hg) (own_in h.1 g hg), h.2⟩
theorem Kids.wide {G' : Nat → Prop} (h : Kids G w v xs) (hG : ∀ i, G i → i < w.heap.size → G' i) : Kids G' w v xs := ⟨h.1, fun g hg => hG g (h.2 g hg) (own_in h.1 g hg)⟩
theorem Kids.aside {g i : Nat} {u : Value} {cs : Array Value} {t : TypeId} {fr : Nat × Nat} (h : Kids G w v xs) (hg : Has w g (.cells cs t fr)) (ht : t ≠ 3) : Kids G (w.setCell ⟨g, i, none⟩ u) v xs :=
  ⟨own_kept h.1 (Keeps.storeAt (F := fun j => j = g) (Keeps.refl _ _) rfl i u) fun g' hg' e => by
    rcases h.1.2 with ⟨rfl, _⟩ | ⟨g2, cap, cur, rfl, _, hh, _⟩
    · cases hg'
    · obtain rfl : g2 = g' := by simpa [Value.ownBlock] using hg'
      exact Has.apart hg hh (fun e => ht (by injection e)) e.symm, h.2⟩
theorem Kids.below (h : Kids G w v xs) (k : Below w.heap.size w w') : Kids G w' v xs := h.kept (Keeps.of_below (F := fun i => w.heap.size ≤ i) k fun _ _ h => h) fun _ hi => Nat.not_le.2 hi
/-- A list of the call's own may be read. -/
theorem Kids.form (h : Kids G w v xs) : ∃ A c, v = .slice A xs.length c ∧ xs.length ≤ c ∧ Nums w w.heap.size A .i64 xs := by
  have h := h.1
  rcases h.2 with ⟨rfl, h0⟩ | ⟨g, cap, cur, rfl, _, hh, hc, _⟩
  · exact ⟨none, 0, by rw [h0], by omega, fun i hi => by omega⟩
  · refine ⟨_, cap, rfl, hc, fun i hi => ⟨g, 0, rfl, Has.inside hh, ?_⟩⟩
    rw [Nat.zero_add, h.cellAt i (by omega), List.getElem?_map, List.getElem?_eq_getElem hi]
    rfl
end
theorem own_empty (w : World) : (w.alloc (.cells #[] 3)).ownsRow w.heap.size 3 1 (.slice (some ⟨w.heap.size, 0, none⟩) 0 0) 0 [] :=
  ⟨rfl, .inr ⟨w.heap.size, 0, #[], rfl, Nat.le_refl _, Has.fresh w (.cells #[] 3), Nat.le_refl _, Nat.zero_le _, rfl, rfl⟩⟩
theorem wrap_small {n : Int} (h0 : -9223372036854775808 ≤ n) (h1 : n ≤ 9223372036854775807) : IntKind.i64.wrap n = n := by
  rw [IntKind.wrap_i64]
  omega
section
variable {w : World} {base base' n n' size size' i : Nat} {e e' : TypeId} {v v' : Value} {us us' : List Value}
/-- A row lies not in a block of another kind. -/
theorem own_apart (h : w.ownsRow base e size v n us) {cs : Array Value} {t : TypeId} {fr : Nat × Nat} (hi : Has w i (.cells cs t fr)) (ht : t ≠ e) : v.ownBlock ≠ some i := fun hv => by
  rcases h.2 with ⟨rfl, _⟩ | ⟨g', cap, cur, rfl, _, hh, _⟩
  · cases hv
  · obtain rfl : g' = i := by simpa [Value.ownBlock] using hv
    exact Has.apart hh hi (fun e => ht (by injection e with _ e; exact e.symm)) rfl
theorem own_apart2 (h : w.ownsRow base e size v n us) (h' : w.ownsRow base' e' size' v' n' us') (ht : e' ≠ e) : ∀ g, v'.ownBlock = some g → v.ownBlock ≠ some g := fun g hg => by
  rcases h'.2 with ⟨rfl, _⟩ | ⟨g', cap, cur, rfl, _, hh, _⟩
  · cases hg
  · obtain rfl : g' = g := by simpa [Value.ownBlock] using hg
    exact own_apart h hh ht
end
end Go.Proofs.Ytgdgmcehkhimpaa

namespace Go.Proofs.Ytgdgmcehkhimpaa
open Go Go.ChangeShapes Go.WideShapes Go.ChangeAt Go.RowKit
variable {G : Nat → Prop}

/-- What a slice gives to an append: m elements of so many cells; nil gives none. -/
def Gives (w : World) (size : Nat) (x : Value) (m : Nat) (us : List Value) : Prop :=
  (x = .slice none 0 0 ∧ m = 0 ∧ us = []) ∨ ∃ ad c, x = .slice (some ad) m c ∧ us.length = m * size ∧ ∀ j u, us[j]? = some u → w.cell? (ad.add j) = some u

theorem own_gives {w : World} {base n size : Nat} {e : TypeId} {v : Value} {us : List Value} (h : w.ownsRow base e size v n us) : Gives w size v n us := by
  rcases h.2 with ⟨rfl, rfl⟩ | ⟨g, cap, cur, rfl, _, hg, _⟩
  · exact .inl ⟨rfl, rfl, List.eq_nil_of_length_eq_zero (by simpa using h.1)⟩
  · exact .inr ⟨_, _, rfl, h.1, h.cells rfl⟩
theorem nums_gives {w : World} {B n c : Nat} {A : Option Addr} {xs : List Int} (h : Nums w B A .i64 xs) (hn : n = xs.length) (h0 : A = none → c = 0) : Gives w 1 (.slice A n c) n (xs.map (Value.int .i64)) := by
  subst hn
  cases A with
  | none =>
    obtain rfl := h0 rfl
    have : xs = [] := by
      cases xs with
      | nil => rfl
      | cons x r =>
        obtain ⟨_, _, e, _⟩ := h 0 (by simp)
        cases e
    subst this
    exact .inl ⟨rfl, rfl, rfl⟩
  | some a =>
    refine .inr ⟨a, c, rfl, by simp, fun j u hu => ?_⟩
    obtain ⟨hj, rfl⟩ := List.getElem?_eq_some_iff.1 hu
    rw [List.length_map] at hj
    obtain ⟨b, off, e, _, hc⟩ := h j hj
    cases e
    rw [Addr.add_lit, hc, List.getElem_map]

theorem wpList_append_gives {P : Program} {w : World} {ops : Array Oper} {rest : List Oper} {o : Oper} {a : Act} {Q : Exit → Act → World → Prop} (hgd : o.guard = none) (s x : Operand) (t : TypeId)
    (ho : o.op = .call { callee := .builtin .append, args := #[s, x], argTypes := #[t, t] })
    (base : Nat) (e : TypeId) (i : TypeInfo) (z : Value) (size bytes : Nat) (ht : P.underlying t = some (.slice e)) (hi : P.info? e = some i) (hz : i.zero = some z)
    (hsize : i.size = size) (hby : i.bytes = bytes) (hzs : z.cells.size = size) (hsz : 0 < size)
    (v : Value) (n : Nat) (xs : List Value) (hs : a.eval s = v) (hown : w.ownsRow base e size v n xs)
    (X : Value) (m : Nat) (us : List Value) (hx : a.eval x = X) (hG : Gives w size X m us) (h1 : ∀ u ∈ us, u.oneCell' = true)
    (h63 : n + m ≤ maxLen) (hbytes : (n + m) * bytes ≤ 140737488355328) (hbase : base ≤ w.heap.size)
    (h : ∀ v' w', w'.ownsRow base e size v' (n + m) (xs ++ us) → w.grownBy w' v.ownBlock → wpList P ops Q rest (a.put o.dst v') w') : wpList P ops Q (o :: rest) a w := by
  rcases hG with ⟨rfl, rfl, rfl⟩ | ⟨ad, c, rfl, hl, hc⟩
  · refine wpList_append_own_none hgd s x t ho base e i size ht hi v n xs hs hown hx (h v w ?_ ⟨rfl, rfl, rfl, Nat.le_refl _, fun _ _ _ => rfl⟩)
    rw [List.append_nil]
    exact hown
  · exact wpList_append_own w hgd s x t ho base e i z size bytes ht hi hz hsize hby hzs hsz v n xs hs hown ad m c us hx hl hc h1 h63 hbytes hbase fun v' w' h2 h3 _ => h v' w' h2 h3

theorem own_form {w : World} {base n size : Nat} {e : TypeId} {v : Value} {us : List Value} (h : w.ownsRow base e size v n us) : ∃ A c, v = .slice A n c ∧ n ≤ c := by
  rcases h.2 with ⟨rfl, rfl⟩ | ⟨g, cap, cur, rfl, _, _, hc, _⟩
  · exact ⟨_, _, rfl, Nat.le_refl _⟩
  · exact ⟨_, _, rfl, hc⟩

theorem Try.infoInt : (Try.prog.info? 3).map (fun i => (i.zero, i.size, i.bytes)) = some (some (.int .i64 0), 1, 8) := by kernel_rfl

theorem kids_one (xs : List Int) : ∀ u ∈ xs.map (Value.int .i64), u.oneCell' = true := by
  intro u hu
  obtain ⟨x, _, rfl⟩ := List.mem_map.1 hu
  rfl
theorem Kids.one {w : World} {v : Value} {xs : List Int} (h : Kids G w v xs) : v.oneCell' = true := by
  rcases h.1.2 with ⟨rfl, _⟩ | ⟨g, cap, cur, rfl, _⟩ <;> rfl

/-- A new list of numbers, and nothing else. -/
theorem kids_new {wr w2 : World} {v2 : Value} {kd : List Int} (ho : w2.ownsRow wr.heap.size 3 1 v2 (0 + kd.length) ([] ++ kd.map (Value.int .i64))) (hg : (wr.alloc (.cells #[] 3)).grownBy w2 (some wr.heap.size)) (hG : Fut G wr.heap.size) :
    Kids G w2 v2 kd ∧ Below wr.heap.size wr w2 ∧ wr.heap.size < w2.heap.size := by
  rw [Nat.zero_add, List.nil_append] at ho
  refine ⟨⟨own_base ho (Nat.zero_le _), fun g hg => hG g (ho.lt g hg).1⟩, ((Below.refl _ wr).alloc (Nat.le_refl _) _).grown hg (by simp) fun k hk => ?_, ?_⟩
  · have : wr.heap.size = k := by simpa using hk
    omega
  · have := hg.size
    simp at this
    omega
theorem cell_in {w : World} {a : Addr} {v : Value} (h : w.cell? a = some v) : a.block < w.heap.size := by
  rcases Nat.lt_or_ge a.block w.heap.size with h' | h'
  · exact h'
  · rw [World.cell?, Array.getElem?_eq_none h'] at h
    cases h

/-- A list of numbers within what came in. -/
structure ListIn (w : World) (A : Option Addr) (c : Nat) (xs : List Int) : Prop where
  cap : xs.length ≤ c
  nil : A = none → c = 0
  nums : Nums w w.heap.size A .i64 xs

section
variable {H : Type} {enc : TypeId × Value → H} {W : World} {sp : Nat → Bool} {held : Bool} {fuel : Nat} {cs : List Value} {y : DataW H × List MemPlace}

theorem list_in (h : DataW.trod enc Try.prog W 0 sp held fuel 28 cs = some y) : ∃ A c xs, cs = [.slice A (List.length xs) c] ∧ ListIn W A c xs := by
  rcases open_ints Try.underlying28 Try.underlying3 (by kernel_rfl) h with ⟨rfl, _⟩ | ⟨a, n, cap, zs, rfl, _, hl, hm, hz, hxe, hcell, hws⟩
  · exact ⟨none, 0, [], rfl, Nat.le_refl 0, fun _ => rfl, fun i hi => absurd hi (Nat.not_lt_zero i)⟩
  · have hge : n ≤ zs.length := by rw [hz]; split <;> omega
    have hlen : (zs.take n).length = n := by rw [List.length_take]; omega
    refine ⟨some a, cap, zs.take n, by rw [hlen], by rw [hlen]; exact hl, fun e => absurd e (by simp), fun i hi => ?_⟩
    rw [hlen] at hi
    have hi' : i < zs.length := by omega
    have hc := hcell i hi'
    have hc0 := hcell 0 (by omega)
    obtain ⟨b, off, spot⟩ := a
    obtain rfl : spot = none := by simpa [Addr.add] using World.cell?_spot hc0
    rw [Addr.add_lit] at hc
    refine ⟨b, off, rfl, cell_in hc, hc.trans ?_⟩
    rw [List.getElem_take, List.getD_eq_getElem?_getD, List.getElem?_eq_getElem hi']
    rfl

/-- One cell of a row, by its part. -/
theorem part_one {cs : List Value} {i n : Nat} {v : Value} (h : (cs.drop i).take n = [v]) (hn : n = 1) : cs[i]? = some v := by
  subst hn
  have : ((cs.drop i).take 1)[0]? = some v := by rw [h]; rfl
  rw [List.getElem?_take, if_pos (by omega), List.getElem?_drop] at this
  exact this

end
theorem ListIn.below {w w' : World} {A : Option Addr} {c : Nat} {xs : List Int} (h : ListIn w A c xs) (hb : Below w.heap.size w w') : ListIn w' A c xs := ⟨h.cap, h.nil, (h.nums.below hb).mono hb.size⟩
theorem listNone (W : World) : ListIn W none 0 [] := ⟨Nat.le_refl 0, fun _ => rfl, fun i hi => absurd hi (Nat.not_lt_zero i)⟩
/-- A literal of numbers. -/
theorem listLit {W : World} {b : Nat} {t : TypeId} {fr : Nat × Nat} {xs : List Int} (hh : Has W b (.cells (xs.map (Value.int .i64)).toArray t fr)) : ListIn W (some ⟨b, 0, none⟩) xs.length xs :=
  ⟨Nat.le_refl _, (fun e => by cases e), fun i hi => ⟨b, 0, rfl, hh.inside, by rw [hh.cell, Nat.zero_add, List.getElem?_toArray, List.getElem?_map, List.getElem?_eq_getElem hi]; rfl⟩⟩
/-- A list that lies elsewhere stays. -/
theorem ListIn.kept {S : Nat → Prop} {w w' : World} {A : Option Addr} {c : Nat} {xs : List Int} (h : ListIn w A c xs) (k : Keeps S w w') (hA : 0 < xs.length → ∀ b' off s, A = some ⟨b', off, s⟩ → b' < w.heap.size → ¬ S b') : ListIn w' A c xs :=
  ⟨h.cap, h.nil, fun i hi => by
    obtain ⟨b', off, e, hb, hc⟩ := h.nums i hi
    refine ⟨b', off, e, Nat.lt_of_lt_of_le hb k.grows, ?_⟩
    have ho := k.old b' hb (hA (by omega) _ _ _ e hb)
    rw [← hc]
    unfold World.cell?
    simp only [ho]⟩
end Go.Proofs.Ytgdgmcehkhimpaa

namespace Go.Proofs.Ytgdgmcehkhimpaa
open Go Go.RowKit

/-- A record's cells. -/
structure Rec (α : Type) where
  cells : α → List Value
  n : Nat
  len : ∀ a, (cells a).length = n
  one : ∀ a, ∀ u ∈ cells a, u.oneCell' = true
  pos : 0 < n
def flatR {α : Type} (R : Rec α) (xs : List α) : List Value := xs.flatMap R.cells
section
variable {α : Type} {R : Rec α} {xs ys : List α} {x y : α} {i f : Nat} {u : Value}
theorem flatR_cons : flatR R (x :: xs) = R.cells x ++ flatR R xs := by simp [flatR]
theorem flatR_append : flatR R (xs ++ ys) = flatR R xs ++ flatR R ys := by simp [flatR]
theorem flatR_one : flatR R [x] = R.cells x := by simp [flatR]
theorem flatR_length : ∀ xs : List α, (flatR R xs).length = xs.length * R.n
  | [] => by simp [flatR]
  | x :: r => by rw [flatR_cons, List.length_append, flatR_length r, R.len, List.length_cons, Nat.add_mul, Nat.one_mul, Nat.add_comm]
theorem flatR_get : ∀ {xs : List α} {i : Nat}, xs[i]? = some x → f < R.n → (flatR R xs)[i * R.n + f]? = (R.cells x)[f]?
  | [], i, h, _ => by simp at h
  | z :: r, 0, h, hf => by
    obtain rfl : z = x := by simpa using h
    rw [flatR_cons, List.getElem?_append_left (by rw [R.len]; omega), Nat.zero_mul, Nat.zero_add]
  | z :: r, i + 1, h, hf => by
    have e : (i + 1) * R.n = i * R.n + R.n := by rw [Nat.add_mul, Nat.one_mul]
    rw [flatR_cons, List.getElem?_append_right (by rw [R.len, e]; omega), R.len, show (i + 1) * R.n + f - R.n = i * R.n + f by rw [e]; omega]
    exact flatR_get (by simpa using h) hf
theorem flatR_set : ∀ {xs : List α} {i : Nat}, xs[i]? = some x → f < R.n → R.cells y = (R.cells x).set f u → flatR R (xs.set i y) = (flatR R xs).set (i * R.n + f) u
  | [], i, h, _, _ => by simp at h
  | z :: r, 0, h, hf, hc => by
    obtain rfl : z = x := by simpa using h
    rw [List.set_cons_zero, flatR_cons, flatR_cons, List.set_append_left _ _ (by rw [R.len]; omega), Nat.zero_mul, Nat.zero_add, hc]
  | z :: r, i + 1, h, hf, hc => by
    have e : (i + 1) * R.n = i * R.n + R.n := by rw [Nat.add_mul, Nat.one_mul]
    rw [List.set_cons_succ, flatR_cons, flatR_cons, List.set_append_right _ _ (by rw [R.len, e]; omega), R.len, show (i + 1) * R.n + f - R.n = i * R.n + f by rw [e]; omega]
    rw [flatR_set (by simpa using h) hf hc]
theorem flatR_ones : ∀ u ∈ flatR R xs, u.oneCell' = true := fun u hu => by
  obtain ⟨a, _, hu⟩ := List.mem_flatMap.1 hu
  exact R.one a u hu
end

/-- A list of records of the call's own. -/
def Recs {α : Type} (R : Rec α) (e : TypeId) (base : Nat) (w : World) (v : Value) (xs : List α) : Prop := w.ownsRow base e R.n v xs.length (flatR R xs)
/-- A list of records that may be read. -/
structure RecIn {α : Type} (R : Rec α) (w : World) (A : Option Addr) (c : Nat) (xs : List α) : Prop where
  cap : xs.length ≤ c
  nil : A = none → c = 0
  at_ : ∀ i (h : i < xs.length), ∃ b off, A = some ⟨b, off, none⟩ ∧ b < w.heap.size ∧ ∀ f, f < R.n → w.cell? ⟨b, off + (i * R.n + f), none⟩ = (R.cells xs[i])[f]?
section
variable {α : Type} {R : Rec α} {e : TypeId} {base : Nat} {w w' : World} {v : Value} {xs : List α} {x y : α} {F : Nat → Prop} {A : Option Addr} {c i f : Nat} {u : Value}
theorem Recs.nil (R : Rec α) (e : TypeId) (base : Nat) (w : World) : Recs R e base w (.slice none 0 0) [] := World.ownsRow_nil _ _ _ _
theorem Recs.kept (h : Recs R e base w v xs) (k : Keeps F w w') (hF : ∀ g, v.ownBlock = some g → ¬ F g) : Recs R e base w' v xs := own_kept h k hF
theorem Recs.in_ (h : Recs R e base w v xs) : ∀ g, v.ownBlock = some g → base ≤ g ∧ g < w.heap.size := fun g hg => h.lt g hg
theorem Recs.below (h : Recs R e base w v xs) (k : Below w.heap.size w w') : Recs R e base w' v xs := h.kept (Keeps.of_below (F := fun i => w.heap.size ≤ i) k fun _ _ h => h) fun g hg => Nat.not_le.2 (h.in_ g hg).2
theorem Recs.drewN (h : Recs R e base w v xs) (n : Nat) : Recs R e base (w.drewN n) v xs := h
theorem Recs.lit (R : Rec α) (e : TypeId) (w : World) (x : α) : Recs R e w.heap.size (w.alloc (.cells (R.cells x).toArray e)) (.slice (some ⟨w.heap.size, 0, none⟩) 1 1) [x] :=
  ⟨by rw [flatR_length], .inr ⟨w.heap.size, 1, (R.cells x).toArray, rfl, Nat.le_refl _, Has.fresh w (.cells (R.cells x).toArray e), Nat.le_refl _, by unfold maxLen; omega, by simp [R.len], by
    rw [flatR_one]
    simp only [List.length_cons, List.length_nil, Nat.zero_add, Nat.one_mul]
    rw [List.take_of_length_le (by rw [R.len]; exact Nat.le_refl _)]⟩⟩
theorem Recs.form (h : Recs R e base w v xs) : ∃ A c, v = .slice A xs.length c ∧ RecIn R w A c xs := by
  rcases h.2 with ⟨rfl, h0⟩ | ⟨g, cap, cur, rfl, _, hh, hc, _⟩
  · have hx : xs = [] := List.length_eq_zero_iff.1 h0
    subst hx
    exact ⟨none, 0, rfl, Nat.le_refl _, fun _ => rfl, fun i hi => absurd hi (Nat.not_lt_zero i)⟩
  · refine ⟨_, cap, rfl, hc, (fun e => by cases e), fun i hi => ⟨g, 0, rfl, Has.inside hh, fun f hf => ?_⟩⟩
    have hl : i * R.n + f < xs.length * R.n := by
      have : (i + 1) * R.n ≤ xs.length * R.n := Nat.mul_le_mul_right _ hi
      rw [Nat.add_mul, Nat.one_mul] at this
      omega
    rw [Nat.zero_add, h.cellAt _ hl, flatR_get (List.getElem?_eq_getElem hi) hf]
theorem RecIn.below (h : RecIn R w A c xs) (hb : Below w.heap.size w w') : RecIn R w' A c xs := ⟨h.cap, h.nil, fun i hi => by
  obtain ⟨b, off, e, hB, hc⟩ := h.at_ i hi
  exact ⟨b, off, e, Nat.lt_of_lt_of_le hB hb.size, fun f hf => (hb.cell (p := ⟨b, _, none⟩) hB).trans (hc f hf)⟩⟩
theorem RecIn.none_ (R : Rec α) (w : World) : RecIn R w none 0 [] := ⟨Nat.le_refl 0, fun _ => rfl, fun i hi => absurd hi (Nat.not_lt_zero i)⟩
theorem RecIn.kept (h : RecIn R w A c xs) (k : Keeps F w w') (hA : 0 < xs.length → ∀ b' off s, A = some ⟨b', off, s⟩ → b' < w.heap.size → ¬ F b') : RecIn R w' A c xs :=
  ⟨h.cap, h.nil, fun i hi => by
    obtain ⟨b', off, e, hb, hc⟩ := h.at_ i hi
    refine ⟨b', off, e, Nat.lt_of_lt_of_le hb k.grows, fun f hf => ?_⟩
    have ho := k.old b' hb (hA (by omega) _ _ _ e hb)
    rw [← hc f hf]
    unfold World.cell?
    simp only [ho]⟩
/-- One cell of one record is written. -/
theorem Recs.store {g c : Nat} (h : Recs R e base w (.slice (some ⟨g, 0, none⟩) xs.length c) xs) (hi : xs[i]? = some x) (hf : f < R.n) (hc : R.cells y = (R.cells x).set f u) : Recs R e base (w.setCell ⟨g, i * R.n + f, none⟩ u) (.slice (some ⟨g, 0, none⟩) xs.length c) (xs.set i y) := by
  have := (World.ownsRow.stored h (i * R.n + f) u).1
  unfold Recs
  rw [List.length_set, flatR_set hi hf hc]
  exact this
/-- A record is put behind, in the old row or a new one. -/
theorem run_pushR (t ty : TypeId) (i : TypeInfo) (z : Value) (bytes : Nat) {P : Program} (ht : P.underlying t = some (.slice e)) (hi : P.info? e = some i) (hz : i.zero = some z) (hsize : i.size = R.n) (hby : i.bytes = bytes) (hzs : z.cells.size = R.n)
    (h : Recs R e base w v xs) {b c : Nat} {fr : Nat × Nat} (hb : Has w b (.cells (R.cells x).toArray e fr)) (hl : xs.length ≤ 1000000) (hbb : bytes ≤ 1000000) (hbase : base ≤ w.heap.size) :
    ∃ g cap w', (Builtin.append_ #[t, t] ty #[v, .slice (some ⟨b, 0, none⟩) 1 c]).run P w = .ok (.slice (some ⟨g, 0, none⟩) (xs.length + 1) cap) w' ∧
      Recs R e base w' (.slice (some ⟨g, 0, none⟩) (xs.length + 1) cap) (xs ++ [x]) ∧ Keeps (fun i => v.ownBlock = some i) w w' ∧ (v.ownBlock = some g ∨ w.heap.size ≤ g) ∧ g < w'.heap.size := by
  have hm : (xs.length + 1) * bytes ≤ 140737488355328 := by
    have : (xs.length + 1) * bytes ≤ 1000001 * 1000000 := Nat.mul_le_mul (by omega) hbb
    omega
  obtain ⟨g, cap, w', hr, h2, h3, h4, h5⟩ := run_append_lies (P := P) w t ty base e i z R.n bytes ht hi hz hsize hby hzs R.pos v xs.length (flatR R xs) h ⟨b, 0, none⟩ 1 c (R.cells x) (by rw [R.len, Nat.one_mul]) (World.news_of_block hb) (R.one x) (by decide) (by unfold maxLen; omega) hm hbase _ rfl
  refine ⟨g, cap, w', hr, ?_, Keeps.of_grown h3, h4.imp id fun e => by omega, h5⟩
  unfold Recs
  rw [List.length_append, flatR_append, flatR_one]
  exact h2
theorem wpList_pushR {P : Program} {ops : Array Oper} {rest : List Oper} {o : Oper} {a : Act} {Q : Exit → Act → World → Prop} (hgd : o.guard = none) (s p : Operand) (t : TypeId)
    (ho : o.op = .call { callee := .builtin .append, args := #[s, p], argTypes := #[t, t] }) (i : TypeInfo) (z : Value) (bytes : Nat) (ht : P.underlying t = some (.slice e)) (hi : P.info? e = some i) (hz : i.zero = some z) (hsize : i.size = R.n) (hby : i.bytes = bytes) (hzs : z.cells.size = R.n)
    (hs : a.eval s = v) (h : Recs R e base w v xs) {b c : Nat} {fr : Nat × Nat} (hx : a.eval p = .slice (some ⟨b, 0, none⟩) 1 c) (hb : Has w b (.cells (R.cells x).toArray e fr)) (hl : xs.length ≤ 1000000) (hbb : bytes ≤ 1000000) (hbase : base ≤ w.heap.size)
    (hK : ∀ g cap w', Recs R e base w' (.slice (some ⟨g, 0, none⟩) (xs.length + 1) cap) (xs ++ [x]) → Keeps (fun i => v.ownBlock = some i) w w' → (v.ownBlock = some g ∨ w.heap.size ≤ g) → g < w'.heap.size → wpList P ops Q rest (a.put o.dst (.slice (some ⟨g, 0, none⟩) (xs.length + 1) cap)) w') : wpList P ops Q (o :: rest) a w := by
  obtain ⟨g, cap, w', hr, h2, h3, h4, h5⟩ := run_pushR (c := c) (x := x) t o.type i z bytes ht hi hz hsize hby hzs h hb hl hbb hbase
  refine wpList_plain hgd fun _ hK' => ?_
  unfold Oper.wp execOp
  simp only [ho, resolve, invoke, builtin, Sem.run_bind, Sem.run_pure, Result.andThen_ok, List.map_toArray, List.map_cons, List.map_nil, hs, hx, hr]
  exact hK' _ _ (hK g cap w' h2 h3 h4 h5)
theorem wp_pushR {P : Program} {o : Oper} {a : Act} {K : Act → World → Prop} {Q : Exit → Act → World → Prop} (s p : Operand) (t : TypeId)
    (ho : o.op = .call { callee := .builtin .append, args := #[s, p], argTypes := #[t, t] }) (i : TypeInfo) (z : Value) (bytes : Nat) (ht : P.underlying t = some (.slice e)) (hi : P.info? e = some i) (hz : i.zero = some z) (hsize : i.size = R.n) (hby : i.bytes = bytes) (hzs : z.cells.size = R.n)
    (hs : a.eval s = v) (h : Recs R e base w v xs) {b c : Nat} {fr : Nat × Nat} (hx : a.eval p = .slice (some ⟨b, 0, none⟩) 1 c) (hb : Has w b (.cells (R.cells x).toArray e fr)) (hl : xs.length ≤ 1000000) (hbb : bytes ≤ 1000000) (hbase : base ≤ w.heap.size)
    (hK : ∀ g cap w', Recs R e base w' (.slice (some ⟨g, 0, none⟩) (xs.length + 1) cap) (xs ++ [x]) → Keeps (fun i => v.ownBlock = some i) w w' → (v.ownBlock = some g ∨ w.heap.size ≤ g) → g < w'.heap.size → K (a.put o.dst (.slice (some ⟨g, 0, none⟩) (xs.length + 1) cap)) w') : o.wp P a w K Q := by
  obtain ⟨g, cap, w', hr, h2, h3, h4, h5⟩ := run_pushR (c := c) (x := x) t o.type i z bytes ht hi hz hsize hby hzs h hb hl hbb hbase
  unfold Oper.wp execOp
  simp only [ho, resolve, invoke, builtin, Sem.run_bind, Sem.run_pure, Result.andThen_ok, List.map_toArray, List.map_cons, List.map_nil, hs, hx, hr]
  exact hK g cap w' h2 h3 h4 h5
/-- What a list of records gives to an append. -/
theorem RecIn.gives {n : Nat} (h : RecIn R w A c xs) (hn : n = xs.length) : Gives w R.n (.slice A n c) n (flatR R xs) := by
  subst hn
  cases A with
  | none =>
    obtain rfl := h.nil rfl
    have hx : xs = [] := List.length_eq_zero_iff.1 (Nat.le_zero.1 h.cap)
    subst hx
    exact .inl ⟨rfl, rfl, rfl⟩
  | some a =>
    refine .inr ⟨a, c, rfl, flatR_length xs, fun j u hu => ?_⟩
    have hj : j < xs.length * R.n := by
      have := (List.getElem?_eq_some_iff.1 hu).1
      rwa [flatR_length] at this
    have hi : j / R.n < xs.length := Nat.div_lt_of_lt_mul (by rw [Nat.mul_comm]; exact hj)
    have hf : j % R.n < R.n := Nat.mod_lt _ R.pos
    have hjj : j / R.n * R.n + j % R.n = j := by rw [Nat.mul_comm]; exact Nat.div_add_mod _ _
    obtain ⟨b, off, e, _, hc⟩ := h.at_ _ hi
    cases e
    have := hc _ hf
    rw [hjj] at this
    rw [Addr.add_lit, this, ← flatR_get (List.getElem?_eq_getElem hi) hf, hjj, hu]
/-- A whole list of records is put behind. -/
theorem run_joinR {X : Value} {ys : List α} {m : Nat} (t ty : TypeId) (i : TypeInfo) (z : Value) (bytes : Nat) {P : Program} (ht : P.underlying t = some (.slice e)) (hi : P.info? e = some i) (hz : i.zero = some z) (hsize : i.size = R.n) (hby : i.bytes = bytes) (hzs : z.cells.size = R.n)
    (h : Recs R e base w v xs) (hG : Gives w R.n X m (flatR R ys)) (hm : m = ys.length) (hl : xs.length + ys.length ≤ 1000000) (hbb : bytes ≤ 1000000) (hbase : base ≤ w.heap.size) :
    ∃ v' w', (Builtin.append_ #[t, t] ty #[v, X]).run P w = .ok v' w' ∧ Recs R e base w' v' (xs ++ ys) ∧ Keeps (fun i => v.ownBlock = some i) w w' ∧ (∀ g, v'.ownBlock = some g → v.ownBlock = some g ∨ w.heap.size ≤ g) := by
  subst hm
  rcases hG with ⟨rfl, h0, h1⟩ | ⟨ad, c, rfl, h1, h2⟩
  · have hy : ys = [] := List.length_eq_zero_iff.1 h0
    subst hy
    refine ⟨v, w, run_append_owned_none w base t ty e i R.n ht hi v xs.length (flatR R xs) h, ?_, Keeps.refl _ _, fun g hg => .inl hg⟩
    rw [List.append_nil]
    exact h
  · have hb : (xs.length + ys.length) * bytes ≤ 140737488355328 := by
      have : (xs.length + ys.length) * bytes ≤ 1000000 * 1000000 := Nat.mul_le_mul hl hbb
      omega
    obtain ⟨v', w', hr, h3, h4, _, h5⟩ := run_append_own_at (P := P) w base t ty e i z R.n bytes ht hi hz hsize hby hzs R.pos v xs.length (flatR R xs) h ad ys.length c (flatR R ys) h1 h2 flatR_ones (by unfold maxLen; omega) hb hbase
    refine ⟨v', w', hr, ?_, Keeps.of_grown h4, fun g hg => ?_⟩
    · unfold Recs
      rw [List.length_append, flatR_append]
      exact h3
    · rcases h5 with h5 | h5
      · exact .inl (h5 ▸ hg)
      · right
        rw [h5] at hg
        have : w.heap.size = g := by simpa using hg
        omega
theorem wpList_joinR {X : Value} {ys : List α} {m : Nat} {P : Program} {ops : Array Oper} {rest : List Oper} {o : Oper} {a : Act} {Q : Exit → Act → World → Prop} (hgd : o.guard = none) (s p : Operand) (t : TypeId)
    (ho : o.op = .call { callee := .builtin .append, args := #[s, p], argTypes := #[t, t] }) (i : TypeInfo) (z : Value) (bytes : Nat) (ht : P.underlying t = some (.slice e)) (hi : P.info? e = some i) (hz : i.zero = some z) (hsize : i.size = R.n) (hby : i.bytes = bytes) (hzs : z.cells.size = R.n)
    (hs : a.eval s = v) (hx : a.eval p = X) (h : Recs R e base w v xs) (hG : Gives w R.n X m (flatR R ys)) (hm : m = ys.length) (hl : xs.length + ys.length ≤ 1000000) (hbb : bytes ≤ 1000000) (hbase : base ≤ w.heap.size)
    (hK : ∀ v' w', Recs R e base w' v' (xs ++ ys) → Keeps (fun i => v.ownBlock = some i) w w' → (∀ g, v'.ownBlock = some g → v.ownBlock = some g ∨ w.heap.size ≤ g) → wpList P ops Q rest (a.put o.dst v') w') : wpList P ops Q (o :: rest) a w := by
  obtain ⟨v', w', hr, h2, h3, h4⟩ := run_joinR t o.type i z bytes ht hi hz hsize hby hzs h hG hm hl hbb hbase
  refine wpList_plain hgd fun _ hK' => ?_
  unfold Oper.wp execOp
  simp only [ho, resolve, invoke, builtin, Sem.run_bind, Sem.run_pure, Result.andThen_ok, List.map_toArray, List.map_cons, List.map_nil, hs, hx, hr]
  exact hK' _ _ (hK v' w' h2 h3 h4)
end
end Go.Proofs.Ytgdgmcehkhimpaa

namespace Go.Proofs.Ytgdgmcehkhimpaa
open Go Go.RowKit

/-- A slice, written as a datum of its own: no world is looked at. -/
def sEnc : Value → Option (DataW Unit × List MemPlace)
  | .slice none 0 0 => some (.nil, [])
  | .slice (some ⟨g, 0, none⟩) n c => some (.slice [.lit (.int .i64 (g : Int)), .lit (.int .i64 (n : Int)), .lit (.int .i64 (c : Int))] [], [])
  | _ => none
theorem sEnc_none {v : Value} {p : List MemPlace} (h : sEnc v = some (.nil, p)) : v = .slice none 0 0 := by
  unfold sEnc at h
  split at h
  · rfl
  · cases h
  · cases h
theorem sEnc_inj {v u : Value} {d : DataW Unit} {p q : List MemPlace} (h : sEnc v = some (d, p)) (h' : sEnc u = some (d, q)) : v = u := by
  unfold sEnc at h
  split at h
  · obtain rfl : d = .nil := by injection h with h; injection h with h _; exact h.symm
    exact (sEnc_none h').symm
  · rename_i g n c
    obtain rfl : d = .slice [.lit (.int .i64 (g : Int)), .lit (.int .i64 (n : Int)), .lit (.int .i64 (c : Int))] [] := by injection h with h; injection h with h _; exact h.symm
    unfold sEnc at h'
    split at h'
    · cases h'
    · rename_i g' n' c'
      simp only [Option.some.injEq, Prod.mk.injEq, DataW.slice.injEq, List.cons.injEq, DataW.lit.injEq, Lit.int.injEq, and_true, true_and] at h'
      obtain ⟨h1, h2, h3⟩ := h'
      have e1 : g' = g := by omega
      have e2 : n' = n := by omega
      have e3 : c' = c := by omega
      rw [e1, e2, e3]
    · cases h'
  · cases h
theorem own_enc {w : World} {base e size n : Nat} {v : Value} {us : List Value} (h : w.ownsRow base e size v n us) : ∃ d, sEnc v = some (d, []) := by
  rcases h.2 with ⟨rfl, _⟩ | ⟨g, cap, cur, rfl, _⟩
  · exact ⟨_, rfl⟩
  · exact ⟨_, rfl⟩

/-- Block m is a map with at most n keys that has the slice f x at x; nil: it has none there, or nil. -/
def Mp (w : World) (m n : Nat) (f : Int → Value) : Prop := ∃ D : DataW Unit, w.ownsMap Try.prog 3 sEnc m n D ∧ Maps.IsMap D ∧ ∀ x : Int, sEnc (f x) = some (D.atKey (.int .i64 x) .nil, [])
def upd {α : Type} (f : Int → α) (x : Int) (v : α) (y : Int) : α := if y = x then v else f y
theorem upd_self {α : Type} (f : Int → α) (x : Int) (v : α) : upd f x v x = v := if_pos rfl
theorem upd_other {α : Type} {f : Int → α} {x y : Int} {v : α} (h : y ≠ x) : upd f x v y = f y := if_neg h
theorem Try.keyLaw : Maps.Keyed Try.prog 3 := Maps.int_keyed Try.underlying3
theorem zeroInts (w : World) : (zeroValue 28).run Try.prog w = .ok (.slice none 0 0) w := by kernel_rfl
theorem keyAt {x : Int} (h0 : -9223372036854775808 ≤ x) (h1 : x ≤ 9223372036854775807) : keyOf Try.prog 3 (.int .i64 x) = some (.int .i64 x) := Maps.keyOf_int_mk Try.underlying3 (WalkArith.wf_i64 ⟨h0, h1⟩)
section
variable {w w' : World} {m n : Nat} {f : Int → Value} {F : Nat → Prop} {x : Int} {v : Value}
theorem Mp.made (w : World) : Mp (w.alloc (.map #[] 0)) w.heap.size 0 fun _ => .slice none 0 0 := ⟨.map [], World.ownsMap_made _ _ _ _, Maps.isMap_empty, fun _ => rfl⟩
theorem Mp.inside (h : Mp w m n f) : m < w.heap.size := by
  obtain ⟨D, h, -⟩ := h
  exact h.lt
theorem Mp.there (h : Mp w m n f) : ∃ es clock, Has w m (.map es clock) := by
  obtain ⟨D, ⟨es, clock, hb, -⟩, -⟩ := h
  exact ⟨es, clock, hb⟩
theorem Mp.kept (h : Mp w m n f) (k : Keeps F w w') (hF : ¬ F m) : Mp w' m n f := by
  have hm := h.inside
  obtain ⟨D, ⟨es, clock, hb, h1, h2, h3⟩, h4⟩ := h
  exact ⟨D, ⟨es, clock, (k.old m hm hF).trans hb, h1, h2, h3⟩, h4⟩
theorem Mp.drewN (h : Mp w m n f) (k : Nat) : Mp (w.drewN k) m n f := h
theorem Mp.mono (h : Mp w m n f) {n' : Nat} (hn : n ≤ n') : Mp w m n' f := by
  obtain ⟨D, h1, h2⟩ := h
  exact ⟨D, h1.mono hn, h2⟩
theorem Mp.look (h : Mp w m n f) (h0 : -9223372036854775808 ≤ x) (h1 : x ≤ 9223372036854775807) : (Instr.lookup 53 (.map (some m)) (.int .i64 x) false).run Try.prog w = .ok (f x) w := by
  obtain ⟨D, hD, -, hf⟩ := h
  obtain ⟨v, ps, hr, hv⟩ := hD.lookup Try.keyLaw Try.underlying53 (zeroInts w) (zd := .nil) (zp := []) rfl (keyAt h0 h1)
  rw [hr, sEnc_inj (hf x) hv]
theorem look_none (w : World) (h0 : -9223372036854775808 ≤ x) (h1 : x ≤ 9223372036854775807) : (Instr.lookup 53 (.map none) (.int .i64 x) false).run Try.prog w = .ok (.slice none 0 0) w := by
  rw [Maps.look_nil false Try.keyLaw Try.underlying53 (zeroInts w) (keyAt h0 h1)]
  rfl
/-- A key whose slice isn't nil is there: its entry is written over. -/
theorem Mp.put (h : Mp w m n f) (h0 : -9223372036854775808 ≤ x) (h1 : x ≤ 9223372036854775807) (hn : n ≤ 1000000) (hv : ∃ d, sEnc v = some (d, [])) :
    ∃ w', (Instr.mapUpdate 53 (.map (some m)) (.int .i64 x) v).run Try.prog w = .ok () w' ∧ Mp w' m (n + 1) (upd f x v) ∧ (f x ≠ .slice none 0 0 → Mp w' m n (upd f x v)) ∧ Keeps (fun i => i = m) w w' := by
  obtain ⟨D, hD, hM, hf⟩ := h
  obtain ⟨d, hd⟩ := hv
  obtain ⟨w', hr, h2, h3⟩ := hD.update Try.keyLaw Try.underlying53 (by unfold maxLen; omega) (keyAt h0 h1) hd
  have hat : ∀ y : Int, sEnc (upd f x v y) = some ((D.put (.int .i64 x) d).atKey (.int .i64 y) .nil, []) := fun y => by
    by_cases e : y = x
    · subst e
      rw [upd_self, Maps.atKey_put_same (k := .int .i64 y) hM trivial, hd]
    · rw [upd_other e, Maps.atKey_put_other (by intro h; injection h with _ h; exact e h), hf y]
  refine ⟨w', hr, ⟨_, h2, hM.put _ _, hat⟩, fun hne => ⟨_, ?_, hM.put _ _, hat⟩, Keeps.of_grown h3 |>.wide fun i _ hi => by simpa using hi.symm⟩
  have ht := hD.tidy Try.keyLaw
  have hh : Maps.has D (.int .i64 x) = true := by
    cases hc : Maps.has D (.int .i64 x) with
    | true => rfl
    | false =>
      have := hf x
      rw [Maps.atKey_of_not_has hc] at this
      exact absurd (sEnc_none this) hne
  have hs := Maps.size_put (k := .int .i64 x) ht d
  rw [if_pos hh] at hs
  obtain ⟨es, clock, q1, q2, q3, q4⟩ := h2
  refine ⟨es, clock, q1, q2, ?_, q4⟩
  have hle := hD.size_le
  rw [q4] at hs
  have : es.size = Maps.size (DataW.map ((es.toList.map (WideElems.rg Try.prog 3 sEnc)).foldr DataW.insert [])) := by simp [Maps.size, length_sorted]
  omega
theorem Mp.del (h : Mp w m n f) (h0 : -9223372036854775808 ≤ x) (h1 : x ≤ 9223372036854775807) (ty : TypeId) :
    ∃ w', (Builtin.delete_ #[53, 3] ty #[.map (some m), .int .i64 x]).run Try.prog w = .ok (.tuple #[]) w' ∧ Mp w' m n (upd f x (.slice none 0 0)) ∧ Keeps (fun i => i = m) w w' := by
  obtain ⟨D, hD, hM, hf⟩ := h
  obtain ⟨w', hr, h2, h3⟩ := hD.drop Try.keyLaw Try.underlying53 (keyAt h0 h1) ty
  refine ⟨w', hr, ⟨_, h2, hM.del _, fun y => ?_⟩, Keeps.of_grown h3.grown |>.wide fun i _ hi => by simpa using hi.symm⟩
  by_cases e : y = x
  · subst e
    rw [upd_self, Maps.atKey_del_same]
    rfl
  · rw [upd_other e, Maps.atKey_del_other (by intro h; injection h with _ h; exact e h), hf y]
end
/-- The two writes at their operations. -/
theorem wp_mapPut {w : World} {m n : Nat} {f : Int → Value} {x : Int} {v : Value} {o : Oper} {a : Act} {K : Act → World → Prop} {Q : Exit → Act → World → Prop} (pm px pv : Operand) (ho : o.op = .mapUpdate 53 pm px pv)
    (hm : a.eval pm = .map (some m)) (hx : a.eval px = .int .i64 x) (hv : a.eval pv = v) (h : Mp w m n f) (h0 : -9223372036854775808 ≤ x) (h1 : x ≤ 9223372036854775807) (hn : n ≤ 1000000) (he : ∃ d, sEnc v = some (d, []))
    (hK : ∀ w', Mp w' m (n + 1) (upd f x v) → (f x ≠ .slice none 0 0 → Mp w' m n (upd f x v)) → Keeps (fun i => i = m) w w' → K (a.put o.dst undef) w') : o.wp Try.prog a w K Q := by
  obtain ⟨w', hr, h2, h3, h4⟩ := h.put h0 h1 hn he
  unfold Oper.wp
  simp [execOp, ho, hm, hx, hv, hr, Result.andThen]
  exact hK w' h2 h3 h4
theorem wpList_mapPut {w : World} {m n : Nat} {f : Int → Value} {x : Int} {v : Value} {ops : Array Oper} {rest : List Oper} {o : Oper} {a : Act} {Q : Exit → Act → World → Prop} (hg : o.guard = none) (pm px pv : Operand) (ho : o.op = .mapUpdate 53 pm px pv)
    (hm : a.eval pm = .map (some m)) (hx : a.eval px = .int .i64 x) (hv : a.eval pv = v) (h : Mp w m n f) (h0 : -9223372036854775808 ≤ x) (h1 : x ≤ 9223372036854775807) (hn : n ≤ 1000000) (he : ∃ d, sEnc v = some (d, []))
    (hK : ∀ w', Mp w' m (n + 1) (upd f x v) → (f x ≠ .slice none 0 0 → Mp w' m n (upd f x v)) → Keeps (fun i => i = m) w w' → wpList Try.prog ops Q rest (a.put o.dst undef) w') : wpList Try.prog ops Q (o :: rest) a w := by
  refine wpList_plain hg fun K' hK' => ?_
  exact wp_mapPut pm px pv ho hm hx hv h h0 h1 hn he fun w' q1 q2 q3 => hK' _ _ (hK w' q1 q2 q3)
theorem wpList_mapDel {w : World} {m n : Nat} {f : Int → Value} {x : Int} {ops : Array Oper} {rest : List Oper} {o : Oper} {a : Act} {Q : Exit → Act → World → Prop} (hg : o.guard = none) (pm px : Operand)
    (ho : o.op = Op.call { callee := Callee.builtin Builtin.delete, args := #[pm, px], argTypes := #[53, 3] })
    (hm : a.eval pm = .map (some m)) (hx : a.eval px = .int .i64 x) (h : Mp w m n f) (h0 : -9223372036854775808 ≤ x) (h1 : x ≤ 9223372036854775807)
    (hK : ∀ w', Mp w' m n (upd f x (.slice none 0 0)) → Keeps (fun i => i = m) w w' → wpList Try.prog ops Q rest (a.put o.dst (.tuple #[])) w') : wpList Try.prog ops Q (o :: rest) a w := by
  refine wpList_plain hg fun K' hK' => ?_
  obtain ⟨w', hr, h2, h3⟩ := h.del h0 h1 o.type
  unfold Oper.wp
  simp [execOp, ho, resolve, invoke, builtin, hm, hx, hr, Result.andThen]
  exact hK' _ _ (hK w' h2 h3)
end Go.Proofs.Ytgdgmcehkhimpaa

namespace Go.Proofs.Ytgdgmcehkhimpaa
open Go Go.RowKit

theorem load_any (a : Addr) (x : Int) (w : World) (hc : w.cell? a = some (.int .u64 x)) :
    Calls Try.prog 32 #[.pointer (some a)] w fun e w' => e = .returned (.int .u64 x) ∧ w' = w := by
  have hl := run_call_load (P := Try.prog) Try.func37 (by kernel_rfl) (by kernel_rfl) (by kernel_rfl) .u64 (by kernel_rfl) hc
  clear hc
  go_enter Try.func32, Try.ntmps32
  go_wp2
  go_ret
  exact ⟨rfl, rfl⟩

theorem add_any (a : Addr) (x : Int) (w : World) (h0 : 0 ≤ x) (h1 : x ≤ 9223372036854775807) (hc : w.cell? a = some (.int .u64 x)) (hz : w.frozen? a = false) :
    Calls Try.prog 35 #[.pointer (some a), .int .u64 1] w fun e w' => e = .returned (.int .u64 (x + 1)) ∧ w.setCell a (.int .u64 (x + 1)) = w' := by
  have hl := run_call_add (P := Try.prog) Try.func38 (by kernel_rfl) (by kernel_rfl) (by kernel_rfl) .u64 (by kernel_rfl) (y := 1) (s := x + 1) hc hz (by
    simp [go_sem]
    rw [IntKind.wrap_u64]
    omega)
  clear hc hz
  go_enter Try.func35, Try.ntmps35
  go_wp2
  go_ret
  exact ⟨rfl, rfl⟩

/-- A giver that gave k numbers, of limit l. -/
def Giver (w : World) (b : Nat) (l k : Int) : Prop := Has w b (.cells #[.int .u64 l, .int .u64 k] 74 (0, 0))

theorem new_any (n : Int) (w : World) (h0 : -9223372036854775808 ≤ n) (h1 : n ≤ 9223372036854775807) :
    Calls Try.prog 27 #[.int .i64 n] w fun e w' => e = .returned (.pointer (some ⟨w.heap.size, 0, none⟩)) ∧ Giver w' w.heap.size (max n 0) 0 ∧ Below w.heap.size w w' ∧ w'.heap.size = w.heap.size + 1 := by
  by_cases hn : n < 0
  · have e : max n 0 = 0 := by omega
    rw [e]
    go_enter Try.func27, Try.ntmps27
    go_wp2
    go_ret
    exact ⟨rfl, Has.fresh _ _, (Below.refl _ _).alloc (Nat.le_refl _) _, by simp⟩
  · have e : max n 0 = n := by omega
    rw [e]
    go_enter Try.func27, Try.ntmps27
    go_wp2
    go_ret
    exact ⟨rfl, Has.fresh _ _, (Below.refl _ _).alloc (Nat.le_refl _) _, by simp⟩
end Go.Proofs.Ytgdgmcehkhimpaa

namespace Go.Proofs.Ytgdgmcehkhimpaa
open Go Go.RowKit

section
variable {b : Nat} {l k : Int} {w : World}
theorem Giver.drewN (h : Giver w b l k) (n : Nat) : Giver (w.drewN n) b l k := h
theorem Giver.c0 (h : Giver w b l k) : w.cell? ⟨b, 0, none⟩ = some (.int .u64 l) := Has.cell h 0
theorem Giver.c1 (h : Giver w b l k) : w.cell? ⟨b, 1, none⟩ = some (.int .u64 k) := Has.cell h 1
theorem Giver.f1 (h : Giver w b l k) : w.frozen? ⟨b, 1, none⟩ = false := Has.free h 1
end

set_option maxHeartbeats 400000 in
/-- A number is left. -/
theorem next_more (b : Nat) (l k : Int) (w : World) (h0 : 0 ≤ k) (h1 : k < l) (hl : l ≤ 9223372036854775807) (h : Giver w b l k) :
    Calls Try.prog 28 #[.pointer (some ⟨b, 0, none⟩)] w fun e w' => e = .returned (.int .i64 (k + 1)) ∧ Giver w' b l (k + 1) ∧ Keeps (Just [b]) w w' := by
  have hc0 := h.c0
  have hc1 := h.c1
  have hf1 := h.f1
  have g1 : decide (l ≤ k) = false := by rw [decide_eq_false_iff_not]; omega
  have g2 : ¬ l < k + 1 := by omega
  go_enter Try.func28, Try.ntmps28
  go_wp2_with fail
  go_quiet ((go_at_call 32; exact Calls.quiet_of_same (load_any _ _ _ hc1)))
  go_wp2_with fail
  refine (add_any _ k _ h0 (by omega) (h.drewN _).c1 (h.drewN _).f1).mono ?_
  rintro e w1 ⟨rfl, rfl⟩
  go_wp2
  go_ret
  exact ⟨rfl, (Has.drewN h _).stored 1 _, ((Keeps.refl _ _).drewN _).store1 1 _⟩
/-- None is left. -/
theorem next_none (b : Nat) (l k : Int) (w : World) (h1 : l ≤ k) (h : Giver w b l k) :
    Calls Try.prog 28 #[.pointer (some ⟨b, 0, none⟩)] w fun e w' => e = .returned (.int .i64 0) ∧ ∃ n, w' = w.drewN n := by
  have hc0 := h.c0
  have hc1 := h.c1
  have g1 : decide (l ≤ k) = true := by rw [decide_eq_true_iff]; omega
  go_enter Try.func28, Try.ntmps28
  go_wp2_with fail
  go_quiet ((go_at_call 32; exact Calls.quiet_of_same (load_any _ _ _ hc1)))
  go_wp2
  go_ret
  exact ⟨rfl, _, rfl⟩
theorem next_nil (w : World) :
    Calls Try.prog 28 #[.pointer none] w fun e w' => e = .returned (.int .i64 0) ∧ ∃ n, w' = w.drewN n := by
  go_enter Try.func28, Try.ntmps28
  go_wp2_with fail
  go_quiet (fail)
  go_wp2
  go_ret
  exact ⟨rfl, _, rfl⟩

theorem last_any (b : Nat) (l k : Int) (w : World) (h0 : 0 ≤ k) (h1 : k ≤ l) (hl : l ≤ 9223372036854775807) (h : Giver w b l k) :
    Calls Try.prog 25 #[.pointer (some ⟨b, 0, none⟩)] w fun e w' => e = .returned (.int .i64 k) ∧ ∃ n, w' = w.drewN n := by
  have hc0 := h.c0
  have hc1 := h.c1
  go_enter Try.func25, Try.ntmps25
  go_wp2_with fail
  go_quiet ((go_at_call 32; exact Calls.quiet_of_same (load_any _ _ _ hc1)))
  go_wp2
  go_ret
  exact ⟨rfl, _, rfl⟩
theorem last_nil (w : World) :
    Calls Try.prog 25 #[.pointer none] w fun e w' => e = .returned (.int .i64 0) ∧ ∃ n, w' = w.drewN n := by
  go_enter Try.func25, Try.ntmps25
  go_wp2
  go_ret
  exact ⟨rfl, 0, rfl⟩
end Go.Proofs.Ytgdgmcehkhimpaa

namespace Go.Proofs.Ytgdgmcehkhimpaa
open Go Go.RowKit

def isB (n k : Int) : Bool := decide (1 ≤ n) && decide (n ≤ k)

theorem is_any (b : Nat) (l k n : Int) (w : World) (h0 : 0 ≤ k) (h1 : k ≤ l) (hl : l ≤ 9223372036854775807) (h : Giver w b l k) :
    Calls Try.prog 29 #[.pointer (some ⟨b, 0, none⟩), .int .i64 n] w fun e w' => e = .returned (.bool (isB n k)) ∧ ∃ n, w' = w.drewN n := by
  by_cases hn : 1 ≤ n
  · have g1 : decide (1 ≤ n) = true := decide_eq_true hn
    have e1 : isB n k = decide (n ≤ k) := by unfold isB; rw [g1]; rfl
    rw [e1]
    clear e1
    go_enter Try.func29, Try.ntmps29
    go_wp2_with fail
    refine (last_any b l k w h0 h1 hl h).mono ?_
    rintro e w1 ⟨rfl, m, rfl⟩
    go_wp2
    go_ret
    exact ⟨rfl, _, rfl⟩
  · have g1 : decide (1 ≤ n) = false := decide_eq_false hn
    have e1 : isB n k = false := by unfold isB; rw [g1]; rfl
    rw [e1]
    clear e1
    go_enter Try.func29, Try.ntmps29
    go_wp2
    go_ret
    exact ⟨rfl, 0, rfl⟩
theorem is_nil (n : Int) (w : World) :
    Calls Try.prog 29 #[.pointer none, .int .i64 n] w fun e w' => e = .returned (.bool false) ∧ ∃ n, w' = w.drewN n := by
  by_cases hn : 1 ≤ n
  · have g1 : decide (1 ≤ n) = true := decide_eq_true hn
    have g2 : decide (n ≤ 0) = false := decide_eq_false (by omega)
    go_enter Try.func29, Try.ntmps29
    go_wp2_with fail
    refine (last_nil w).mono ?_
    rintro e w1 ⟨rfl, m, rfl⟩
    go_wp2
    go_ret
    exact ⟨rfl, _, rfl⟩
  · have g1 : decide (1 ≤ n) = false := decide_eq_false hn
    go_enter Try.func29, Try.ntmps29
    go_wp2
    go_ret
    exact ⟨rfl, 0, rfl⟩

/-- Both in one: the next number, or none. -/
def nxt (l k : Int) : Int := if k < l then k + 1 else 0
def cnt (l k : Int) : Int := if k < l then k + 1 else k
theorem next_any (b : Nat) (l k : Int) (w : World) (h0 : 0 ≤ k) (hl : l ≤ 9223372036854775807) (h : Giver w b l k) :
    Calls Try.prog 28 #[.pointer (some ⟨b, 0, none⟩)] w fun e w' => e = .returned (.int .i64 (nxt l k)) ∧ Giver w' b l (cnt l k) ∧ Keeps (Just [b]) w w' := by
  unfold nxt cnt
  by_cases hk : k < l
  · rw [if_pos hk, if_pos hk]
    exact next_more b l k w h0 hk hl h
  · rw [if_neg hk, if_neg hk]
    exact (next_none b l k w (by omega) h).mono fun e w' ⟨he, n, hn⟩ => ⟨he, by rw [hn]; exact h, by rw [hn]; exact (Keeps.refl _ _).drewN _⟩
end Go.Proofs.Ytgdgmcehkhimpaa

namespace Go.Proofs.Ytgdgmcehkhimpaa
open Go

section
variable {P : Program} {ops : Array Oper} {Q : Exit → Act → World → Prop} {pin : List Nat}

/-- May the operations come up in this order, each pinned one alone? -/
def ordOk (md : Region.Mode) (ops : Array Oper) (pin : List Nat) : List Nat → Array Bool → Bool
  | [], listed => Region.ready md ops listed == []
  | i :: r, listed => (if pin.contains i then Region.ready md ops listed == [i] else (Region.free md ops listed i && (Region.ready md ops listed).contains i)) && (ops[i]?).isSome && ordOk md ops pin r (listed.setIfInBounds i true)

/-- The operations in that order. -/
def picked (l : List Oper) : List Nat → List (Nat × Oper)
  | [] => []
  | i :: r => match l[i]? with
    | some o => (i, o) :: picked l r
    | none => picked l r

def wpOrd (P : Program) (ops : Array Oper) (Q : Exit → Act → World → Prop) (pin : List Nat) : (World → Prop) → List (Nat × Oper) → Act → World → Prop
  | _, [], a, w => Q .normal a w
  | S, (i, o) :: r, a, w => ∃ S' : World → Prop, (∀ w, S' w → S w) ∧
      if pin.contains i = true then wpOp P ops Q i (fun a' w' => S' w' ∧ wpOrd P ops Q pin S' r a' w') a w
      else ∃ v, YieldsIf P ops S' o v a ∧ S' w ∧ wpOrd P ops Q pin S' r (a.put o.dst v) w

theorem wpAnyH_wide {md : Region.Mode} {S S' : World → Prop} (hS : ∀ w, S' w → S w) : ∀ (fuel : Nat) (listed : Array Bool) (a : Act) (w : World), wpAnyH P md ops Q S' fuel listed a w → wpAnyH P md ops Q S fuel listed a w
  | 0, _, _, _, h => h
  | fuel + 1, _, _, _, h => ⟨h.1, fun i hi => wpOp_mono (fun a' w' h' => ⟨hS _ h'.1, wpAnyH_wide hS fuel _ a' w' h'.2⟩) (h.2 i hi)⟩

theorem wpAnyH_of_ord {md : Region.Mode} (hs : Region.noSelect ops = true) (hQ : ∀ c a d v w, Q (.panic c) (Act.put a d v) w → Q (.panic c) a w) :
    ∀ (l : List Nat) (S : World → Prop) (fuel : Nat) (listed : Array Bool) (a : Act) (w : World), l.length ≤ fuel → ordOk md ops pin l listed = true → wpOrd P ops Q pin S (picked ops.toList l) a w → wpAnyH P md ops Q S fuel listed a w
  | [], S, fuel, listed, a, w, _, hk, h => wpAnyH_done (by simpa [ordOk] using hk) h fuel
  | i :: r, _, 0, _, _, _, hl, _, _ => by simp at hl
  | i :: r, S, fuel + 1, listed, a, w, hl, hk, h => by
    simp only [ordOk, Bool.and_eq_true] at hk
    obtain ⟨⟨hk1, hk3⟩, hk2⟩ := hk
    obtain ⟨o, ho⟩ := Option.isSome_iff_exists.1 hk3
    have ho' : ops.toList[i]? = some o := by simpa using ho
    simp only [picked, ho', wpOrd] at h
    obtain ⟨S', hSS, h⟩ := h
    refine wpAnyH_wide hSS _ _ _ _ ?_
    have hl' : r.length ≤ fuel := by simpa using hl
    by_cases hp : pin.contains i = true
    · rw [if_pos hp] at h hk1
      have hr : Region.ready md ops listed = [i] := by simpa using hk1
      refine wpAnyH_all hr (by simp) fun j hj => ?_
      have : j = i := by simpa using hj
      subst this
      exact wpOp_mono (fun a' w' h' => ⟨h'.1, wpAnyH_of_ord hs hQ r _ fuel _ a' w' hl' hk2 h'.2⟩) h
    · rw [if_neg hp] at h hk1
      obtain ⟨v, hy, hS, h⟩ := h
      simp only [Bool.and_eq_true] at hk1
      exact wpAnyH_take ho hs hk1.1 hk1.2 (fun c a w => hQ c a _ v w) hy hS (wpAnyH_of_ord hs hQ r _ fuel _ _ _ hl' hk2 h)

/-- The beginning. -/
theorem wp_region_ord {S : World → Prop} {ol : List Oper} {id : Nat} {a : Act} {w : World} {l : List Nat} (hm : P.follows .mixedOrders = true) (hs : Region.noSelect ol.toArray = true) (hl : (l.length == ol.length) = true)
    (hk : ordOk .any ol.toArray pin l (Array.replicate ol.length false) = true) (hS : S w.drew)
    (h : S w.drew → wpOrd P ol.toArray (NoPanic Q) pin S (picked ol l) a w.drew) : (Code.region id ol.toArray true).wp P Q a w :=
  wp_region_noPanic (wp_region_held hm (wpAnyH_of_ord hs (fun _ _ _ _ _ h => h) l S ol.toArray.size _ a _ (by
    have : l.length = ol.length := by simpa using hl
    simp; omega) (by simpa using hk) (h hS)))

variable {i : Nat} {r : List (Nat × Oper)} {o : Oper} {a : Act} {w : World} {v : Value} {S : World → Prop}
/-- From here on S' holds. -/
theorem ord_tight (S' : World → Prop) (hS : ∀ w, S' w → S w) (hw : S' w) (h : S' w → wpOrd P ops Q pin S' r a w) : wpOrd P ops Q pin S r a w := by
  match r, h hw with
  | [], h => exact h
  | (_, _) :: _, ⟨S'', h1, h2⟩ => exact ⟨S'', fun w hw => hS w (h1 w hw), h2⟩
theorem ord_skip (hp : pin.contains i = false) (hw : Region.wanted o (yielded ops a.tmps) = false) (hS : S w) (h : wpOrd P ops Q pin S r (a.put o.dst undef) w) : wpOrd P ops Q pin S ((i, o) :: r) a w := by
  unfold wpOrd
  refine ⟨S, fun _ h => h, ?_⟩
  rw [if_neg (by rw [hp]; decide)]
  exact ⟨undef, .inr ⟨hw, rfl⟩, hS, h⟩
theorem ord_take (hp : pin.contains i = false) (hw : Region.wanted o (yielded ops a.tmps) = true) (hy : ∀ w, S w → (execOp a.eval o).run P w = .ok (.value v) w) (hS : S w)
    (h : wpOrd P ops Q pin S r (a.put o.dst v) w) : wpOrd P ops Q pin S ((i, o) :: r) a w := by
  unfold wpOrd
  refine ⟨S, fun _ h => h, ?_⟩
  rw [if_neg (by rw [hp]; decide)]
  exact ⟨v, .inl ⟨hw, hy⟩, hS, h⟩
theorem ord_run (hp : pin.contains i = true) (ho : ops[i]? = some o) (hw : Region.wanted o (yielded ops a.tmps) = true)
    (h : ∀ K' : Act → World → Prop, Shut (∀ a w, S w → (S w → wpOrd P ops Q pin S r a w) → K' a w) → Oper.wp P o a w K' Q) : wpOrd P ops Q pin S ((i, o) :: r) a w := by
  unfold wpOrd
  refine ⟨S, fun _ h => h, ?_⟩
  rw [if_pos hp]
  exact wpOp_step ho fun K' hK => by rw [if_pos hw]; exact h K' fun a w hS hW => hK a w ⟨hS, hW hS⟩
theorem ord_pass (hp : pin.contains i = true) (ho : ops[i]? = some o) (hw : Region.wanted o (yielded ops a.tmps) = false) (hS : S w) (h : wpOrd P ops Q pin S r (a.put o.dst undef) w) : wpOrd P ops Q pin S ((i, o) :: r) a w := by
  unfold wpOrd
  refine ⟨S, fun _ h => h, ?_⟩
  rw [if_pos hp]
  exact wpOp_step ho fun K' hK => by rw [if_neg (by rw [hw]; decide)]; exact hK _ _ ⟨hS, h⟩
theorem ord_done (h : Q .normal a w) : wpOrd P ops (NoPanic Q) pin S [] a w := h
end
end Go.Proofs.Ytgdgmcehkhimpaa

namespace Go.Proofs.Ytgdgmcehkhimpaa
open Go

section
variable {P : Program} {ops : Array Oper} {Q : Exit → Act → World → Prop} {md : Region.Mode} {late pin : List Nat}

/-- Does each late operation wait for i? -/
def waits (md : Region.Mode) (ops : Array Oper) (late : List Nat) (i : Nat) : Bool :=
  late.all fun z => match ops[z]? with
    | some o => o.after.any fun e => Region.binds md e && e.on == i
    | none => true

/-- Whatever order is picked; S holds behind every operation that is not late. -/
def wpAnyZ (P : Program) (md : Region.Mode) (ops : Array Oper) (Q : Exit → Act → World → Prop) (late : List Nat) (S : World → Prop) : Nat → Array Bool → Act → World → Prop
  | 0, listed, a, w => Region.ready md ops listed = [] ∧ Q .normal a w
  | n + 1, listed, a, w => (Region.ready md ops listed = [] → Q .normal a w) ∧
      ∀ i ∈ Region.ready md ops listed, wpOp P ops Q i (fun a' w' => (late.contains i = false → S w') ∧ wpAnyZ P md ops Q late S n (listed.setIfInBounds i true) a' w') a w

theorem wpAny_of_Z {S : World → Prop} : ∀ (n : Nat) (listed : Array Bool) (a : Act) (w : World), wpAnyZ P md ops Q late S n listed a w → wpAny P md ops Q n listed a w
  | 0, _, _, _, h => h
  | n + 1, _, _, _, h => ⟨h.1, fun i hi => wpOp_mono (fun a' w' h' => wpAny_of_Z n _ a' w' h'.2) (h.2 i hi)⟩

theorem wpAnyZ_wide {S S' : World → Prop} (hS : ∀ w, S' w → S w) : ∀ (n : Nat) (listed : Array Bool) (a : Act) (w : World), wpAnyZ P md ops Q late S' n listed a w → wpAnyZ P md ops Q late S n listed a w
  | 0, _, _, _, h => h
  | n + 1, _, _, _, h => ⟨h.1, fun i hi => wpOp_mono (fun a' w' h' => ⟨fun hl => hS _ (h'.1 hl), wpAnyZ_wide hS n _ a' w' h'.2⟩) (h.2 i hi)⟩

theorem wpAnyZ_done {S : World → Prop} {listed : Array Bool} {a : Act} {w : World} (hr : Region.ready md ops listed = []) (h : Q .normal a w) : ∀ n, wpAnyZ P md ops Q late S n listed a w
  | 0 => ⟨hr, h⟩
  | _ + 1 => ⟨fun _ => h, fun _ hi => absurd (hr ▸ hi) (List.not_mem_nil)⟩

/-- What is not listed is waited for. -/
theorem not_waiting {listed : Array Bool} {i : Nat} {oj : Oper} (hi : listed.getD i true = false) (hall : ∀ e ∈ oj.after, Region.binds md e = true → listed.getD e.on false = true) : ∀ e ∈ oj.after, Region.binds md e = true → e.on ≠ i := by
  rintro e he hb rfl
  have h := hall e he hb
  simp only [Array.getD] at hi h
  split at hi
  · rename_i hlt
    rw [dif_pos hlt] at h
    exact absurd (h.symm.trans hi) (by decide)
  · cases hi

theorem not_late {i j : Nat} {oj : Oper} (hw : waits md ops late i = true) (hj : ops[j]? = some oj) (hno : ∀ e ∈ oj.after, Region.binds md e = true → e.on ≠ i) : late.contains j = false := by
  cases hl : late.contains j with
  | false => rfl
  | true =>
    have h := List.all_eq_true.1 hw j (List.contains_iff_mem.1 hl)
    rw [hj] at h
    obtain ⟨e, he, hb⟩ := Array.any_eq_true'.1 h
    simp only [Bool.and_eq_true, beq_iff_eq] at hb
    exact absurd hb.2 (hno e he hb.1)

/-- Operation i may be taken first: it yields v in every world that meets S, and whoever could come ahead of it leaves S standing. -/
theorem wpAnyZ_take {S : World → Prop} {i : Nat} {oi : Oper} {v : Value} (hi : ops[i]? = some oi) (hs : Region.noSelect ops = true) (hw : waits md ops late i = true)
    (hQ : ∀ c a w, Q (.panic c) (Act.put a oi.dst v) w → Q (.panic c) a w) :
    ∀ (n : Nat) (listed : Array Bool) (a : Act) (w : World), Region.free md ops listed i = true → i ∈ Region.ready md ops listed → YieldsIf P ops S oi v a → S w →
      wpAnyZ P md ops Q late S n (listed.setIfInBounds i true) (a.put oi.dst v) w → wpAnyZ P md ops Q late S (n + 1) listed a w := by
  intro n
  induction n with
  | zero =>
    intro listed a w _ hr hy hS H
    refine ⟨fun h => absurd (h ▸ hr) List.not_mem_nil, fun j hj => ?_⟩
    by_cases hji : j = i
    · subst hji
      exact hy.wpOp hi hS ⟨fun _ => hS, H⟩
    · exact absurd (H.1 ▸ ready_mono hj hji) List.not_mem_nil
  | succ n ih =>
    intro listed a w hf hr hy hS H
    refine ⟨fun h => absurd (h ▸ hr) List.not_mem_nil, fun j hj => ?_⟩
    by_cases hji : j = i
    · subst hji
      exact hy.wpOp hi hS ⟨fun _ => hS, H⟩
    · obtain ⟨hun, oj, hoj, hall⟩ := mem_ready.1 hj
      have hno := not_waiting (mem_ready.1 hr).1 hall
      have hnl := not_late hw hoj hno
      have step := wpOp_putIf hoj (Region.free_spec hi hf j oj hoj hji hun hno) (fun cs b => Region.noSelect_spec hs i oi cs b hi) (fun cs b => Region.noSelect_spec hs j oj cs b hoj) hQ hy (H.2 j (ready_mono hj hji))
      have hf' : Region.free md ops (listed.setIfInBounds j true) i = true := by
        simp only [Region.free, hi, List.all_eq_true, List.mem_range] at hf ⊢
        intro k hk
        have := hf k hk
        by_cases hjk : j = k
        · subst hjk
          have hlt : j < listed.size := by
            rcases Nat.lt_or_ge j listed.size with h | h
            · exact h
            · simp [Array.getD, Nat.not_lt.2 h] at hun
          simp [Array.getD, hlt]
        · rw [getD_set_ne true hjk]
          exact this
      refine wpOp_mono (fun a' w' h' => ⟨fun _ => h'.2.1 hnl, ih _ a' w' hf' (ready_mono hr (Ne.symm hji)) h'.1 (h'.2.1 hnl) ?_⟩) step
      rw [Array.setIfInBounds_comm _ _ hji]
      exact h'.2.2

/-- May the operations come up in this order, each pinned one alone, each late one behind what was taken first? -/
def lateOk (md : Region.Mode) (ops : Array Oper) (late pin : List Nat) : List Nat → Array Bool → Bool
  | [], listed => Region.ready md ops listed == []
  | i :: r, listed => (if pin.contains i then Region.ready md ops listed == [i] else (Region.free md ops listed i && (Region.ready md ops listed).contains i && waits md ops late i)) && (ops[i]?).isSome && lateOk md ops late pin r (listed.setIfInBounds i true)

def wpLate (P : Program) (ops : Array Oper) (Q : Exit → Act → World → Prop) (late pin : List Nat) : (World → Prop) → List (Nat × Oper) → Act → World → Prop
  | _, [], a, w => Q .normal a w
  | S, (i, o) :: r, a, w => ∃ S' : World → Prop, (∀ w, S' w → S w) ∧
      if pin.contains i = true then wpOp P ops Q i (fun a' w' => (late.contains i = false → S' w') ∧ wpLate P ops Q late pin S' r a' w') a w
      else ∃ v, YieldsIf P ops S' o v a ∧ S' w ∧ wpLate P ops Q late pin S' r (a.put o.dst v) w

theorem wpAnyZ_of_late (hs : Region.noSelect ops = true) (hQ : ∀ c a d v w, Q (.panic c) (Act.put a d v) w → Q (.panic c) a w) :
    ∀ (l : List Nat) (S : World → Prop) (n : Nat) (listed : Array Bool) (a : Act) (w : World), l.length ≤ n → lateOk md ops late pin l listed = true → wpLate P ops Q late pin S (picked ops.toList l) a w → wpAnyZ P md ops Q late S n listed a w
  | [], S, n, listed, a, w, _, hk, h => wpAnyZ_done (by simpa [lateOk] using hk) h n
  | i :: r, _, 0, _, _, _, hl, _, _ => by simp at hl
  | i :: r, S, n + 1, listed, a, w, hl, hk, h => by
    simp only [lateOk, Bool.and_eq_true] at hk
    obtain ⟨⟨hk1, hk3⟩, hk2⟩ := hk
    obtain ⟨o, ho⟩ := Option.isSome_iff_exists.1 hk3
    have ho' : ops.toList[i]? = some o := by simpa using ho
    simp only [picked, ho', wpLate] at h
    obtain ⟨S', hSS, h⟩ := h
    refine wpAnyZ_wide hSS _ _ _ _ ?_
    have hl' : r.length ≤ n := by simpa using hl
    by_cases hp : pin.contains i = true
    · rw [if_pos hp] at h hk1
      have hr : Region.ready md ops listed = [i] := by simpa using hk1
      refine ⟨fun h0 => absurd (h0.symm.trans hr) (by simp), fun j hj => ?_⟩
      rw [hr] at hj
      obtain rfl := List.mem_singleton.1 hj
      exact wpOp_mono (fun a' w' h' => ⟨h'.1, wpAnyZ_of_late hs hQ r _ n _ a' w' hl' hk2 h'.2⟩) h
    · rw [if_neg hp] at h hk1
      obtain ⟨v, hy, hS, h⟩ := h
      simp only [Bool.and_eq_true] at hk1
      exact wpAnyZ_take ho hs hk1.2 (fun c a w => hQ c a _ v w) n listed a w hk1.1.1 (by simpa using hk1.1.2) hy hS (wpAnyZ_of_late hs hQ r _ n _ _ _ hl' hk2 h)

/-- The beginning. -/
theorem wp_region_late {S : World → Prop} {ol : List Oper} {id : Nat} {a : Act} {w : World} {l : List Nat} (hm : P.follows .mixedOrders = true) (hs : Region.noSelect ol.toArray = true) (hl : (l.length == ol.length) = true)
    (hk : lateOk .any ol.toArray late pin l (Array.replicate ol.length false) = true) (hS : S w.drew)
    (h : S w.drew → wpLate P ol.toArray (NoPanic Q) late pin S (picked ol l) a w.drew) : (Code.region id ol.toArray true).wp P Q a w :=
  wp_region_noPanic (wp_region_any hm (wpAny_of_Z _ _ _ _ (wpAnyZ_of_late hs (fun _ _ _ _ _ h => h) l S ol.toArray.size _ a _ (by
    have : l.length = ol.length := by simpa using hl
    simp; omega) (by simpa using hk) (h hS))))

variable {i : Nat} {r : List (Nat × Oper)} {o : Oper} {a : Act} {w : World} {v : Value} {S : World → Prop}
theorem late_tight (S' : World → Prop) (hS : ∀ w, S' w → S w) (hw : S' w) (h : S' w → wpLate P ops Q late pin S' r a w) : wpLate P ops Q late pin S r a w := by
  match r, h hw with
  | [], h => exact h
  | (_, _) :: _, ⟨S'', h1, h2⟩ => exact ⟨S'', fun w hw => hS w (h1 w hw), h2⟩
theorem late_skip (hp : pin.contains i = false) (hw : Region.wanted o (yielded ops a.tmps) = false) (hS : S w) (h : wpLate P ops Q late pin S r (a.put o.dst undef) w) : wpLate P ops Q late pin S ((i, o) :: r) a w := by
  unfold wpLate
  refine ⟨S, fun _ h => h, ?_⟩
  rw [if_neg (by rw [hp]; decide)]
  exact ⟨undef, .inr ⟨hw, rfl⟩, hS, h⟩
theorem late_take (hp : pin.contains i = false) (hw : Region.wanted o (yielded ops a.tmps) = true) (hy : ∀ w, S w → (execOp a.eval o).run P w = .ok (.value v) w) (hS : S w)
    (h : wpLate P ops Q late pin S r (a.put o.dst v) w) : wpLate P ops Q late pin S ((i, o) :: r) a w := by
  unfold wpLate
  refine ⟨S, fun _ h => h, ?_⟩
  rw [if_neg (by rw [hp]; decide)]
  exact ⟨v, .inl ⟨hw, hy⟩, hS, h⟩
/-- A pinned operation that is not late. -/
theorem late_run (hp : pin.contains i = true) (ho : ops[i]? = some o) (hw : Region.wanted o (yielded ops a.tmps) = true)
    (h : ∀ K' : Act → World → Prop, Shut (∀ a w, S w → (S w → wpLate P ops Q late pin S r a w) → K' a w) → Oper.wp P o a w K' Q) : wpLate P ops Q late pin S ((i, o) :: r) a w := by
  unfold wpLate
  refine ⟨S, fun _ h => h, ?_⟩
  rw [if_pos hp]
  exact wpOp_step ho fun K' hK => by rw [if_pos hw]; exact h K' fun a w hS hW => hK a w ⟨fun _ => hS, hW hS⟩
theorem late_pass (hp : pin.contains i = true) (ho : ops[i]? = some o) (hw : Region.wanted o (yielded ops a.tmps) = false) (hS : S w) (h : wpLate P ops Q late pin S r (a.put o.dst undef) w) : wpLate P ops Q late pin S ((i, o) :: r) a w := by
  unfold wpLate
  refine ⟨S, fun _ h => h, ?_⟩
  rw [if_pos hp]
  exact wpOp_step ho fun K' hK => by rw [if_neg (by rw [hw]; decide)]; exact hK _ _ ⟨fun _ => hS, h⟩
/-- A late one. -/
theorem late_last (hp : pin.contains i = true) (hl : late.contains i = true) (ho : ops[i]? = some o) (hw : Region.wanted o (yielded ops a.tmps) = true)
    (h : ∀ K' : Act → World → Prop, Shut (∀ a w, wpLate P ops Q late pin S r a w → K' a w) → Oper.wp P o a w K' Q) : wpLate P ops Q late pin S ((i, o) :: r) a w := by
  unfold wpLate
  refine ⟨S, fun _ h => h, ?_⟩
  rw [if_pos hp]
  exact wpOp_step ho fun K' hK => by rw [if_pos hw]; exact h K' fun a w hW => hK a w ⟨fun hf => absurd (hl.symm.trans hf) (by decide), hW⟩
theorem late_done (h : Q .normal a w) : wpLate P ops (NoPanic Q) late pin S [] a w := h
end
end Go.Proofs.Ytgdgmcehkhimpaa

namespace Go.Proofs.Ytgdgmcehkhimpaa
open Go

/-- A way through a region: take i first; i comes up alone; i or j comes up. -/
inductive Way where
  | fin : Way
  | take : Nat → Way → Way
  | run : Nat → Way → Way
  | fork : Nat → Way → Nat → Way → Way
def Way.takes : List Nat → Way → Way
  | [], p => p
  | i :: r, p => .take i (Way.takes r p)
def Way.length : Way → Nat
  | .fin => 0
  | .take _ p => p.length + 1
  | .run _ p => p.length + 1
  | .fork _ p _ q => max p.length q.length + 1

section
variable {P : Program} {ops : Array Oper} {Q : Exit → Act → World → Prop} {md : Region.Mode} {late : List Nat}

def wayOk (md : Region.Mode) (ops : Array Oper) (late : List Nat) : Way → Array Bool → Bool
  | .fin, listed => Region.ready md ops listed == []
  | .take i p, listed => Region.free md ops listed i && (Region.ready md ops listed).contains i && waits md ops late i && wayOk md ops late p (listed.setIfInBounds i true)
  | .run i p, listed => Region.ready md ops listed == [i] && wayOk md ops late p (listed.setIfInBounds i true)
  | .fork i p j q, listed => Region.ready md ops listed == [i, j] && wayOk md ops late p (listed.setIfInBounds i true) && wayOk md ops late q (listed.setIfInBounds j true)

def wpWay (P : Program) (ops : Array Oper) (Q : Exit → Act → World → Prop) (late : List Nat) : (World → Prop) → Way → Act → World → Prop
  | _, .fin, a, w => Q .normal a w
  | S, .take i p, a, w => ∃ S' : World → Prop, (∀ w, S' w → S w) ∧ ∃ o, ops[i]? = some o ∧ ∃ v, YieldsIf P ops S' o v a ∧ S' w ∧ wpWay P ops Q late S' p (a.put o.dst v) w
  | S, .run i p, a, w => ∃ S' : World → Prop, (∀ w, S' w → S w) ∧ wpOp P ops Q i (fun a' w' => (late.contains i = false → S' w') ∧ wpWay P ops Q late S' p a' w') a w
  | S, .fork i p j q, a, w => (∃ S' : World → Prop, (∀ w, S' w → S w) ∧ wpOp P ops Q i (fun a' w' => (late.contains i = false → S' w') ∧ wpWay P ops Q late S' p a' w') a w) ∧
      ∃ S' : World → Prop, (∀ w, S' w → S w) ∧ wpOp P ops Q j (fun a' w' => (late.contains j = false → S' w') ∧ wpWay P ops Q late S' q a' w') a w

theorem wpAnyZ_of_way (hs : Region.noSelect ops = true) (hQ : ∀ c a d v w, Q (.panic c) (Act.put a d v) w → Q (.panic c) a w) :
    ∀ (y : Way) (S : World → Prop) (n : Nat) (listed : Array Bool) (a : Act) (w : World), y.length ≤ n → wayOk md ops late y listed = true → wpWay P ops Q late S y a w → wpAnyZ P md ops Q late S n listed a w
  | .fin, S, n, listed, a, w, _, hk, h => wpAnyZ_done (by simpa [wayOk] using hk) h n
  | .take _ _, _, 0, _, _, _, hl, _, _ => by simp [Way.length] at hl
  | .run _ _, _, 0, _, _, _, hl, _, _ => by simp [Way.length] at hl
  | .fork _ _ _ _, _, 0, _, _, _, hl, _, _ => by simp [Way.length] at hl
  | .take i p, S, n + 1, listed, a, w, hl, hk, h => by
    simp only [wayOk, Bool.and_eq_true] at hk
    obtain ⟨⟨⟨k1, k2⟩, k3⟩, k4⟩ := hk
    obtain ⟨S', hSS, o, ho, v, hy, hS, h⟩ := h
    refine wpAnyZ_wide hSS _ _ _ _ ?_
    exact wpAnyZ_take ho hs k3 (fun c a w => hQ c a _ v w) n listed a w k1 (by simpa using k2) hy hS (wpAnyZ_of_way hs hQ p _ n _ _ _ (by simpa [Way.length] using hl) k4 h)
  | .run i p, S, n + 1, listed, a, w, hl, hk, h => by
    simp only [wayOk, Bool.and_eq_true] at hk
    obtain ⟨k1, k2⟩ := hk
    obtain ⟨S', hSS, h⟩ := h
    refine wpAnyZ_wide hSS _ _ _ _ ?_
    have hr : Region.ready md ops listed = [i] := by simpa using k1
    refine ⟨fun h0 => absurd (h0.symm.trans hr) (by simp), fun j hj => ?_⟩
    rw [hr] at hj
    obtain rfl := List.mem_singleton.1 hj
    exact wpOp_mono (fun a' w' h' => ⟨h'.1, wpAnyZ_of_way hs hQ p _ n _ a' w' (by simpa [Way.length] using hl) k2 h'.2⟩) h
  | .fork i p j q, S, n + 1, listed, a, w, hl, hk, h => by
    simp only [wayOk, Bool.and_eq_true] at hk
    obtain ⟨⟨k1, k2⟩, k3⟩ := hk
    obtain ⟨⟨S1, hS1, h1⟩, S2, hS2, h2⟩ := h
    have hl1 : p.length ≤ n := by simp [Way.length] at hl; omega
    have hl2 : q.length ≤ n := by simp [Way.length] at hl; omega
    have hr : Region.ready md ops listed = [i, j] := by simpa using k1
    refine ⟨fun h0 => absurd (h0.symm.trans hr) (by simp), fun x hx => ?_⟩
    rw [hr] at hx
    rcases List.mem_cons.1 hx with rfl | hx
    · exact wpOp_mono (fun a' w' h' => ⟨fun hf => hS1 _ (h'.1 hf), wpAnyZ_wide hS1 _ _ _ _ (wpAnyZ_of_way hs hQ p _ n _ a' w' hl1 k2 h'.2)⟩) h1
    · obtain rfl := List.mem_singleton.1 hx
      exact wpOp_mono (fun a' w' h' => ⟨fun hf => hS2 _ (h'.1 hf), wpAnyZ_wide hS2 _ _ _ _ (wpAnyZ_of_way hs hQ q _ n _ a' w' hl2 k3 h'.2)⟩) h2

/-- The beginning. -/
theorem wp_region_way {S : World → Prop} {ol : List Oper} {id : Nat} {a : Act} {w : World} {y : Way} (hm : P.follows .mixedOrders = true) (hs : Region.noSelect ol.toArray = true) (hl : y.length = ol.length)
    (hk : wayOk .any ol.toArray late y (Array.replicate ol.length false) = true) (hS : S w.drew)
    (h : S w.drew → wpWay P ol.toArray (NoPanic Q) late S y a w.drew) : (Code.region id ol.toArray true).wp P Q a w :=
  wp_region_noPanic (wp_region_any hm (wpAny_of_Z _ _ _ _ (wpAnyZ_of_way hs (fun _ _ _ _ _ h => h) y S ol.toArray.size _ a _ (by simp; omega) (by simpa using hk) (h hS))))

variable {i j : Nat} {p q : Way} {o : Oper} {a : Act} {w : World} {v : Value} {S : World → Prop}
theorem way_tight (S' : World → Prop) (hS : ∀ w, S' w → S w) (hw : S' w) (h : S' w → wpWay P ops Q late S' p a w) : wpWay P ops Q late S p a w := by
  have h := h hw
  match p, h with
  | .fin, h => exact h
  | .take _ _, ⟨S'', h1, h2⟩ => exact ⟨S'', fun w hw => hS w (h1 w hw), h2⟩
  | .run _ _, ⟨S'', h1, h2⟩ => exact ⟨S'', fun w hw => hS w (h1 w hw), h2⟩
  | .fork _ _ _ _, ⟨⟨S1, h1, h2⟩, S2, h3, h4⟩ => exact ⟨⟨S1, fun w hw => hS w (h1 w hw), h2⟩, S2, fun w hw => hS w (h3 w hw), h4⟩
theorem way_skip (ho : ops[i]? = some o) (hw : Region.wanted o (yielded ops a.tmps) = false) (hS : S w) (h : wpWay P ops Q late S p (a.put o.dst undef) w) : wpWay P ops Q late S (.take i p) a w :=
  ⟨S, fun _ h => h, o, ho, undef, .inr ⟨hw, rfl⟩, hS, h⟩
theorem way_take (ho : ops[i]? = some o) (hw : Region.wanted o (yielded ops a.tmps) = true) (hy : ∀ w, S w → (execOp a.eval o).run P w = .ok (.value v) w) (hS : S w)
    (h : wpWay P ops Q late S p (a.put o.dst v) w) : wpWay P ops Q late S (.take i p) a w :=
  ⟨S, fun _ h => h, o, ho, v, .inl ⟨hw, hy⟩, hS, h⟩
theorem way_run (ho : ops[i]? = some o) (hw : Region.wanted o (yielded ops a.tmps) = true)
    (h : ∀ K' : Act → World → Prop, Shut (∀ a w, S w → (S w → wpWay P ops Q late S p a w) → K' a w) → Oper.wp P o a w K' Q) : wpWay P ops Q late S (.run i p) a w :=
  ⟨S, fun _ h => h, wpOp_step ho fun K' hK => by rw [if_pos hw]; exact h K' fun a w hS hW => hK a w ⟨fun _ => hS, hW hS⟩⟩
theorem way_pass (ho : ops[i]? = some o) (hw : Region.wanted o (yielded ops a.tmps) = false) (hS : S w) (h : wpWay P ops Q late S p (a.put o.dst undef) w) : wpWay P ops Q late S (.run i p) a w :=
  ⟨S, fun _ h => h, wpOp_step ho fun K' hK => by rw [if_neg (by rw [hw]; decide)]; exact hK _ _ ⟨fun _ => hS, h⟩⟩
theorem way_last (hl : late.contains i = true) (ho : ops[i]? = some o) (hw : Region.wanted o (yielded ops a.tmps) = true)
    (h : ∀ K' : Act → World → Prop, Shut (∀ a w, wpWay P ops Q late S p a w → K' a w) → Oper.wp P o a w K' Q) : wpWay P ops Q late S (.run i p) a w :=
  ⟨S, fun _ h => h, wpOp_step ho fun K' hK => by rw [if_pos hw]; exact h K' fun a w hW => hK a w ⟨fun hf => absurd (hl.symm.trans hf) (by decide), hW⟩⟩
theorem way_fork (h1 : wpWay P ops Q late S (.run i p) a w) (h2 : wpWay P ops Q late S (.run j q) a w) : wpWay P ops Q late S (.fork i p j q) a w := ⟨h1, h2⟩
theorem way_done (h : Q .normal a w) : wpWay P ops (NoPanic Q) late S .fin a w := h
end
end Go.Proofs.Ytgdgmcehkhimpaa
