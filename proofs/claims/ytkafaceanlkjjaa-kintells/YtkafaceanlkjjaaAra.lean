/-
  The forest of package arena in memory; what its small functions do: New, Len, has, fitsName, nextAbove, isAbove.
-/
import Derived.Test.YtkafaceanlkjjaaFu
import Derived.Test.YtkafaceanlkjjaaFw
import Derived.Test.YtkafaceanlkjjaaWay
namespace Go.Proofs.Ytkafaceanlkjjaa
open Go Go.RowKit

/-- The forest at block b holds l, in blocks that S names. -/
def Frst (S : Nat → Prop) (w : World) (b : Nat) (l : List Nd) : Prop := S b ∧ ∃ A c, Has w b (.cells #[.slice A l.length c] 62 (0, 0)) ∧ Nodes S w 0 A c l
section
variable {S S' F : Nat → Prop} {w w' : World} {b : Nat} {l : List Nd}
theorem Frst.keep (h : Frst S w b l) (k : Keeps F w w') (hF : ∀ i, S i → i < w.heap.size → ¬ F i) : Frst S w' b l := by
  obtain ⟨hS, A, c, h1, h2⟩ := h
  exact ⟨hS, A, c, h1.kept k (hF b hS h1.inside), h2.keptG k hF⟩
theorem Frst.wide (h : Frst S w b l) (hS : ∀ i, S i → i < w.heap.size → S' i) : Frst S' w b l := by
  obtain ⟨h0, A, c, h1, h2⟩ := h
  exact ⟨hS b h0 h1.inside, A, c, h1, h2.wide hS⟩
theorem Frst.below (h : Frst S w b l) (k : Below w.heap.size w w') : Frst S w' b l :=
  h.keep (Keeps.of_below (F := fun i => w.heap.size ≤ i) k fun _ _ h => h) fun _ _ hi => Nat.not_le.2 hi
/-- A node's nine cells. -/
theorem Nodes.nine {G : Nat → Prop} {B c m : Nat} {A : Option Addr} (h : Nodes G w B A c l) (hm : m < l.length) : ∃ g k, A = some ⟨g, 0, none⟩ ∧ B ≤ g ∧ g < w.heap.size ∧ Kids G w k (nd l ((m : Int) + 1)).kids ∧ (∀ j, w.frozen? ⟨g, j, none⟩ = false) ∧
    w.cell? ⟨g, m * 9, none⟩ = some (.int .i64 (nd l ((m : Int) + 1)).kind) ∧ w.cell? ⟨g, m * 9 + 1, none⟩ = some (.int .i64 (nd l ((m : Int) + 1)).parent) ∧ w.cell? ⟨g, m * 9 + 2, none⟩ = some (.int .i64 (nd l ((m : Int) + 1)).host) ∧
    w.cell? ⟨g, m * 9 + 3, none⟩ = some (.int .i64 (nd l ((m : Int) + 1)).shadow) ∧ w.cell? ⟨g, m * 9 + 4, none⟩ = some (.int .i64 (nd l ((m : Int) + 1)).mode) ∧ w.cell? ⟨g, m * 9 + 5, none⟩ = some (.bool (nd l ((m : Int) + 1)).slot) ∧
    w.cell? ⟨g, m * 9 + 6, none⟩ = some (.string (nd l ((m : Int) + 1)).name) ∧ w.cell? ⟨g, m * 9 + 7, none⟩ = some (.string (nd l ((m : Int) + 1)).want) ∧ w.cell? ⟨g, m * 9 + 8, none⟩ = some k := by
  obtain ⟨g, k, rfl, hg, hk, hz, hc⟩ := h.at_ hm
  rw [nd_at hm]
  exact ⟨g, k, rfl, hg, h.inside _ _ _ rfl, hk, hz, hc 0 (by omega), hc 1 (by omega), hc 2 (by omega), hc 3 (by omega), hc 4 (by omega), hc 5 (by omega), hc 6 (by omega), hc 7 (by omega), hc 8 (by omega)⟩
end

section
variable {S : Nat → Prop} {w : World} {b : Nat} {l : List Nd}
theorem arNew (S : Nat → Prop) (w : World) (hS : Fut S w.heap.size) : Calls Try.prog 26 #[] w fun e w' => ∃ b, e = .returned (.pointer (some ⟨b, 0, none⟩)) ∧ Frst S w' b [] ∧ Below w.heap.size w w' := by
  have hh : Has (w.alloc (.cells #[.slice none 0 0] 62)) w.heap.size (.cells #[.slice none 0 0] 62 (0, 0)) := Has.fresh _ _
  have hb : Below w.heap.size w (w.alloc (.cells #[.slice none 0 0] 62)) := (Below.refl _ w).alloc (Nat.le_refl _) _
  have HH := Lib.hid hh
  clear hh
  go_enter Try.func26, Try.ntmps26
  go_wp2
  go_ret
  exact ⟨_, rfl, ⟨hS _ (Nat.le_refl _), none, 0, HH.out, Nodes.nil _ _⟩, hb⟩

theorem arLen (h : Frst S w b l) : Calls Try.prog 52 #[.pointer (some ⟨b, 0, none⟩)] w fun e w' => e = .returned (.int .i64 l.length) ∧ w = w' := by
  obtain ⟨-, A, c, h1, -⟩ := h
  have c0 := h1.cell 0
  clear h1
  go_enter Try.func52, Try.ntmps52
  go_wp2
  go_ret
  exact ⟨rfl, rfl⟩

theorem arHas (h : Frst S w b l) (id : Int) : Calls Try.prog 39 #[.pointer (some ⟨b, 0, none⟩), .int .i64 id] w fun e w' => e = .returned (.bool (thereB l id)) ∧ w = w' := by
  have H := Lib.hid h
  clear h
  by_cases h1 : 1 ≤ id
  · have e1 : decide (1 ≤ id) = true := decide_eq_true h1
    have e : thereB l id = decide (id ≤ (l.length : Int)) := by unfold thereB; rw [e1]; rfl
    rw [e]
    clear e
    go_enter Try.func39, Try.ntmps39
    go_wp2_with fail
    refine (arLen H.out).mono ?_
    rintro e w1 ⟨rfl, rfl⟩
    go_wp2
    go_ret
    exact ⟨rfl, rfl⟩
  · have e1 : decide (1 ≤ id) = false := decide_eq_false h1
    have e : thereB l id = false := by unfold thereB; rw [e1]; rfl
    rw [e]
    clear e
    go_enter Try.func39, Try.ntmps39
    go_wp2
    go_ret
    exact ⟨rfl, rfl⟩
theorem arHas_is (h : Frst S w b l) {id : Int} {x : Bool} (hx : thereB l id = x) : Calls Try.prog 39 #[.pointer (some ⟨b, 0, none⟩), .int .i64 id] w fun e w' => e = .returned (.bool x) ∧ w = w' := by
  rw [← hx]
  exact arHas h id

theorem arFits (s : ByteArray) (w : World) (hs : s.size ≤ 9223372036854775807) {x : Bool} (hx : okName s = x) :
    Calls Try.prog 46 #[.string s] w fun e w' => e = .returned (.bool x) ∧ Below w.heap.size w w' := by
  subst hx
  cases h0 : s.toList.isEmpty with
  | true =>
    have e1 : okName s = true := by unfold okName; rw [h0]; rfl
    rw [e1]
    go_enter Try.func46, Try.ntmps46
    go_wp2
    go_ret
    exact ⟨rfl, Below.refl _ _⟩
  | false =>
    have e1 : okName s = rightL s.data.toList := by unfold okName; rw [h0]; rfl
    rw [e1]
    clear e1
    go_enter Try.func46, Try.ntmps46
    go_wp2_with fail
    refine (right_any s w hs).mono ?_
    rintro e w1 ⟨rfl, hb⟩
    go_wp2
    go_ret
    exact ⟨rfl, hb⟩

/-- One step up. -/
theorem arNext (h : Frst S w b l) (hl : l.length ≤ 128) {id : Int} (ht : thereB l id = true) : Calls Try.prog 53 #[.pointer (some ⟨b, 0, none⟩), .int .i64 id] w fun e w' => e = .returned (.int .i64 (upOf l id)) ∧ Below w.heap.size w w' := by
  obtain ⟨-, A, c, h1, hN⟩ := h
  have q0 := h1.cell 0
  obtain ⟨m, rfl, hm⟩ := there_at ht
  obtain ⟨g, k, rfl, -, -, hk, -, c0, c1, c2, c3, c4, c5, c6, c7, c8⟩ := hN.nine hm
  obtain ⟨A1, n1, rfl, -, -⟩ := hk.form
  have hb : Below w.heap.size w (w.alloc (.cells #[.int .i64 (nd l ((m : Int) + 1)).kind, .int .i64 (nd l ((m : Int) + 1)).parent, .int .i64 (nd l ((m : Int) + 1)).host, .int .i64 (nd l ((m : Int) + 1)).shadow, .int .i64 (nd l ((m : Int) + 1)).mode, .bool (nd l ((m : Int) + 1)).slot, .string (nd l ((m : Int) + 1)).name, .string (nd l ((m : Int) + 1)).want, .slice A1 (nd l ((m : Int) + 1)).kids.length n1] 41)) := (Below.refl _ w).alloc (Nat.le_refl _) _
  have e : upOf l ((m : Int) + 1) = if (nd l ((m : Int) + 1)).parent = 0 then (nd l ((m : Int) + 1)).host else (nd l ((m : Int) + 1)).parent := rfl
  rw [e]
  obtain ⟨d, hd⟩ : ∃ d, d = nd l ((m : Int) + 1) := ⟨_, rfl⟩
  rw [← hd] at c0 c1 c2 c3 c4 c5 c6 c7 c8 hb
  rw [← hd]
  obtain ⟨kd, pa, ho, sh, mo, sl, na, wa, ks⟩ := d
  simp only at c0 c1 c2 c3 c4 c5 c6 c7 c8 hb
  simp only
  clear h1 hN ht hk e hd
  by_cases hp : pa = 0
  · subst hp
    rw [if_pos rfl]
    go_enter Try.func53, Try.ntmps53
    go_wp2
    go_ret
    exact ⟨rfl, hb⟩
  · rw [if_neg hp]
    have z1 : (pa != 0) = true := by simpa using hp
    have z2 : (pa == 0) = false := by simpa using hp
    go_enter Try.func53, Try.ntmps53
    go_wp2
    go_ret
    exact ⟨rfl, hb⟩
end

section
variable {l : List Nd}
theorem over_step (T : Tree l) {x : Int} (h : thereB l x = true) : over l x = x :: over l (upOf l x) := by
  have e : over l x = x :: overN l l.length (upOf l x) := over_go h
  have hs : (over l x).length ≤ l.length := up_short T.ends (l.length + 1) x
  rw [e] at hs
  simp only [List.length_cons] at hs
  rw [e]
  show _ = x :: overN l (l.length + 1) _
  rw [up_more l.length (upOf l x) (by omega)]
theorem over_zero : over l 0 = [] := over_end (there_zero l)
theorem up_or (T : Tree l) {x : Int} (h : thereB l x = true) : upOf l x = 0 ∨ thereB l (upOf l x) = true := by
  unfold upOf
  split
  · by_cases hh : (nd l x).host = 0
    · exact .inl hh
    · exact .inr (T.host x h hh).2
  · rename_i hp
    exact .inr (T.par x h hp).1
theorem has_over_step (T : Tree l) {x a : Int} (h : thereB l x = true) : hasB (over l x) a = (decide (a = x) || hasB (over l (upOf l x)) a) := by
  rw [over_step T h]
  unfold hasB
  by_cases e : a = x <;> simp [e]
end

section
variable {S : Nat → Prop} {w : World} {b : Nat} {l : List Nd}
set_option maxHeartbeats 2000000 in
set_option maxRecDepth 100000 in
theorem arAbove (h : Frst S w b l) (hl : l.length ≤ 128) (T : Tree l) (a : Int) {id : Int} (ht : thereB l id = true) {x : Bool} (hx : hasB (over l (upOf l id)) a = x) :
    Calls Try.prog 45 #[.pointer (some ⟨b, 0, none⟩), .int .i64 a, .int .i64 id] w fun e w' => e = .returned (.bool x) ∧ Below w.heap.size w w' := by
  have H := Lib.hid h
  have HT := Lib.hid T
  have Ht := Lib.hid ht
  have Hx := Lib.hid hx
  clear h T ht hx
  go_enter Try.func45, Try.ntmps45
  go_wp2_with fail
  refine (arNext H.out hl Ht.out).mono ?_
  rintro e w1 ⟨rfl, hb1⟩
  have hup := up_or HT.out Ht.out
  obtain ⟨y, hy⟩ : ∃ y, y = upOf l id := ⟨_, rfl⟩
  rw [← hy] at hup Hx
  rw [← hy]
  have Hup := Lib.hid hup
  clear hup hy Ht
  go_wp2_with fail
  go_loopw [7] (fun at_ wr => ∃ z : Int, at_ = .int .i64 z ∧ (z = 0 ∨ thereB l z = true) ∧ hasB (over l z) a = x ∧ Below w.heap.size w wr) (fun at_ _ => (over l (intOf at_)).length)
  case atStart => exact ⟨y, rfl, Hup.out, Hx.out, hb1⟩
  case round =>
    obtain ⟨z, rfl, hz, hxz, hb⟩ := hrel
    clear Hup Hx
    by_cases h0 : z = 0
    · subst h0
      rw [over_zero] at hxz
      have hx0 : x = false := by rw [← hxz]; rfl
      subst hx0
      clear hxz hz
      go_wp2
      go_ret
      exact ⟨rfl, hb⟩
    · have hth : thereB l z = true := hz.resolve_left h0
      have z1 : (z != 0) = true := by simpa using h0
      have z2 : (z == 0) = false := by simpa using h0
      rw [has_over_step HT.out hth] at hxz
      by_cases ha : z = a
      · have hx0 : x = true := by rw [← hxz, ha]; simp
        subst hx0
        subst ha
        clear hxz hz
        go_wp2
        go_ret
        exact ⟨rfl, hb⟩
      · have z3 : (z == a) = false := by simpa using ha
        have hxz' : hasB (over l (upOf l z)) a = x := by
          rw [← hxz, decide_eq_false (fun e => ha e.symm)]
          rfl
        have Hxz := Lib.hid hxz'
        have Hth := Lib.hid hth
        have hR := H.out.below hb
        clear hxz hxz' hz hth
        go_wp2_with fail
        refine (arNext hR hl Hth.out).mono ?_
        rintro e w2 ⟨rfl, hb2⟩
        go_wp2
        go_roundw
        case rel => exact ⟨upOf l z, rfl, up_or HT.out Hth.out, Hxz.out, hb.trans (hb2.mono hb.size)⟩
        case measure =>
          simp only [intOf]
          rw [over_step HT.out Hth.out]
          simp
end
end Go.Proofs.Ytkafaceanlkjjaa
