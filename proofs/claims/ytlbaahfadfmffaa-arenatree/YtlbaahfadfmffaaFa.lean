/-
  What a package arena must do (the document's promises, as contracts), and what towncrierlaw04.do and made do with such a one.
-/
import Derived.Test.YtlbaahfadfmffaaFg
import Derived.Test.YtlbaahfadfmffaaFw
import Derived.Test.YtlbaahfadfmffaaWay
namespace Go.Proofs.Ytlbaahfadfmffaa
open Go Go.RowKit

/-- A forest as calls make it. -/
structure Good (l : List Nd) : Prop where
  tree : Tree l
  len : l.length ≤ 128
  few : Few 200 l
theorem good_nil : Good [] := ⟨tree_nil, Nat.zero_le _, fun _ h => absurd h (by simp)⟩
theorem good_act {l : List Nd} {x : Ac} (h : Good l) (hx : x.l.length ≤ 200) : Good (actL l x) := ⟨tree_act h.tree, actL_length l x h.len, actL_kids h.few hx⟩

/-- Where a forest lies. -/
abbrev at_ (b : Nat) : Value := .pointer (some ⟨b, 0, none⟩)

/-- The promises: 'Rep S w b l': in w the forest at b holds l, in blocks that S names. -/
structure ForestOk (Rep : (Nat → Prop) → World → Nat → List Nd → Prop) : Prop where
  keep : ∀ {S F : Nat → Prop} {w w' : World} {b : Nat} {l : List Nd}, Rep S w b l → Keeps F w w' → (∀ i, S i → i < w.heap.size → ¬ F i) → Rep S w' b l
  wide : ∀ {S S' : Nat → Prop} {w : World} {b : Nat} {l : List Nd}, Rep S w b l → (∀ i, S i → i < w.heap.size → S' i) → Rep S' w b l
  new : ∀ (S : Nat → Prop) (w : World), Fut S w.heap.size → Calls Try.prog 8 #[] w fun e w' => ∃ b, e = .returned (at_ b) ∧ Rep S w' b [] ∧ Below w.heap.size w w'
  make : ∀ (S : Nat → Prop) (w : World) (b : Nat) (l : List Nd) (k pa ho sh m : Int) (sl : Bool) (na wa : ByteArray) (ks : List Int) (A1 : Option Addr) (c1 : Nat), Rep S w b l → Good l → Fut S w.heap.size → na.size ≤ 9223372036854775807 → wa.size ≤ 9223372036854775807 → ListIn w A1 c1 ks →
    Calls Try.prog 19 #[at_ b, .agg #[.int .i64 k, .int .i64 pa, .int .i64 ho, .int .i64 sh, .int .i64 m, .bool sl, .string na, .string wa, .slice A1 ks.length c1]] w fun e w' =>
      e = .returned (.tuple #[.int .i64 (mkNo l ⟨k, pa, ho, sh, m, sl, na, wa, ks⟩), .int .i64 (mkErr l.length ⟨k, pa, ho, sh, m, sl, na, wa, ks⟩)]) ∧ Rep S w' b (mkL l ⟨k, pa, ho, sh, m, sl, na, wa, ks⟩) ∧ Keeps S w w'
  put : ∀ (S : Nat → Prop) (w : World) (b : Nat) (l : List Nd) (p : Int) (ks : List Int) (A2 : Option Addr) (c2 : Nat), Rep S w b l → Good l → Fut S w.heap.size → ks.length ≤ 200 → ListIn w A2 c2 ks → (∀ b' off s, A2 = some ⟨b', off, s⟩ → b' < w.heap.size → ¬ S b') →
    Calls Try.prog 20 #[at_ b, .int .i64 p, .slice A2 ks.length c2] w fun e w' => e = .returned (.int .i64 (putErr l p ks)) ∧ Rep S w' b (putL l p ks) ∧ Keeps S w w'
  tie : ∀ (S : Nat → Prop) (w : World) (b : Nat) (l : List Nd) (h r : Int), Rep S w b l → Good l → Fut S w.heap.size →
    Calls Try.prog 21 #[at_ b, .int .i64 h, .int .i64 r] w fun e w' => e = .returned (.int .i64 (tieErr l h r)) ∧ Rep S w' b (tieL l h r) ∧ Keeps S w w'
  name : ∀ (S : Nat → Prop) (w : World) (b : Nat) (l : List Nd) (id : Int) (s : ByteArray), Rep S w b l → Good l → Fut S w.heap.size → s.size ≤ 9223372036854775807 →
    Calls Try.prog 22 #[at_ b, .int .i64 id, .string s] w fun e w' => e = .returned (.int .i64 (nameErr l id s)) ∧ Rep S w' b (nameL l id s) ∧ Keeps S w w'
  want : ∀ (S : Nat → Prop) (w : World) (b : Nat) (l : List Nd) (id : Int) (s : ByteArray), Rep S w b l → Good l → Fut S w.heap.size → s.size ≤ 9223372036854775807 →
    Calls Try.prog 23 #[at_ b, .int .i64 id, .string s] w fun e w' => e = .returned (.int .i64 (wantErr l id s)) ∧ Rep S w' b (wantL l id s) ∧ Keeps S w w'
  all : ∀ (S : Nat → Prop) (w : World) (b : Nat) (l : List Nd), Rep S w b l → Good l →
    Calls Try.prog 15 #[at_ b] w fun e w' => ∃ A c, e = .returned (.slice A l.length c) ∧ Nodes (fun i => w.heap.size ≤ i) w' w.heap.size A c l ∧ Below w.heap.size w w'

section
variable {Rep : (Nat → Prop) → World → Nat → List Nd → Prop}
theorem ForestOk.below (O : ForestOk Rep) {S : Nat → Prop} {w w' : World} {b : Nat} {l : List Nd} (h : Rep S w b l) (hb : Below w.heap.size w w') : Rep S w' b l :=
  O.keep h (Keeps.of_below (F := fun i => w.heap.size ≤ i) hb fun _ _ h => h) fun _ _ hi => Nat.not_le.2 hi

/-- An append of a whole list, as one operation. -/
theorem wp_append_gives {P : Program} {w : World} {o : Oper} {a : Act} {K : Act → World → Prop} {Q : Exit → Act → World → Prop} (s x : Operand) (t : TypeId)
    (ho : o.op = .call { callee := .builtin .append, args := #[s, x], argTypes := #[t, t] })
    (base : Nat) (e : TypeId) (i : TypeInfo) (z : Value) (size bytes : Nat) (ht : P.underlying t = some (.slice e)) (hi : P.info? e = some i) (hz : i.zero = some z)
    (hsize : i.size = size) (hby : i.bytes = bytes) (hzs : z.cells.size = size) (hsz : 0 < size)
    (v : Value) (n : Nat) (xs : List Value) (hs : a.eval s = v) (hown : w.ownsRow base e size v n xs)
    (X : Value) (m : Nat) (us : List Value) (hx : a.eval x = X) (hG : Gives w size X m us) (h1 : ∀ u ∈ us, u.oneCell' = true)
    (h63 : n + m ≤ maxLen) (hbytes : (n + m) * bytes ≤ 140737488355328) (hbase : base ≤ w.heap.size)
    (h : ∀ v' w', w'.ownsRow base e size v' (n + m) (xs ++ us) → w.grownBy w' v.ownBlock → K (a.put o.dst v') w') : o.wp P a w K Q := by
  rcases hG with ⟨rfl, rfl, rfl⟩ | ⟨ad, c, rfl, hl, hc⟩
  · have hrun := run_append_owned_none (P := P) (w := w) base t o.type e i size ht hi v n xs hown
    have hk := h v w (by rw [List.append_nil]; exact hown) ⟨rfl, rfl, rfl, Nat.le_refl _, fun _ _ _ => rfl⟩
    unfold Oper.wp
    simp [execOp, ho, resolve, invoke, builtin, hs, hx, hrun, Result.andThen]
    exact hk
  · exact wp_append_own w s x t ho base e i z size bytes ht hi hz hsize hby hzs hsz v n xs hs hown ad m c us hx hl hc h1 h63 hbytes hbase fun v' w' h2 h3 _ => h v' w' h2 h3

/-- A number and an error's number; the forest is l' then. -/
def Did (Rep : (Nat → Prop) → World → Nat → List Nd → Prop) (S : Nat → Prop) (w : World) (b : Nat) (l' : List Nd) (no err : Int) (e : Ending) (w' : World) : Prop :=
  e = .returned (.tuple #[.int .i64 no, .int .i64 err]) ∧ Rep S w' b l' ∧ Keeps S w w'

set_option linter.unusedSimpArgs false in
set_option maxHeartbeats 8000000 in
set_option maxRecDepth 100000 in
theorem do4_any (O : ForestOk Rep) (S : Nat → Prop) (w : World) (b : Nat) (l : List Nd) (x : Ac) (A1 : Option Addr) (c1 : Nat) (A2 : Option Addr) (c2 : Nat) (hR : Rep S w b l) (hg : Good l) (hS : Fut S w.heap.size) (hx1 : ListIn w A1 c1 x.n.kids) (hx : ActIn w x A2 c2) (hxl : x.l.length ≤ 200) :
    Calls Try.prog 9 #[at_ b, actVal x (.slice A1 x.n.kids.length c1) (.slice A2 x.l.length c2)] w (Did Rep S w b (actL l x) (actNo l x) (actErr l x)) := by
  obtain ⟨kx, ax, bx, sx, ⟨k, pa, ho, sh, m, sl, na, wa, ks⟩, xs⟩ := x
  have hbb : Below w.heap.size w (w.alloc (.cells #[.int .i64 kx, .int .i64 ax, .int .i64 bx, .string sx, .int .i64 k, .int .i64 pa, .int .i64 ho, .int .i64 sh, .int .i64 m, .bool sl, .string na, .string wa, .slice A1 ks.length c1, .slice A2 xs.length c2] 35)) := (Below.refl _ w).alloc (Nat.le_refl _) _
  have hRb := O.below hR hbb
  have hxb := hx.below hbb
  have hx1b := hx1.below hbb
  have hSb := hS.mono hbb.size
  have hkb : Keeps S w (w.alloc (.cells #[.int .i64 kx, .int .i64 ax, .int .i64 bx, .string sx, .int .i64 k, .int .i64 pa, .int .i64 ho, .int .i64 sh, .int .i64 m, .bool sl, .string na, .string wa, .slice A1 ks.length c1, .slice A2 xs.length c2] 35)) := (Keeps.refl _ _).alloc _
  obtain ⟨q1, q2, q3, q4, q5, q6⟩ := hxb
  have HR0 := Lib.hid (O.wide hR (S' := fun i => S i ∧ i < w.heap.size) fun i hi hlt => ⟨hi, hlt⟩)
  have HR := Lib.hid hRb
  have HS := Lib.hid hSb
  have H1 := Lib.hid hx1b
  have H5 := Lib.hid q5
  have H6 := Lib.hid q6
  have Hbb := Lib.hid hbb
  have Hkb := Lib.hid hkb
  have Hg := Lib.hid hg
  simp only at q1 q2 q3 q4 hxl
  unfold actVal
  simp only
  clear hR hg hS hx1 hx hRb hx1b hSb hkb hbb q5 q6
  obtain ⟨X, hX⟩ : ∃ X : Ac, X = ⟨kx, ax, bx, sx, ⟨k, pa, ho, sh, m, sl, na, wa, ks⟩, xs⟩ := ⟨_, rfl⟩
  rw [← hX]
  by_cases h0 : kx = 0
  · subst h0
    have e1 : actL l X = mkL l ⟨k, pa, ho, sh, m, sl, na, wa, ks⟩ := by rw [hX]; rfl
    have e2 : actNo l X = mkNo l ⟨k, pa, ho, sh, m, sl, na, wa, ks⟩ := by rw [hX]; rfl
    have e3 : actErr l X = mkErr l.length ⟨k, pa, ho, sh, m, sl, na, wa, ks⟩ := by rw [hX]; rfl
    rw [e1, e2, e3]
    clear e1 e2 e3 hX
    go_enter Try.func9, Try.ntmps9
    go_wp2_with fail
    refine (O.make S _ b l k pa ho sh m sl na wa ks A1 c1 HR.out Hg.out HS.out q2 q3 H1.out).mono ?_
    rintro e w1 ⟨rfl, hR1, hk1⟩
    go_wp2
    go_ret2
    exact ⟨rfl, hR1, Hkb.out.also hk1⟩
  · have h0' : (kx == 0) = false := by simpa using h0
    have n3 : actNo l X = 0 := by rw [hX]; exact if_neg h0
    rw [n3]
    clear n3
    by_cases h1 : kx = 1
    · subst h1
      have e1 : actL l X = putL l ax xs := by rw [hX]; rfl
      have e2 : actErr l X = putErr l ax xs := by rw [hX]; rfl
      rw [e1, e2]
      clear e1 e2 hX
      obtain ⟨i0, hi, hz0, hz1, hz2⟩ := info_parts Try.infoInt
      have Hi := Lib.hid hi
      have Hz0 := Lib.hid hz0
      have Hz1 := Lib.hid hz1
      have Hz2 := Lib.hid hz2
      have hbox : Has (w.alloc (.cells #[.int .i64 1, .int .i64 ax, .int .i64 bx, .string sx, .int .i64 k, .int .i64 pa, .int .i64 ho, .int .i64 sh, .int .i64 m, .bool sl, .string na, .string wa, .slice A1 ks.length c1, .slice A2 xs.length c2] 35)) w.heap.size (.cells #[.int .i64 1, .int .i64 ax, .int .i64 bx, .string sx, .int .i64 k, .int .i64 pa, .int .i64 ho, .int .i64 sh, .int .i64 m, .bool sl, .string na, .string wa, .slice A1 ks.length c1, .slice A2 xs.length c2] 35 (0, 0)) := Has.fresh _ _
      clear hi hz0 hz1 hz2
      go_enter Try.func9, Try.ntmps9
      go_wp2_with fail
      obtain ⟨wb, hwb⟩ : ∃ wb, wb = w.alloc (.cells #[.int .i64 1, .int .i64 ax, .int .i64 bx, .string sx, .int .i64 k, .int .i64 pa, .int .i64 ho, .int .i64 sh, .int .i64 m, .bool sl, .string na, .string wa, .slice A1 ks.length c1, .slice A2 xs.length c2] 35) := ⟨_, rfl⟩
      rw [← hwb]
      rw [← hwb] at hbox HR HS H6 Hbb Hkb
      clear hwb H1
      have two : ∀ (w' : World), Has w' w.heap.size (.cells #[.int .i64 1, .int .i64 ax, .int .i64 bx, .string sx, .int .i64 k, .int .i64 pa, .int .i64 ho, .int .i64 sh, .int .i64 m, .bool sl, .string na, .string wa, .slice A1 ks.length c1, .slice A2 xs.length c2] 35 (0, 0)) → w'.cell? ⟨w.heap.size, 1, none⟩ = some (.int .i64 ax) ∧ w'.cell? ⟨w.heap.size, 13, none⟩ = some (.slice A2 xs.length c2) := fun _ h => ⟨Has.cell h 1, Has.cell h 13⟩
      have Two := Lib.hid two
      clear two
      refine wp_region_way (late := []) (S := fun w' => w'.cell? ⟨w.heap.size, 1, none⟩ = some (.int .i64 ax) ∧ w'.cell? ⟨w.heap.size, 13, none⟩ = some (.slice A2 xs.length c2)) (y := Way.takes [0, 1, 2, 4, 5] (.run 3 (.run 6 (.run 7 (.take 8 (.take 9 .fin)))))) (by kernel_rfl) (by kernel_rfl) rfl (by kernel_rfl) (Two.out _ hbox) (fun hHeld => ?_)
      simp only [Way.takes]
      (repeat (first | (refine way_skip (by simp only [List.getElem?_toArray, List.getElem?_cons_succ, List.getElem?_cons_zero]; rfl) (by rfl) hHeld ?_; (try simp only [Act.put, List.setIfInBounds_toArray, List.set_cons_zero, List.set_cons_succ])) | (refine way_pass (by simp only [List.getElem?_toArray, List.getElem?_cons_succ, List.getElem?_cons_zero]; rfl) (by rfl) hHeld ?_; (try simp only [Act.put, List.setIfInBounds_toArray, List.set_cons_zero, List.set_cons_succ])) | (refine way_take (v := ?_) (by simp only [List.getElem?_toArray, List.getElem?_cons_succ, List.getElem?_cons_zero]; rfl) (by rfl) ?_ hHeld ?_; rotate_left; (focus (intro w hSw; (try dsimp only at hSw); go_simp; (try with_reducible rfl); done)); (try simp only [Act.put, List.setIfInBounds_toArray, List.set_cons_zero, List.set_cons_succ]))))
      refine way_run (by simp only [List.getElem?_toArray, List.getElem?_cons_succ, List.getElem?_cons_zero]; rfl) (by rfl) (fun K hK => ?_)
      go_simp
      have hb1 : Below wb.heap.size wb (wb.alloc (.cells #[] 3)).drew := ((Below.refl _ wb).alloc (Nat.le_refl _) _).drew
      have hbox1 := hbox.below hb1 hbox.inside
      have hown : (wb.alloc (.cells #[] 3)).drew.ownsRow wb.heap.size 3 1 (.slice (some ⟨wb.heap.size, 0, none⟩) 0 0) 0 [] := World.ownsRow_lit wb #[] 0 (Nat.le_refl _) (Nat.zero_le _) rfl
      have hgv : Gives (wb.alloc (.cells #[] 3)).drew 1 (.slice A2 xs.length c2) xs.length (xs.map (Value.int .i64)) := nums_gives ((H6.out).below hb1) rfl H5.out
      refine hK.out _ _ (Two.out _ hbox1) (fun hHeld => ?_)
      clear hK K
      (try simp only [Act.put, List.setIfInBounds_toArray, List.set_cons_zero, List.set_cons_succ])
      refine way_run (by simp only [List.getElem?_toArray, List.getElem?_cons_succ, List.getElem?_cons_zero]; rfl) (by rfl) (fun K hK => ?_)
      refine wp_append_gives (.tmp 21) (.tmp 23) 31 rfl wb.heap.size 3 i0 _ 1 8 Try.underlying31 Hi.out Hz0.out Hz1.out Hz2.out rfl (by decide) (.slice (some ⟨wb.heap.size, 0, none⟩) 0 0) 0 [] rfl hown _ xs.length (xs.map (Value.int .i64)) rfl hgv (kids_one xs) (by unfold maxLen; omega) (by omega) hb1.size (fun v2 w2 ho2 hg2 => ?_)
      obtain ⟨A5, c5, rfl, hc5⟩ := own_form (by rw [Nat.zero_add] at ho2; exact ho2)
      obtain ⟨hk2, hb2, hs2⟩ := kids_new (G := fun i => wb.heap.size ≤ i) ho2 ⟨hg2.os, hg2.tape, hg2.output, hg2.size, hg2.block⟩ (fun _ h => h)
      have hbox2 := hbox.below hb2 hbox.inside
      refine hK.out _ _ (Two.out _ hbox2) (fun hHeld => ?_)
      clear hK K hown hgv ho2 hg2
      (try simp only [Act.put, List.setIfInBounds_toArray, List.set_cons_zero, List.set_cons_succ])
      refine way_run (by simp only [List.getElem?_toArray, List.getElem?_cons_succ, List.getElem?_cons_zero]; rfl) (by rfl) (fun K hK => ?_)
      go_simp
      obtain ⟨A6, c6, e6, hcap6, hnum6⟩ := hk2.form
      obtain ⟨rfl, rfl⟩ : A5 = A6 ∧ c5 = c6 := by injection e6 with e1 _ e3; exact ⟨e1, e3⟩
      have hnil : A5 = none → c5 = 0 := fun e => by
        subst e
        rcases hk2.1.2 with ⟨e, _⟩ | ⟨g, cap, cur, e, _⟩
        · injection e
        · cases e
      have hL2 : ListIn w2 A5 c5 xs := ⟨hcap6, hnil, hnum6⟩
      have hws : w.heap.size ≤ wb.heap.size := Hbb.out.size
      have hR1 : Rep (fun i => S i ∧ i < w.heap.size) wb b l := O.below HR0.out Hbb.out
      have hR2 : Rep (fun i => (S i ∧ i < w.heap.size) ∨ w2.heap.size ≤ i) w2 b l := O.wide (O.below hR1 hb2) fun i hi _ => .inl hi
      have hapart : ∀ b' off s, A5 = some ⟨b', off, s⟩ → b' < w2.heap.size → ¬ ((S b' ∧ b' < w.heap.size) ∨ w2.heap.size ≤ b') := fun b' off s e hlt hh => by
        subst e
        have := hk2.2 b' rfl
        rcases hh with ⟨_, h⟩ | h <;> omega
      refine (O.put _ w2 b l ax xs A5 c5 hR2 Hg.out (fun i hi => .inr hi) hxl hL2 hapart).mono ?_
      rintro e w3 ⟨rfl, hR3, hk3⟩
      have hR4 : Rep S w3 b (putL l ax xs) := O.wide hR3 fun i hi _ => by
        rcases hi with h | h
        · exact h.1
        · exact HS.out i (Nat.le_trans hb2.size h)
      have hK4 : Keeps S w w3 := (Hkb.out.also (Keeps.of_below (F := S) hb2 fun i _ hi => HS.out i hi)).trans hk3 fun i _ hi => by
        rcases hi with h | h
        · exact h.1
        · exact HS.out i (Nat.le_trans hb2.size h)
      have hin2 := hbox2.inside
      have hbox3 : Has w3 w.heap.size _ := hbox2.kept hk3 fun hh => by
        rcases hh with ⟨_, h⟩ | h <;> omega
      go_simp
      refine hK.out _ _ (Two.out _ hbox3) (fun hHeld => ?_)
      clear hK K
      (try simp only [Act.put, List.setIfInBounds_toArray, List.set_cons_zero, List.set_cons_succ])
      (repeat (first | (refine way_skip (by simp only [List.getElem?_toArray, List.getElem?_cons_succ, List.getElem?_cons_zero]; rfl) (by rfl) hHeld ?_; (try simp only [Act.put, List.setIfInBounds_toArray, List.set_cons_zero, List.set_cons_succ])) | (refine way_pass (by simp only [List.getElem?_toArray, List.getElem?_cons_succ, List.getElem?_cons_zero]; rfl) (by rfl) hHeld ?_; (try simp only [Act.put, List.setIfInBounds_toArray, List.set_cons_zero, List.set_cons_succ])) | (refine way_take (v := ?_) (by simp only [List.getElem?_toArray, List.getElem?_cons_succ, List.getElem?_cons_zero]; rfl) (by rfl) ?_ hHeld ?_; rotate_left; (focus (intro w hSw; (try dsimp only at hSw); go_simp; (try with_reducible rfl); done)); (try simp only [Act.put, List.setIfInBounds_toArray, List.set_cons_zero, List.set_cons_succ]))))
      refine way_done ?_
      go_wp2
      go_ret2
      exact ⟨rfl, hR4, hK4⟩
    · have h1' : (kx == 1) = false := by simpa using h1
      by_cases h2 : kx = 2
      · subst h2
        have e1 : actL l X = tieL l ax bx := by rw [hX]; rfl
        have e2 : actErr l X = tieErr l ax bx := by rw [hX]; rfl
        rw [e1, e2]
        clear e1 e2 hX
        go_enter Try.func9, Try.ntmps9
        go_wp2_with fail
        refine (O.tie S _ b l ax bx HR.out Hg.out HS.out).mono ?_
        rintro e w1 ⟨rfl, hR1, hk1⟩
        go_wp2
        go_ret2
        exact ⟨rfl, hR1, Hkb.out.also hk1⟩
      · have h2' : (kx == 2) = false := by simpa using h2
        by_cases h3 : kx = 3
        · subst h3
          have e1 : actL l X = nameL l ax sx := by rw [hX]; rfl
          have e2 : actErr l X = nameErr l ax sx := by rw [hX]; rfl
          rw [e1, e2]
          clear e1 e2 hX
          go_enter Try.func9, Try.ntmps9
          go_wp2_with fail
          refine (O.name S _ b l ax sx HR.out Hg.out HS.out q1).mono ?_
          rintro e w1 ⟨rfl, hR1, hk1⟩
          go_wp2
          go_ret2
          exact ⟨rfl, hR1, Hkb.out.also hk1⟩
        · have h3' : (kx == 3) = false := by simpa using h3
          by_cases h4 : kx = 4
          · subst h4
            have e1 : actL l X = wantL l ax sx := by rw [hX]; rfl
            have e2 : actErr l X = wantErr l ax sx := by rw [hX]; rfl
            rw [e1, e2]
            clear e1 e2 hX
            go_enter Try.func9, Try.ntmps9
            go_wp2_with fail
            refine (O.want S _ b l ax sx HR.out Hg.out HS.out q1).mono ?_
            rintro e w1 ⟨rfl, hR1, hk1⟩
            go_wp2
            go_ret2
            exact ⟨rfl, hR1, Hkb.out.also hk1⟩
          · have h4' : (kx == 4) = false := by simpa using h4
            have e1 : actL l X = l := by rw [hX]; simp only [actL, if_neg h0, if_neg h1, if_neg h2, if_neg h3, if_neg h4]
            have e2 : actErr l X = 0 := by rw [hX]; simp only [actErr, if_neg h0, if_neg h1, if_neg h2, if_neg h3, if_neg h4]
            rw [e1, e2]
            clear e1 e2 hX
            go_enter Try.func9, Try.ntmps9
            go_wp2
            go_ret2
            exact ⟨rfl, HR.out, Hkb.out⟩
end
end Go.Proofs.Ytlbaahfadfmffaa
