/-
  What an append of a whole list does, and towncrierref04.Copy.
-/
import Derived.Test.YtkafaceanlkjjaaFr
namespace Go.Proofs.Ytkafaceanlkjjaa
open Go Go.RowKit
variable {G : Nat → Prop}

/-- What a slice gives to an append: m elements of so many cells; nil gives none. -/
def Gives (w : World) (size : Nat) (x : Value) (m : Nat) (us : List Value) : Prop :=
  (x = .slice none 0 0 ∧ m = 0 ∧ us = []) ∨ ∃ ad c, x = .slice (some ad) m c ∧ us.length = m * size ∧ ∀ j u, us[j]? = some u → w.cell? (ad.add j) = some u

theorem own_gives {w : World} {base n size : Nat} {e : TypeId} {v : Value} {us : List Value} (h : w.ownsRow base e size v n us) : Gives w size v n us := by
  rcases h.2 with ⟨rfl, rfl⟩ | ⟨g, cap, cur, rfl, _, hg, _⟩
  · exact .inl ⟨rfl, rfl, List.eq_nil_of_length_eq_zero (by simpa using h.1)⟩
  · exact .inr ⟨_, _, rfl, h.1, h.cells rfl⟩
theorem nums_gives {w : World} {B n c : Nat} {A : Option Addr} {xs : List Int} (h : Nums w B A .i64 xs) (hn : n = xs.length) (h0 : A = none → c = 0) : Gives w 1 (.slice A n c) n (xs.map (Value.int .i64)) := by
  subst hn
  cases A with
  | none =>
    obtain rfl := h0 rfl
    have : xs = [] := by
      cases xs with
      | nil => rfl
      | cons x r =>
        obtain ⟨_, _, e, _⟩ := h 0 (by simp)
        cases e
    subst this
    exact .inl ⟨rfl, rfl, rfl⟩
  | some a =>
    refine .inr ⟨a, c, rfl, by simp, fun j u hu => ?_⟩
    obtain ⟨hj, rfl⟩ := List.getElem?_eq_some_iff.1 hu
    rw [List.length_map] at hj
    obtain ⟨b, off, e, _, hc⟩ := h j hj
    cases e
    rw [Addr.add_lit, hc, List.getElem_map]

theorem wpList_append_gives {P : Program} {w : World} {ops : Array Oper} {rest : List Oper} {o : Oper} {a : Act} {Q : Exit → Act → World → Prop} (hgd : o.guard = none) (s x : Operand) (t : TypeId)
    (ho : o.op = .call { callee := .builtin .append, args := #[s, x], argTypes := #[t, t] })
    (base : Nat) (e : TypeId) (i : TypeInfo) (z : Value) (size bytes : Nat) (ht : P.underlying t = some (.slice e)) (hi : P.info? e = some i) (hz : i.zero = some z)
    (hsize : i.size = size) (hby : i.bytes = bytes) (hzs : z.cells.size = size) (hsz : 0 < size)
    (v : Value) (n : Nat) (xs : List Value) (hs : a.eval s = v) (hown : w.ownsRow base e size v n xs)
    (X : Value) (m : Nat) (us : List Value) (hx : a.eval x = X) (hG : Gives w size X m us) (h1 : ∀ u ∈ us, u.oneCell' = true)
    (h63 : n + m ≤ maxLen) (hbytes : (n + m) * bytes ≤ 140737488355328) (hbase : base ≤ w.heap.size)
    (h : ∀ v' w', w'.ownsRow base e size v' (n + m) (xs ++ us) → w.grownBy w' v.ownBlock → wpList P ops Q rest (a.put o.dst v') w') : wpList P ops Q (o :: rest) a w := by
  rcases hG with ⟨rfl, rfl, rfl⟩ | ⟨ad, c, rfl, hl, hc⟩
  · refine wpList_append_own_none hgd s x t ho base e i size ht hi v n xs hs hown hx (h v w ?_ ⟨rfl, rfl, rfl, Nat.le_refl _, fun _ _ _ => rfl⟩)
    rw [List.append_nil]
    exact hown
  · exact wpList_append_own w hgd s x t ho base e i z size bytes ht hi hz hsize hby hzs hsz v n xs hs hown ad m c us hx hl hc h1 h63 hbytes hbase fun v' w' h2 h3 _ => h v' w' h2 h3

theorem own_form {w : World} {base n size : Nat} {e : TypeId} {v : Value} {us : List Value} (h : w.ownsRow base e size v n us) : ∃ A c, v = .slice A n c ∧ n ≤ c := by
  rcases h.2 with ⟨rfl, rfl⟩ | ⟨g, cap, cur, rfl, _, _, hc, _⟩
  · exact ⟨_, _, rfl, Nat.le_refl _⟩
  · exact ⟨_, _, rfl, hc⟩

theorem Try.infoInt : (Try.prog.info? 3).map (fun i => (i.zero, i.size, i.bytes)) = some (some (.int .i64 0), 1, 8) := by kernel_rfl
theorem Try.infoNode : (Try.prog.info? 41).map (fun i => (i.zero, i.size, i.bytes)) = some (some (.agg #[.int .i64 0, .int .i64 0, .int .i64 0, .int .i64 0, .int .i64 0, .bool false, .string ⟨#[]⟩, .string ⟨#[]⟩, .slice none 0 0]), 9, 104) := by kernel_rfl

theorem kids_one (xs : List Int) : ∀ u ∈ xs.map (Value.int .i64), u.oneCell' = true := by
  intro u hu
  obtain ⟨x, _, rfl⟩ := List.mem_map.1 hu
  rfl
theorem Kids.one {w : World} {v : Value} {xs : List Int} (h : Kids G w v xs) : v.oneCell' = true := by
  rcases h.1.2 with ⟨rfl, _⟩ | ⟨g, cap, cur, rfl, _⟩ <;> rfl

/-- A new list of numbers, and nothing else. -/
theorem kids_new {wr w2 : World} {v2 : Value} {kd : List Int} (ho : w2.ownsRow wr.heap.size 3 1 v2 (0 + kd.length) ([] ++ kd.map (Value.int .i64))) (hg : (wr.alloc (.cells #[] 3)).grownBy w2 (some wr.heap.size)) (hG : Fut G wr.heap.size) :
    Kids G w2 v2 kd ∧ Below wr.heap.size wr w2 ∧ wr.heap.size < w2.heap.size := by
  rw [Nat.zero_add, List.nil_append] at ho
  refine ⟨⟨own_base ho (Nat.zero_le _), fun g hg => hG g (ho.lt g hg).1⟩, ((Below.refl _ wr).alloc (Nat.le_refl _) _).grown hg (by simp) fun k hk => ?_, ?_⟩
  · have : wr.heap.size = k := by simpa using hk
    omega
  · have := hg.size
    simp at this
    omega
/-- A node's children stand elsewhere. -/
theorem Nodes.kidsTo {w : World} {B g c j : Nat} {l : List Nd} {v : Value} (h : Nodes G w B (some ⟨g, 0, none⟩) c l) (hj : j < l.length) (hk : Kids G w v l[j].kids) : (∃ x, w.cell? ⟨g, j * 9 + 8, none⟩ = some x) ∧ w.frozen? ⟨g, j * 9 + 8, none⟩ = false ∧ Nodes G (w.setCell ⟨g, j * 9 + 8, none⟩ v) B (some ⟨g, 0, none⟩) c l := by
  obtain ⟨g', k', e, _, _, hf, hc⟩ := h.at_ hj
  obtain rfl : g = g' := by simpa using e
  refine ⟨⟨k', hc 8 (by omega)⟩, hf _, ?_⟩
  have := h.store hj (f := 8) (by omega) (u := v) (d := l[j]) (fun k' => ⟨v, rfl, fun _ => hk⟩)
  rw [List.set_getElem_self] at this
  exact this

set_option maxHeartbeats 4000000 in
set_option maxRecDepth 100000 in
theorem copy_any (l : List Nd) (A : Option Addr) (c : Nat) (w : World) (hl : l.length ≤ 1000) (hk : ∀ d ∈ l, d.kids.length ≤ 100000) (hG : Fut G w.heap.size) (h : Nodes G w 0 A c l) :
    Calls Try.prog 56 #[.slice A l.length c] w fun e w' => ∃ A' c', e = .returned (.slice A' l.length c') ∧ Nodes G w' w.heap.size A' c' l ∧ Below w.heap.size w w' := by
  obtain ⟨i0, hi, hz0, hz1, hz2⟩ := info_parts Try.infoInt
  obtain ⟨j0, qi, qz0, qz1, qz2⟩ := info_parts Try.infoNode
  have Hi := Lib.hid hi
  have Hz0 := Lib.hid hz0
  have Hz1 := Lib.hid hz1
  have Hz2 := Lib.hid hz2
  have Qi := Lib.hid qi
  have Qz0 := Lib.hid qz0
  have Qz1 := Lib.hid qz1
  have Qz2 := Lib.hid qz2
  have Hk := Lib.hid hk
  have H := Lib.hid h
  clear hi hz0 hz1 hz2 qi qz0 qz1 qz2 hk h
  go_enter Try.func56, Try.ntmps56
  obtain ⟨rows, hr1, hr2, hr3, -⟩ := H.out
  have hrl : rows.length = l.length := by rw [← hr1, List.length_map]
  have hown0 : (w.alloc (.cells #[] 41)).ownsRow w.heap.size 41 9 (.slice (some ⟨w.heap.size, 0, none⟩) 0 0) 0 [] := World.ownsRow_lit w #[] 0 (Nat.le_refl _) (Nat.zero_le _) rfl
  have hgv : Gives (w.alloc (.cells #[] 41)) 9 (.slice A l.length c) l.length (flat rows) := own_gives (hr2.alloc _)
  have hone := flat_one (fun p hp => (hr3 p hp).one)
  have Hown0 := Lib.hid hown0
  have Hgv := Lib.hid hgv
  have Hone := Lib.hid hone
  have Hr1 := Lib.hid hr1
  have Hr3 := Lib.hid hr3
  have Hrl := Lib.hid hrl
  clear hown0 hgv hone hr1 hr2 hr3 hrl
  go_wp2_with (at_builtin; refine wpList_append_gives rfl (.tmp 5) (.tmp 6) 27 rfl w.heap.size 41 j0 _ 9 104 Try.underlying27 Qi.out Qz0.out Qz1.out Qz2.out rfl (by decide) (.slice (some ⟨w.heap.size, 0, none⟩) 0 0) 0 [] rfl Hown0.out _ l.length (flat rows) rfl Hgv.out Hone.out (by unfold maxLen; omega) (by omega) (by simp) ?_; intro v1 w1 ho hg; obtain ⟨A1, c1, rfl, hc1⟩ := own_form (by rw [Nat.zero_add] at ho; exact ho))
  have hN1 : Nodes G w1 w.heap.size A1 c1 l := by
    rw [Nat.zero_add, List.nil_append] at ho
    refine ⟨rows, Hr1.out, ho, fun p hp => ?_, fun b off s e => by subst e; exact hG b (ho.lt b rfl).1⟩
    have k1 : Kids G (w.alloc (.cells #[] 41)) p.2 p.1.kids := (Hr3.out p hp).kept (F := fun _ => False) ((Keeps.refl _ _).alloc _) fun _ _ h => h
    refine ⟨own_kept k1.1 (Keeps.of_grown hg) fun g hg' e => ?_, k1.2⟩
    have := own_in (Hr3.out p hp).1 g hg'
    have : w.heap.size = g := by simpa [Value.ownBlock] using e
    omega
  have hb1 : Below w.heap.size w w1 := by
    refine ((Below.refl _ w).alloc (Nat.le_refl _) _).grown hg (by simp) fun k hk => ?_
    have : w.heap.size = k := by simpa [Value.ownBlock] using hk
    omega
  clear ho hg Hown0 Hgv Hone Hr1 Hr3 Hrl
  go_loopw [4] (fun i wr => ∃ j : Nat, i = .int .i64 j ∧ j ≤ l.length ∧ Nodes G wr w.heap.size A1 c1 l ∧ Below w.heap.size w wr) (fun i _ => l.length - (intOf i).toNat)
  case atStart => exact ⟨0, rfl, Nat.zero_le _, hN1, hb1⟩
  case round =>
    obtain ⟨j, rfl, hj, hN, hb⟩ := hrel
    clear hN1 hb1
    by_cases hjl : (j : Int) < l.length
    · have hj' : j < l.length := by omega
      obtain ⟨g, k, rfl, -, hk1, hf1, hcell⟩ := (H.out.below hb).at_ hj'
      obtain ⟨g', k', rfl, hg', -, hf2, hcell2⟩ := hN.at_ hj'
      have c8 : (wr.alloc (.cells #[] 3)).cell? ⟨g, j * 9 + 8, none⟩ = some k := by
        rw [World.cell?_alloc_past _ _ _ ((H.out.below hb).inside _ _ _ rfl)]
        exact hcell 8 (by omega)
      have hkl : l[j].kids.length ≤ 100000 := Hk.out _ (List.getElem_mem hj')
      obtain ⟨kd, hkd⟩ : ∃ kd, kd = l[j].kids := ⟨_, rfl⟩
      rw [← hkd] at hk1 hkl
      have Hkd := Lib.hid hkd
      have Hc2 := Lib.hid hcell2
      have Hf2 := Lib.hid hf2
      clear hcell hcell2 hkd hf1 hf2
      have hown : (wr.alloc (.cells #[] 3)).ownsRow wr.heap.size 3 1 (.slice (some ⟨wr.heap.size, 0, none⟩) 0 0) 0 [] := World.ownsRow_lit wr #[] 0 (Nat.le_refl _) (Nat.zero_le _) rfl
      have hgv : Gives (wr.alloc (.cells #[] 3)) 1 k kd.length (kd.map (Value.int .i64)) := own_gives (hk1.1.alloc _)
      have Hown := Lib.hid hown
      have Hgv := Lib.hid hgv
      clear hown hgv
      obtain ⟨Ak, ck, rfl, _⟩ := own_form hk1.1
      go_wp2_with (at_builtin; refine wpList_append_gives rfl (.tmp 16) (.tmp 21) 32 rfl wr.heap.size 3 i0 _ 1 8 Try.underlying32 Hi.out Hz0.out Hz1.out Hz2.out rfl (by decide) (.slice (some ⟨wr.heap.size, 0, none⟩) 0 0) 0 [] rfl Hown.out _ kd.length (kd.map (Value.int .i64)) rfl Hgv.out (kids_one kd) (by unfold maxLen; omega) (by omega) (by simp) ?_; intro v2 w2 ho2 hg2; obtain ⟨A2, c2, rfl, hc2⟩ := own_form (by rw [Nat.zero_add] at ho2; exact ho2); obtain ⟨hk2, hb2, hs2⟩ := kids_new (G := G) ho2 hg2 (hG.mono hb.size); rw [Hkd.out] at hk2; obtain ⟨⟨x8, hx8⟩, hz8, hN3⟩ := (hN.below hb2).kidsTo hj' hk2)
      go_roundw
      case rel => exact ⟨j + 1, by go_num, by omega, by rw [← Hkd.out] at hN3; exact hN3, (hb.trans (hb2.mono hb.size)).setCell hg' _⟩
      case measure => simp [intOf]; omega
    · go_wp2
      go_ret
      exact ⟨_, _, rfl, hN, hb⟩
end Go.Proofs.Ytkafaceanlkjjaa
