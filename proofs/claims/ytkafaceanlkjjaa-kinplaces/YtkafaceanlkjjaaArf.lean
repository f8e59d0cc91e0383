/-
  What copyOf and Node of package arena do.
-/
import Derived.Test.YtkafaceanlkjjaaArb
import Derived.Test.YtkafaceanlkjjaaFi
import Derived.Laws.CopyOwn
namespace Go.Proofs.Ytkafaceanlkjjaa
open Go Go.RowKit

section
variable {G S : Nat → Prop} {w : World} {b : Nat} {l : List Nd} {xs : List Int}
/-- A list of the call's own is a list. -/
theorem Kids.list {v : Value} (h : Kids G w v xs) : ∃ A c, v = .slice A xs.length c ∧ ListIn w A c xs := by
  obtain ⟨A, c, rfl, hc, hn⟩ := h.form
  refine ⟨A, c, rfl, hc, fun e => ?_, hn⟩
  subst e
  rcases h.1.2 with ⟨e, _⟩ | ⟨g, cap, cur, e, _⟩
  · injection e
  · cases e
theorem kids_none (G : Nat → Prop) (w : World) : Kids G w (.slice none 0 0) [] := ⟨World.ownsRow_nil _ _ _ _, fun _ h => absurd h (by simp [Value.ownBlock])⟩
theorem info_int1 : (Try.prog.info? 3).map (·.size) = some 1 := by kernel_rfl

theorem made_row {w1 : World} {B g n : Nat} {us : List Value} (h : w1.ownsRow B 3 1 (.slice (some ⟨g, 0, none⟩) n n) n us) : ∃ cur : List Value, cur.length = n ∧ Has w1 g (.cells cur.toArray 3 (0, 0)) := by
  rcases h.2 with ⟨h', _⟩ | ⟨g', cap, cur, h', _, hg, _, _, hs, _⟩
  · cases h'
  · injection h' with e1 _ e3
    obtain rfl : g = g' := by simpa using e1
    exact ⟨cur.toList, by simp [hs, e3], hg⟩
theorem wpList_make_ints {P : Program} {ops : Array Oper} {rest : List Oper} {o : Oper} {a : Act} {Q : Exit → Act → World → Prop}
    (hg : o.guard = none) (l c : Operand) (t : TypeId) (hop : o.op = Op.makeSlice t l c) (i : TypeInfo) (z : Value) (h1 : P.underlying t = some (.slice 3)) (h2 : P.info? 3 = some i) (h3 : i.zero = some z) (h4 : i.size = 1)
    (kl kc : IntKind) (L C : Int) (n : Nat) (hl : a.eval l = .int kl L) (hc : a.eval c = .int kc C) (hL : L = (n : Int)) (hC : C = (n : Int)) (b2 : i.bytes * n ≤ 281474976710656) (b3 : n ≤ maxLen)
    (hK : ∀ w' (cur : List Value), Hid (cur.length = n) → Hid (w'.heap[w.heap.size]? = some (.cells cur.toArray 3 (0, 0))) → Below w.heap.size w w' → wpList P ops Q rest (a.put o.dst (.slice (some ⟨w.heap.size, 0, none⟩) n n)) w') : wpList P ops Q (o :: rest) a w :=
  wpList_make_full w hg l c t hop w.heap.size 3 i z 1 h1 h2 h3 h4 kl kc L C n hl hc hL hC b2 b3 (Nat.le_refl _) fun w' ho hgr => by
    obtain ⟨cur, h5, h6⟩ := made_row ho
    exact hK w' cur h5 h6 ((Below.refl _ w).grown hgr (Nat.le_refl _) fun k hk => absurd hk (by simp))
theorem list_from {w1 : World} {A : Option Addr} {c : Nat} {cs : List Value} (h : ListIn w A c xs) (hb : Below w.heap.size w w1) (hcs : cs = xs.map (Value.int .i64)) (h0 : 0 < cs.length) : ∃ ad, A = some ad ∧ ∀ j v, cs[j]? = some v → w1.cell? (ad.add j) = some v := by
  subst hcs
  rcases nums_gives (n := xs.length) ((h.nums).below hb) rfl h.nil with ⟨hv, h1, h2⟩ | ⟨ad, c', hv, h1, h2⟩
  · rw [h2] at h0
    exact absurd h0 (by simp)
  · injection hv with e1
    exact ⟨ad, e1, h2⟩

set_option maxHeartbeats 2000000 in
theorem arCopy (A : Option Addr) (c : Nat) (hL : ListIn w A c xs) (hx : xs.length ≤ 200) (hG : Fut G w.heap.size) :
    Calls Try.prog 40 #[.slice A xs.length c] w fun e w' => ∃ A' c', e = .returned (.slice A' xs.length c') ∧ Kids G w' (.slice A' xs.length c') xs ∧ Below w.heap.size w w' := by
  obtain ⟨n, hn⟩ : ∃ n, n = xs.length := ⟨_, rfl⟩
  rw [← hn]
  rw [← hn] at hx
  have HL := Lib.hid hL
  have Hn := Lib.hid hn
  clear hL hn
  by_cases h0 : n = 0
  · subst h0
    obtain rfl : xs = [] := List.eq_nil_of_length_eq_zero Hn.out.symm
    go_enter Try.func40, Try.ntmps40
    go_wp2
    go_ret
    exact ⟨none, 0, rfl, kids_none _ _, Below.refl _ _⟩
  · have z0 : ((n : Int) == 0) = false := by simpa using h0
    obtain ⟨i0, hi, hz0, hz1, hz2⟩ := info_parts Try.infoInt
    have Hi := Lib.hid hi
    have Hz0 := Lib.hid hz0
    have Hz1 := Lib.hid hz1
    have Hz2 := Lib.hid hz2
    obtain ⟨cs, hcs⟩ : ∃ cs, cs = xs.map (Value.int .i64) := ⟨_, rfl⟩
    have Hcs := Lib.hid hcs
    clear hi hz0 hz1 hz2 hcs
    have hbyt : i0.bytes * n ≤ 281474976710656 := by rw [Hz2.out]; omega
    have hmax : n ≤ maxLen := by unfold maxLen; omega
    have hcn : cs.length = n := by rw [Hcs.out, List.length_map, ← Hn.out]
    have hmin : cs.length = Nat.min n n := hcn.trans (Nat.min_self n).symm
    have hone : ∀ v ∈ cs, v.oneCell' = true := by rw [Hcs.out]; exact kids_one xs
    have hsrc : ∀ w1, Below w.heap.size w w1 → 0 < cs.length → (some (⟨w.heap.size, 0, none⟩ : Addr)) = some ⟨w.heap.size, 0, none⟩ ∧ ∃ ad, A = some ad ∧ ∀ j v, cs[j]? = some v → w1.cell? (ad.add j) = some v := fun w1 hb h0 => ⟨rfl, list_from HL.out hb Hcs.out h0⟩
    have hfit : ∀ cur : List Value, cur.length = n → 0 + cs.length ≤ cur.length := fun cur hc => by omega
    have Hbyt := Lib.hid hbyt
    have Hmax := Lib.hid hmax
    have Hcn := Lib.hid hcn
    have Hmin := Lib.hid hmin
    have Hone := Lib.hid hone
    have Hsrc := Lib.hid hsrc
    have Hfit := Lib.hid hfit
    clear hbyt hmax hcn hmin hone hsrc hfit
    go_enter Try.func40, Try.ntmps40
    go_wp2_with (first | (with_reducible refine wpList_make_ints rfl (.tmp 8) (.tmp 8) 32 rfl i0 _ Try.underlying32 Hi.out Hz0.out Hz1.out .i64 .i64 _ _ n rfl rfl rfl rfl Hbyt.out Hmax.out ?_; intro w1 cur hcur hh1 hb1) | (with_reducible refine wpList_copy_splice rfl (.tmp 10) (.tmp 11) 32 32 rfl 3 Try.underlying32 info_int1 (some ⟨w.heap.size, 0, none⟩) A n n n c rfl rfl w.heap.size 0 cur 3 hh1.out cs Hmin.out (Hsrc.out _ hb1) (Hfit.out _ hcur.out) Hone.out w.heap.size w hb1 (Nat.le_refl _) ?_; intro w2 hg2 hb2))
    go_ret
    have hsp : splice cur 0 cs = cs := by
      have : cs.length = cur.length := Hcn.out.trans hcur.out.symm
      simp [splice, this]
    have hg2 : Has w2 w.heap.size (.cells cs.toArray 3 (0, 0)) := by
      have := hg2.out
      rw [hsp] at this
      exact this
    refine ⟨some ⟨w.heap.size, 0, none⟩, n, rfl, ⟨⟨by simp, .inr ⟨w.heap.size, n, cs.toArray, by rw [Hn.out], Nat.zero_le _, hg2, by rw [Hn.out]; exact Nat.le_refl _, by unfold maxLen; omega, ?_, ?_⟩⟩, fun g hg => ?_⟩, hb2⟩
    · rw [Hcs.out, Hn.out]; simp
    · rw [Hcs.out, Nat.mul_one]
      exact List.take_of_length_le (by simp)
    · obtain rfl : w.heap.size = g := by simpa [Value.ownBlock] using hg
      exact hG _ (Nat.le_refl _)
end
end Go.Proofs.Ytkafaceanlkjjaa
