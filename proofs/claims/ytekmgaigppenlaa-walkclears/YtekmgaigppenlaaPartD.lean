/-
  What copyOf and Node of package arena do.
  What Node of package arena does.
  What All of package arena does.
  What hasEachOnce and mayPut of package arena do.
  What towncrierlaw16.great does: where it says no, there are few calls with short lists.
  What a package arena must do (the document's promises, as contracts), and what towncrierlaw04.do and made do with such a one.
  What towncrierlaw04.made does with an arena that keeps its promises.
  What towncrierref01.Ints does.
  What towncrierref04.One and Same do.
  What towncrierref04.Same does.
  More promises of arena; what may be written over; a node is the same as itself.
  What Put of package arena does.
  Package arena keeps its promises.
  Forests, plain: ways up by parents alone, tree order. No program is named here.
  Lists of numbers that a call builds: put behind, cut off at the end, read. No function is named here.
  Lists of numbers that a call builds: put behind, cut off at the end, read. Only towncrier's types are named here, and slices.Index, slices.Contains.
  What package kin's Up, Root, Above do with an arena that keeps its promises.
  What package kin's Root, Above, row, Index and Next do with an arena that keeps its promises.
-/
import Derived.Test.YtekmgaigppenlaaPartC
import Derived.Laws.CopyOwn
import Derived.Laws.ResultCell

namespace Go.Proofs.Ytekmgaigppenlaa
open Go Go.RowKit

section
variable {G S : Nat → Prop} {w : World} {b : Nat} {l : List Nd} {xs : List Int}
/-- A list of the call's own is a list. -/
theorem Kids.list {v : Value} (h : Kids G w v xs) : ∃ A c, v = .slice A xs.length c ∧ ListIn w A c xs := by
  obtain ⟨A, c, rfl, hc, hn⟩ := h.form
  refine ⟨A, c, rfl, hc, fun e => ?_, hn⟩
  subst e
  rcases h.1.2 with ⟨e, _⟩ | ⟨g, cap, cur, e, _⟩
  · injection e
  · cases e
theorem kids_none (G : Nat → Prop) (w : World) : Kids G w (.slice none 0 0) [] := ⟨World.ownsRow_nil _ _ _ _, fun _ h => absurd h (by simp [Value.ownBlock])⟩
theorem info_int1 : (Try.prog.info? 3).map (·.size) = some 1 := by kernel_rfl

theorem made_row {w1 : World} {B g n : Nat} {us : List Value} (h : w1.ownsRow B 3 1 (.slice (some ⟨g, 0, none⟩) n n) n us) : ∃ cur : List Value, cur.length = n ∧ Has w1 g (.cells cur.toArray 3 (0, 0)) := by
  rcases h.2 with ⟨h', _⟩ | ⟨g', cap, cur, h', _, hg, _, _, hs, _⟩
  · cases h'
  · injection h' with e1 _ e3
    obtain rfl : g = g' := by simpa using e1
    exact ⟨cur.toList, by simp [hs, e3], hg⟩
theorem wpList_make_ints {P : Program} {ops : Array Oper} {rest : List Oper} {o : Oper} {a : Act} {Q : Exit → Act → World → Prop}
    (hg : o.guard = none) (l c : Operand) (t : TypeId) (hop : o.op = Op.makeSlice t l c) (i : TypeInfo) (z : Value) (h1 : P.underlying t = some (.slice 3)) (h2 : P.info? 3 = some i) (h3 : i.zero = some z) (h4 : i.size = 1)
    (kl kc : IntKind) (L C : Int) (n : Nat) (hl : a.eval l = .int kl L) (hc : a.eval c = .int kc C) (hL : L = (n : Int)) (hC : C = (n : Int)) (b2 : i.bytes * n ≤ 281474976710656) (b3 : n ≤ maxLen)
    (hK : ∀ w' (cur : List Value), Hid (cur.length = n) → Hid (w'.heap[w.heap.size]? = some (.cells cur.toArray 3 (0, 0))) → Below w.heap.size w w' → wpList P ops Q rest (a.put o.dst (.slice (some ⟨w.heap.size, 0, none⟩) n n)) w') : wpList P ops Q (o :: rest) a w :=
  wpList_make_full w hg l c t hop w.heap.size 3 i z 1 h1 h2 h3 h4 kl kc L C n hl hc hL hC b2 b3 (Nat.le_refl _) fun w' ho hgr => by
    obtain ⟨cur, h5, h6⟩ := made_row ho
    exact hK w' cur h5 h6 ((Below.refl _ w).grown hgr (Nat.le_refl _) fun k hk => absurd hk (by simp))
theorem list_from {w1 : World} {A : Option Addr} {c : Nat} {cs : List Value} (h : ListIn w A c xs) (hb : Below w.heap.size w w1) (hcs : cs = xs.map (Value.int .i64)) (h0 : 0 < cs.length) : ∃ ad, A = some ad ∧ ∀ j v, cs[j]? = some v → w1.cell? (ad.add j) = some v := by
  subst hcs
  rcases nums_gives (n := xs.length) ((h.nums).below hb) rfl h.nil with ⟨hv, h1, h2⟩ | ⟨ad, c', hv, h1, h2⟩
  · rw [h2] at h0
    exact absurd h0 (by simp)
  · injection hv with e1
    exact ⟨ad, e1, h2⟩

set_option maxHeartbeats 2000000 in
theorem arCopy (A : Option Addr) (c : Nat) (hL : ListIn w A c xs) (hx : xs.length ≤ 200) (hG : Fut G w.heap.size) :
    Calls Try.prog 42 #[.slice A xs.length c] w fun e w' => ∃ A' c', e = .returned (.slice A' xs.length c') ∧ Kids G w' (.slice A' xs.length c') xs ∧ Below w.heap.size w w' := by
  obtain ⟨n, hn⟩ : ∃ n, n = xs.length := ⟨_, rfl⟩
  rw [← hn]
  rw [← hn] at hx
  have HL := Lib.hid hL
  have Hn := Lib.hid hn
  clear hL hn
  by_cases h0 : n = 0
  · subst h0
    obtain rfl : xs = [] := List.eq_nil_of_length_eq_zero Hn.out.symm
    go_enter Try.func42, Try.ntmps42
    go_wp2
    go_ret
    exact ⟨none, 0, rfl, kids_none _ _, Below.refl _ _⟩
  · have z0 : ((n : Int) == 0) = false := by simpa using h0
    obtain ⟨i0, hi, hz0, hz1, hz2⟩ := info_parts Try.infoInt
    have Hi := Lib.hid hi
    have Hz0 := Lib.hid hz0
    have Hz1 := Lib.hid hz1
    have Hz2 := Lib.hid hz2
    obtain ⟨cs, hcs⟩ : ∃ cs, cs = xs.map (Value.int .i64) := ⟨_, rfl⟩
    have Hcs := Lib.hid hcs
    clear hi hz0 hz1 hz2 hcs
    have hbyt : i0.bytes * n ≤ 281474976710656 := by rw [Hz2.out]; omega
    have hmax : n ≤ maxLen := by unfold maxLen; omega
    have hcn : cs.length = n := by rw [Hcs.out, List.length_map, ← Hn.out]
    have hmin : cs.length = Nat.min n n := hcn.trans (Nat.min_self n).symm
    have hone : ∀ v ∈ cs, v.oneCell' = true := by rw [Hcs.out]; exact kids_one xs
    have hsrc : ∀ w1, Below w.heap.size w w1 → 0 < cs.length → (some (⟨w.heap.size, 0, none⟩ : Addr)) = some ⟨w.heap.size, 0, none⟩ ∧ ∃ ad, A = some ad ∧ ∀ j v, cs[j]? = some v → w1.cell? (ad.add j) = some v := fun w1 hb h0 => ⟨rfl, list_from HL.out hb Hcs.out h0⟩
    have hfit : ∀ cur : List Value, cur.length = n → 0 + cs.length ≤ cur.length := fun cur hc => by omega
    have Hbyt := Lib.hid hbyt
    have Hmax := Lib.hid hmax
    have Hcn := Lib.hid hcn
    have Hmin := Lib.hid hmin
    have Hone := Lib.hid hone
    have Hsrc := Lib.hid hsrc
    have Hfit := Lib.hid hfit
    clear hbyt hmax hcn hmin hone hsrc hfit
    go_enter Try.func42, Try.ntmps42
    go_wp2_with (first | (with_reducible refine wpList_make_ints rfl (.tmp 8) (.tmp 8) 55 rfl i0 _ Try.underlying55 Hi.out Hz0.out Hz1.out .i64 .i64 _ _ n rfl rfl rfl rfl Hbyt.out Hmax.out ?_; intro w1 cur hcur hh1 hb1) | (with_reducible refine wpList_copy_splice rfl (.tmp 10) (.tmp 11) 55 55 rfl 3 Try.underlying55 info_int1 (some ⟨w.heap.size, 0, none⟩) A n n n c rfl rfl w.heap.size 0 cur 3 hh1.out cs Hmin.out (Hsrc.out _ hb1) (Hfit.out _ hcur.out) Hone.out w.heap.size w hb1 (Nat.le_refl _) ?_; intro w2 hg2 hb2))
    go_ret
    have hsp : splice cur 0 cs = cs := by
      have : cs.length = cur.length := Hcn.out.trans hcur.out.symm
      simp [splice, this]
    have hg2 : Has w2 w.heap.size (.cells cs.toArray 3 (0, 0)) := by
      have := hg2.out
      rw [hsp] at this
      exact this
    refine ⟨some ⟨w.heap.size, 0, none⟩, n, rfl, ⟨⟨by simp, .inr ⟨w.heap.size, n, cs.toArray, by rw [Hn.out], Nat.zero_le _, hg2, by rw [Hn.out]; exact Nat.le_refl _, by unfold maxLen; omega, ?_, ?_⟩⟩, fun g hg => ?_⟩, hb2⟩
    · rw [Hcs.out, Hn.out]; simp
    · rw [Hcs.out, Nat.mul_one]
      exact List.take_of_length_le (by simp)
    · obtain rfl : w.heap.size = g := by simpa [Value.ownBlock] using hg
      exact hG _ (Nat.le_refl _)
end
end Go.Proofs.Ytekmgaigppenlaa

namespace Go.Proofs.Ytekmgaigppenlaa
open Go Go.RowKit

section
variable {S : Nat → Prop} {w : World} {b : Nat} {l : List Nd}
/-- A node and a truth. -/
def Node2 (G : Nat → Prop) (w : World) (d : Nd) (ok : Bool) (e : Ending) (w' : World) : Prop :=
  ∃ (A : Option Addr) (c : Nat), e = .returned (.tuple #[.agg #[.int .i64 d.kind, .int .i64 d.parent, .int .i64 d.host, .int .i64 d.shadow, .int .i64 d.mode, .bool d.slot, .string d.name, .string d.want, .slice A d.kids.length c], .bool ok]) ∧ Kids G w' (.slice A d.kids.length c) d.kids ∧ Below w.heap.size w w'
set_option maxHeartbeats 4000000 in
set_option maxRecDepth 100000 in
theorem arNode {G : Nat → Prop} (id : Int) (h : Frst S w b l) (hl : l.length ≤ 128) (hf : Few 200 l) (hG : Fut G w.heap.size) :
    Calls Try.prog 35 #[.pointer (some ⟨b, 0, none⟩), .int .i64 id] w (Node2 G w (if thereB l id = true then nd l id else Nd.zero) (thereB l id)) := by
  have H := Lib.hid h
  have HG := Lib.hid hG
  have hnot : ∀ (x : Bool) (w : World), (Op.unary .not (.bool x)).run Try.prog w = .ok (.bool (!x)) w := fun _ _ => rfl
  have hb0 : Below w.heap.size w (w.alloc (.cells #[.int .i64 0, .int .i64 0, .int .i64 0, .int .i64 0, .int .i64 0, .bool false, .string ⟨#[]⟩, .string ⟨#[]⟩, .slice none 0 0] 57)) := (Below.refl _ w).alloc (Nat.le_refl _) _
  have HB0 := Lib.hid hb0
  clear h hG hb0
  cases hth : thereB l id with
  | false =>
    rw [if_neg (by decide)]
    have Hth := Lib.hid hth
    clear hth
    go_enter Try.func35, Try.ntmps35
    go_wp2_with fail
    refine (arHas_is (H.out.below HB0.out) Hth.out).mono ?_
    rintro e w1 ⟨rfl, rfl⟩
    go_wp2
    (try simp only [Exit.inBlock, Exit.then])
    refine bodyPost_ret (v := .tuple #[.agg #[.int .i64 0, .int .i64 0, .int .i64 0, .int .i64 0, .int .i64 0, .bool false, .string ⟨#[]⟩, .string ⟨#[]⟩, .slice none 0 0], .bool false]) ?_ rfl ⟨none, 0, rfl, kids_none _ _, HB0.out⟩
    rw [results_cell_tmp rfl]
    go_simp
  | true =>
    rw [if_pos rfl]
    obtain ⟨m, rfl, hm⟩ := there_at hth
    have Hth := Lib.hid hth
    obtain ⟨g, c, hR⟩ := H.out.at_ hm
    have hR0 := hR.below HB0.out
    have q0 := hR0.there_
    obtain ⟨_, k, e', -, hgi, hk, -, c0, c1, c2, c3, c4, c5, c6, c7, c8⟩ := hR0.nodes.nine hm
    cases e'
    obtain ⟨A1, n1, rfl, hL1⟩ := hk.list
    have hks : (nd l ((m : Int) + 1)).kids.length ≤ 200 := by
      rw [nd_at hm]
      exact hf _ (List.getElem_mem hm)
    obtain ⟨d, hd⟩ : ∃ d, d = nd l ((m : Int) + 1) := ⟨_, rfl⟩
    rw [← hd] at c0 c1 c2 c3 c4 c5 c6 c7 c8 hL1 hks
    rw [← hd]
    obtain ⟨kd, pa, ho, sh, mo, sl, na, wa, ks⟩ := d
    simp only at c0 c1 c2 c3 c4 c5 c6 c7 c8 hL1 hks
    have HL1 := Lib.hid hL1
    clear hth hk hd hL1 hR
    go_enter Try.func35, Try.ntmps35
    go_wp2_with fail
    refine (arHas_is (H.out.below HB0.out) Hth.out).mono ?_
    rintro e w1 ⟨rfl, rfl⟩
    have hbox : Has ((w.alloc (.cells #[.int .i64 0, .int .i64 0, .int .i64 0, .int .i64 0, .int .i64 0, .bool false, .string ⟨#[]⟩, .string ⟨#[]⟩, .slice none 0 0] 57)).alloc (.cells #[.int .i64 kd, .int .i64 pa, .int .i64 ho, .int .i64 sh, .int .i64 mo, .bool sl, .string na, .string wa, .slice A1 ks.length n1] 57)) (w.heap.size + 1) (.cells #[.int .i64 kd, .int .i64 pa, .int .i64 ho, .int .i64 sh, .int .i64 mo, .bool sl, .string na, .string wa, .slice A1 ks.length n1] 57 (0, 0)) := by
      have := Has.fresh (w.alloc (.cells #[.int .i64 0, .int .i64 0, .int .i64 0, .int .i64 0, .int .i64 0, .bool false, .string ⟨#[]⟩, .string ⟨#[]⟩, .slice none 0 0] 57)) (.cells #[.int .i64 kd, .int .i64 pa, .int .i64 ho, .int .i64 sh, .int .i64 mo, .bool sl, .string na, .string wa, .slice A1 ks.length n1] 57)
      simpa using this
    have hres : Has ((w.alloc (.cells #[.int .i64 0, .int .i64 0, .int .i64 0, .int .i64 0, .int .i64 0, .bool false, .string ⟨#[]⟩, .string ⟨#[]⟩, .slice none 0 0] 57)).alloc (.cells #[.int .i64 kd, .int .i64 pa, .int .i64 ho, .int .i64 sh, .int .i64 mo, .bool sl, .string na, .string wa, .slice A1 ks.length n1] 57)) w.heap.size (.cells #[.int .i64 0, .int .i64 0, .int .i64 0, .int .i64 0, .int .i64 0, .bool false, .string ⟨#[]⟩, .string ⟨#[]⟩, .slice none 0 0] 57 (0, 0)) := (Has.fresh _ _).more _
    have hb2 : Below w.heap.size w ((w.alloc (.cells #[.int .i64 0, .int .i64 0, .int .i64 0, .int .i64 0, .int .i64 0, .bool false, .string ⟨#[]⟩, .string ⟨#[]⟩, .slice none 0 0] 57)).alloc (.cells #[.int .i64 kd, .int .i64 pa, .int .i64 ho, .int .i64 sh, .int .i64 mo, .bool sl, .string na, .string wa, .slice A1 ks.length n1] 57)) := HB0.out.alloc HB0.out.size _
    have hL2 : ListIn ((w.alloc (.cells #[.int .i64 0, .int .i64 0, .int .i64 0, .int .i64 0, .int .i64 0, .bool false, .string ⟨#[]⟩, .string ⟨#[]⟩, .slice none 0 0] 57)).alloc (.cells #[.int .i64 kd, .int .i64 pa, .int .i64 ho, .int .i64 sh, .int .i64 mo, .bool sl, .string na, .string wa, .slice A1 ks.length n1] 57)) A1 n1 ks := HL1.out.below ((Below.refl _ _).alloc (Nat.le_refl _) _)
    have Hbox := Lib.hid hbox
    have Hres := Lib.hid hres
    have HB2 := Lib.hid hb2
    have HL2 := Lib.hid hL2
    clear hbox hres hb2 hL2
    go_wp2_with fail
    refine (arCopy (G := fun i => w.heap.size + 2 ≤ i) A1 n1 HL2.out hks (fun i hi => by simpa using hi)).mono ?_
    rintro e w3 ⟨A3, n3, rfl, hK3, hb3⟩
    have hbox3 := Hbox.out.below hb3 Hbox.out.inside
    have hres3 := Hres.out.below hb3 Hres.out.inside
    have hB3 : Below w.heap.size w w3 := HB2.out.trans (hb3.mono HB2.out.size)
    have y0 := hbox3.cell 0
    have y1 := hbox3.cell 1
    have y2 := hbox3.cell 2
    have y3 := hbox3.cell 3
    have y4 := hbox3.cell 4
    have y5 := hbox3.cell 5
    have y6 := hbox3.cell 6
    have y7 := hbox3.cell 7
    have y8 := hbox3.cell 8
    have v8 := hbox3.free 8
    have z0 := hres3.cell 0
    have z1 := hres3.cell 1
    have z2 := hres3.cell 2
    have z3 := hres3.cell 3
    have z4 := hres3.cell 4
    have z5 := hres3.cell 5
    have z6 := hres3.cell 6
    have z7 := hres3.cell 7
    have z8 := hres3.cell 8
    have x0 := hres3.free 0
    have x1 := hres3.free 1
    have x2 := hres3.free 2
    have x3 := hres3.free 3
    have x4 := hres3.free 4
    have x5 := hres3.free 5
    have x6 := hres3.free 6
    have x7 := hres3.free 7
    have x8 := hres3.free 8
    have hK4 : Kids (fun i => w.heap.size + 2 ≤ i) ((((((((((w3.setCell ⟨w.heap.size + 1, 8, none⟩ (.slice A3 ks.length n3)).setCell ⟨w.heap.size, 0, none⟩ (.int .i64 kd)).setCell ⟨w.heap.size, 1, none⟩ (.int .i64 pa)).setCell ⟨w.heap.size, 2, none⟩ (.int .i64 ho)).setCell ⟨w.heap.size, 3, none⟩ (.int .i64 sh)).setCell ⟨w.heap.size, 4, none⟩ (.int .i64 mo)).setCell ⟨w.heap.size, 5, none⟩ (.bool sl)).setCell ⟨w.heap.size, 6, none⟩ (.string na)).setCell ⟨w.heap.size, 7, none⟩ (.string wa)).setCell ⟨w.heap.size, 8, none⟩ (.slice A3 ks.length n3)) (.slice A3 ks.length n3) ks := by
      refine hK3.keptG (F := fun i => i = w.heap.size ∨ i = w.heap.size + 1) (((((((((((Keeps.refl _ w3).store (p := ⟨w.heap.size + 1, 8, none⟩) (.inl (.inr rfl)) (.slice A3 ks.length n3)).store (p := ⟨w.heap.size, 0, none⟩) (.inl (.inl rfl)) (.int .i64 kd)).store (p := ⟨w.heap.size, 1, none⟩) (.inl (.inl rfl)) (.int .i64 pa)).store (p := ⟨w.heap.size, 2, none⟩) (.inl (.inl rfl)) (.int .i64 ho)).store (p := ⟨w.heap.size, 3, none⟩) (.inl (.inl rfl)) (.int .i64 sh)).store (p := ⟨w.heap.size, 4, none⟩) (.inl (.inl rfl)) (.int .i64 mo)).store (p := ⟨w.heap.size, 5, none⟩) (.inl (.inl rfl)) (.bool sl)).store (p := ⟨w.heap.size, 6, none⟩) (.inl (.inl rfl)) (.string na)).store (p := ⟨w.heap.size, 7, none⟩) (.inl (.inl rfl)) (.string wa)).store (p := ⟨w.heap.size, 8, none⟩) (.inl (.inl rfl)) (.slice A3 ks.length n3)) fun i hi _ e => ?_
      rcases e with rfl | rfl <;> omega
    have hK5 : Kids G ((((((((((w3.setCell ⟨w.heap.size + 1, 8, none⟩ (.slice A3 ks.length n3)).setCell ⟨w.heap.size, 0, none⟩ (.int .i64 kd)).setCell ⟨w.heap.size, 1, none⟩ (.int .i64 pa)).setCell ⟨w.heap.size, 2, none⟩ (.int .i64 ho)).setCell ⟨w.heap.size, 3, none⟩ (.int .i64 sh)).setCell ⟨w.heap.size, 4, none⟩ (.int .i64 mo)).setCell ⟨w.heap.size, 5, none⟩ (.bool sl)).setCell ⟨w.heap.size, 6, none⟩ (.string na)).setCell ⟨w.heap.size, 7, none⟩ (.string wa)).setCell ⟨w.heap.size, 8, none⟩ (.slice A3 ks.length n3)) (.slice A3 ks.length n3) ks := hK4.wide fun i hi _ => HG.out i (by omega)
    have hB5 : Below w.heap.size w ((((((((((w3.setCell ⟨w.heap.size + 1, 8, none⟩ (.slice A3 ks.length n3)).setCell ⟨w.heap.size, 0, none⟩ (.int .i64 kd)).setCell ⟨w.heap.size, 1, none⟩ (.int .i64 pa)).setCell ⟨w.heap.size, 2, none⟩ (.int .i64 ho)).setCell ⟨w.heap.size, 3, none⟩ (.int .i64 sh)).setCell ⟨w.heap.size, 4, none⟩ (.int .i64 mo)).setCell ⟨w.heap.size, 5, none⟩ (.bool sl)).setCell ⟨w.heap.size, 6, none⟩ (.string na)).setCell ⟨w.heap.size, 7, none⟩ (.string wa)).setCell ⟨w.heap.size, 8, none⟩ (.slice A3 ks.length n3)) := (((((((((hB3.setCell (p := ⟨w.heap.size + 1, 8, none⟩) (Nat.le_succ _) (.slice A3 ks.length n3)).setCell (p := ⟨w.heap.size, 0, none⟩) (Nat.le_refl _) (.int .i64 kd)).setCell (p := ⟨w.heap.size, 1, none⟩) (Nat.le_refl _) (.int .i64 pa)).setCell (p := ⟨w.heap.size, 2, none⟩) (Nat.le_refl _) (.int .i64 ho)).setCell (p := ⟨w.heap.size, 3, none⟩) (Nat.le_refl _) (.int .i64 sh)).setCell (p := ⟨w.heap.size, 4, none⟩) (Nat.le_refl _) (.int .i64 mo)).setCell (p := ⟨w.heap.size, 5, none⟩) (Nat.le_refl _) (.bool sl)).setCell (p := ⟨w.heap.size, 6, none⟩) (Nat.le_refl _) (.string na)).setCell (p := ⟨w.heap.size, 7, none⟩) (Nat.le_refl _) (.string wa)).setCell (p := ⟨w.heap.size, 8, none⟩) (Nat.le_refl _) (.slice A3 ks.length n3)
    have HK5 := Lib.hid hK5
    have HB5 := Lib.hid hB5
    clear hbox3 hres3 hK3 hb3 hK4 hK5 hB5
    go_wp2
    (try simp only [Exit.inBlock, Exit.then])
    refine bodyPost_ret (v := .tuple #[.agg #[.int .i64 kd, .int .i64 pa, .int .i64 ho, .int .i64 sh, .int .i64 mo, .bool sl, .string na, .string wa, .slice A3 ks.length n3], .bool true]) ?_ rfl ⟨A3, n3, rfl, HK5.out, HB5.out⟩
    rw [results_cell_tmp rfl]
    go_simp
theorem arNode_is {G : Nat → Prop} {id : Int} (h : Frst S w b l) (hl : l.length ≤ 128) (hf : Few 200 l) (hG : Fut G w.heap.size) (ht : thereB l id = true) :
    Calls Try.prog 35 #[.pointer (some ⟨b, 0, none⟩), .int .i64 id] w (Node2 G w (nd l id) true) := by
  have := arNode id h hl hf hG
  rw [ht, if_pos rfl] at this
  exact this
end
end Go.Proofs.Ytekmgaigppenlaa

namespace Go.Proofs.Ytekmgaigppenlaa
open Go Go.RowKit

section
variable {rows : List (Nd × Value)} {p : Nd × Value}
theorem set_behind {X Y : List Value} (hX : X.length = 9) (n : Nat) (u : Value) : (X ++ Y).set (9 + n) u = X ++ Y.set n u := by
  rw [List.set_append_right _ _ (by omega), hX, Nat.add_sub_cancel_left]
/-- A whole node is written. -/
def put9 (us : List Value) (j : Nat) (d : Nd) (k : Value) : List Value :=
  ((((((((us.set (j * 9) (.int .i64 d.kind)).set (j * 9 + 1) (.int .i64 d.parent)).set (j * 9 + 2) (.int .i64 d.host)).set (j * 9 + 3) (.int .i64 d.shadow)).set (j * 9 + 4) (.int .i64 d.mode)).set (j * 9 + 5) (.bool d.slot)).set (j * 9 + 6) (.string d.name)).set (j * 9 + 7) (.string d.want)).set (j * 9 + 8) k
theorem flat_put (d : Nd) (k : Value) : ∀ {rows : List (Nd × Value)} {i : Nat}, i < rows.length → flat (rows.set i (d, k)) = put9 (flat rows) i d k
  | [], i, h => by simp at h
  | q :: r, 0, _ => by
    rw [List.set_cons_zero, flat_cons, flat_cons]
    simp [put9, Nd.cells]
  | q :: r, i + 1, h => by
    rw [List.set_cons_succ, flat_cons, flat_cons, flat_put d k (by simpa using h)]
    unfold put9
    have e0 : (i + 1) * 9 = 9 + i * 9 := by omega
    have e : ∀ f, (i + 1) * 9 + f = 9 + (i * 9 + f) := fun f => by omega
    simp only [e]
    rw [e0]
    simp only [set_behind (Nd.cells_length q.1 q.2)]
theorem flat_zeros (n : Nat) : (madeCells (Value.agg #[.int .i64 0, .int .i64 0, .int .i64 0, .int .i64 0, .int .i64 0, .bool false, .string ⟨#[]⟩, .string ⟨#[]⟩, .slice none 0 0]).cells (n * 9)).toList = flat (List.replicate n (Nd.zero, Value.slice none 0 0)) := by
  apply List.ext_getElem?
  intro j
  by_cases hj : j < n * 9
  · have hd : j = j / 9 * 9 + j % 9 := by omega
    have hr : (List.replicate n (Nd.zero, Value.slice none 0 0))[j / 9]? = some (Nd.zero, .slice none 0 0) := by
      rw [List.getElem?_replicate, if_pos (by omega)]
    have h2 := flat_get hr (show j % 9 < 9 by omega)
    rw [← hd] at h2
    rw [h2]
    have h3 : j % 9 < 9 := by omega
    have hs : (madeCells (Value.agg #[.int .i64 0, .int .i64 0, .int .i64 0, .int .i64 0, .int .i64 0, .bool false, .string ⟨#[]⟩, .string ⟨#[]⟩, .slice none 0 0]).cells (n * 9)).toList[j]? = some ((#[.int .i64 0, .int .i64 0, .int .i64 0, .int .i64 0, .int .i64 0, .bool false, .string ⟨#[]⟩, .string ⟨#[]⟩, .slice none 0 0] : Array Value)[j % 9]!) := by
      simp [madeCells, hj, Value.cells]
    rw [hs]
    generalize j % 9 = f at h3
    match f, h3 with
    | 0, _ => rfl
    | 1, _ => rfl
    | 2, _ => rfl
    | 3, _ => rfl
    | 4, _ => rfl
    | 5, _ => rfl
    | 6, _ => rfl
    | 7, _ => rfl
    | 8, _ => rfl
  · rw [List.getElem?_eq_none (by simp [madeCells]; omega), List.getElem?_eq_none (by rw [flat_length, List.length_replicate]; omega)]
end

section
variable {G : Nat → Prop} {w : World} {B c g i : Nat} {l : List Nd}
/-- Nine cells are written, one behind the other. -/
def store9 (w : World) (g j : Nat) (d : Nd) (k : Value) : World :=
  ((((((((w.setCell ⟨g, j * 9, none⟩ (.int .i64 d.kind)).setCell ⟨g, j * 9 + 1, none⟩ (.int .i64 d.parent)).setCell ⟨g, j * 9 + 2, none⟩ (.int .i64 d.host)).setCell ⟨g, j * 9 + 3, none⟩ (.int .i64 d.shadow)).setCell ⟨g, j * 9 + 4, none⟩ (.int .i64 d.mode)).setCell ⟨g, j * 9 + 5, none⟩ (.bool d.slot)).setCell ⟨g, j * 9 + 6, none⟩ (.string d.name)).setCell ⟨g, j * 9 + 7, none⟩ (.string d.want)).setCell ⟨g, j * 9 + 8, none⟩ k
theorem keeps9 (w : World) (g j : Nat) (d : Nd) (k : Value) : Keeps (fun i => i = g) w (store9 w g j d k) :=
  (((((((((Keeps.refl (fun i => i = g) w).store (p := ⟨g, j * 9, none⟩) (.inl rfl) _).store (p := ⟨g, j * 9 + 1, none⟩) (.inl rfl) _).store (p := ⟨g, j * 9 + 2, none⟩) (.inl rfl) _).store (p := ⟨g, j * 9 + 3, none⟩) (.inl rfl) _).store (p := ⟨g, j * 9 + 4, none⟩) (.inl rfl) _).store (p := ⟨g, j * 9 + 5, none⟩) (.inl rfl) _).store (p := ⟨g, j * 9 + 6, none⟩) (.inl rfl) _).store (p := ⟨g, j * 9 + 7, none⟩) (.inl rfl) _).store (p := ⟨g, j * 9 + 8, none⟩) (.inl rfl) _
theorem own9 {n : Nat} {us : List Value} (h : w.ownsRow B 57 9 (.slice (some ⟨g, 0, none⟩) n c) n us) (j : Nat) (d : Nd) (k : Value) : (store9 w g j d k).ownsRow B 57 9 (.slice (some ⟨g, 0, none⟩) n c) n (put9 us j d k) := by
  have h0 := (h.stored (j * 9) (.int .i64 d.kind)).1
  have h1 := (h0.stored (j * 9 + 1) (.int .i64 d.parent)).1
  have h2 := (h1.stored (j * 9 + 2) (.int .i64 d.host)).1
  have h3 := (h2.stored (j * 9 + 3) (.int .i64 d.shadow)).1
  have h4 := (h3.stored (j * 9 + 4) (.int .i64 d.mode)).1
  have h5 := (h4.stored (j * 9 + 5) (.bool d.slot)).1
  have h6 := (h5.stored (j * 9 + 6) (.string d.name)).1
  have h7 := (h6.stored (j * 9 + 7) (.string d.want)).1
  exact (h7.stored (j * 9 + 8) k).1
theorem Nodes.put (h : Nodes G w B (some ⟨g, 0, none⟩) c l) (hi : i < l.length) {d : Nd} {k : Value} (hk : Kids G w k d.kids) : Nodes G (store9 w g i d k) B (some ⟨g, 0, none⟩) c (l.set i d) := by
  obtain ⟨rows, rfl, h2, h3, h4⟩ := h
  have hi' : i < rows.length := by simpa using hi
  have far : ∀ (v : Value) (xs : List Int), Kids G w v xs → Kids G (store9 w g i d k) v xs := fun v xs hv =>
    ⟨own_kept hv.1 (keeps9 w g i d k) fun g' hg' e => kids_apart hv h2 (by decide) hg' (by rw [e]; rfl), hv.2⟩
  refine ⟨rows.set i (d, k), by rw [List.map_set], ?_, fun p hp => ?_, h4⟩
  · rw [List.length_set, flat_put d k hi']
    exact own9 h2 i d k
  · rcases List.mem_or_eq_of_mem_set hp with hp | rfl
    · exact far _ _ (h3 p hp)
    · exact far _ _ hk

theorem upto_zero (l : List Nd) : l.take 0 ++ List.replicate (l.length - 0) Nd.zero = List.replicate l.length Nd.zero := by simp
theorem upto_length {l : List Nd} {j : Nat} (hj : j ≤ l.length) : (l.take j ++ List.replicate (l.length - j) Nd.zero).length = l.length := by simp; omega
theorem upto_step {l : List Nd} {j : Nat} (hj : j < l.length) : (l.take j ++ List.replicate (l.length - j) Nd.zero).set j l[j] = l.take (j + 1) ++ List.replicate (l.length - (j + 1)) Nd.zero := by
  have hl : (l.take j).length = j := by rw [List.length_take]; omega
  rw [List.set_append_right _ _ (by omega), hl, Nat.sub_self, show l.length - j = (l.length - (j + 1)) + 1 by omega, List.replicate_succ, List.set_cons_zero, List.take_add_one, List.getElem?_eq_getElem hj, List.append_assoc]
  rfl

variable {S : Nat → Prop} {b : Nat}
end
end Go.Proofs.Ytekmgaigppenlaa

namespace Go.Proofs.Ytekmgaigppenlaa
open Go Go.RowKit

/-- All kids are there, each once. -/
def eachB (l : List Nd) (kids : List Int) : Bool := decide (∀ i, i < kids.length → kidIn l kids i = true)
/-- The numbers that were seen. -/
def Seen (w : World) (g : Nat) (xs : List Int) : Prop := ∃ cs : Array Value, Has w g (.cells cs 92 (0, 0)) ∧ ∀ k : Nat, k < 129 → cs[k]? = some (.bool (hasB xs (k : Int)))

section
variable {S : Nat → Prop} {w w' : World} {b g : Nat} {l : List Nd} {kids xs : List Int}
theorem Seen.cell_ (h : Seen w g xs) {k : Nat} (hk : k < 129) : w.cell? ⟨g, k, none⟩ = some (.bool (hasB xs (k : Int))) ∧ w.frozen? ⟨g, k, none⟩ = false := by
  obtain ⟨cs, hh, hc⟩ := h
  exact ⟨(hh.cell k).trans (hc k hk), hh.free k⟩
theorem Seen.below (h : Seen w g xs) (hb : Below w.heap.size w w') : Seen w' g xs := by
  obtain ⟨cs, hh, hc⟩ := h
  exact ⟨cs, hh.below hb hh.inside, hc⟩
theorem Seen.mark (h : Seen w g xs) {k : Nat} : Seen (w.setCell ⟨g, k, none⟩ (.bool true)) g (xs ++ [(k : Int)]) := by
  obtain ⟨cs, hh, hc⟩ := h
  refine ⟨_, hh.stored k (.bool true), fun i hi => ?_⟩
  have hci := hc i hi
  obtain ⟨hlt, -⟩ := Array.getElem?_eq_some_iff.1 hci
  rw [Array.getElem?_setIfInBounds]
  by_cases e : k = i
  · subst e
    rw [if_pos rfl, if_pos hlt]
    simp [hasB]
  · rw [if_neg e, hci]
    have : ¬ ((i : Int) = (k : Int)) := fun h => e (by omega)
    simp [hasB, this]
end

def no129 : Array Value := Array.replicate 129 (.bool false)
theorem zero129 (w : World) : (zeroValue 92).run Try.prog w = .ok (.agg no129) w := by kernel_rfl
theorem seen_new (w : World) : Seen (w.alloc (.cells no129 92)) w.heap.size [] := by
  refine ⟨no129, Has.fresh _ _, fun k hk => ?_⟩
  rw [no129, Array.getElem?_replicate, if_pos hk]
  rfl

section
variable {S : Nat → Prop} {w : World} {b : Nat} {l : List Nd} {kids : List Int}
set_option maxHeartbeats 4000000 in
set_option maxRecDepth 100000 in
theorem arEach (h : Frst S w b l) (hl : l.length ≤ 128) (A : Option Addr) (c : Nat) (hL : ListIn w A c kids) (hk : kids.length ≤ 200) {x : Bool} (hx : eachB l kids = x) :
    Calls Try.prog 40 #[.pointer (some ⟨b, 0, none⟩), .slice A kids.length c] w fun e w' => e = .returned (.bool x) ∧ Below w.heap.size w w' := by
  have H := Lib.hid h
  have HL := Lib.hid hL
  have Hx := Lib.hid hx
  obtain ⟨n, hn⟩ : ∃ n, n = kids.length := ⟨_, rfl⟩
  have Hn := Lib.hid hn
  rw [← hn]
  rw [← hn] at hk
  clear h hL hx hn
  go_enter Try.func40, Try.ntmps40
  go_wp2_with fail
  first
    | (simp only [zero129, Result.andThen]; rw [Oper.upon_value])
    | rw [show Try.zeroCells92 = no129 by kernel_rfl]
  have hs1 := seen_new w
  have hb1 : Below w.heap.size w (w.alloc (.cells no129 92)) := (Below.refl _ w).alloc (Nat.le_refl _) _
  obtain ⟨w1, hw1⟩ : ∃ w1, w1 = w.alloc (.cells no129 92) := ⟨_, rfl⟩
  rw [← hw1] at hs1 hb1
  rw [← hw1]
  have Hs1 := Lib.hid hs1
  clear hs1 hw1
  try go_wp2_with fail
  go_loopw [10] (fun i wr => ∃ j : Nat, i = .int .i64 j ∧ j ≤ n ∧ (∀ i, i < j → kidIn l kids i = true) ∧ Seen wr w.heap.size (kids.take j) ∧ Below w.heap.size w wr) (fun i _ => n - (intOf i).toNat)
  case atStart => exact ⟨0, rfl, Nat.zero_le _, fun i hi => absurd hi (Nat.not_lt_zero i), Hs1.out, hb1⟩
  case round =>
    obtain ⟨j, rfl, hj, hall, hsn, hb⟩ := hrel
    have Hall := Lib.hid hall
    have Hsn := Lib.hid hsn
    clear hall hsn Hs1 hb1
    by_cases hjn : (j : Int) < n
    · have hjk : j < kids.length := by rw [← Hn.out]; omega
      obtain ⟨b', off, rfl, hB, hc⟩ := (HL.out.below hb).nums j hjk
      obtain ⟨y, hy⟩ : ∃ y, y = kids[j] := ⟨_, rfl⟩
      rw [← hy] at hc
      have hgy : kids.getD j 0 = y := by rw [List.getD_eq_getElem?_getD, List.getElem?_eq_getElem hjk, hy]; rfl
      have hin : kidIn l kids j = (thereB l y && !hasB (kids.take j) y) := by unfold kidIn; rw [hgy]
      have htk : kids.take (j + 1) = kids.take j ++ [y] := by rw [List.take_add_one, List.getElem?_eq_getElem hjk, ← hy]; rfl
      have hR := H.out.below hb
      have Hin := Lib.hid hin
      have Htk := Lib.hid htk
      have hbad : kidIn l kids j = false → x = false := fun hf => by
        rw [← Hx.out]
        unfold eachB
        rw [decide_eq_false_iff_not]
        intro h
        rw [h j hjk] at hf
        cases hf
      have Hbad := Lib.hid hbad
      clear hy hgy hin htk hbad
      cases hth : thereB l y with
      | false =>
        have hx0 := Hbad.out (by rw [Hin.out, hth]; rfl)
        subst hx0
        have Hth := Lib.hid hth
        clear hth
        go_wp2_with fail
        refine (arHas_is hR Hth.out).mono ?_
        rintro e w2 ⟨rfl, rfl⟩
        go_wp2
        go_ret
        exact ⟨rfl, hb⟩
      | true =>
        obtain ⟨m, rfl, hm⟩ := there_at hth
        have hm9 : m + 1 < 129 := by omega
        obtain ⟨q1, q2⟩ := Hsn.out.cell_ hm9
        have ecast : ((m + 1 : Nat) : Int) = (m : Int) + 1 := by omega
        have hmk := Hsn.out.mark (k := m + 1)
        rw [ecast] at q1 hmk
        have Hth := Lib.hid hth
        cases hs : hasB (kids.take j) ((m : Int) + 1) with
        | true =>
          have hx0 := Hbad.out (by rw [Hin.out, hth, hs]; rfl)
          subst hx0
          rw [hs] at q1
          clear hth hs hmk
          go_wp2_with fail
          refine (arHas_is hR Hth.out).mono ?_
          rintro e w2 ⟨rfl, rfl⟩
          go_wp2
          go_ret
          exact ⟨rfl, hb⟩
        | false =>
          have hok := Hin.out
          rw [hth, hs] at hok
          rw [hs] at q1
          have Hok := Lib.hid hok
          have Hmk := Lib.hid hmk
          have hb2 : Below w.heap.size w (wr.setCell ⟨w.heap.size, m + 1, none⟩ (.bool true)) := hb.setCell (p := ⟨w.heap.size, m + 1, none⟩) (Nat.le_refl _) _
          clear hth hs hok hmk
          go_wp2_with fail
          refine (arHas_is hR Hth.out).mono ?_
          rintro e w2 ⟨rfl, rfl⟩
          go_wp2
          go_roundw
          case rel =>
            refine ⟨j + 1, by go_num, by omega, fun i hi => ?_, by rw [Htk.out]; exact Hmk.out, hb2⟩
            rcases Nat.lt_or_ge i j with hij | hij
            · exact Hall.out i hij
            · obtain rfl : i = j := by omega
              exact Hok.out
          case measure => simp [intOf]; omega
    · have hx1 : x = true := by
        rw [← Hx.out]
        unfold eachB
        rw [decide_eq_true_iff]
        exact fun i hi => Hall.out i (by rw [← Hn.out] at hi; omega)
      subst hx1
      go_wp2
      go_ret
      exact ⟨rfl, hb⟩

set_option maxHeartbeats 4000000 in
set_option maxRecDepth 100000 in
theorem arMay (h : Frst S w b l) (hl : l.length ≤ 128) (T : Tree l) {p k : Int} (hp : thereB l p = true) (hk : thereB l k = true) {x : Bool} (hx : kidOk l (over l p) p k = x) :
    Calls Try.prog 41 #[.pointer (some ⟨b, 0, none⟩), .int .i64 p, .int .i64 k] w fun e w' => e = .returned (.bool x) ∧ Below w.heap.size w w' := by
  have H := Lib.hid h
  have HT := Lib.hid T
  have Hp := Lib.hid hp
  obtain ⟨m, rfl, hm⟩ := there_at hk
  obtain ⟨g, c, hR⟩ := h.at_ hm
  have q0 := hR.there_
  obtain ⟨_, kv, e', -, -, hkv, -, c0, c1, c2, c3, c4, c5, c6, c7, c8⟩ := hR.nodes.nine hm
  cases e'
  obtain ⟨A1, n1, rfl, -⟩ := hkv.list
  unfold kidOk at hx
  rw [has_over_step T hp] at hx
  obtain ⟨d, hd⟩ : ∃ d, d = nd l ((m : Int) + 1) := ⟨_, rfl⟩
  rw [← hd] at c0 c1 c2 c3 c4 c5 c6 c7 c8 hx
  obtain ⟨kd, pa, ho, sh, mo, sl, na, wa, ks⟩ := d
  simp only at c0 c1 c2 c3 c4 c5 c6 c7 c8 hx
  have hb1 : Below w.heap.size w (w.alloc (.cells #[.int .i64 kd, .int .i64 pa, .int .i64 ho, .int .i64 sh, .int .i64 mo, .bool sl, .string na, .string wa, .slice A1 ks.length n1] 57)) := (Below.refl _ w).alloc (Nat.le_refl _) _
  have hbox : Has (w.alloc (.cells #[.int .i64 kd, .int .i64 pa, .int .i64 ho, .int .i64 sh, .int .i64 mo, .bool sl, .string na, .string wa, .slice A1 ks.length n1] 57)) w.heap.size (.cells #[.int .i64 kd, .int .i64 pa, .int .i64 ho, .int .i64 sh, .int .i64 mo, .bool sl, .string na, .string wa, .slice A1 ks.length n1] 57 (0, 0)) := Has.fresh _ _
  have HB1 := Lib.hid hb1
  have Hbox := Lib.hid hbox
  have Hx := Lib.hid hx
  clear h T hp hk hR hkv hd hb1 hbox hx
  by_cases k1 : kd = 1
  · subst k1
    have hx0 : x = false := by rw [← Hx.out]; simp
    subst hx0
    go_enter Try.func41, Try.ntmps41
    go_wp2
    go_ret
    exact ⟨rfl, HB1.out⟩
  have k1' : (kd == 1) = false := by simpa using k1
  by_cases k3 : kd = 3
  · subst k3
    have hx0 : x = false := by rw [← Hx.out]; simp
    subst hx0
    clear k1' k1
    go_enter Try.func41, Try.ntmps41
    go_wp2
    go_ret
    exact ⟨rfl, HB1.out⟩
  have k3' : (kd == 3) = false := by simpa using k3
  by_cases hkp : (m : Int) + 1 = p
  · have hx0 : x = false := by rw [← Hx.out]; simp [hkp]
    subst hx0
    subst hkp
    go_enter Try.func41, Try.ntmps41
    go_wp2
    go_ret
    exact ⟨rfl, HB1.out⟩
  have hkp' : ((m : Int) + 1 == p) = false := by simpa using hkp
  have hR1 := H.out.below HB1.out
  cases hab : hasB (over l (upOf l p)) ((m : Int) + 1) with
  | true =>
    have hx0 : x = false := by rw [← Hx.out, hab]; simp
    subst hx0
    have Hab := Lib.hid hab
    clear hab
    go_enter Try.func41, Try.ntmps41
    go_wp2_with fail
    refine (arAbove hR1 hl HT.out _ Hp.out Hab.out).mono ?_
    rintro e w2 ⟨rfl, hb2⟩
    go_wp2
    go_ret
    exact ⟨rfl, HB1.out.trans (hb2.mono HB1.out.size)⟩
  | false =>
    have hx1 := Hx.out
    rw [hab, decide_eq_false k1, decide_eq_false k3, decide_eq_false hkp] at hx1
    have Hab := Lib.hid hab
    clear hab
    go_enter Try.func41, Try.ntmps41
    go_wp2_with fail
    refine (arAbove hR1 hl HT.out _ Hp.out Hab.out).mono ?_
    rintro e w2 ⟨rfl, hb2⟩
    have hB2 := HB1.out.trans (hb2.mono HB1.out.size)
    have y1 : w2.cell? ⟨w.heap.size, 1, none⟩ = some (.int .i64 pa) := (Hbox.out.below hb2 Hbox.out.inside).cell 1
    clear hb2
    by_cases p0 : pa = 0
    · subst p0
      have hx2 : x = true := by rw [← hx1]; simp
      subst hx2
      clear hx1
      go_wp2
      go_ret
      exact ⟨rfl, hB2⟩
    · have p0' : (pa == 0) = false := by simpa using p0
      by_cases pp : pa = p
      · subst pp
        have hx2 : x = true := by rw [← hx1]; simp
        subst hx2
        clear hx1
        go_wp2
        go_ret
        exact ⟨rfl, hB2⟩
      · have pp' : (pa == p) = false := by simpa using pp
        have hx2 : x = false := by rw [← hx1]; simp [p0, pp]
        subst hx2
        clear hx1
        go_wp2
        go_ret
        exact ⟨rfl, hB2⟩
end
end Go.Proofs.Ytekmgaigppenlaa

namespace Go.Proofs.Ytekmgaigppenlaa
open Go Go.RowKit

/-- Few calls with short lists. -/
def Small (xs : List Ac) : Prop := xs.length ≤ 300 ∧ ∀ x ∈ xs, x.l.length ≤ 200

/-- A truth; if it is no, they are few. -/
def SaysFew (xs : List Ac) (e : Ending) : Prop := ∃ g, e = .returned (.bool g) ∧ (g = false → Small xs)
set_option maxHeartbeats 2000000 in
theorem great_any (A : Option Addr) (n c : Nat) (xs : List Ac) (w : World) (hn : xs.length = n) (hm : n ≤ maxLen) (h : Acts w A xs) :
    Calls Try.prog 14 #[.slice A n c] w fun e w' => SaysFew xs e ∧ w = w' := by
  have H := Lib.hid h
  have Hn := Lib.hid hn
  clear h hn
  unfold maxLen at hm
  go_enter Try.func14, Try.ntmps14
  go_wp2
  go_loop [3] (fun i => ∃ k : Nat, i = .int .i64 k ∧ k ≤ n ∧ ∀ j (hj : j < xs.length), j < k → xs[j].l.length ≤ 200) (fun i => n - (intOf i).toNat)
  case atStart => exact ⟨0, rfl, Nat.zero_le _, fun j _ hj => absurd hj (Nat.not_lt_zero j)⟩
  case round =>
    obtain ⟨k, rfl, hk, hall⟩ := hrel
    have Hall := Lib.hid hall
    clear hall
    by_cases hlt : (k : Int) < n
    · have hkx : k < xs.length := by rw [Hn.out]; omega
      obtain ⟨b, off, A1, c1, A2, c2, rfl, -, hc, -, -⟩ := H.out k hkx
      have c13 : w.cell? ⟨b, off + k * 14 + 13, none⟩ = some (.slice A2 xs[k].l.length c2) := by
        rw [Nat.add_assoc]
        exact hc 13 (by omega)
      obtain ⟨m, hmm⟩ : ∃ m, m = xs[k].l.length := ⟨_, rfl⟩
      rw [← hmm] at c13
      have Hm := Lib.hid hmm
      clear hmm hc
      by_cases h2 : m ≤ 200
      · have h2' : ¬ (200 : Int) < m := by omega
        go_wp2
        go_round
        case rel =>
          refine ⟨k + 1, by go_num, by omega, fun j hj hjk => ?_⟩
          by_cases e : j = k
          · subst e
            rw [← Hm.out]
            exact h2
          · exact Hall.out j hj (by omega)
        case measure => simp [intOf]; omega
      · have h2' : (200 : Int) < m := by omega
        go_wp2
        go_ret
        exact ⟨⟨true, rfl, fun e => absurd e (by decide)⟩, rfl⟩
    · obtain ⟨g, hg⟩ : ∃ g, g = decide ((300 : Int) < n) := ⟨_, rfl⟩
      have Hg := Lib.hid hg
      clear hg
      go_wp2
      go_ret
      refine ⟨⟨g, by rw [Hg.out]; rfl, fun e => ⟨?_, fun x hx => ?_⟩⟩, rfl⟩
      · have := Hg.out
        rw [e] at this
        have := of_decide_eq_false this.symm
        have := Hn.out
        omega
      · obtain ⟨j, hj, rfl⟩ := List.mem_iff_getElem.1 hx
        exact Hall.out j hj (by have := Hn.out; omega)
end Go.Proofs.Ytekmgaigppenlaa

namespace Go.Proofs.Ytekmgaigppenlaa
open Go Go.RowKit

/-- A forest as calls make it. -/
structure Good (l : List Nd) : Prop where
  tree : Tree l
  len : l.length ≤ 128
  few : Few 200 l
theorem good_nil : Good [] := ⟨tree_nil, Nat.zero_le _, fun _ h => absurd h (by simp)⟩
theorem good_act {l : List Nd} {x : Ac} (h : Good l) (hx : x.l.length ≤ 200) : Good (actL l x) := ⟨tree_act h.tree, actL_length l x h.len, actL_kids h.few hx⟩

/-- Where a forest lies. -/
abbrev at_ (b : Nat) : Value := .pointer (some ⟨b, 0, none⟩)

/-- The promises: 'Rep S w b l': in w the forest at b holds l, in blocks that S names. -/
structure ForestOk (Rep : (Nat → Prop) → World → Nat → List Nd → Prop) : Prop where
  keep : ∀ {S F : Nat → Prop} {w w' : World} {b : Nat} {l : List Nd}, Rep S w b l → Keeps F w w' → (∀ i, S i → i < w.heap.size → ¬ F i) → Rep S w' b l
  wide : ∀ {S S' : Nat → Prop} {w : World} {b : Nat} {l : List Nd}, Rep S w b l → (∀ i, S i → i < w.heap.size → S' i) → Rep S' w b l
  new : ∀ (S : Nat → Prop) (w : World), Fut S w.heap.size → Calls Try.prog 26 #[] w fun e w' => ∃ b, e = .returned (at_ b) ∧ Rep S w' b [] ∧ Below w.heap.size w w'
  make : ∀ (S : Nat → Prop) (w : World) (b : Nat) (l : List Nd) (k pa ho sh m : Int) (sl : Bool) (na wa : ByteArray) (ks : List Int) (A1 : Option Addr) (c1 : Nat), Rep S w b l → Good l → Fut S w.heap.size → na.size ≤ 9223372036854775807 → wa.size ≤ 9223372036854775807 → ListIn w A1 c1 ks →
    Calls Try.prog 27 #[at_ b, .agg #[.int .i64 k, .int .i64 pa, .int .i64 ho, .int .i64 sh, .int .i64 m, .bool sl, .string na, .string wa, .slice A1 ks.length c1]] w fun e w' =>
      e = .returned (.tuple #[.int .i64 (mkNo l ⟨k, pa, ho, sh, m, sl, na, wa, ks⟩), .int .i64 (mkErr l.length ⟨k, pa, ho, sh, m, sl, na, wa, ks⟩)]) ∧ Rep S w' b (mkL l ⟨k, pa, ho, sh, m, sl, na, wa, ks⟩) ∧ Keeps S w w'
  put : ∀ (S : Nat → Prop) (w : World) (b : Nat) (l : List Nd) (p : Int) (ks : List Int) (A2 : Option Addr) (c2 : Nat), Rep S w b l → Good l → Fut S w.heap.size → ks.length ≤ 200 → ListIn w A2 c2 ks → (0 < ks.length → ∀ b' off s, A2 = some ⟨b', off, s⟩ → b' < w.heap.size → ¬ S b') →
    Calls Try.prog 28 #[at_ b, .int .i64 p, .slice A2 ks.length c2] w fun e w' => e = .returned (.int .i64 (putErr l p ks)) ∧ Rep S w' b (putL l p ks) ∧ Keeps S w w'
  tie : ∀ (S : Nat → Prop) (w : World) (b : Nat) (l : List Nd) (h r : Int), Rep S w b l → Good l → Fut S w.heap.size →
    Calls Try.prog 29 #[at_ b, .int .i64 h, .int .i64 r] w fun e w' => e = .returned (.int .i64 (tieErr l h r)) ∧ Rep S w' b (tieL l h r) ∧ Keeps S w w'
  name : ∀ (S : Nat → Prop) (w : World) (b : Nat) (l : List Nd) (id : Int) (s : ByteArray), Rep S w b l → Good l → Fut S w.heap.size → s.size ≤ 9223372036854775807 →
    Calls Try.prog 30 #[at_ b, .int .i64 id, .string s] w fun e w' => e = .returned (.int .i64 (nameErr l id s)) ∧ Rep S w' b (nameL l id s) ∧ Keeps S w w'
  want : ∀ (S : Nat → Prop) (w : World) (b : Nat) (l : List Nd) (id : Int) (s : ByteArray), Rep S w b l → Good l → Fut S w.heap.size → s.size ≤ 9223372036854775807 →
    Calls Try.prog 31 #[at_ b, .int .i64 id, .string s] w fun e w' => e = .returned (.int .i64 (wantErr l id s)) ∧ Rep S w' b (wantL l id s) ∧ Keeps S w w'

section
variable {Rep : (Nat → Prop) → World → Nat → List Nd → Prop}
theorem ForestOk.below (O : ForestOk Rep) {S : Nat → Prop} {w w' : World} {b : Nat} {l : List Nd} (h : Rep S w b l) (hb : Below w.heap.size w w') : Rep S w' b l :=
  O.keep h (Keeps.of_below (F := fun i => w.heap.size ≤ i) hb fun _ _ h => h) fun _ _ hi => Nat.not_le.2 hi

/-- An append of a whole list, as one operation. -/
theorem wp_append_gives {P : Program} {w : World} {o : Oper} {a : Act} {K : Act → World → Prop} {Q : Exit → Act → World → Prop} (s x : Operand) (t : TypeId)
    (ho : o.op = .call { callee := .builtin .append, args := #[s, x], argTypes := #[t, t] })
    (base : Nat) (e : TypeId) (i : TypeInfo) (z : Value) (size bytes : Nat) (ht : P.underlying t = some (.slice e)) (hi : P.info? e = some i) (hz : i.zero = some z)
    (hsize : i.size = size) (hby : i.bytes = bytes) (hzs : z.cells.size = size) (hsz : 0 < size)
    (v : Value) (n : Nat) (xs : List Value) (hs : a.eval s = v) (hown : w.ownsRow base e size v n xs)
    (X : Value) (m : Nat) (us : List Value) (hx : a.eval x = X) (hG : Gives w size X m us) (h1 : ∀ u ∈ us, u.oneCell' = true)
    (h63 : n + m ≤ maxLen) (hbytes : (n + m) * bytes ≤ 140737488355328) (hbase : base ≤ w.heap.size)
    (h : ∀ v' w', w'.ownsRow base e size v' (n + m) (xs ++ us) → w.grownBy w' v.ownBlock → K (a.put o.dst v') w') : o.wp P a w K Q := by
  rcases hG with ⟨rfl, rfl, rfl⟩ | ⟨ad, c, rfl, hl, hc⟩
  · have hrun := run_append_owned_none (P := P) (w := w) base t o.type e i size ht hi v n xs hown
    have hk := h v w (by rw [List.append_nil]; exact hown) ⟨rfl, rfl, rfl, Nat.le_refl _, fun _ _ _ => rfl⟩
    unfold Oper.wp
    simp [execOp, ho, resolve, invoke, builtin, hs, hx, hrun, Result.andThen]
    exact hk
  · exact wp_append_own w s x t ho base e i z size bytes ht hi hz hsize hby hzs hsz v n xs hs hown ad m c us hx hl hc h1 h63 hbytes hbase fun v' w' h2 h3 _ => h v' w' h2 h3

/-- A number and an error's number; the forest is l' then. -/
def Did (Rep : (Nat → Prop) → World → Nat → List Nd → Prop) (S : Nat → Prop) (w : World) (b : Nat) (l' : List Nd) (no err : Int) (e : Ending) (w' : World) : Prop :=
  e = .returned (.tuple #[.int .i64 no, .int .i64 err]) ∧ Rep S w' b l' ∧ Keeps S w w'

end
end Go.Proofs.Ytekmgaigppenlaa

namespace Go.Proofs.Ytekmgaigppenlaa
open Go Go.RowKit

theorem good_take {xs : List Ac} (h : Small xs) : ∀ j, Good (forest (xs.take j))
  | 0 => good_nil
  | j + 1 => by
    rcases Nat.lt_or_ge j xs.length with hj | hj
    · rw [List.take_add_one, List.getElem?_eq_getElem hj]
      show Good (forest (xs.take j ++ [xs[j]]))
      rw [forest_snoc]
      exact good_act (good_take h j) (h.2 _ (List.getElem_mem hj))
    · rw [List.take_of_length_le (by omega), ← List.take_of_length_le hj]
      exact good_take h j
theorem good_forest {xs : List Ac} (h : Small xs) : Good (forest xs) := by
  have := good_take h xs.length
  rwa [List.take_length] at this

end Go.Proofs.Ytekmgaigppenlaa

namespace Go.Proofs.Ytekmgaigppenlaa
open Go Go.RowKit

/-- The same numbers? -/
def sameInts (xs ys : List Int) : Bool := decide (xs = ys)
end Go.Proofs.Ytekmgaigppenlaa

namespace Go.Proofs.Ytekmgaigppenlaa
open Go Go.RowKit

/-- The same node? -/
def oneB (d e : Nd) : Bool := (d.kind == e.kind) && (d.parent == e.parent) && (d.host == e.host) && (d.shadow == e.shadow) && (d.mode == e.mode) && (d.slot == e.slot) && (d.name.toList == e.name.toList) && (d.want.toList == e.want.toList) && sameInts d.kids e.kids

end Go.Proofs.Ytekmgaigppenlaa

namespace Go.Proofs.Ytekmgaigppenlaa
open Go Go.RowKit
variable {G : Nat → Prop}

/-- The same nodes? -/
def sameL (a b : List Nd) : Bool := decide (a.length = b.length ∧ ∀ i, i < a.length → oneB (a.getD i Nd.zero) (b.getD i Nd.zero) = true)
theorem getD_at {l : List Nd} {i : Nat} (h : i < l.length) : l.getD i Nd.zero = l[i] := by
  rw [List.getD_eq_getElem?_getD, List.getElem?_eq_getElem h]
  rfl

end Go.Proofs.Ytekmgaigppenlaa

namespace Go.Proofs.Ytekmgaigppenlaa
open Go Go.RowKit

/-- Node and Len. -/
structure ForestMore (Rep : (Nat → Prop) → World → Nat → List Nd → Prop) : Prop where
  node : ∀ (S : Nat → Prop) (w : World) (b : Nat) (l : List Nd) (id : Int), Rep S w b l → Good l →
    Calls Try.prog 35 #[at_ b, .int .i64 id] w fun e w' => ∃ (d : Nd) (A : Option Addr) (c : Nat), e = .returned (.tuple #[.agg #[.int .i64 d.kind, .int .i64 d.parent, .int .i64 d.host, .int .i64 d.shadow, .int .i64 d.mode, .bool d.slot, .string d.name, .string d.want, .slice A d.kids.length c], .bool (thereB l id)]) ∧
      d = (if thereB l id = true then nd l id else Nd.zero) ∧ Kids (fun i => w.heap.size ≤ i) w' (.slice A d.kids.length c) d.kids ∧ Below w.heap.size w w'
  len : ∀ (S : Nat → Prop) (w : World) (b : Nat) (l : List Nd), Rep S w b l → Good l →
    Calls Try.prog 52 #[at_ b] w fun e w' => e = .returned (.int .i64 l.length) ∧ Below w.heap.size w w'

theorem oneB_refl (d : Nd) : oneB d d = true := by simp [oneB, sameInts]
theorem sameL_refl (l : List Nd) : sameL l l = true := by
  rw [sameL, decide_eq_true_iff]
  exact ⟨rfl, fun i _ => oneB_refl _⟩

section
variable {G : Nat → Prop} {w : World}
/-- A number is written over in a list of the call's own. -/
theorem Kids.write {A : Option Addr} {n c j : Nat} {ks : List Int} (h : Kids G w (.slice A n c) ks) (hj : j < ks.length) (y : Int) : ∃ g, A = some ⟨g, 0, none⟩ ∧ G g ∧ n = ks.length ∧ (∃ x, w.cell? ⟨g, j, none⟩ = some (.int .i64 x)) ∧ w.frozen? ⟨g, j, none⟩ = false ∧ Has w g (.cells (w.heap[g]?.elim #[] fun | .cells cs _ _ => cs | _ => #[]) 3 (0, 0)) ∧ Kids G (w.setCell ⟨g, j, none⟩ (.int .i64 y)) (.slice A n c) (ks.set j y) := by
  obtain ⟨h1, h2⟩ := h
  rcases h1.2 with ⟨_, h0⟩ | ⟨g, cap, cur, e, _, hh, _⟩
  · omega
  · injection e with e1 e2 e3
    subst e1
    subst e2
    subst e3
    refine ⟨g, rfl, h2 g rfl, rfl, ⟨ks[j], ?_⟩, h1.frozenAt j, ?_, ?_, h2⟩
    · rw [h1.cellAt j (by omega), List.getElem?_map, List.getElem?_eq_getElem hj]
      rfl
    · rw [hh]
      exact hh
    · have := (h1.stored j (.int .i64 y)).1
      rw [List.length_set, List.map_set]
      exact this
/-- .. and what it is in other lists. -/
theorem Kids.written {g j : Nat} {v : Value} {ks : List Int} (h : Kids G w v ks) (y : Int) : ∃ ks', ks'.length = ks.length ∧ Kids G (w.setCell ⟨g, j, none⟩ (.int .i64 y)) v ks' := by
  obtain ⟨h1, h2⟩ := h
  rcases h1.2 with ⟨rfl, h0⟩ | ⟨g', cap, cur, rfl, _, hh, _⟩
  · exact ⟨ks, rfl, ⟨h1.1, .inl ⟨rfl, h0⟩⟩, h2⟩
  · by_cases e : g' = g
    · subst e
      refine ⟨ks.set j y, List.length_set, ?_, h2⟩
      have := (h1.stored j (.int .i64 y)).1
      rw [List.length_set, List.map_set]
      exact this
    · refine ⟨ks, rfl, own_kept h1 (Keeps.storeAt (F := fun i => i = g) (Keeps.refl _ _) rfl j _) fun i hi e' => ?_, h2⟩
      have : g' = i := by simpa [Value.ownBlock] using hi
      exact e (this.trans e')
theorem Nodes.written {B g j c : Nat} {A : Option Addr} {l : List Nd} (h : Nodes G w B A c l) (y : Int) {cs : Array Value} (hg : Has w g (.cells cs 3 (0, 0))) : ∃ l', l'.length = l.length ∧ (∀ i, (l'.getD i Nd.zero).kids.length = (l.getD i Nd.zero).kids.length) ∧ Nodes G (w.setCell ⟨g, j, none⟩ (.int .i64 y)) B A c l' := by
  obtain ⟨rows, rfl, h2, h3, h4⟩ := h
  have each : ∀ rs : List (Nd × Value), (∀ p ∈ rs, Kids G w p.2 p.1.kids) → ∃ rs' : List (Nd × Value), rs'.length = rs.length ∧ flat rs' = flat rs ∧ (∀ p ∈ rs', Kids G (w.setCell ⟨g, j, none⟩ (.int .i64 y)) p.2 p.1.kids) ∧ ∀ i, ((rs'.map Prod.fst).getD i Nd.zero).kids.length = ((rs.map Prod.fst).getD i Nd.zero).kids.length := by
    intro rs
    induction rs with
    | nil => exact fun _ => ⟨[], rfl, rfl, fun _ h => absurd h (by simp), fun _ => rfl⟩
    | cons p r ih =>
      intro hk
      obtain ⟨r', e1, e2, e3, e4⟩ := ih fun q hq => hk q (by simp [hq])
      obtain ⟨ks', hl, hk'⟩ := (hk p (by simp)).written (g := g) (j := j) y
      refine ⟨({ p.1 with kids := ks' }, p.2) :: r', by simp [e1], by rw [flat_cons, flat_cons, e2]; rfl, fun q hq => ?_, fun i => ?_⟩
      · rcases List.mem_cons.1 hq with rfl | hq
        · exact hk'
        · exact e3 q hq
      · cases i with
        | zero => exact hl
        | succ i => simpa using e4 i
  obtain ⟨rows', e1, e2, e3, e4⟩ := each rows h3
  have hlen : (rows'.map Prod.fst).length = (rows.map Prod.fst).length := by simp [e1]
  refine ⟨rows'.map Prod.fst, hlen, e4, rows', rfl, ?_, e3, h4⟩
  rw [hlen, e2]
  refine own_kept h2 (Keeps.storeAt (F := fun i => i = g) (Keeps.refl _ _) rfl j _) fun i hi e => ?_
  subst e
  rcases h2.2 with ⟨hv, _⟩ | ⟨g', cap, cur, hv, _, hh, _⟩
  · rw [hv] at hi; cases hi
  · rw [hv] at hi
    obtain rfl : g' = i := by simpa [Value.ownBlock] using hi
    exact Has.apart hh hg (by simp) rfl
end
end Go.Proofs.Ytekmgaigppenlaa

namespace Go.Proofs.Ytekmgaigppenlaa
open Go Go.RowKit

section
variable {l l' : List Nd} {p : Int}
theorem nd_ext (hlen : l'.length = l.length) (h : ∀ k, thereB l k = true → nd l' k = nd l k) : l' = l := by
  refine List.ext_getElem hlen fun i h1 h2 => ?_
  have ht : thereB l ((i : Int) + 1) = true := thereB_iff.2 ⟨by omega, by omega⟩
  have := h _ ht
  rwa [nd_at h1, nd_at h2] at this
/-- The nodes whose parent it is are its children. -/
theorem clr_kids (T : Tree l) (hp : thereB l p = true) : toPar l 0 (nd l p).kids = clr l p := by
  refine nd_ext (by rw [toPar_length, clr_length]) fun k hk => ?_
  have hk' : thereB l k = true := by rwa [there_len (clr_length l p)] at hk
  have hth : ∀ x ∈ (nd l p).kids, thereB l x = true := fun x hx => (T.kid p hp x hx).1
  rw [nd_toPar _ l k hth hk', nd_clr hk']
  by_cases hm : k ∈ (nd l p).kids
  · rw [if_pos hm, if_pos (T.kid p hp k hm).2]
  · rw [if_neg hm, if_neg]
    intro e
    have h0 : (nd l k).parent ≠ 0 := by rw [e]; exact there_pos hp
    have := (T.par k hk' h0).2
    rw [e] at this
    exact hm this
end

section
variable {S : Nat → Prop} {w w' : World} {b g c m : Nat} {l : List Nd}
theorem FrstAt.kidsSet {v : Value} {ks : List Int} (h : FrstAt S w b g c l) (hm : m < l.length) (hk : Kids S w v ks) : FrstAt S (w.setCell ⟨g, m * 9 + 8, none⟩ v) b g c (modN l ((m : Int) + 1) fun d => { d with kids := ks }) := by
  obtain ⟨-, -, h3⟩ := h.nodes.kidsSet hm hk
  refine ⟨h.mine, ?_, h3⟩
  rw [modN_length]
  exact h.head.aside h.ne v
theorem FrstAt.cellAny (h : FrstAt S w b g c l) (hm : m < l.length) {f : Nat} (hf : f < 9) : (∃ x, w.cell? ⟨g, m * 9 + f, none⟩ = some x) ∧ w.frozen? ⟨g, m * 9 + f, none⟩ = false := by
  obtain ⟨g', k', e, _, _, hz, hc⟩ := h.nodes.at_ hm
  obtain rfl : g = g' := by simpa using e
  exact ⟨⟨(l[m].cells k')[f]'(by rw [Nd.cells_length]; exact hf), by rw [hc f hf, List.getElem?_eq_getElem]⟩, hz _⟩
end

section
variable {S : Nat → Prop} {w : World} {b : Nat} {l : List Nd}
theorem arC {A : Option Addr} {c n : Nat} {xs : List Int} (hL : ListIn w A c xs) (hn : n = xs.length) (hx : n ≤ 200) (hG : Fut S w.heap.size) :
    Calls Try.prog 42 #[.slice A n c] w.drew fun e w' => ∃ A' c', e = .returned (.slice A' n c') ∧ Kids S w' (.slice A' n c') xs ∧ Below w.drew.heap.size w.drew w' := by
  subst hn
  exact arCopy (w := w.drew) A c ⟨hL.cap, hL.nil, hL.nums⟩ hx hG

set_option maxHeartbeats 8000000 in
set_option maxRecDepth 100000 in
theorem arPut (p : Int) (kids : List Int) (A2 : Option Addr) (c2 : Nat) (h : Frst S w b l) (hl : l.length ≤ 128) (hf : Few 200 l) (T : Tree l) (hS : Fut S w.heap.size) (hn : kids.length ≤ 200) (hL : ListIn w A2 c2 kids) (hA : 0 < kids.length → ∀ b' off s, A2 = some ⟨b', off, s⟩ → b' < w.heap.size → ¬ S b') :
    Calls Try.prog 28 #[.pointer (some ⟨b, 0, none⟩), .int .i64 p, .slice A2 kids.length c2] w (Told S w b (putL l p kids) (putErr l p kids)) := by
  have H := Lib.hid h
  have HT := Lib.hid T
  have Hf := Lib.hid hf
  have HS := Lib.hid hS
  have HL := Lib.hid hL
  have HA := Lib.hid hA
  clear h T hf hS hL hA
  have hnot : ∀ (x : Bool) (w : World), (Op.unary .not (.bool x)).run Try.prog w = .ok (.bool (!x)) w := fun _ _ => rfl
  cases hth : thereB l p with
  | false =>
    have e1 := put_no (kids := kids) hth
    rw [put_same e1 (by decide), e1]
    have Hth := Lib.hid hth
    clear hth e1
    go_enter Try.func28, Try.ntmps28
    go_wp2_with fail
    refine (arHas_is H.out Hth.out).mono ?_
    rintro e w1 ⟨rfl, rfl⟩
    go_wp2
    go_ret
    exact ⟨rfl, H.out, Keeps.refl _ _⟩
  | true =>
    have Hth := Lib.hid hth
    cases hea : eachB l kids with
    | false =>
      have e1 : putErr l p kids = 1 := by
        unfold putErr
        rw [if_neg (by rw [hth]; decide), if_pos (of_decide_eq_false hea)]
      rw [put_same e1 (by decide), e1]
      have Hea := Lib.hid hea
      clear hth hea e1
      go_enter Try.func28, Try.ntmps28
      go_wp2_with fail
      refine (arHas_is H.out Hth.out).mono ?_
      rintro e w1 ⟨rfl, rfl⟩
      go_wp2_with fail
      refine (arEach H.out hl A2 c2 HL.out hn Hea.out).mono ?_
      rintro e w1 ⟨rfl, hb1⟩
      go_wp2
      go_ret
      exact ⟨rfl, H.out.below hb1, Keeps.ofBelow hb1⟩
    | true =>
      have hall : ∀ i, i < kids.length → kidIn l kids i = true := of_decide_eq_true hea
      have hkt : ∀ k ∈ kids, thereB l k = true := kids_there hall
      have Hall := Lib.hid hall
      have Hkt := Lib.hid hkt
      have Hea := Lib.hid hea
      obtain ⟨n, hnn⟩ : ∃ n, n = kids.length := ⟨_, rfl⟩
      have Hn := Lib.hid hnn
      have hup := fun (k : Int) (hk : k ∈ kids) (hb : kidOk l (over l p) p k = false) => put_up hth hall hk hb
      have hok := put_ok (p := p) hth hall
      have Hup := Lib.hid hup
      have Hok := Lib.hid hok
      have hea' := arEach H.out hl A2 c2 HL.out hn Hea.out
      rw [← hnn] at hea'
      have Hea' := Lib.hid hea'
      rw [← hnn]
      rw [← hnn] at hn
      clear hall hkt hea hnn hup hok hea' Hea hth
      go_enter Try.func28, Try.ntmps28
      go_wp2_with fail
      refine (arHas_is H.out Hth.out).mono ?_
      rintro e w1 ⟨rfl, rfl⟩
      go_wp2_with fail
      refine Hea'.out.mono ?_
      rintro e w1 ⟨rfl, hb1⟩
      go_wp2_with fail
      go_loopw [25] (fun i wr => ∃ j : Nat, i = .int .i64 j ∧ j ≤ n ∧ (∀ k, k ∈ kids.take j → kidOk l (over l p) p k = true) ∧ Below w.heap.size w wr) (fun i _ => n - (intOf i).toNat)
      case atStart => exact ⟨0, rfl, Nat.zero_le _, fun k hk => absurd hk (by simp), hb1⟩
      case round =>
        obtain ⟨j, rfl, hj, hgood, hb⟩ := hrel
        have Hgood := Lib.hid hgood
        clear hgood hb1 Hea'
        by_cases hjn : (j : Int) < n
        · have hjk : j < kids.length := by rw [← Hn.out]; omega
          obtain ⟨b', off, rfl, hB, hc⟩ := (HL.out.below hb).nums j hjk
          obtain ⟨y, hy⟩ : ∃ y, y = kids[j] := ⟨_, rfl⟩
          rw [← hy] at hc
          have hmem : y ∈ kids := hy ▸ List.getElem_mem hjk
          have hstep : kidOk l (over l p) p y = true → ∀ k, k ∈ kids.take (j + 1) → kidOk l (over l p) p k = true := fun h k hk => by
            rw [List.take_add_one, List.getElem?_eq_getElem hjk, ← hy] at hk
            rcases List.mem_append.1 hk with hk | hk
            · exact Hgood.out k hk
            · obtain rfl : k = y := by simpa using hk
              exact h
          have Hstep := Lib.hid hstep
          have hbad := Hup.out y hmem
          have hty := Hkt.out y hmem
          have Hbad := Lib.hid hbad
          have Hty := Lib.hid hty
          have hR := H.out.below hb
          clear hy hmem hstep hbad hty
          cases hko : kidOk l (over l p) p y with
          | false =>
            have E1 := Lib.hid (Hbad.out hko)
            have Hko := Lib.hid hko
            clear hko
            go_wp2_with fail
            refine (arMay hR hl HT.out Hth.out Hty.out Hko.out).mono ?_
            rintro e w2 ⟨rfl, hb2⟩
            go_wp2
            go_ret
            rw [Told, put_same E1.out (by decide), E1.out]
            have hB2 := hb.trans (hb2.mono hb.size)
            exact ⟨rfl, H.out.below hB2, Keeps.ofBelow hB2⟩
          | true =>
            have Hnext := Lib.hid (Hstep.out hko)
            have Hko := Lib.hid hko
            clear hko
            go_wp2_with fail
            refine (arMay hR hl HT.out Hth.out Hty.out Hko.out).mono ?_
            rintro e w2 ⟨rfl, hb2⟩
            go_wp2
            go_roundw
            case rel => exact ⟨j + 1, by go_num, by omega, Hnext.out, hb.trans (hb2.mono hb.size)⟩
            case measure => simp [intOf]; omega
        · have hE : putErr l p kids = 0 := Hok.out fun k hk => Hgood.out k (by rw [List.take_of_length_le (by rw [← Hn.out]; omega)]; exact hk)
          have HE := Lib.hid hE
          obtain ⟨mp, hmp, hmpl⟩ := there_at Hth.out
          obtain ⟨g, c, hR0⟩ := H.out.at_ hmpl
          have hR := hR0.below hb
          have HSg := Lib.hid hR.row.1
          have q0 := hR.there_
          obtain ⟨_, kv, e', -, -, hkv, -, -, -, -, -, -, -, -, -, c8⟩ := hR.nodes.nine hmpl
          cases e'
          rw [← hmp] at hkv
          obtain ⟨A1, n1, rfl, -⟩ := hkv.list
          have hK0 : Keeps S w wr := Keeps.ofBelow hb
          have hok : (nd l p).kids.length ≤ 200 := by
            rw [hmp, nd_at hmpl]
            exact Hf.out _ (List.getElem_mem hmpl)
          have hclr := clr_kids HT.out Hth.out
          have hkin : ∀ k ∈ (nd l p).kids, thereB l k = true := fun k hk => (HT.out.kid p Hth.out k hk).1
          obtain ⟨oks, hoks⟩ : ∃ oks, oks = (nd l p).kids := ⟨_, rfl⟩
          rw [← hoks] at hkv c8 hok hclr hkin
          obtain ⟨on, hon⟩ : ∃ on, on = oks.length := ⟨_, rfl⟩
          rw [← hon] at c8 hok
          have Hon := Lib.hid hon
          have Hclr := Lib.hid hclr
          have Hkin := Lib.hid hkin
          have HR := Lib.hid hR
          have Hkv := Lib.hid hkv
          have HK0 := Lib.hid hK0
          subst hmp
          clear hE hR0 hR hkv hK0 hclr hkin hoks hon Hgood Hok Hup
          go_wp2_with fail
          go_loopw [45] (fun i wr' => ∃ j : Nat, i = .int .i64 j ∧ j ≤ on ∧ FrstAt S wr' b g c (toPar l 0 (oks.take j)) ∧ Kids S wr' (.slice A1 on n1) oks ∧ Keeps S w wr') (fun i _ => on - (intOf i).toNat)
          case atStart => exact ⟨0, rfl, Nat.zero_le _, HR.out, by rw [Hon.out]; exact Hkv.out, HK0.out⟩
          case round =>
            obtain ⟨i, rfl, hi, hRi, hkv, hKi⟩ := hrel
            clear hjn hj HR Hkv HK0 q0 c8 hb
            have hli : (toPar l 0 (oks.take i)).length = l.length := toPar_length _ _ _
            by_cases hin : (i : Int) < on
            · have hik : i < oks.length := by rw [← Hon.out]; omega
              obtain ⟨A', c', e', -, hnum⟩ := hkv.form
              obtain ⟨b', off, e'', hB, hc⟩ := hnum i hik
              have eA : A1 = A' := by injection e'
              subst eA
              subst e''
              obtain ⟨y, hy⟩ : ∃ y, y = oks[i] := ⟨_, rfl⟩
              rw [← hy] at hc
              have hty := Hkin.out y (hy ▸ List.getElem_mem hik)
              have hsn : toPar l 0 (oks.take (i + 1)) = modN (toPar l 0 (oks.take i)) y fun d => { d with parent := 0 } := by
                rw [List.take_add_one, List.getElem?_eq_getElem hik, ← hy]
                exact toPar_snoc _ _ _ _
              obtain ⟨m, rfl, hm⟩ := there_at hty
              have hm' : m < (toPar l 0 (oks.take i)).length := by rw [hli]; exact hm
              have q0 := hRi.there_
              rw [hli] at q0
              obtain ⟨⟨x, hx⟩, hz⟩ := hRi.cellAny hm' (f := 1) (by omega)
              have hR2 := hRi.turn (N := fun d => { d with parent := 0 }) (u := .int .i64 0) (f := 1) hm' (by omega) (fun _ _ => rfl) (fun _ => rfl)
              rw [← hsn] at hR2
              obtain ⟨-, -, cur, hrow⟩ := hRi.row
              have hkv2 := hkv.aside (i := m * 9 + 1) (u := .int .i64 0) hrow (by decide)
              have hK2 := hKi.store (p := ⟨g, m * 9 + 1, none⟩) (.inl HSg.out) (.int .i64 0)
              have HR2 := Lib.hid hR2
              have Hkv2 := Lib.hid hkv2
              have HK2 := Lib.hid hK2
              clear hnum e' hy hty hsn hm' hRi hR2 hrow hkv2 hK2 hKi hkv hli
              go_wp2
              go_roundw
              case rel => exact ⟨i + 1, by go_num, by omega, HR2.out, Hkv2.out, HK2.out⟩
              case measure => simp [intOf]; omega
            · have htk : oks.take i = oks := List.take_of_length_le (by rw [← Hon.out]; omega)
              rw [htk, Hclr.out] at hRi
              have HRi := Lib.hid hRi
              have HKi := Lib.hid hKi
              clear hRi hKi hkv htk hli Hclr Hkin
              go_wp2_with fail
              go_loopw [60] (fun i wr' => ∃ j : Nat, i = .int .i64 j ∧ j ≤ n ∧ FrstAt S wr' b g c (toPar (clr l ((mp : Int) + 1)) ((mp : Int) + 1) (kids.take j)) ∧ Keeps S w wr') (fun i _ => n - (intOf i).toNat)
              case atStart => exact ⟨0, rfl, Nat.zero_le _, HRi.out, HKi.out⟩
              case round =>
                obtain ⟨j, rfl, hj, hRj, hKj⟩ := hrel
                clear HRi HKi hin hi
                have hlj : (toPar (clr l ((mp : Int) + 1)) ((mp : Int) + 1) (kids.take j)).length = l.length := by rw [toPar_length, clr_length]
                have q0 := hRj.there_
                rw [hlj] at q0
                by_cases hjn : (j : Int) < n
                · have hjk : j < kids.length := by rw [← Hn.out]; omega
                  obtain ⟨b', off, rfl, hB, hc⟩ := (HL.out.kept hKj HA.out).nums j hjk
                  obtain ⟨y, hy⟩ : ∃ y, y = kids[j] := ⟨_, rfl⟩
                  rw [← hy] at hc
                  have hty := Hkt.out y (hy ▸ List.getElem_mem hjk)
                  have hsn : toPar (clr l ((mp : Int) + 1)) ((mp : Int) + 1) (kids.take (j + 1)) = modN (toPar (clr l ((mp : Int) + 1)) ((mp : Int) + 1) (kids.take j)) y fun d => { d with parent := (mp : Int) + 1 } := by
                    rw [List.take_add_one, List.getElem?_eq_getElem hjk, ← hy]
                    exact toPar_snoc _ _ _ _
                  obtain ⟨m, rfl, hm⟩ := there_at hty
                  have hm' : m < (toPar (clr l ((mp : Int) + 1)) ((mp : Int) + 1) (kids.take j)).length := by rw [hlj]; exact hm
                  obtain ⟨⟨x, hx⟩, hz⟩ := hRj.cellAny hm' (f := 1) (by omega)
                  have hR2 := hRj.turn (N := fun d => { d with parent := (mp : Int) + 1 }) (u := .int .i64 ((mp : Int) + 1)) (f := 1) hm' (by omega) (fun _ _ => rfl) (fun _ => rfl)
                  rw [← hsn] at hR2
                  have hK2 := hKj.store (p := ⟨g, m * 9 + 1, none⟩) (.inl HSg.out) (.int .i64 ((mp : Int) + 1))
                  have HR2 := Lib.hid hR2
                  have HK2 := Lib.hid hK2
                  clear hy hty hsn hm' hRj hR2 hK2 hKj hlj
                  go_wp2
                  go_roundw
                  case rel => exact ⟨j + 1, by go_num, by omega, HR2.out, HK2.out⟩
                  case measure => simp [intOf]; omega
                · rw [List.take_of_length_le (by rw [← Hn.out]; omega)] at hRj hlj
                  have hLj := HL.out.kept hKj HA.out
                  have hL : putL l ((mp : Int) + 1) kids = modN (toPar (clr l ((mp : Int) + 1)) ((mp : Int) + 1) kids) ((mp : Int) + 1) fun d => { d with kids := kids } := by unfold putL; rw [if_pos HE.out]
                  have hm' : mp < (toPar (clr l ((mp : Int) + 1)) ((mp : Int) + 1) kids).length := by rw [hlj]; exact hmpl
                  have HPL := Lib.hid hL
                  have HRj := Lib.hid hRj
                  have HKj := Lib.hid hKj
                  have HLj := Lib.hid hLj
                  have Hm' := Lib.hid hm'
                  have Hlj := Lib.hid hlj
                  clear hL hRj hKj hLj hm' hlj
                  go_wp2_with fail
                  refine wp_region_way (late := []) (S := fun w' => w'.cell? ⟨b, 0, none⟩ = some (.slice (some ⟨g, 0, none⟩) l.length c)) (y := Way.takes [0, 1, 2, 3, 4, 5, 6] (.run 7 (.take 8 (.take 9 (.run 10 .fin))))) (by kernel_rfl) (by kernel_rfl) rfl (by kernel_rfl) q0 (fun hHeld => ?_)
                  simp only [Way.takes]
                  (repeat (first | (refine way_skip (by simp only [List.getElem?_toArray, List.getElem?_cons_succ, List.getElem?_cons_zero]; rfl) (by rfl) hHeld ?_; (try simp only [Act.put, List.setIfInBounds_toArray, List.set_cons_zero, List.set_cons_succ])) | (refine way_pass (by simp only [List.getElem?_toArray, List.getElem?_cons_succ, List.getElem?_cons_zero]; rfl) (by rfl) hHeld ?_; (try simp only [Act.put, List.setIfInBounds_toArray, List.set_cons_zero, List.set_cons_succ])) | (refine way_take (v := ?_) (by simp only [List.getElem?_toArray, List.getElem?_cons_succ, List.getElem?_cons_zero]; rfl) (by rfl) ?_ hHeld ?_; rotate_left; (focus (intro w hSw; (try dsimp only at hSw); go_simp; (try with_reducible rfl); done)); (try simp only [Act.put, List.setIfInBounds_toArray, List.set_cons_zero, List.set_cons_succ]))))
                  refine way_run (by simp only [List.getElem?_toArray, List.getElem?_cons_succ, List.getElem?_cons_zero]; rfl) (by rfl) (fun K hK => ?_)
                  go_simp
                  refine (arC (S := S) HLj.out Hn.out hn (HS.out.mono HKj.out.grows)).mono ?_
                  rintro e w2 ⟨A3, c3, rfl, hk3, hb3⟩
                  have hR3 : FrstAt S w2 b g c (toPar (clr l ((mp : Int) + 1)) ((mp : Int) + 1) kids) := FrstAt.below (w := wr.drew) ⟨HRj.out.mine, HRj.out.head, HRj.out.nodes⟩ hb3
                  have q3 := hR3.there_
                  rw [Hlj.out] at q3
                  obtain ⟨⟨x, hx⟩, hz⟩ := hR3.cellAny Hm'.out (f := 8) (by omega)
                  have hR4 := hR3.kidsSet Hm'.out hk3
                  rw [← HPL.out] at hR4
                  have q4 := hR4.there_
                  rw [putL_length] at q4
                  have hK4 : Keeps S w (w2.setCell ⟨g, mp * 9 + 8, none⟩ (.slice A3 n c3)) := (HKj.out.also (((Keeps.refl _ wr).drew).also (Keeps.ofBelow hb3))).store (p := ⟨g, mp * 9 + 8, none⟩) (.inl HSg.out) _
                  have HR4 := Lib.hid hR4.frst
                  have HK4 := Lib.hid hK4
                  have hw2 : IntKind.i64.wrap (mp : Int) = (mp : Int) := wrap_small (by omega) (by omega)
                  clear hR3 hR4 hK4 hk3 hb3
                  go_simp
                  refine hK.out _ _ q3 (fun hHeld => ?_)
                  clear hK K
                  (try simp only [Act.put, List.setIfInBounds_toArray, List.set_cons_zero, List.set_cons_succ])
                  (repeat (first | (refine way_skip (by simp only [List.getElem?_toArray, List.getElem?_cons_succ, List.getElem?_cons_zero]; rfl) (by rfl) hHeld ?_; (try simp only [Act.put, List.setIfInBounds_toArray, List.set_cons_zero, List.set_cons_succ])) | (refine way_pass (by simp only [List.getElem?_toArray, List.getElem?_cons_succ, List.getElem?_cons_zero]; rfl) (by rfl) hHeld ?_; (try simp only [Act.put, List.setIfInBounds_toArray, List.set_cons_zero, List.set_cons_succ])) | (refine way_take (v := ?_) (by simp only [List.getElem?_toArray, List.getElem?_cons_succ, List.getElem?_cons_zero]; rfl) (by rfl) ?_ hHeld ?_; rotate_left; (focus (intro w hSw; (try dsimp only at hSw); go_simp; (try with_reducible rfl); done)); (try simp only [Act.put, List.setIfInBounds_toArray, List.set_cons_zero, List.set_cons_succ]))))
                  refine way_run (by simp only [List.getElem?_toArray, List.getElem?_cons_succ, List.getElem?_cons_zero]; rfl) (by rfl) (fun K hK => ?_)
                  go_simp
                  refine hK.out _ _ q4 (fun hHeld => ?_)
                  clear hK K
                  (try simp only [Act.put, List.setIfInBounds_toArray, List.set_cons_zero, List.set_cons_succ])
                  refine way_done ?_
                  go_wp2
                  go_ret
                  rw [Told, HE.out]
                  exact ⟨rfl, HR4.out, HK4.out⟩
end
end Go.Proofs.Ytekmgaigppenlaa

namespace Go.Proofs.Ytekmgaigppenlaa
open Go Go.RowKit

theorem arOk : ForestOk Frst where
  keep h k hF := h.keep k hF
  wide h hS := h.wide hS
  new S w hS := arNew S w hS
  make _ _ _ _ k pa ho sh m sl na wa ks _ _ h hg hS hna hwa _ := arMake k pa ho sh m sl na wa ks _ h hg.len hS hna hwa
  put _ _ _ _ p ks A2 c2 h hg hS hn hL hA := arPut p ks A2 c2 h hg.len hg.few hg.tree hS hn hL hA
  tie _ _ _ _ h r hR hg _ := arTie h r hR hg.len hg.tree
  name _ _ _ _ id s h hg _ hs := arName id s h hg.len hs
  want _ _ _ _ id s h hg _ hs := arWant id s h hg.len hs
theorem arMore : ForestMore Frst where
  node _ w _ _ id h hg := (arNode (G := fun i => w.heap.size ≤ i) id h hg.len hg.few fun _ h => h).mono fun _ _ ⟨A, c, he, hk, hb⟩ => ⟨_, A, c, he, rfl, hk, hb⟩
  len _ w _ _ h _ := (arLen h).mono fun _ _ ⟨he, hw⟩ => ⟨he, by rw [← hw]; exact Below.refl _ _⟩
end Go.Proofs.Ytekmgaigppenlaa

namespace Go.Proofs.Ytekmgaigppenlaa
open Go

/-- A node, its parent, and so on. -/
def parN (l : List Nd) : Nat → Int → List Int
  | 0, _ => []
  | n + 1, id => if thereB l id then id :: parN l n (nd l id).parent else []
def parL (l : List Nd) (id : Int) : List Int := parN l (l.length + 1) id
/-- A node and all below it. -/
def ordN (l : List Nd) : Nat → Int → List Int
  | 0, _ => []
  | n + 1, id => if thereB l id then id :: (nd l id).kids.flatMap (ordN l n) else []
def ordL (l : List Nd) (id : Int) : List Int := ordN l (l.length + 1) id
/-- The last one of a list; 0: there is none. -/
def lastL (xs : List Int) : Int := xs.getLastD 0
def rootL (l : List Nd) (id : Int) : Int := lastL (parL l id)

section
variable {l : List Nd} {n : Nat} {i x k : Int}
theorem par_go (h : thereB l i = true) : parN l (n + 1) i = i :: parN l n (nd l i).parent := by rw [parN, if_pos h]
theorem par_no (h : thereB l i = false) : parN l n i = [] := by
  cases n with
  | zero => rfl
  | succ n => rw [parN, if_neg (by rw [h]; decide)]
/-- It is the beginning of the way up. -/
theorem par_pre : ∀ (n : Nat) (i : Int), parN l n i <+: overN l n i
  | 0, _ => List.prefix_refl _
  | n + 1, i => by
    cases h : thereB l i with
    | false => rw [par_no h]; exact List.nil_prefix
    | true =>
      rw [par_go h, up_go h, List.cons_prefix_cons]
      refine ⟨rfl, ?_⟩
      by_cases hp : (nd l i).parent = 0
      · rw [hp, par_no (there_zero l)]
        exact List.nil_prefix
      · have e : upOf l i = (nd l i).parent := if_neg hp
        rw [e]
        exact par_pre n _
theorem par_short (T : Tree l) (n : Nat) (i : Int) : (parN l n i).length ≤ l.length := Nat.le_trans (par_pre n i).length_le (up_short T.ends n i)
theorem par_once (T : Tree l) (n : Nat) (i : Int) : (parN l n i).Nodup := (up_once T.ends n i).sublist (par_pre n i).sublist
theorem par_more : ∀ (n : Nat) (i : Int), (parN l n i).length < n → parN l (n + 1) i = parN l n i
  | 0, _, h => absurd h (Nat.not_lt_zero _)
  | n + 1, i, h => by
    cases ht : thereB l i with
    | false => rw [par_no ht, par_no ht]
    | true =>
      rw [par_go ht] at h
      rw [par_go ht, par_go (n := n) ht, par_more n _ (by simpa using h)]
theorem parL_no (h : thereB l i = false) : parL l i = [] := par_no h
theorem parL_step (T : Tree l) (h : thereB l i = true) : parL l i = i :: parL l (nd l i).parent := by
  have e : parL l i = i :: parN l l.length (nd l i).parent := par_go h
  have hs : (parL l i).length ≤ l.length := par_short T (l.length + 1) i
  rw [e] at hs
  simp only [List.length_cons] at hs
  rw [e]
  show _ = i :: parN l (l.length + 1) _
  rw [par_more l.length _ (by omega)]
theorem parL_len (T : Tree l) (i : Int) : (parL l i).length ≤ l.length := par_short T _ i
theorem parL_once (T : Tree l) (i : Int) : (parL l i).Nodup := par_once T _ i
theorem par_there : ∀ (n : Nat) (i x : Int), x ∈ parN l n i → thereB l x = true := fun n i x h => up_there n i x ((par_pre n i).subset h)
theorem parL_there (h : x ∈ parL l i) : thereB l x = true := par_there _ i x h
theorem parL_self (T : Tree l) (h : thereB l i = true) : i ∈ parL l i := by rw [parL_step T h]; exact List.mem_cons_self
theorem parL_kid (T : Tree l) (h : thereB l i = true) (hk : k ∈ (nd l i).kids) : parL l k = k :: parL l i := by
  obtain ⟨h1, h2⟩ := T.kid i h k hk
  rw [parL_step T h1, h2]
/-- The way up from one on a way up is its end. -/
theorem parL_tail (T : Tree l) : ∀ (m : Nat) (i : Int), (parL l i).length ≤ m → ∀ x, x ∈ parL l i → parL l x <:+ parL l i
  | 0, i, hm, x, h => by
    have : parL l i = [] := List.length_eq_zero_iff.1 (by omega)
    rw [this] at h
    cases h
  | m + 1, i, hm, x, h => by
    cases ht : thereB l i with
    | false => rw [parL_no ht] at h; cases h
    | true =>
      have e := parL_step T ht
      rw [e] at h
      rcases List.mem_cons.1 h with rfl | h
      · exact List.suffix_refl _
      · rw [e] at hm
        rw [e]
        exact (parL_tail T m _ (by simpa using hm) x h).trans (List.suffix_cons _ _)
theorem parL_suffix (T : Tree l) (h : x ∈ parL l i) : parL l x <:+ parL l i := parL_tail T _ i (Nat.le_refl _) x h
theorem parL_trans (T : Tree l) {y : Int} (h : x ∈ parL l i) (h' : y ∈ parL l x) : y ∈ parL l i := (parL_suffix T h).subset h'
theorem parL_par (T : Tree l) (h : x ∈ parL l i) (hp : thereB l (nd l x).parent = true) : (nd l x).parent ∈ parL l i := by
  refine parL_trans T h ?_
  rw [parL_step T (parL_there h)]
  exact List.mem_cons_of_mem _ (parL_self T hp)
/-- Two on one way up, of one length: one. -/
theorem parL_same (T : Tree l) {a b : Int} (ha : a ∈ parL l i) (hb : b ∈ parL l i) (hl : (parL l a).length = (parL l b).length) : a = b := by
  obtain ⟨p, hp⟩ := parL_suffix T ha
  obtain ⟨q, hq⟩ := parL_suffix T hb
  have e : parL l a = parL l b := (List.append_inj' (hp.trans hq.symm) hl).2
  rw [parL_step T (parL_there ha), parL_step T (parL_there hb)] at e
  exact (List.cons.inj e).1

/-- How much is below at most. -/
theorem ord_no (h : thereB l i = false) : ordN l n i = [] := by
  cases n with
  | zero => rfl
  | succ n => rw [ordN, if_neg (by rw [h]; decide)]
theorem ord_go (h : thereB l i = true) : ordN l (n + 1) i = i :: (nd l i).kids.flatMap (ordN l n) := by rw [ordN, if_pos h]
theorem flatMap_same {f g : Int → List Int} : ∀ (ks : List Int), (∀ k ∈ ks, f k = g k) → ks.flatMap f = ks.flatMap g
  | [], _ => rfl
  | k :: r, h => by rw [List.flatMap_cons, List.flatMap_cons, h k (by simp), flatMap_same r fun k' hk' => h k' (by simp [hk'])]
theorem ord_stay (T : Tree l) : ∀ (n m : Nat) (i : Int), l.length + 1 ≤ n + (parL l i).length → l.length + 1 ≤ m + (parL l i).length → ordN l n i = ordN l m i
  | 0, m, i, hn, _ => by have := parL_len T i; omega
  | n + 1, 0, i, _, hm => by have := parL_len T i; omega
  | n + 1, m + 1, i, hn, hm => by
    cases ht : thereB l i with
    | false => rw [ord_no ht, ord_no ht]
    | true =>
      rw [ord_go ht, ord_go ht]
      congr 1
      refine flatMap_same _ fun k hk => ?_
      have e := congrArg List.length (parL_kid T ht hk)
      simp only [List.length_cons] at e
      exact ord_stay T n m k (by omega) (by omega)
theorem ordL_no (h : thereB l i = false) : ordL l i = [] := ord_no h
theorem ordL_step (T : Tree l) (h : thereB l i = true) : ordL l i = i :: (nd l i).kids.flatMap (ordL l) := by
  have e : ordL l i = i :: (nd l i).kids.flatMap (ordN l l.length) := ord_go h
  rw [e]
  congr 1
  refine flatMap_same _ fun k hk => ?_
  have e' := congrArg List.length (parL_kid T h hk)
  have h1 := congrArg List.length (parL_step T h)
  simp only [List.length_cons] at e' h1
  exact ord_stay T _ _ k (by omega) (by omega)

/-- What is below has it above. -/
theorem ord_above (T : Tree l) : ∀ (n : Nat) (i x : Int), x ∈ ordN l n i → i ∈ parL l x
  | 0, _, _, h => by cases h
  | n + 1, i, x, h => by
    cases ht : thereB l i with
    | false => rw [ord_no ht] at h; cases h
    | true =>
      rw [ord_go ht] at h
      rcases List.mem_cons.1 h with rfl | h
      · exact parL_self T ht
      · obtain ⟨k, hk, hx⟩ := List.mem_flatMap.1 h
        have h1 := ord_above T n k x hx
        have h2 := (T.kid i ht k hk).2
        have := parL_par T h1 (by rw [h2]; exact ht)
        rwa [h2] at this
theorem ord_kid : ∀ (n : Nat) (i y k : Int), y ∈ ordN l n i → thereB l y = true → thereB l k = true → k ∈ (nd l y).kids → k ∈ ordN l (n + 1) i
  | 0, _, _, _, h, _, _, _ => by cases h
  | n + 1, i, y, k, h, hy, hkt, hk => by
    cases ht : thereB l i with
    | false => rw [ord_no ht] at h; cases h
    | true =>
      rw [ord_go ht] at h
      rw [ord_go ht]
      rcases List.mem_cons.1 h with rfl | h
      · refine List.mem_cons_of_mem _ (List.mem_flatMap.2 ⟨k, hk, ?_⟩)
        rw [ord_go hkt]
        exact List.mem_cons_self
      · obtain ⟨k', hk', hx⟩ := List.mem_flatMap.1 h
        exact List.mem_cons_of_mem _ (List.mem_flatMap.2 ⟨k', hk', ord_kid n k' y k hx hy hkt hk⟩)
theorem ordL_kid (T : Tree l) {y : Int} (h : y ∈ ordL l i) (hy : thereB l y = true) (hk : k ∈ (nd l y).kids) : k ∈ ordL l i := by
  have := ord_kid (l.length + 1) i y k h hy (T.kid y hy k hk).1 hk
  rw [ord_stay T (l.length + 1 + 1) (l.length + 1) i (by omega) (by omega)] at this
  exact this
theorem ordL_mem (T : Tree l) : x ∈ ordL l i ↔ i ∈ parL l x := by
  refine ⟨ord_above T _ i x, fun h => ?_⟩
  have go : ∀ (m : Nat) (x : Int), (parL l x).length ≤ m → i ∈ parL l x → x ∈ ordL l i := by
    intro m
    induction m with
    | zero =>
      intro x hm h
      have : parL l x = [] := List.length_eq_zero_iff.1 (by omega)
      rw [this] at h
      cases h
    | succ m ih =>
      intro x hm h
      cases ht : thereB l x with
      | false => rw [parL_no ht] at h; cases h
      | true =>
        have e := parL_step T ht
        rw [e] at h hm
        rcases List.mem_cons.1 h with rfl | h
        · rw [ordL_step T ht]
          exact List.mem_cons_self
        · have hpt : thereB l (nd l x).parent = true := by
            cases hq : thereB l (nd l x).parent with
            | true => rfl
            | false => rw [parL_no hq] at h; cases h
          have h0 : (nd l x).parent ≠ 0 := there_pos hpt
          exact ordL_kid T (ih _ (by simpa using hm) h) hpt (T.par x ht h0).2
  exact go _ x (Nat.le_refl _) h
theorem ordL_there (T : Tree l) (h : x ∈ ordL l i) : thereB l x = true := by
  have h1 := (ordL_mem T).1 h
  cases ht : thereB l x with
  | true => rfl
  | false => rw [parL_no ht] at h1; cases h1

theorem flatMap_nodup {f : Int → List Int} : ∀ (ks : List Int), ks.Nodup → (∀ k ∈ ks, (f k).Nodup) → (∀ a ∈ ks, ∀ b ∈ ks, ∀ x, x ∈ f a → x ∈ f b → a = b) → (ks.flatMap f).Nodup
  | [], _, _, _ => List.nodup_nil
  | k :: r, hn, hf, hd => by
    rw [List.flatMap_cons, List.nodup_append]
    obtain ⟨h1, h2⟩ := List.nodup_cons.1 hn
    refine ⟨hf k (by simp), flatMap_nodup r h2 (fun k' hk' => hf k' (by simp [hk'])) (fun a ha b hb => hd a (by simp [ha]) b (by simp [hb])), fun x hx y hy e => ?_⟩
    subst e
    obtain ⟨k', hk', hx'⟩ := List.mem_flatMap.1 hy
    have := hd k (by simp) k' (by simp [hk']) x hx hx'
    subst this
    exact h1 hk'
theorem ord_once (T : Tree l) : ∀ (n : Nat) (i : Int), (ordN l n i).Nodup
  | 0, _ => List.nodup_nil
  | n + 1, i => by
    cases ht : thereB l i with
    | false => rw [ord_no ht]; exact List.nodup_nil
    | true =>
      rw [ord_go ht, List.nodup_cons]
      refine ⟨fun h => ?_, flatMap_nodup _ (T.once i ht) (fun k _ => ord_once T n k) fun a ha b hb x hxa hxb => ?_⟩
      · obtain ⟨k, hk, hx⟩ := List.mem_flatMap.1 h
        have h1 := ord_above T n k i hx
        have h2 := parL_once T k
        rw [parL_kid T ht hk] at h2
        exact (List.nodup_cons.1 h2).1 h1
      · refine parL_same T (ord_above T n a x hxa) (ord_above T n b x hxb) ?_
        rw [parL_kid T ht ha, parL_kid T ht hb]
        rfl
theorem ordL_once (T : Tree l) (i : Int) : (ordL l i).Nodup := ord_once T _ i
theorem ordL_len (T : Tree l) (i : Int) : (ordL l i).length ≤ l.length := by
  have h := pigeon l.length ((ordL l i).map fun x => (x - 1).toNat) (by
    refine List.pairwise_map.2 ((ordL_once T i).imp_of_mem fun {a b} ha hb hab e => hab ?_)
    have h1 := thereB_iff.1 (ordL_there T ha)
    have h2 := thereB_iff.1 (ordL_there T hb)
    omega) fun y hy => by
      obtain ⟨x, hx, rfl⟩ := List.mem_map.1 hy
      exact there_lt (ordL_there T hx)
  simpa using h

/-- Each has its parent ahead of it. -/
def Beh (l : List Nd) : List Int → List Int → Prop
  | _, [] => True
  | acc, x :: r => (nd l x).parent ∈ acc ∧ Beh l (x :: acc) r
theorem beh_mono : ∀ (xs acc acc' : List Int), (∀ y, y ∈ acc → y ∈ acc') → Beh l acc xs → Beh l acc' xs
  | [], _, _, _, _ => trivial
  | x :: r, acc, acc', h, hb => ⟨h _ hb.1, beh_mono r _ _ (fun y hy => by
      rcases List.mem_cons.1 hy with rfl | hy
      · exact List.mem_cons_self
      · exact List.mem_cons_of_mem _ (h y hy)) hb.2⟩
theorem beh_append : ∀ (xs ys acc : List Int), Beh l acc xs → Beh l acc ys → Beh l acc (xs ++ ys)
  | [], _, _, _, h => h
  | _ :: r, ys, _, h, h' => ⟨h.1, beh_append r ys _ h.2 (beh_mono ys _ _ (fun _ hy => List.mem_cons_of_mem _ hy) h')⟩
theorem beh_flat {f : Int → List Int} {acc : List Int} : ∀ (ks : List Int), (∀ k ∈ ks, Beh l acc (f k)) → Beh l acc (ks.flatMap f)
  | [], _ => trivial
  | k :: r, h => by
    rw [List.flatMap_cons]
    exact beh_append _ _ _ (h k (by simp)) (beh_flat r fun k' hk' => h k' (by simp [hk']))
theorem beh_ord (T : Tree l) : ∀ (n : Nat) (i : Int) (acc : List Int), (nd l i).parent ∈ acc → Beh l acc (ordN l n i)
  | 0, _, _, _ => trivial
  | n + 1, i, acc, h => by
    cases ht : thereB l i with
    | false => rw [ord_no ht]; trivial
    | true =>
      rw [ord_go ht]
      exact ⟨h, beh_flat _ fun k hk => beh_ord T n k _ (by rw [(T.kid i ht k hk).2]; exact List.mem_cons_self)⟩
theorem beh_at : ∀ (xs acc : List Int) (j : Nat) (hj : j < xs.length), Beh l acc xs → (nd l xs[j]).parent ∈ acc ∨ (nd l xs[j]).parent ∈ xs.take j
  | [], _, j, hj, _ => absurd hj (Nat.not_lt_zero j)
  | _ :: _, _, 0, _, h => .inl h.1
  | x :: r, acc, j + 1, hj, h => by
    rcases beh_at r (x :: acc) j (by simpa using hj) h.2 with h' | h'
    · rcases List.mem_cons.1 h' with h' | h'
      · right
        rw [List.take_succ_cons]
        simp only [List.getElem_cons_succ, h']
        exact List.mem_cons_self
      · exact .inl h'
    · right
      rw [List.take_succ_cons]
      exact List.mem_cons_of_mem _ h'
/-- In tree order each one but the first stands behind its parent. -/
theorem ordL_behind (T : Tree l) {j : Nat} (hj : j < (ordL l i).length) (h0 : 0 < j) : (nd l (ordL l i)[j]).parent ∈ (ordL l i).take j := by
  cases ht : thereB l i with
  | false =>
    rw [ordL_no ht] at hj
    exact absurd hj (Nat.not_lt_zero j)
  | true =>
    obtain ⟨m, rfl⟩ : ∃ m, j = m + 1 := ⟨j - 1, by omega⟩
    have e := ordL_step T ht
    have hb : Beh l [i] ((nd l i).kids.flatMap (ordL l)) := beh_flat _ fun k hk => beh_ord T _ k _ (by rw [(T.kid i ht k hk).2]; exact List.mem_cons_self)
    generalize hz : ordL l i = z at hj e ⊢
    subst e
    have hm : m < ((nd l i).kids.flatMap (ordL l)).length := by simpa using hj
    simp only [List.getElem_cons_succ, List.take_succ_cons]
    rcases beh_at _ _ m hm hb with h | h
    · rw [List.mem_singleton.1 h]
      exact List.mem_cons_self
    · exact List.mem_cons_of_mem _ h

theorem lastL_suffix {xs ys : List Int} (h : xs <:+ ys) (hx : xs ≠ []) : lastL ys = lastL xs := by
  obtain ⟨p, rfl⟩ := h
  unfold lastL
  rw [List.getLastD_eq_getLast?, List.getLastD_eq_getLast?, List.getLast?_append, List.getLast?_eq_some_getLast hx, Option.some_or]
theorem lastL_mem {xs : List Int} (h : xs ≠ []) : lastL xs ∈ xs := by
  unfold lastL
  rw [List.getLastD_eq_getLast?, List.getLast?_eq_some_getLast h]
  exact List.getLast_mem h
theorem rootL_no (h : thereB l i = false) : rootL l i = 0 := by
  unfold rootL
  rw [parL_no h]
  rfl
theorem parL_ne (T : Tree l) (h : thereB l i = true) : parL l i ≠ [] := by
  rw [parL_step T h]
  simp
theorem rootL_mem (T : Tree l) (h : thereB l i = true) : rootL l i ∈ parL l i := lastL_mem (parL_ne T h)
theorem rootL_there (T : Tree l) (h : thereB l i = true) : thereB l (rootL l i) = true := parL_there (rootL_mem T h)
/-- A root has no parent. -/
theorem rootL_bare (T : Tree l) (h : thereB l i = true) : (nd l (rootL l i)).parent = 0 := by
  refine Decidable.byContradiction fun hp => ?_
  have hr := rootL_mem T h
  have ht := parL_there hr
  have hpt := (T.par _ ht hp).1
  have e : parL l (rootL l i) = rootL l i :: parL l (nd l (rootL l i)).parent := parL_step T ht
  have hs := lastL_suffix (parL_suffix T hr) (parL_ne T ht)
  have hs2 : lastL (parL l (rootL l i)) = lastL (parL l (nd l (rootL l i)).parent) := lastL_suffix (by rw [e]; exact List.suffix_cons _ _) (parL_ne T hpt)
  have hm := lastL_mem (parL_ne T hpt)
  have hn := parL_once T (rootL l i)
  rw [e] at hn
  refine (List.nodup_cons.1 hn).1 ?_
  rw [← hs2, ← hs] at hm
  exact hm
theorem parL_root (T : Tree l) (h : thereB l i = true) : parL l (rootL l i) = [rootL l i] := by
  rw [parL_step T (rootL_there T h), rootL_bare T h, parL_no (there_zero l)]
/-- What has a root above has it as its root. -/
theorem rootL_of (T : Tree l) (h : thereB l i = true) (hx : rootL l i ∈ parL l x) : rootL l x = rootL l i := by
  have := lastL_suffix (parL_suffix T hx) (parL_ne T (rootL_there T h))
  unfold rootL
  rw [this, parL_root T h]
  rfl
end
end Go.Proofs.Ytekmgaigppenlaa

namespace Go.Proofs.Ytekmgaigppenlaa
open Go Go.RowKit

/-- A list of numbers of the call's own, its block from base on; what lies behind its end may be written over only where nobody else can see it. -/
def Pile (base : Nat) (w : World) (v : Value) (xs : List Int) : Prop :=
  (v = .slice none 0 0 ∧ xs = []) ∨
  ∃ g cap cur, v = .slice (some ⟨g, 0, none⟩) xs.length cap ∧ base ≤ g ∧ Has w g (.cells cur 3 (0, 0)) ∧ xs.length ≤ cap ∧ cap ≤ maxLen ∧ (cur.size = cap ∨ cap = xs.length) ∧ cur.toList.take xs.length = xs.map (Value.int .i64)

section
variable {base base' : Nat} {w w' : World} {v : Value} {xs : List Int} {F : Nat → Prop}
theorem Pile.nil (base : Nat) (w : World) : Pile base w (.slice none 0 0) [] := .inl ⟨rfl, rfl⟩
theorem Pile.lt (h : Pile base w v xs) : ∀ g, v.ownBlock = some g → base ≤ g ∧ g < w.heap.size := by
  intro k hk
  rcases h with ⟨rfl, _⟩ | ⟨g, cap, cur, rfl, hb, hg, _⟩
  · cases hk
  · obtain rfl : g = k := by simpa [Value.ownBlock] using hk
    exact ⟨hb, hg.inside⟩
theorem Pile.kept (h : Pile base w v xs) (k : Keeps F w w') (hF : ∀ g, v.ownBlock = some g → ¬ F g) : Pile base w' v xs := by
  rcases h with h | ⟨g, cap, cur, rfl, hb, hg, rest⟩
  · exact .inl h
  · exact .inr ⟨g, cap, cur, rfl, hb, hg.kept k (hF g rfl), rest⟩
theorem Pile.below (h : Pile base w v xs) (k : Below w.heap.size w w') : Pile base w' v xs :=
  h.kept (Keeps.of_below (F := fun i => w.heap.size ≤ i) k fun _ _ h => h) fun g hg => Nat.not_le.2 (h.lt g hg).2
theorem Pile.from_ (h : Pile base w v xs) (hb : base' ≤ base) : Pile base' w v xs := by
  rcases h with h | ⟨g, cap, cur, rfl, h1, rest⟩
  · exact .inl h
  · exact .inr ⟨g, cap, cur, rfl, Nat.le_trans hb h1, rest⟩
theorem Pile.since (h : Pile base w v xs) (hb : ∀ g, v.ownBlock = some g → base' ≤ g) : Pile base' w v xs := by
  rcases h with h | ⟨g, cap, cur, rfl, h1, rest⟩
  · exact .inl h
  · exact .inr ⟨g, cap, cur, rfl, hb g rfl, rest⟩
theorem Pile.alloc (h : Pile base w v xs) (o : Obj) : Pile base (w.alloc o) v xs := h.below ((Below.refl _ w).alloc (Nat.le_refl _) o)
theorem Pile.drew (h : Pile base w v xs) : Pile base w.drew v xs := h
theorem Pile.drewN (h : Pile base w v xs) (n : Nat) : Pile base (w.drewN n) v xs := h
/-- Its shape, and that it may be read. -/
theorem Pile.form (h : Pile base w v xs) : ∃ A c, v = .slice A xs.length c ∧ ListIn w A c xs := by
  rcases h with ⟨rfl, rfl⟩ | ⟨g, cap, cur, rfl, hb, hg, hl, hm, hc, ht⟩
  · exact ⟨none, 0, rfl, Nat.le_refl _, fun _ => rfl, fun i hi => absurd hi (Nat.not_lt_zero i)⟩
  · refine ⟨_, cap, rfl, hl, (fun e => by cases e), fun i hi => ⟨g, 0, rfl, hg.inside, ?_⟩⟩
    have e := congrArg (fun z => z[i]?) ht
    simp only [List.getElem?_take, if_pos hi, List.getElem?_map, List.getElem?_eq_getElem hi] at e
    rw [Nat.zero_add, hg.cell i, ← Array.getElem?_toList, e]
    rfl
theorem Pile.of_kids {G : Nat → Prop} (h : Kids G w v xs) (hb : ∀ g, G g → g < w.heap.size → base ≤ g) : Pile base w v xs := by
  rcases h.1.2 with ⟨hv, h0⟩ | ⟨g, cap, cur, hv, _, hg, h1, h2, h3, h4⟩
  · exact .inl ⟨hv, List.length_eq_zero_iff.1 h0⟩
  · exact .inr ⟨g, cap, cur, hv, hb g (h.2 g (by rw [hv]; rfl)) (Has.inside hg), hg, h1, h2, .inl (by omega), by rw [Nat.mul_one] at h4; exact h4⟩
/-- A literal. -/
theorem Pile.lit (w : World) (xs : List Int) (n : Nat) (hn : n = xs.length) (hm : n ≤ maxLen) (hb : base ≤ w.heap.size) : Pile base (w.alloc (.cells (xs.map (Value.int .i64)).toArray 3)) (.slice (some ⟨w.heap.size, 0, none⟩) n n) xs := by
  subst hn
  refine .inr ⟨w.heap.size, xs.length, _, rfl, hb, Has.fresh _ _, Nat.le_refl _, hm, .inr rfl, ?_⟩
  simp only
  rw [List.take_of_length_le (by simp)]
/-- The last one is cut off. -/
theorem Pile.clip {A : Option Addr} {n c : Nat} {y : Int} (h : Pile base w (.slice A (n + 1) c) (xs ++ [y])) (hn : n = xs.length) : ∃ g, A = some ⟨g, 0, none⟩ ∧ Pile base w (.slice A n n) xs := by
  subst hn
  rcases h with ⟨hv, _⟩ | ⟨g, cap, cur, hv, hb, hg, hl, hm, hc, ht⟩
  · cases hv
  · obtain ⟨rfl, -, rfl⟩ : A = some ⟨g, 0, none⟩ ∧ xs.length + 1 = (xs ++ [y]).length ∧ c = cap := by injection hv with e1 e2 e3; exact ⟨e1, e2, e3⟩
    refine ⟨g, rfl, .inr ⟨g, xs.length, cur, rfl, hb, hg, Nat.le_refl _, ?_, .inr rfl, ?_⟩⟩
    · rw [List.length_append] at hl
      omega
    · have e := congrArg (List.take xs.length) ht
      rw [List.take_take, List.length_append, List.map_append, List.take_append_of_le_length (by simp), Nat.min_eq_left (by omega)] at e
      have e2 : List.take xs.length (xs.map (Value.int .i64)) = xs.map (Value.int .i64) := List.take_of_length_le (by simp)
      rw [e2] at e
      exact e
end

section
variable {base : Nat} {w : World} {v : Value} {xs : List Int}
/-- One number is put behind: in the old row or a new one. -/
theorem run_push (t ty : TypeId) (i : TypeInfo) (z : Value) {P : Program} (ht : P.underlying t = some (.slice 3)) (hi : P.info? 3 = some i) (hz : i.zero = some z) (hsize : i.size = 1) (hby : i.bytes = 8) (hzs : z.cells.size = 1)
    (hP : Pile base w v xs) {b c : Nat} {y : Int} {fr : Nat × Nat} (hb : Has w b (.cells #[.int .i64 y] 3 fr)) (hl : xs.length ≤ 1000000) (hbase : base ≤ w.heap.size) :
    ∃ g cap w', (Builtin.append_ #[t, t] ty #[v, .slice (some ⟨b, 0, none⟩) 1 c]).run P w = .ok (.slice (some ⟨g, 0, none⟩) (xs.length + 1) cap) w' ∧
      Pile base w' (.slice (some ⟨g, 0, none⟩) (xs.length + 1) cap) (xs ++ [y]) ∧ Keeps (fun i => v.ownBlock = some i) w w' ∧ (v.ownBlock = some g ∨ w.heap.size ≤ g) ∧ g < w'.heap.size := by
  have hnews : ∀ j u, [Value.int .i64 y][j]? = some u → w.cell? ((⟨b, 0, none⟩ : Addr).add j) = some u := World.news_of_block hb
  have h1 : ∀ u ∈ [Value.int .i64 y], u.oneCell' = true := fun u hu => by obtain rfl := List.mem_singleton.1 hu; rfl
  have owned : ∀ {vo : Value}, w.ownsRow base 3 1 vo xs.length (xs.map (Value.int .i64)) → ∃ g cap w', (Builtin.append_ #[t, t] ty #[vo, .slice (some ⟨b, 0, none⟩) 1 c]).run P w = .ok (.slice (some ⟨g, 0, none⟩) (xs.length + 1) cap) w' ∧
      Pile base w' (.slice (some ⟨g, 0, none⟩) (xs.length + 1) cap) (xs ++ [y]) ∧ Keeps (fun i => vo.ownBlock = some i) w w' ∧ (vo.ownBlock = some g ∨ w.heap.size ≤ g) ∧ g < w'.heap.size := by
    intro vo hown
    obtain ⟨g, cap, w', hr, h2, h3, h4, h5⟩ := run_append_lies (P := P) w t ty base 3 i z 1 8 ht hi hz hsize hby hzs (by decide) vo xs.length (xs.map (Value.int .i64)) hown ⟨b, 0, none⟩ 1 c [.int .i64 y] rfl hnews h1 (by decide) (by unfold maxLen; omega) (by omega) hbase _ rfl
    refine ⟨g, cap, w', hr, ?_, Keeps.of_grown h3, h4.imp id fun e => by omega, h5⟩
    rcases h2.2 with ⟨hv, _⟩ | ⟨g', cap', cur, hv, hb', hg, q1, q2, q3, q4⟩
    · cases hv
    · obtain ⟨rfl, rfl⟩ : g = g' ∧ cap = cap' := by injection hv with e1 _ e3; exact ⟨by simpa using e1, e3⟩
      refine .inr ⟨g, cap, cur, by simp, hb', hg, by simpa using q1, q2, .inl (by omega), ?_⟩
      rw [Nat.mul_one] at q4
      simpa using q4
  rcases hP with ⟨rfl, rfl⟩ | ⟨g, cap, cur, rfl, hb', hg, hlc, hm, hc, htk⟩
  · exact owned (World.ownsRow_nil w base 3 1)
  · by_cases hfull : cap = xs.length
    · subst hfull
      have hle : xs.length ≤ cur.size := by
        have := congrArg List.length htk
        rw [List.length_take, List.length_map] at this
        have h2 : cur.toList.length = cur.size := Array.length_toList
        omega
      have holds : ∀ j u, (xs.map (Value.int .i64))[j]? = some u → w.cell? ((⟨g, 0, none⟩ : Addr).add j) = some u := by
        intro j u hu
        have hj : j < xs.length := by
          have := (List.getElem?_eq_some_iff.1 hu).1
          simpa using this
        rw [Addr.add_lit, Nat.zero_add, hg.cell j]
        rw [← htk, List.getElem?_take, if_pos hj, Array.getElem?_toList] at hu
        exact hu
      have hr := run_append_grow (P := P) w t ty 3 i z ht hi hz ⟨g, 0, none⟩ xs.length xs.length (xs.map (Value.int .i64)) (by rw [hsize]; simp) holds ⟨b, 0, none⟩ 1 c [.int .i64 y] (by rw [hsize]; rfl) hnews (by omega) (by omega) (growslice_fits (by omega) (by rw [hby]; omega))
      have hge := grownCap_ge w (xs.length + 1) xs.length 3
      refine ⟨w.heap.size, grownCap w (xs.length + 1) xs.length 3, _, hr, .inr ⟨w.heap.size, grownCap w (xs.length + 1) xs.length 3, _, by simp, hbase, Has.fresh w.drew _, by simpa using hge, grownCap_le_maxLen w _ _ _ (by unfold maxLen; omega), .inl ?_, ?_⟩, ⟨⟨rfl, rfl, rfl⟩, by simp, fun k hk _ => Below.heap_alloc w.drew _ k hk⟩, .inr (Nat.le_refl _), by simp⟩
      · simp only [Array.size_append, List.size_toArray, size_zeroCells, hzs, List.length_map, List.length_cons, List.length_nil]
        omega
      · simp only [Array.toList_append, List.map_append, List.map_cons, List.map_nil, List.length_append, List.length_cons, List.length_nil]
        rw [List.take_append_of_le_length (by simp), List.take_of_length_le (by simp)]
    · have hcs : cur.size = cap := hc.resolve_right hfull
      exact owned ⟨by simp, .inr ⟨g, cap, cur, rfl, hb', hg, hlc, hm, by omega, by rw [Nat.mul_one]; exact htk⟩⟩
/-- At a plain region. -/
theorem wpList_push {ops : Array Oper} {rest : List Oper} {o : Oper} {a : Act} {Q : Exit → Act → World → Prop} (hgd : o.guard = none) (s x : Operand)
    (ho : o.op = .call { callee := .builtin .append, args := #[s, x], argTypes := #[55, 55] }) (hs : a.eval s = v) (hP : Pile base w v xs) {b c : Nat} {y : Int} {fr : Nat × Nat} (hx : a.eval x = .slice (some ⟨b, 0, none⟩) 1 c)
    (hb : Has w b (.cells #[.int .i64 y] 3 fr)) (hl : xs.length ≤ 1000000) (hbase : base ≤ w.heap.size)
    (h : ∀ g cap w', Pile base w' (.slice (some ⟨g, 0, none⟩) (xs.length + 1) cap) (xs ++ [y]) → Keeps (fun i => v.ownBlock = some i) w w' → (v.ownBlock = some g ∨ w.heap.size ≤ g) → g < w'.heap.size → wpList Try.prog ops Q rest (a.put o.dst (.slice (some ⟨g, 0, none⟩) (xs.length + 1) cap)) w') : wpList Try.prog ops Q (o :: rest) a w := by
  obtain ⟨i0, hi, hz0, hz1, hz2⟩ := info_parts Try.infoInt
  obtain ⟨g, cap, w', hr, h2, h3, h4, h5⟩ := run_push (c := c) 55 o.type i0 _ Try.underlying55 hi hz0 hz1 hz2 rfl hP hb hl hbase
  refine wpList_plain hgd fun _ hK => ?_
  unfold Oper.wp execOp
  simp only [ho, resolve, invoke, builtin, Sem.run_bind, Sem.run_pure, Result.andThen_ok, List.map_toArray, List.map_cons, List.map_nil, hs, hx, hr]
  exact hK _ _ (h g cap w' h2 h3 h4 h5)
end
end Go.Proofs.Ytekmgaigppenlaa

namespace Go.Proofs.Ytekmgaigppenlaa
open Go Go.RowKit

/-- The place of a number; -1: it isn't there. -/
def idxL (xs : List Int) (x : Int) : Int := if x ∈ xs then (xs.idxOf x : Int) else -1
theorem idxL_at {xs : List Int} {x : Int} {k : Nat} (hk : k < xs.length) (hx : xs[k] = x) (hno : x ∉ xs.take k) : idxL xs x = (k : Int) := by
  have hm : x ∈ xs := hx ▸ List.getElem_mem hk
  unfold idxL
  rw [if_pos hm]
  have e : xs = xs.take k ++ x :: xs.drop (k + 1) := by
    rw [← hx, List.getElem_cons_drop, List.take_append_drop]
  have : xs.idxOf x = k := by
    conv => lhs; rw [e]
    rw [List.idxOf_append, if_neg hno, List.idxOf_cons_self]
    simp
    omega
  rw [this]
theorem idxL_no {xs : List Int} {x : Int} (h : x ∉ xs) : idxL xs x = -1 := if_neg h
theorem not_take {xs : List Int} {x : Int} {k : Nat} (h : x ∉ xs.take k) (hk : k < xs.length) (hx : xs[k] ≠ x) : x ∉ xs.take (k + 1) := by
  rw [List.take_add_one, List.getElem?_eq_getElem hk]
  intro hm
  rcases List.mem_append.1 hm with h' | h'
  · exact h h'
  · have e : x = xs[k] := by simpa using h'
    exact hx e.symm
theorem idxL_nonneg {xs : List Int} {x : Int} : decide (0 ≤ idxL xs x) = hasB xs x := by
  unfold idxL hasB
  by_cases h : x ∈ xs
  · rw [if_pos h, decide_eq_true h]
    exact decide_eq_true (by omega)
  · rw [if_neg h, decide_eq_false h]
    rfl

end Go.Proofs.Ytekmgaigppenlaa

namespace Go.Proofs.Ytekmgaigppenlaa
open Go Go.RowKit

section
variable {Rep : (Nat → Prop) → World → Nat → List Nd → Prop} {S : Nat → Prop} {w : World} {b : Nat} {l : List Nd}
/-- Node of one that is there, and of one that isn't. -/
theorem nodeYes (M : ForestMore Rep) {id : Int} (h : Rep S w b l) (hg : Good l) (ht : thereB l id = true) :
    Calls Try.prog 35 #[at_ b, .int .i64 id] w fun e w' => ∃ A1 c1, e = .returned (.tuple #[.agg #[.int .i64 (nd l id).kind, .int .i64 (nd l id).parent, .int .i64 (nd l id).host, .int .i64 (nd l id).shadow, .int .i64 (nd l id).mode, .bool (nd l id).slot, .string (nd l id).name, .string (nd l id).want, .slice A1 (nd l id).kids.length c1], .bool true]) ∧ Kids (fun i => w.heap.size ≤ i) w' (.slice A1 (nd l id).kids.length c1) (nd l id).kids ∧ Below w.heap.size w w' := by
  refine (M.node S w b l id h hg).mono ?_
  rintro e w' ⟨d, A, c, rfl, hd, hk, hb⟩
  rw [if_pos ht] at hd
  subst hd
  rw [ht]
  exact ⟨A, c, rfl, hk, hb⟩
theorem nodeNo (M : ForestMore Rep) {id : Int} (h : Rep S w b l) (hg : Good l) (ht : thereB l id = false) :
    Calls Try.prog 35 #[at_ b, .int .i64 id] w fun e w' => ∃ A1 c1, e = .returned (.tuple #[.agg #[.int .i64 0, .int .i64 0, .int .i64 0, .int .i64 0, .int .i64 0, .bool false, .string ⟨#[]⟩, .string ⟨#[]⟩, .slice A1 0 c1], .bool false]) ∧ Kids (fun i => w.heap.size ≤ i) w' (.slice A1 0 c1) [] ∧ Below w.heap.size w w' := by
  refine (M.node S w b l id h hg).mono ?_
  rintro e w' ⟨d, A, c, rfl, hd, hk, hb⟩
  rw [if_neg (by rw [ht]; decide)] at hd
  subst hd
  rw [ht]
  exact ⟨A, c, rfl, hk, hb⟩
theorem app_len {xs ys : List Int} {R : List Int} (h : xs ++ ys = R) : xs.length ≤ R.length := by rw [← h]; simp

set_option maxHeartbeats 4000000 in
set_option maxRecDepth 100000 in
theorem kinUp (O : ForestOk Rep) (M : ForestMore Rep) (id : Int) (h : Rep S w b l) (hg : Good l) :
    Calls Try.prog 51 #[at_ b, .int .i64 id] w fun e w' => ∃ v, e = .returned v ∧ Pile w.heap.size w' v (parL l id) ∧ Below w.heap.size w w' := by
  have H := Lib.hid h
  have Hg := Lib.hid hg
  have hnot : ∀ (x : Bool) (w : World), (Op.unary .not (.bool x)).run Try.prog w = .ok (.bool (!x)) w := fun _ _ => rfl
  have hRl : (parL l id).length ≤ 128 := Nat.le_trans (parL_len hg.tree id) hg.len
  obtain ⟨R, hR⟩ : ∃ R, R = parL l id := ⟨_, rfl⟩
  rw [← hR] at hRl
  rw [← hR]
  have hR0 : ([] : List Int) ++ parL l id = R := by rw [hR]; rfl
  have HR0 := Lib.hid hR0
  clear h hg hR hR0
  go_enter Try.func51, Try.ntmps51
  go_wp2_with fail
  go_loopw [1, 5] (fun a o wr => ∃ (i : Int) (xs : List Int), a = .int .i64 i ∧ xs ++ parL l i = R ∧ Pile w.heap.size wr o xs ∧ Below w.heap.size w wr) (fun a _ _ => (parL l (intOf a)).length)
  case atStart => exact ⟨id, [], rfl, HR0.out, Pile.nil _ _, Below.refl _ _⟩
  case round =>
    obtain ⟨i, xs, rfl, hxs, hP, hb⟩ := hrel
    have hRw : Rep S wr b l := O.keep H.out (Keeps.of_below (F := fun i => w.heap.size ≤ i) hb fun _ _ h => h) fun _ _ hi => Nat.not_le.2 hi
    have Hxs := Lib.hid hxs
    have hxl : xs.length ≤ 1000000 := by have := app_len hxs; omega
    clear HR0 hxs
    obtain ⟨Ao, co, rfl, -⟩ := hP.form
    cases ht : thereB l i with
    | false =>
      have Ht := Lib.hid ht
      have HP := Lib.hid hP
      clear ht hP
      go_wp2_with fail
      refine (nodeNo M hRw Hg.out Ht.out).mono ?_
      rintro e w1 ⟨A1, c1, rfl, -, hb1⟩
      have HF : Hid (Pile w.heap.size (w1.alloc (.cells #[.int .i64 0, .int .i64 0, .int .i64 0, .int .i64 0, .int .i64 0, .bool false, .string ⟨#[]⟩, .string ⟨#[]⟩, .slice A1 0 c1] 57)) (.slice Ao xs.length co) xs ∧ Below w.heap.size w (w1.alloc (.cells #[.int .i64 0, .int .i64 0, .int .i64 0, .int .i64 0, .int .i64 0, .bool false, .string ⟨#[]⟩, .string ⟨#[]⟩, .slice A1 0 c1] 57))) := Lib.hid ⟨(HP.out.below hb1).alloc _, (hb.trans (hb1.mono hb.size)).alloc (Nat.le_trans hb.size hb1.size) _⟩
      clear hb1 HP
      go_wp2
      go_ret
      refine ⟨_, rfl, ?_, HF.out.2⟩
      have := Hxs.out
      rw [parL_no Ht.out, List.append_nil] at this
      rw [← this]
      exact HF.out.1
    | true =>
      have Ht := Lib.hid ht
      have HP := Lib.hid hP
      have hfin : (xs ++ [i]) ++ parL l (nd l i).parent = R := by
        rw [List.append_assoc, List.singleton_append, ← parL_step Hg.out.tree ht]
        exact Hxs.out
      have Hfin := Lib.hid hfin
      clear ht hP hfin Hxs
      go_wp2_with fail
      refine (nodeYes M hRw Hg.out Ht.out).mono ?_
      rintro e w1 ⟨A1, c1, rfl, -, hb1⟩
      obtain ⟨d, hd⟩ : ∃ d, d = nd l i := ⟨_, rfl⟩
      rw [← hd] at Hfin
      rw [← hd]
      have hB1 : Below w.heap.size w w1 := hb.trans (hb1.mono hb.size)
      have hP1 : Pile w.heap.size w1 (.slice Ao xs.length co) xs := HP.out.below hb1
      have hown : ∀ g, (Value.slice Ao xs.length co).ownBlock = some g → w.heap.size ≤ g ∧ g < w1.heap.size := hP1.lt
      have HC : Hid (∀ w2, Keeps (fun i => (Value.slice Ao xs.length co).ownBlock = some i) ((w1.alloc (.cells #[.int .i64 d.kind, .int .i64 d.parent, .int .i64 d.host, .int .i64 d.shadow, .int .i64 d.mode, .bool d.slot, .string d.name, .string d.want, .slice A1 d.kids.length c1] 57)).alloc (.cells #[.int .i64 i] 3)) w2 → w2.cell? ⟨w1.heap.size, 1, none⟩ = some (.int .i64 d.parent)) := Lib.hid fun w2 hk2 => by
        have hh : Has ((w1.alloc (.cells #[.int .i64 d.kind, .int .i64 d.parent, .int .i64 d.host, .int .i64 d.shadow, .int .i64 d.mode, .bool d.slot, .string d.name, .string d.want, .slice A1 d.kids.length c1] 57)).alloc (.cells #[.int .i64 i] 3)) w1.heap.size (.cells #[.int .i64 d.kind, .int .i64 d.parent, .int .i64 d.host, .int .i64 d.shadow, .int .i64 d.mode, .bool d.slot, .string d.name, .string d.want, .slice A1 d.kids.length c1] 57 (0, 0)) := (Has.fresh _ _).more _
        exact (hh.kept hk2 fun e => by have := (hown _ e).2; omega).cell 1
      have HP2 : Hid (Pile w.heap.size ((w1.alloc (.cells #[.int .i64 d.kind, .int .i64 d.parent, .int .i64 d.host, .int .i64 d.shadow, .int .i64 d.mode, .bool d.slot, .string d.name, .string d.want, .slice A1 d.kids.length c1] 57)).alloc (.cells #[.int .i64 i] 3)) (.slice Ao xs.length co) xs) := Lib.hid ((hP1.alloc _).alloc _)
      have HB2 : Hid (Has ((w1.alloc (.cells #[.int .i64 d.kind, .int .i64 d.parent, .int .i64 d.host, .int .i64 d.shadow, .int .i64 d.mode, .bool d.slot, .string d.name, .string d.want, .slice A1 d.kids.length c1] 57)).alloc (.cells #[.int .i64 i] 3)) (w1.heap.size + 1) (.cells #[.int .i64 i] 3 (0, 0))) := Lib.hid (by
        have := Has.fresh (w1.alloc (.cells #[.int .i64 d.kind, .int .i64 d.parent, .int .i64 d.host, .int .i64 d.shadow, .int .i64 d.mode, .bool d.slot, .string d.name, .string d.want, .slice A1 d.kids.length c1] 57)) (.cells #[.int .i64 i] 3)
        simpa using this)
      have HS2 : Hid (w.heap.size ≤ ((w1.alloc (.cells #[.int .i64 d.kind, .int .i64 d.parent, .int .i64 d.host, .int .i64 d.shadow, .int .i64 d.mode, .bool d.slot, .string d.name, .string d.want, .slice A1 d.kids.length c1] 57)).alloc (.cells #[.int .i64 i] 3)).heap.size) := Lib.hid (by have := hB1.size; simp; omega)
      have HE : Hid (∀ w2, Keeps (fun i => (Value.slice Ao xs.length co).ownBlock = some i) ((w1.alloc (.cells #[.int .i64 d.kind, .int .i64 d.parent, .int .i64 d.host, .int .i64 d.shadow, .int .i64 d.mode, .bool d.slot, .string d.name, .string d.want, .slice A1 d.kids.length c1] 57)).alloc (.cells #[.int .i64 i] 3)) w2 → Below w.heap.size w w2) := Lib.hid fun w2 hk2 =>
        below_then ((hB1.alloc hB1.size _).alloc (by have := hB1.size; simp; omega) _) hk2 (by have := hB1.size; simp; omega) fun i hi e => by have := (hown _ e).1; omega
      have Hd := Lib.hid hd
      clear hd hb1 hB1 hP1 hown HP hb hRw
      go_wp2_with (at_builtin; refine wpList_push rfl (.tmp 17) (.tmp 19) rfl rfl HP2.out rfl HB2.out hxl HS2.out ?_; intro g cap w2 hp2 hk2 _ _; have c1 := HC.out w2 hk2)
      go_roundw
      case rel => exact ⟨_, xs ++ [i], rfl, Hfin.out, by simpa using hp2, HE.out w2 hk2⟩
      case measure =>
        simp only [intOf]
        rw [Hd.out, parL_step Hg.out.tree Ht.out]
        simp
end
end Go.Proofs.Ytekmgaigppenlaa

namespace Go.Proofs.Ytekmgaigppenlaa
open Go Go.RowKit

theorem lastL_at {xs : List Int} {m : Nat} (h : xs.length = m + 1) : lastL xs = xs[m]'(by omega) := by
  unfold lastL
  have e : xs.length - 1 = m := by omega
  rw [List.getLastD_eq_getLast?, List.getLast?_eq_getElem?, e, List.getElem?_eq_getElem (by omega)]
  rfl
/-- The children among which a node stands. -/
def rowL (l : List Nd) (id : Int) : List Int := if thereB l id = true then if thereB l (nd l id).parent = true then (nd l (nd l id).parent).kids else [] else []
/-- The one behind. -/
def nextL (xs : List Int) (x : Int) : Int := if idxL xs x < 0 then 0 else xs.getD ((idxL xs x).toNat + 1) 0
theorem few_nd {l : List Nd} {K : Nat} (h : Few K l) (i : Int) : (nd l i).kids.length ≤ K := by
  unfold nd
  rw [List.getD_eq_getElem?_getD]
  cases e : l[(i - 1).toNat]? with
  | none => exact Nat.zero_le _
  | some d => exact h d (List.mem_of_getElem? e)
theorem rowL_len {l : List Nd} (h : Few 200 l) (i : Int) : (rowL l i).length ≤ 200 := by
  unfold rowL
  split
  · split
    · exact few_nd h _
    · exact Nat.zero_le _
  · exact Nat.zero_le _
theorem idxL_range (xs : List Int) (x : Int) : idxL xs x = -1 ∨ ∃ k : Nat, idxL xs x = (k : Int) ∧ k < xs.length := by
  unfold idxL
  by_cases h : x ∈ xs
  · rw [if_pos h]
    exact .inr ⟨_, rfl, List.idxOf_lt_length_of_mem h⟩
  · rw [if_neg h]
    exact .inl rfl

section
variable {Rep : (Nat → Prop) → World → Nat → List Nd → Prop} {S : Nat → Prop} {w : World} {b : Nat} {l : List Nd}
set_option maxHeartbeats 1000000 in
theorem kinRoot (O : ForestOk Rep) (M : ForestMore Rep) (id : Int) (h : Rep S w b l) (hg : Good l) :
    Calls Try.prog 36 #[at_ b, .int .i64 id] w fun e w' => e = .returned (.int .i64 (rootL l id)) ∧ Below w.heap.size w w' := by
  have C := Lib.hid (kinUp O M id h hg)
  have hRl : (parL l id).length ≤ 128 := Nat.le_trans (parL_len hg.tree id) hg.len
  have hroot : rootL l id = lastL (parL l id) := rfl
  rw [hroot]
  obtain ⟨R, hR⟩ : ∃ R, R = parL l id := ⟨_, rfl⟩
  rw [← hR] at hRl C
  rw [← hR]
  clear h hg hR hroot
  go_enter Try.func36, Try.ntmps36
  go_wp2_with fail
  refine C.out.mono ?_
  rintro e w1 ⟨v, rfl, hP, hb⟩
  obtain ⟨A, c, rfl, hL⟩ := hP.form
  clear C hP
  cases hm : R.length with
  | zero =>
    have e0 : lastL R = 0 := by rw [List.length_eq_zero_iff.1 hm]; rfl
    have E0 := Lib.hid e0
    have Hm := Lib.hid hm
    clear e0 hm
    go_wp2
    go_ret
    rw [E0.out]
    exact ⟨rfl, hb⟩
  | succ m =>
    have e0 := lastL_at hm
    obtain ⟨b', off, rfl, -, hc⟩ := hL.nums m (by omega)
    obtain ⟨y, hy⟩ : ∃ y, y = R[m]'(by omega) := ⟨_, rfl⟩
    rw [← hy] at hc e0
    have E0 := Lib.hid e0
    clear e0
    have hm' : m ≤ 128 := by omega
    have z1 : (((m : Int) + 1) == 0) = false := by rw [beq_eq_false_iff_ne]; omega
    clear hm hy hL hRl
    go_wp2
    go_ret
    rw [E0.out]
    exact ⟨rfl, hb⟩
end
end Go.Proofs.Ytekmgaigppenlaa
