/-
  What package kin's Count and Order do with an arena that keeps its promises.
-/
import Derived.Test.YtkafaceanlkjjaaKc
namespace Go.Proofs.Ytkafaceanlkjjaa
open Go Go.RowKit

/-- How many of a list are of a kind. -/
def cntL (l : List Nd) (kind : Int) (ks : List Int) : Nat := (ks.filter fun k => decide ((nd l k).kind = kind)).length
def kidsL (l : List Nd) (id : Int) : List Int := if thereB l id = true then (nd l id).kids else []
theorem cntL_step {l : List Nd} {kind : Int} {ks : List Int} {j : Nat} (hj : j < ks.length) : cntL l kind (ks.take (j + 1)) = cntL l kind (ks.take j) + if (nd l ks[j]).kind = kind then 1 else 0 := by
  unfold cntL
  rw [List.take_add_one, List.getElem?_eq_getElem hj, Option.toList_some, List.filter_append, List.length_append]
  congr 1
  by_cases h : (nd l ks[j]).kind = kind
  · rw [if_pos h, List.filter_cons_of_pos (by simpa using h)]
    rfl
  · rw [if_neg h, List.filter_cons_of_neg (by simpa using h)]
    rfl
theorem cntL_le (l : List Nd) (kind : Int) (ks : List Int) : cntL l kind ks ≤ ks.length := List.length_filter_le _ _

section
variable {Rep : (Nat → Prop) → World → Nat → List Nd → Prop} {S : Nat → Prop} {w : World} {b : Nat} {l : List Nd}
theorem ForestOk.since (O : ForestOk Rep) {w' : World} (h : Rep S w b l) (hb : Below w.heap.size w w') : Rep S w' b l := O.keep h (Keeps.of_below (F := fun i => w.heap.size ≤ i) hb fun _ _ h => h) fun _ _ hi => Nat.not_le.2 hi
set_option maxHeartbeats 4000000 in
set_option maxRecDepth 100000 in
theorem kinCount (O : ForestOk Rep) (M : ForestMore Rep) (id kind : Int) (h : Rep S w b l) (hg : Good l) :
    Calls Try.prog 23 #[at_ b, .int .i64 id, .int .i64 kind] w fun e w' => e = .returned (.int .i64 (cntL l kind (kidsL l id))) ∧ Below w.heap.size w w' := by
  have H := Lib.hid h
  have Hg := Lib.hid hg
  cases ht : thereB l id with
  | false =>
    have e0 : cntL l kind (kidsL l id) = 0 := by unfold kidsL; rw [if_neg (by rw [ht]; decide)]; rfl
    have E0 := Lib.hid e0
    have Ht := Lib.hid ht
    clear ht h hg e0
    go_enter Try.func23, Try.ntmps23
    go_wp2_with fail
    refine (nodeNo M H.out Hg.out Ht.out).mono ?_
    rintro e w1 ⟨A1, c1, rfl, -, hb1⟩
    have hb2 : Below w.heap.size w (w1.alloc (.cells #[.int .i64 0, .int .i64 0, .int .i64 0, .int .i64 0, .int .i64 0, .bool false, .string ⟨#[]⟩, .string ⟨#[]⟩, .slice A1 0 c1] 41)) := hb1.alloc hb1.size _
    have Hb2 := Lib.hid hb2
    clear hb1 hb2
    go_wp2_with fail
    go_loop [9, 23] (fun c i => c = .int .i64 0 ∧ i = .int .i64 0) (fun _ _ => 0)
    case atStart => exact ⟨rfl, rfl⟩
    case round =>
      obtain ⟨rfl, rfl⟩ := hrel
      go_wp2
      go_ret
      rw [E0.out]
      exact ⟨rfl, Hb2.out⟩
  | true =>
    have e0 : kidsL l id = (nd l id).kids := by unfold kidsL; rw [if_pos ht]
    have hall : ∀ k ∈ kidsL l id, thereB l k = true := fun k hk => by
      rw [e0] at hk
      exact (hg.tree.kid id ht k hk).1
    have hkl : (kidsL l id).length ≤ 200 := by rw [e0]; exact few_nd hg.few id
    have Ht := Lib.hid ht
    have E0 := Lib.hid e0
    have Hall := Lib.hid hall
    obtain ⟨ks, hks⟩ : ∃ ks, ks = kidsL l id := ⟨_, rfl⟩
    rw [← hks] at E0 Hall hkl
    rw [← hks]
    clear ht h hg e0 hks hall
    go_enter Try.func23, Try.ntmps23
    go_wp2_with fail
    refine (nodeYes M H.out Hg.out Ht.out).mono ?_
    rintro e w1 ⟨A1, c1, rfl, hk1, hb1⟩
    obtain ⟨d, hd⟩ : ∃ d, d = nd l id := ⟨_, rfl⟩
    rw [← hd] at hk1 E0
    rw [← hd]
    obtain rfl : ks = d.kids := E0.out
    have hbox : Below w1.heap.size w1 (w1.alloc (.cells #[.int .i64 d.kind, .int .i64 d.parent, .int .i64 d.host, .int .i64 d.shadow, .int .i64 d.mode, .bool d.slot, .string d.name, .string d.want, .slice A1 d.kids.length c1] 41)) := (Below.refl _ w1).alloc (Nat.le_refl _) _
    have hb2 : Below w.heap.size w (w1.alloc (.cells #[.int .i64 d.kind, .int .i64 d.parent, .int .i64 d.host, .int .i64 d.shadow, .int .i64 d.mode, .bool d.slot, .string d.name, .string d.want, .slice A1 d.kids.length c1] 41)) := hb1.alloc hb1.size _
    obtain ⟨A, c, eA, hL⟩ := (Pile.of_kids (base := w.heap.size) (hk1.below hbox) fun g hg _ => hg).form
    obtain ⟨rfl, rfl⟩ : A1 = A ∧ c1 = c := by injection eA with e1 _ e3; exact ⟨e1, e3⟩
    have Hb2 := Lib.hid hb2
    have HL := Lib.hid hL
    have HR2 := Lib.hid (O.since H.out hb2)
    obtain ⟨n, hn⟩ : ∃ n, n = d.kids.length := ⟨_, rfl⟩
    rw [← hn] at Hb2 HL HR2
    rw [← hn]
    rw [← hn] at hkl
    have Hnk := Lib.hid hn
    clear hd hb1 hb2 hbox hk1 eA E0 Ht hL hn
    go_wp2_with fail
    obtain ⟨W, hW⟩ : ∃ W, W = w1.alloc (.cells #[.int .i64 d.kind, .int .i64 d.parent, .int .i64 d.host, .int .i64 d.shadow, .int .i64 d.mode, .bool d.slot, .string d.name, .string d.want, .slice A1 n c1] 41) := ⟨_, rfl⟩
    rw [← hW] at Hb2 HL HR2
    rw [← hW]
    clear hW
    go_loopw [9, 23] (fun cnt i wr => ∃ j : Nat, i = .int .i64 j ∧ j ≤ n ∧ cnt = .int .i64 (cntL l kind (d.kids.take j) : Nat) ∧ Below W.heap.size W wr) (fun _ i _ => n - (intOf i).toNat)
    case atStart => exact ⟨0, rfl, Nat.zero_le _, rfl, Below.refl _ _⟩
    case round =>
      obtain ⟨j, rfl, hj, rfl, hb⟩ := hrel
      by_cases hjn : (j : Int) < n
      · have hjk : j < d.kids.length := by rw [← Hnk.out]; omega
        obtain ⟨b', off, rfl, hB, hc0⟩ := HL.out.nums j hjk
        have hc : wr.cell? ⟨b', off + j, none⟩ = some (.int .i64 d.kids[j]) := (hb.cell (p := ⟨b', off + j, none⟩) hB).trans hc0
        have hth := Hall.out d.kids[j] (List.getElem_mem hjk)
        have hst := cntL_step (l := l) (kind := kind) hjk
        have hle := cntL_le l kind (d.kids.take j)
        rw [List.length_take] at hle
        obtain ⟨y, hy⟩ : ∃ y, y = d.kids[j] := ⟨_, rfl⟩
        rw [← hy] at hc hth hst
        obtain ⟨q, hq⟩ : ∃ q, q = cntL l kind (d.kids.take j) := ⟨_, rfl⟩
        rw [← hq] at hst hle
        rw [← hq]
        have hqb : q ≤ 200 := by omega
        have Hth := Lib.hid hth
        have Hst := Lib.hid hst
        have HRr := Lib.hid (O.since HR2.out hb)
        clear hth hst hc0 hy hq hle hjk
        go_wp2_with fail
        refine (nodeYes M HRr.out Hg.out Hth.out).mono ?_
        rintro e w2 ⟨A2, c2, rfl, -, hb2⟩
        obtain ⟨d2, hd2⟩ : ∃ d2, d2 = nd l y := ⟨_, rfl⟩
        rw [← hd2] at Hst
        rw [← hd2]
        have HB3 : Hid (Below W.heap.size W (w2.alloc (.cells #[.int .i64 d2.kind, .int .i64 d2.parent, .int .i64 d2.host, .int .i64 d2.shadow, .int .i64 d2.mode, .bool d2.slot, .string d2.name, .string d2.want, .slice A2 d2.kids.length c2] 41))) := Lib.hid ((hb.trans (hb2.mono hb.size)).alloc (Nat.le_trans hb.size hb2.size) _)
        clear hd2 hb2 hb HRr Hth
        by_cases hkd : d2.kind = kind
        · have hs1 : cntL l kind (d.kids.take (j + 1)) = q + 1 := by rw [Hst.out, if_pos hkd]
          have Hs1 := Lib.hid hs1
          clear hs1
          subst hkd
          go_wp2
          go_roundw
          case rel => exact ⟨j + 1, by go_num, by omega, by rw [Hs1.out]; go_num, HB3.out⟩
          case measure => simp [intOf]; omega
        · have hs1 : cntL l kind (d.kids.take (j + 1)) = q := by rw [Hst.out, if_neg hkd]; rfl
          have Hs1 := Lib.hid hs1
          have z1 : (d2.kind == kind) = false := by simpa using hkd
          clear hs1
          go_wp2
          go_roundw
          case rel => exact ⟨j + 1, by go_num, by omega, by rw [Hs1.out], HB3.out⟩
          case measure => simp [intOf]; omega
      · have he : cntL l kind (d.kids.take j) = cntL l kind d.kids := by rw [List.take_of_length_le (by rw [← Hnk.out]; omega)]
        rw [he]
        clear he
        go_wp2
        go_ret
        exact ⟨rfl, Hb2.out.trans (hb.mono Hb2.out.size)⟩
end
end Go.Proofs.Ytkafaceanlkjjaa
