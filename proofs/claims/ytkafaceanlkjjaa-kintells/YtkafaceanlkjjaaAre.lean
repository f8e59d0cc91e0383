/-
  What Make of package arena does.
-/
import Derived.Test.YtkafaceanlkjjaaArd
namespace Go.Proofs.Ytkafaceanlkjjaa
open Go Go.RowKit

section
variable {n : Nat} {k pa ho sh m : Int} {sl : Bool} {na wa : ByteArray} {ks : List Int}
theorem mode_iff (h : modeOk k m = false) : (k = 3 ∧ m ≠ 1 ∧ m ≠ 2) ∨ (k ≠ 3 ∧ m ≠ 0) := by
  unfold modeOk at h
  split at h
  · rename_i h3
    rw [decide_eq_false_iff_not] at h
    exact .inl ⟨h3, fun e => h (.inl e), fun e => h (.inr e)⟩
  · rename_i h3
    exact .inr ⟨h3, of_decide_eq_false h⟩
theorem mode_not (h : modeOk k m = true) : ¬ ((k = 3 ∧ m ≠ 1 ∧ m ≠ 2) ∨ (k ≠ 3 ∧ m ≠ 0)) := by
  unfold modeOk at h
  split at h
  · have := of_decide_eq_true h
    omega
  · have := of_decide_eq_true h
    omega
theorem slot_eq : slotOk k sl na wa = false ↔ (k ≠ 2 ∧ (sl = true ∨ wa.toList.isEmpty = false)) ∨ (sl = false ∧ na.toList.isEmpty = false) ∨ okName na = false ∨ okName wa = false := by
  unfold slotOk
  cases sl <;> cases wa.toList.isEmpty <;> cases na.toList.isEmpty <;> cases okName na <;> cases okName wa <;> by_cases h : k = 2 <;> simp [h]
theorem slot_iff (h : slotOk k sl na wa = false) : (k ≠ 2 ∧ (sl = true ∨ wa.toList.isEmpty = false)) ∨ (sl = false ∧ na.toList.isEmpty = false) ∨ okName na = false ∨ okName wa = false := slot_eq.1 h
theorem slot_not (h : slotOk k sl na wa = true) : ¬ ((k ≠ 2 ∧ (sl = true ∨ wa.toList.isEmpty = false)) ∨ (sl = false ∧ na.toList.isEmpty = false) ∨ okName na = false ∨ okName wa = false) := fun h' => by
  rw [slot_eq.2 h'] at h
  cases h
end

section
variable {S : Nat → Prop} {w : World} {b : Nat} {l : List Nd}
/-- A number, an error's number, and the forest then. -/
def Told2 (S : Nat → Prop) (w : World) (b : Nat) (l : List Nd) (d : Nd) (e : Ending) (w' : World) : Prop := e = .returned (.tuple #[.int .i64 (mkNo l d), .int .i64 (mkErr l.length d)]) ∧ Frst S w' b (mkL l d) ∧ Keeps S w w'
theorem Told2.err {w' : World} {d : Nd} {e : Int} (he : mkErr l.length d = e) (h0 : e ≠ 0) (h : Frst S w b l) (hb : Below w.heap.size w w') : Told2 S w b l d (.returned (.tuple #[.int .i64 0, .int .i64 e])) w' := by
  unfold Told2 mkL mkNo
  rw [he, if_neg h0, if_neg h0]
  exact ⟨rfl, h.below hb, Keeps.ofBelow hb⟩

set_option maxHeartbeats 4000000 in
set_option maxRecDepth 100000 in
theorem arMake (k pa ho sh m : Int) (sl : Bool) (na wa : ByteArray) (ks : List Int) (kv : Value) (h : Frst S w b l) (hl : l.length ≤ 128) (hS : Fut S w.heap.size) (hna : na.size ≤ 9223372036854775807) (hwa : wa.size ≤ 9223372036854775807) :
    Calls Try.prog 27 #[.pointer (some ⟨b, 0, none⟩), .agg #[.int .i64 k, .int .i64 pa, .int .i64 ho, .int .i64 sh, .int .i64 m, .bool sl, .string na, .string wa, kv]] w (Told2 S w b l ⟨k, pa, ho, sh, m, sl, na, wa, ks⟩) := by
  have H := Lib.hid h
  have HS := Lib.hid hS
  clear h hS
  have hnot : ∀ (x : Bool) (w : World), (Op.unary .not (.bool x)).run Try.prog w = .ok (.bool (!x)) w := fun _ _ => rfl
  have hbb : Below w.heap.size w (w.alloc (.cells #[.int .i64 k, .int .i64 pa, .int .i64 ho, .int .i64 sh, .int .i64 m, .bool sl, .string na, .string wa, kv] 41)) := (Below.refl _ w).alloc (Nat.le_refl _) _
  have hbox : Has (w.alloc (.cells #[.int .i64 k, .int .i64 pa, .int .i64 ho, .int .i64 sh, .int .i64 m, .bool sl, .string na, .string wa, kv] 41)) w.heap.size (.cells #[.int .i64 k, .int .i64 pa, .int .i64 ho, .int .i64 sh, .int .i64 m, .bool sl, .string na, .string wa, kv] 41 (0, 0)) := Has.fresh _ _
  have Hbb := Lib.hid hbb
  have Hbox := Lib.hid hbox
  clear hbb hbox
  by_cases k1 : k < 1
  · have e1 : mkErr l.length ⟨k, pa, ho, sh, m, sl, na, wa, ks⟩ = 2 := mkErr_kind (.inl k1)
    have E1 := Lib.hid e1
    have f1 : decide (k < 1) = true := decide_eq_true k1
    clear e1
    go_enter Try.func27, Try.ntmps27
    go_wp2
    go_ret2
    exact Told2.err E1.out (by decide) H.out Hbb.out
  have f1 : decide (k < 1) = false := decide_eq_false k1
  by_cases k4 : 4 < k
  · have e1 : mkErr l.length ⟨k, pa, ho, sh, m, sl, na, wa, ks⟩ = 2 := mkErr_kind (.inr k4)
    have E1 := Lib.hid e1
    have f2 : decide (4 < k) = true := decide_eq_true k4
    clear e1
    go_enter Try.func27, Try.ntmps27
    go_wp2
    go_ret2
    exact Told2.err E1.out (by decide) H.out Hbb.out
  have f2 : decide (4 < k) = false := decide_eq_false k4
  cases hmo : modeOk k m with
  | false =>
    have E1 := Lib.hid (mkErr_mode (n := l.length) (pa := pa) (ho := ho) (sh := sh) (sl := sl) (na := na) (wa := wa) (ks := ks) (by omega) (by omega) (mode_iff hmo))
    have Hmo := Lib.hid hmo
    clear hmo
    go_enter Try.func27, Try.ntmps27
    go_wp2_with fail
    refine (arMode Hmo.out).mono ?_
    rintro e w1 ⟨rfl, hb1⟩
    go_wp2
    go_ret2
    exact Told2.err E1.out (by decide) H.out (Hbb.out.trans (hb1.mono Hbb.out.size))
  | true =>
    have Hmo := Lib.hid hmo
    cases hso : slotOk k sl na wa with
    | false =>
      have E1 := Lib.hid (mkErr_name (n := l.length) (pa := pa) (ho := ho) (sh := sh) (ks := ks) (by omega) (by omega) (mode_not hmo) (slot_iff hso))
      have Hso := Lib.hid hso
      clear hmo hso
      go_enter Try.func27, Try.ntmps27
      go_wp2_with fail
      refine (arMode Hmo.out).mono ?_
      rintro e w1 ⟨rfl, hb1⟩
      have hbox1 := Hbox.out.below hb1 Hbox.out.inside
      have y0 := hbox1.cell 0
      have y1 := hbox1.cell 1
      have y2 := hbox1.cell 2
      have y3 := hbox1.cell 3
      have y4 := hbox1.cell 4
      have y5 := hbox1.cell 5
      have y6 := hbox1.cell 6
      have y7 := hbox1.cell 7
      have y8 := hbox1.cell 8
      clear hbox1
      go_wp2_with fail
      refine (arSlot Hso.out hna hwa).mono ?_
      rintro e w2 ⟨rfl, hb2⟩
      have hB1 := Hbb.out.trans (hb1.mono Hbb.out.size)
      go_wp2
      go_ret2
      exact Told2.err E1.out (by decide) H.out (hB1.trans (hb2.mono hB1.size))
    | true =>
      have e0 := mkErr_rest (n := l.length) (pa := pa) (ho := ho) (sh := sh) (ks := ks) (by omega) (by omega) (mode_not hmo) (slot_not hso)
      have Hso := Lib.hid hso
      clear hmo hso
      go_enter Try.func27, Try.ntmps27
      go_wp2_with fail
      refine (arMode Hmo.out).mono ?_
      rintro e w1 ⟨rfl, hb1⟩
      have hbox1 := Hbox.out.below hb1 Hbox.out.inside
      have y0 := hbox1.cell 0
      have y1 := hbox1.cell 1
      have y2 := hbox1.cell 2
      have y3 := hbox1.cell 3
      have y4 := hbox1.cell 4
      have y5 := hbox1.cell 5
      have y6 := hbox1.cell 6
      have y7 := hbox1.cell 7
      have y8 := hbox1.cell 8
      have HB1 := Lib.hid hbox1
      clear hbox1
      go_wp2_with fail
      refine (arSlot Hso.out hna hwa).mono ?_
      rintro e w2 ⟨rfl, hb2⟩
      have hbox2 := HB1.out.below hb2 HB1.out.inside
      have hB1 := Hbb.out.trans (hb1.mono Hbb.out.size)
      have hB2 : Below w.heap.size w w2 := hB1.trans (hb2.mono hB1.size)
      obtain ⟨hSb, A, c, hh0, hN0⟩ := H.out
      have hh := hh0.below hB2 hh0.inside
      have hN := hN0.below hB2
      have hrow0 : ∀ i, (Value.slice A l.length c).ownBlock = some i → i < w.heap.size ∧ S i := fun i hi => by
        obtain ⟨rows, -, ho, -, h4⟩ := hN0
        refine ⟨own_in ho i hi, ?_⟩
        cases A with
        | none => cases hi
        | some a =>
          obtain rfl : a.block = i := by simpa [Value.ownBlock] using hi
          exact h4 _ _ _ rfl
      have Hrow0 := Lib.hid hrow0
      have q0 : w2.cell? ⟨b, 0, none⟩ = some (.slice A l.length c) := hh.cell 0
      clear hrow0 hh0 hN0
      clear y0 y1 y2 y3 y4 y5 y6 y7 y8 HB1 hB1 hb1 hb2 w1
      by_cases hfull : 128 ≤ l.length
      · rw [if_pos hfull] at e0
        have E1 := Lib.hid e0
        have hf3 : (128 : Int) ≤ (l.length : Int) := by omega
        clear e0 hh hN hbox2
        go_wp2
        go_ret2
        exact Told2.err E1.out (by decide) H.out hB2
      · rw [if_neg hfull] at e0
        have hL : mkL l ⟨k, pa, ho, sh, m, sl, na, wa, ks⟩ = l ++ [bare ⟨k, pa, ho, sh, m, sl, na, wa, ks⟩] := by unfold mkL; rw [if_pos e0]
        have hNo : mkNo l ⟨k, pa, ho, sh, m, sl, na, wa, ks⟩ = (l.length : Int) + 1 := by unfold mkNo; rw [if_pos e0]
        have HL := Lib.hid hL
        have HNo := Lib.hid hNo
        have E0 := Lib.hid e0
        obtain ⟨j0, qi, qz0, qz1, qz2⟩ := info_parts Try.infoNode
        have Qi := Lib.hid qi
        have Qz0 := Lib.hid qz0
        have Qz1 := Lib.hid qz1
        have Qz2 := Lib.hid qz2
        clear qi qz0 qz1 qz2 e0 hL hNo
        have hf3 : ¬ (128 : Int) ≤ (l.length : Int) := by omega
        have hS0 : ∀ w' : World, Has w' w.heap.size (.cells #[.int .i64 k, .int .i64 pa, .int .i64 ho, .int .i64 sh, .int .i64 m, .bool sl, .string na, .string wa, kv] 41 (0, 0)) → Has w' b (.cells #[.slice A l.length c] 62 (0, 0)) → Box w.heap.size k m sl na wa w' ∧ w'.cell? ⟨b, 0, none⟩ = some (.slice A l.length c) := fun w' h1 h2 => ⟨Box.of h1, h2.cell 0⟩
        have HS0 := Lib.hid hS0
        clear hS0
        go_wp2_with fail
        refine wp_region_way (late := [20]) (S := fun w' => (w'.cell? ⟨w.heap.size, 0, none⟩ = some (.int .i64 k) ∧ w'.cell? ⟨w.heap.size, 5, none⟩ = some (.bool sl) ∧ w'.cell? ⟨w.heap.size, 6, none⟩ = some (.string na) ∧ w'.cell? ⟨w.heap.size, 7, none⟩ = some (.string wa) ∧ w'.cell? ⟨w.heap.size, 4, none⟩ = some (.int .i64 m)) ∧ w'.cell? ⟨b, 0, none⟩ = some (.slice A l.length c)) (y := Way.takes [0, 1, 2, 3, 4, 5, 6, 7, 8, 9, 10, 11, 12, 13, 14, 15] (.run 16 (.run 17 (.run 18 (.run 19 (.run 20 .fin)))))) (by kernel_rfl) (by kernel_rfl) rfl (by kernel_rfl) (HS0.out _ hbox2 hh) (fun hHeld => ?_)
        simp only [Way.takes]
        (repeat (first | (refine way_skip (by simp only [List.getElem?_toArray, List.getElem?_cons_succ, List.getElem?_cons_zero]; rfl) (by rfl) hHeld ?_; (try simp only [Act.put, List.setIfInBounds_toArray, List.set_cons_zero, List.set_cons_succ])) | (refine way_pass (by simp only [List.getElem?_toArray, List.getElem?_cons_succ, List.getElem?_cons_zero]; rfl) (by rfl) hHeld ?_; (try simp only [Act.put, List.setIfInBounds_toArray, List.set_cons_zero, List.set_cons_succ])) | (refine way_take (v := ?_) (by simp only [List.getElem?_toArray, List.getElem?_cons_succ, List.getElem?_cons_zero]; rfl) (by rfl) ?_ hHeld ?_; rotate_left; (focus (intro w hSw; (try dsimp only at hSw); go_simp; (try with_reducible rfl); done)); (try simp only [Act.put, List.setIfInBounds_toArray, List.set_cons_zero, List.set_cons_succ]))))
        refine way_run (by simp only [List.getElem?_toArray, List.getElem?_cons_succ, List.getElem?_cons_zero]; rfl) (by rfl) (fun K hK => ?_)
        go_simp
        have hb3 : Below w2.heap.size w2 (w2.alloc (.cells ((bare ⟨k, pa, ho, sh, m, sl, na, wa, ks⟩).cells (.slice none 0 0)).toArray 41)).drew := ((Below.refl _ w2).alloc (Nat.le_refl _) _).drew
        have hbox3 := hbox2.below hb3 hbox2.inside
        have hh3 := hh.below hb3 hh.inside
        have hN3 := hN.below hb3
        have hnew := Has.drewN (Has.fresh w2 (.cells ((bare ⟨k, pa, ho, sh, m, sl, na, wa, ks⟩).cells (.slice none 0 0)).toArray 41)) 1
        refine hK.out _ _ (HS0.out _ hbox3 hh3) (fun hHeld => ?_)
        clear hK K
        (try simp only [Act.put, List.setIfInBounds_toArray, List.set_cons_zero, List.set_cons_succ])
        refine way_run (by simp only [List.getElem?_toArray, List.getElem?_cons_succ, List.getElem?_cons_zero]; rfl) (by rfl) (fun K hK => ?_)
        refine wp_pushG (d := bare ⟨k, pa, ho, sh, m, sl, na, wa, ks⟩) (.tmp 34) (.tmp 46) 27 rfl j0 _ Try.underlying27 Qi.out Qz0.out Qz1.out Qz2.out rfl rfl hN3 rfl hnew rfl (by omega) (HS.out.mono (Nat.le_trans hB2.size hb3.size)) (fun g c4 w4 hN4 hk4 => ?_)
        have hbl : b ≠ w.heap.size := Has.apart hh hbox2 (by simp)
        have hbs : ¬ (Value.slice A l.length c).ownBlock = some b := fun e => by
          obtain ⟨rows, -, ho, -⟩ := hN3
          rcases ho.2 with ⟨hv, _⟩ | ⟨g2, cap, cur, hv, _, hh2, _⟩
          · rw [hv] at e; cases e
          · rw [hv] at e
            obtain rfl : g2 = b := by simpa [Value.ownBlock] using e
            exact Has.apart hh3 hh2 (by simp) rfl
        have hh4 := hh3.kept hk4 hbs
        have hbox4 := hbox3.kept hk4 fun e => absurd (Hrow0.out _ e).1 (Nat.lt_irrefl _)
        have hK4 : Keeps S w w4 := (((Keeps.ofBelow hB2).also (((Keeps.refl _ w2).alloc (.cells ((bare ⟨k, pa, ho, sh, m, sl, na, wa, ks⟩).cells (.slice none 0 0)).toArray 41)).drew))).trans hk4 fun i _ e => (Hrow0.out _ e).2
        have q4 := HS0.out _ hbox4 hh4
        have q44 := q4.2
        have hz4 := hh4.free 0
        have hnew5 : Frst S (w4.setCell ⟨b, 0, none⟩ (.slice (some ⟨g, 0, none⟩) (l.length + 1) c4)) b (mkL l ⟨k, pa, ho, sh, m, sl, na, wa, ks⟩) := by
          rw [HL.out]
          refine ⟨hSb, some ⟨g, 0, none⟩, c4, ?_, hN4.aside hh4 (by decide) (by decide)⟩
          have := hh4.stored 0 (.slice (some ⟨g, 0, none⟩) (l.length + 1) c4)
          rw [List.length_append]
          exact this
        have c5 : (w4.setCell ⟨b, 0, none⟩ (.slice (some ⟨g, 0, none⟩) (l.length + 1) c4)).cell? ⟨b, 0, none⟩ = some (.slice (some ⟨g, 0, none⟩) (l.length + 1) c4) := (hh4.stored 0 _).cell 0
        have hk5 := Lib.hid (hK4.store (p := ⟨b, 0, none⟩) (.inl hSb) (.slice (some ⟨g, 0, none⟩) (l.length + 1) c4))
        have Hnew5 := Lib.hid hnew5
        have Q4 := Lib.hid q4
        clear hnew5 q4
        refine hK.out _ _ Q4.out (fun hHeld => ?_)
        clear hK K
        (try simp only [Act.put, List.setIfInBounds_toArray, List.set_cons_zero, List.set_cons_succ])
        refine way_run (by simp only [List.getElem?_toArray, List.getElem?_cons_succ, List.getElem?_cons_zero]; rfl) (by rfl) (fun K hK => ?_)
        go_simp
        refine hK.out _ _ Q4.out (fun hHeld => ?_)
        clear hK K
        (try simp only [Act.put, List.setIfInBounds_toArray, List.set_cons_zero, List.set_cons_succ])
        refine way_run (by simp only [List.getElem?_toArray, List.getElem?_cons_succ, List.getElem?_cons_zero]; rfl) (by rfl) (fun K hK => ?_)
        go_simp
        refine hK.out _ _ Q4.out (fun hHeld => ?_)
        clear hK K
        (try simp only [Act.put, List.setIfInBounds_toArray, List.set_cons_zero, List.set_cons_succ])
        refine way_last (by rfl) (by simp only [List.getElem?_toArray, List.getElem?_cons_succ, List.getElem?_cons_zero]; rfl) (by rfl) (fun K hK => ?_)
        go_simp
        refine hK.out _ _ ?_
        clear hK K
        refine way_done ?_
        go_wp2
        go_ret2
        refine ⟨?_, Hnew5.out, hk5.out⟩
        rw [HNo.out, E0.out]
        rfl
end
end Go.Proofs.Ytkafaceanlkjjaa
