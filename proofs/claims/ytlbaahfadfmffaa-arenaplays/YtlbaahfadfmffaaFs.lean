/-
  What towncrierref04.Same does.
-/
import Derived.Test.YtlbaahfadfmffaaFe
import Derived.Test.YtlbaahfadfmffaaWay
namespace Go.Proofs.Ytlbaahfadfmffaa
open Go Go.RowKit
variable {G : Nat → Prop}

/-- The same nodes? -/
def sameL (a b : List Nd) : Bool := decide (a.length = b.length ∧ ∀ i, i < a.length → oneB (a.getD i Nd.zero) (b.getD i Nd.zero) = true)
theorem getD_at {l : List Nd} {i : Nat} (h : i < l.length) : l.getD i Nd.zero = l[i] := by
  rw [List.getD_eq_getElem?_getD, List.getElem?_eq_getElem h]
  rfl

set_option linter.unusedSimpArgs false in
set_option maxHeartbeats 8000000 in
set_option maxRecDepth 100000 in
theorem same_any (l1 l2 : List Nd) (A1 A2 : Option Addr) (c1 c2 B1 B2 : Nat) (w : World) (hl : l1.length ≤ 100000) (hk : ∀ d ∈ l1, d.kids.length ≤ 1000000) (h1 : Nodes G w B1 A1 c1 l1) (h2 : Nodes G w B2 A2 c2 l2) :
    Calls Try.prog 16 #[.slice A1 l1.length c1, .slice A2 l2.length c2] w fun e w' => e = .returned (.bool (sameL l1 l2)) ∧ Below w.heap.size w w' := by
  have H1 := Lib.hid h1
  have H2 := Lib.hid h2
  have Hk := Lib.hid hk
  clear h1 h2 hk
  have hnot : ∀ (x : Bool) (w : World), (Op.unary .not (.bool x)).run Try.prog w = .ok (.bool (!x)) w := fun _ _ => rfl
  by_cases hn : l1.length = l2.length
  · have Hn := Lib.hid hn
    obtain ⟨n, hnn⟩ : ∃ n, n = l2.length := ⟨_, rfl⟩
    have hn1 : l1.length = n := by rw [hnn]; exact hn
    rw [hn1, ← hnn]
    have Hn1 := Lib.hid hn1
    have Hnn := Lib.hid hnn
    rw [hn1] at hl
    clear hn hn1 hnn
    go_enter Try.func16, Try.ntmps16
    go_wp2_with fail
    go_loopw [5] (fun i wr => ∃ k : Nat, i = .int .i64 k ∧ k ≤ n ∧ (∀ i, i < k → oneB (l1.getD i Nd.zero) (l2.getD i Nd.zero) = true) ∧ Below w.heap.size w wr) (fun i _ => n - (intOf i).toNat)
    case atStart => exact ⟨0, rfl, Nat.zero_le _, fun i hi => absurd hi (Nat.not_lt_zero i), Below.refl _ _⟩
    case round =>
      obtain ⟨j, rfl, hj, hall, hbr⟩ := hrel
      have Hall := Lib.hid hall
      clear hall
      by_cases hlt : (j : Int) < n
      · have hj1 : j < l1.length := by rw [Hn1.out]; omega
        have hj2 : j < l2.length := by rw [← Hnn.out]; omega
        obtain ⟨g, k, rfl, -, hK, -, hc⟩ := (H1.out.below hbr).at_ hj1
        obtain ⟨g2, k2, rfl, -, hK2, -, hc2⟩ := (H2.out.below hbr).at_ hj2
        obtain ⟨Ak, ck, rfl, -, hnu⟩ := hK.form
        obtain ⟨Ak2, ck2, rfl, -, hnu2⟩ := hK2.form
        have hkl : l1[j].kids.length ≤ 1000000 := Hk.out _ (List.getElem_mem hj1)
        have hg1 : l1.getD j Nd.zero = l1[j] := getD_at hj1
        have hg2 : l2.getD j Nd.zero = l2[j] := getD_at hj2
        obtain ⟨d, hd⟩ : ∃ d, d = l1[j] := ⟨_, rfl⟩
        obtain ⟨d2, hd2⟩ : ∃ d2, d2 = l2[j] := ⟨_, rfl⟩
        rw [← hd] at hc hnu hkl hg1
        rw [← hd2] at hc2 hnu2 hg2
        have S0 : wr.cell? ⟨g, j * 9, none⟩ = some (.int .i64 d.kind) ∧ wr.cell? ⟨g, j * 9 + 1, none⟩ = some (.int .i64 d.parent) ∧ wr.cell? ⟨g, j * 9 + 2, none⟩ = some (.int .i64 d.host) ∧ wr.cell? ⟨g, j * 9 + 3, none⟩ = some (.int .i64 d.shadow) ∧ wr.cell? ⟨g, j * 9 + 4, none⟩ = some (.int .i64 d.mode) ∧ wr.cell? ⟨g, j * 9 + 5, none⟩ = some (.bool d.slot) ∧ wr.cell? ⟨g, j * 9 + 6, none⟩ = some (.string d.name) ∧ wr.cell? ⟨g, j * 9 + 7, none⟩ = some (.string d.want) ∧ wr.cell? ⟨g, j * 9 + 8, none⟩ = some (.slice Ak d.kids.length ck) ∧ wr.cell? ⟨g2, j * 9, none⟩ = some (.int .i64 d2.kind) ∧ wr.cell? ⟨g2, j * 9 + 1, none⟩ = some (.int .i64 d2.parent) ∧ wr.cell? ⟨g2, j * 9 + 2, none⟩ = some (.int .i64 d2.host) ∧ wr.cell? ⟨g2, j * 9 + 3, none⟩ = some (.int .i64 d2.shadow) ∧ wr.cell? ⟨g2, j * 9 + 4, none⟩ = some (.int .i64 d2.mode) ∧ wr.cell? ⟨g2, j * 9 + 5, none⟩ = some (.bool d2.slot) ∧ wr.cell? ⟨g2, j * 9 + 6, none⟩ = some (.string d2.name) ∧ wr.cell? ⟨g2, j * 9 + 7, none⟩ = some (.string d2.want) ∧ wr.cell? ⟨g2, j * 9 + 8, none⟩ = some (.slice Ak2 d2.kids.length ck2) := ⟨hc 0 (by omega), hc 1 (by omega), hc 2 (by omega), hc 3 (by omega), hc 4 (by omega), hc 5 (by omega), hc 6 (by omega), hc 7 (by omega), hc 8 (by omega), hc2 0 (by omega), hc2 1 (by omega), hc2 2 (by omega), hc2 3 (by omega), hc2 4 (by omega), hc2 5 (by omega), hc2 6 (by omega), hc2 7 (by omega), hc2 8 (by omega)⟩
        have hgi : g < wr.heap.size := (H1.out.below hbr).inside _ _ _ rfl
        have hgi2 : g2 < wr.heap.size := (H2.out.below hbr).inside _ _ _ rfl
        have Hg1 := Lib.hid hg1
        have Hg2 := Lib.hid hg2
        have Hnu := Lib.hid hnu
        have Hnu2 := Lib.hid hnu2
        have C := one_any d.kind d.parent d.host d.shadow d.mode d2.kind d2.parent d2.host d2.shadow d2.mode d.slot d2.slot d.name d.want d2.name d2.want d.kids d2.kids Ak Ak2 ck ck2
        have hone : oneB ⟨d.kind, d.parent, d.host, d.shadow, d.mode, d.slot, d.name, d.want, d.kids⟩ ⟨d2.kind, d2.parent, d2.host, d2.shadow, d2.mode, d2.slot, d2.name, d2.want, d2.kids⟩ = oneB d d2 := rfl
        rw [hone] at C
        have HC := Lib.hid C
        clear hd hd2 hc hc2 hK hK2 hg1 hg2 hnu hnu2 C hone
        cases ho : oneB d d2 with
        | true =>
          have hnx : ∀ i, i < j + 1 → oneB (l1.getD i Nd.zero) (l2.getD i Nd.zero) = true := fun i hi => by
            by_cases e : i = j
            · subst e
              rw [Hg1.out, Hg2.out]
              exact ho
            · exact Hall.out i (by omega)
          have Hnx := Lib.hid hnx
          have Ho := Lib.hid ho
          clear hnx ho
          go_wp2_with fail
          refine wp_region_way (late := []) (S := fun w' => w'.cell? ⟨g, j * 9, none⟩ = some (.int .i64 d.kind) ∧ w'.cell? ⟨g, j * 9 + 1, none⟩ = some (.int .i64 d.parent) ∧ w'.cell? ⟨g, j * 9 + 2, none⟩ = some (.int .i64 d.host) ∧ w'.cell? ⟨g, j * 9 + 3, none⟩ = some (.int .i64 d.shadow) ∧ w'.cell? ⟨g, j * 9 + 4, none⟩ = some (.int .i64 d.mode) ∧ w'.cell? ⟨g, j * 9 + 5, none⟩ = some (.bool d.slot) ∧ w'.cell? ⟨g, j * 9 + 6, none⟩ = some (.string d.name) ∧ w'.cell? ⟨g, j * 9 + 7, none⟩ = some (.string d.want) ∧ w'.cell? ⟨g, j * 9 + 8, none⟩ = some (.slice Ak d.kids.length ck) ∧ w'.cell? ⟨g2, j * 9, none⟩ = some (.int .i64 d2.kind) ∧ w'.cell? ⟨g2, j * 9 + 1, none⟩ = some (.int .i64 d2.parent) ∧ w'.cell? ⟨g2, j * 9 + 2, none⟩ = some (.int .i64 d2.host) ∧ w'.cell? ⟨g2, j * 9 + 3, none⟩ = some (.int .i64 d2.shadow) ∧ w'.cell? ⟨g2, j * 9 + 4, none⟩ = some (.int .i64 d2.mode) ∧ w'.cell? ⟨g2, j * 9 + 5, none⟩ = some (.bool d2.slot) ∧ w'.cell? ⟨g2, j * 9 + 6, none⟩ = some (.string d2.name) ∧ w'.cell? ⟨g2, j * 9 + 7, none⟩ = some (.string d2.want) ∧ w'.cell? ⟨g2, j * 9 + 8, none⟩ = some (.slice Ak2 d2.kids.length ck2)) (y := Way.takes [0, 1, 2, 3, 4, 5, 6, 7] (.run 8 (.take 9 .fin))) (by kernel_rfl) (by kernel_rfl) rfl (by kernel_rfl) S0 (fun hHeld => ?_)
          simp only [Way.takes]
          (repeat (first | (refine way_skip (by simp only [List.getElem?_toArray, List.getElem?_cons_succ, List.getElem?_cons_zero]; rfl) (by rfl) hHeld ?_; (try simp only [Act.put, List.setIfInBounds_toArray, List.set_cons_zero, List.set_cons_succ])) | (refine way_pass (by simp only [List.getElem?_toArray, List.getElem?_cons_succ, List.getElem?_cons_zero]; rfl) (by rfl) hHeld ?_; (try simp only [Act.put, List.setIfInBounds_toArray, List.set_cons_zero, List.set_cons_succ])) | (refine way_take (v := ?_) (by simp only [List.getElem?_toArray, List.getElem?_cons_succ, List.getElem?_cons_zero]; rfl) (by rfl) ?_ hHeld ?_; rotate_left; (focus (intro w hSw; (try dsimp only at hSw); go_simp; (try with_reducible rfl); done)); (try simp only [Act.put, List.setIfInBounds_toArray, List.set_cons_zero, List.set_cons_succ]))))
          refine way_run (by simp only [List.getElem?_toArray, List.getElem?_cons_succ, List.getElem?_cons_zero]; rfl) (by rfl) (fun K hK => ?_)
          go_simp
          refine (HC.out wr.drew hkl (Hnu.out) (Hnu2.out)).mono ?_
          rintro e w2 ⟨rfl, hb2⟩
          rw [Ho.out]
          have hb2' : Below wr.heap.size wr w2 := ⟨hb2.os, hb2.tape, hb2.output, hb2.size, hb2.block⟩
          have T1 : ∀ i, w2.cell? ⟨g, i, none⟩ = wr.cell? ⟨g, i, none⟩ := fun i => hb2'.cell (p := ⟨g, i, none⟩) hgi
          have T2 : ∀ i, w2.cell? ⟨g2, i, none⟩ = wr.cell? ⟨g2, i, none⟩ := fun i => hb2'.cell (p := ⟨g2, i, none⟩) hgi2
          have S2 : w2.cell? ⟨g, j * 9, none⟩ = some (.int .i64 d.kind) ∧ w2.cell? ⟨g, j * 9 + 1, none⟩ = some (.int .i64 d.parent) ∧ w2.cell? ⟨g, j * 9 + 2, none⟩ = some (.int .i64 d.host) ∧ w2.cell? ⟨g, j * 9 + 3, none⟩ = some (.int .i64 d.shadow) ∧ w2.cell? ⟨g, j * 9 + 4, none⟩ = some (.int .i64 d.mode) ∧ w2.cell? ⟨g, j * 9 + 5, none⟩ = some (.bool d.slot) ∧ w2.cell? ⟨g, j * 9 + 6, none⟩ = some (.string d.name) ∧ w2.cell? ⟨g, j * 9 + 7, none⟩ = some (.string d.want) ∧ w2.cell? ⟨g, j * 9 + 8, none⟩ = some (.slice Ak d.kids.length ck) ∧ w2.cell? ⟨g2, j * 9, none⟩ = some (.int .i64 d2.kind) ∧ w2.cell? ⟨g2, j * 9 + 1, none⟩ = some (.int .i64 d2.parent) ∧ w2.cell? ⟨g2, j * 9 + 2, none⟩ = some (.int .i64 d2.host) ∧ w2.cell? ⟨g2, j * 9 + 3, none⟩ = some (.int .i64 d2.shadow) ∧ w2.cell? ⟨g2, j * 9 + 4, none⟩ = some (.int .i64 d2.mode) ∧ w2.cell? ⟨g2, j * 9 + 5, none⟩ = some (.bool d2.slot) ∧ w2.cell? ⟨g2, j * 9 + 6, none⟩ = some (.string d2.name) ∧ w2.cell? ⟨g2, j * 9 + 7, none⟩ = some (.string d2.want) ∧ w2.cell? ⟨g2, j * 9 + 8, none⟩ = some (.slice Ak2 d2.kids.length ck2) := ⟨(T1 _).trans S0.1, (T1 _).trans S0.2.1, (T1 _).trans S0.2.2.1, (T1 _).trans S0.2.2.2.1, (T1 _).trans S0.2.2.2.2.1, (T1 _).trans S0.2.2.2.2.2.1, (T1 _).trans S0.2.2.2.2.2.2.1, (T1 _).trans S0.2.2.2.2.2.2.2.1, (T1 _).trans S0.2.2.2.2.2.2.2.2.1, (T2 _).trans S0.2.2.2.2.2.2.2.2.2.1, (T2 _).trans S0.2.2.2.2.2.2.2.2.2.2.1, (T2 _).trans S0.2.2.2.2.2.2.2.2.2.2.2.1, (T2 _).trans S0.2.2.2.2.2.2.2.2.2.2.2.2.1, (T2 _).trans S0.2.2.2.2.2.2.2.2.2.2.2.2.2.1, (T2 _).trans S0.2.2.2.2.2.2.2.2.2.2.2.2.2.2.1, (T2 _).trans S0.2.2.2.2.2.2.2.2.2.2.2.2.2.2.2.1, (T2 _).trans S0.2.2.2.2.2.2.2.2.2.2.2.2.2.2.2.2.1, (T2 _).trans S0.2.2.2.2.2.2.2.2.2.2.2.2.2.2.2.2.2⟩
          clear hb2 T1 T2
          go_simp
          refine hK.out _ _ S2 (fun hHeld => ?_)
          clear hK K
          (try simp only [Act.put, List.setIfInBounds_toArray, List.set_cons_zero, List.set_cons_succ])
          (repeat (first | (refine way_skip (by simp only [List.getElem?_toArray, List.getElem?_cons_succ, List.getElem?_cons_zero]; rfl) (by rfl) hHeld ?_; (try simp only [Act.put, List.setIfInBounds_toArray, List.set_cons_zero, List.set_cons_succ])) | (refine way_pass (by simp only [List.getElem?_toArray, List.getElem?_cons_succ, List.getElem?_cons_zero]; rfl) (by rfl) hHeld ?_; (try simp only [Act.put, List.setIfInBounds_toArray, List.set_cons_zero, List.set_cons_succ])) | (refine way_take (v := ?_) (by simp only [List.getElem?_toArray, List.getElem?_cons_succ, List.getElem?_cons_zero]; rfl) (by rfl) ?_ hHeld ?_; rotate_left; (focus (intro w hSw; (try dsimp only at hSw); go_simp; (try with_reducible rfl); done)); (try simp only [Act.put, List.setIfInBounds_toArray, List.set_cons_zero, List.set_cons_succ]))))
          refine way_done ?_
          go_wp2
          go_roundw
          case rel => exact ⟨j + 1, by go_num, by omega, Hnx.out, hbr.trans (hb2'.mono hbr.size)⟩
          case measure => simp [intOf]; omega
        | false =>
          have e1 : sameL l1 l2 = false := by
            rw [sameL, decide_eq_false_iff_not]
            intro e
            have := e.2 j hj1
            rw [Hg1.out, Hg2.out, ho] at this
            cases this
          have E1 := Lib.hid e1
          have Ho := Lib.hid ho
          clear e1 ho
          go_wp2_with fail
          refine wp_region_way (late := []) (S := fun w' => w'.cell? ⟨g, j * 9, none⟩ = some (.int .i64 d.kind) ∧ w'.cell? ⟨g, j * 9 + 1, none⟩ = some (.int .i64 d.parent) ∧ w'.cell? ⟨g, j * 9 + 2, none⟩ = some (.int .i64 d.host) ∧ w'.cell? ⟨g, j * 9 + 3, none⟩ = some (.int .i64 d.shadow) ∧ w'.cell? ⟨g, j * 9 + 4, none⟩ = some (.int .i64 d.mode) ∧ w'.cell? ⟨g, j * 9 + 5, none⟩ = some (.bool d.slot) ∧ w'.cell? ⟨g, j * 9 + 6, none⟩ = some (.string d.name) ∧ w'.cell? ⟨g, j * 9 + 7, none⟩ = some (.string d.want) ∧ w'.cell? ⟨g, j * 9 + 8, none⟩ = some (.slice Ak d.kids.length ck) ∧ w'.cell? ⟨g2, j * 9, none⟩ = some (.int .i64 d2.kind) ∧ w'.cell? ⟨g2, j * 9 + 1, none⟩ = some (.int .i64 d2.parent) ∧ w'.cell? ⟨g2, j * 9 + 2, none⟩ = some (.int .i64 d2.host) ∧ w'.cell? ⟨g2, j * 9 + 3, none⟩ = some (.int .i64 d2.shadow) ∧ w'.cell? ⟨g2, j * 9 + 4, none⟩ = some (.int .i64 d2.mode) ∧ w'.cell? ⟨g2, j * 9 + 5, none⟩ = some (.bool d2.slot) ∧ w'.cell? ⟨g2, j * 9 + 6, none⟩ = some (.string d2.name) ∧ w'.cell? ⟨g2, j * 9 + 7, none⟩ = some (.string d2.want) ∧ w'.cell? ⟨g2, j * 9 + 8, none⟩ = some (.slice Ak2 d2.kids.length ck2)) (y := Way.takes [0, 1, 2, 3, 4, 5, 6, 7] (.run 8 (.take 9 .fin))) (by kernel_rfl) (by kernel_rfl) rfl (by kernel_rfl) S0 (fun hHeld => ?_)
          simp only [Way.takes]
          (repeat (first | (refine way_skip (by simp only [List.getElem?_toArray, List.getElem?_cons_succ, List.getElem?_cons_zero]; rfl) (by rfl) hHeld ?_; (try simp only [Act.put, List.setIfInBounds_toArray, List.set_cons_zero, List.set_cons_succ])) | (refine way_pass (by simp only [List.getElem?_toArray, List.getElem?_cons_succ, List.getElem?_cons_zero]; rfl) (by rfl) hHeld ?_; (try simp only [Act.put, List.setIfInBounds_toArray, List.set_cons_zero, List.set_cons_succ])) | (refine way_take (v := ?_) (by simp only [List.getElem?_toArray, List.getElem?_cons_succ, List.getElem?_cons_zero]; rfl) (by rfl) ?_ hHeld ?_; rotate_left; (focus (intro w hSw; (try dsimp only at hSw); go_simp; (try with_reducible rfl); done)); (try simp only [Act.put, List.setIfInBounds_toArray, List.set_cons_zero, List.set_cons_succ]))))
          refine way_run (by simp only [List.getElem?_toArray, List.getElem?_cons_succ, List.getElem?_cons_zero]; rfl) (by rfl) (fun K hK => ?_)
          go_simp
          refine (HC.out wr.drew hkl (Hnu.out) (Hnu2.out)).mono ?_
          rintro e w2 ⟨rfl, hb2⟩
          rw [Ho.out]
          have hb2' : Below wr.heap.size wr w2 := ⟨hb2.os, hb2.tape, hb2.output, hb2.size, hb2.block⟩
          have T1 : ∀ i, w2.cell? ⟨g, i, none⟩ = wr.cell? ⟨g, i, none⟩ := fun i => hb2'.cell (p := ⟨g, i, none⟩) hgi
          have T2 : ∀ i, w2.cell? ⟨g2, i, none⟩ = wr.cell? ⟨g2, i, none⟩ := fun i => hb2'.cell (p := ⟨g2, i, none⟩) hgi2
          have S2 : w2.cell? ⟨g, j * 9, none⟩ = some (.int .i64 d.kind) ∧ w2.cell? ⟨g, j * 9 + 1, none⟩ = some (.int .i64 d.parent) ∧ w2.cell? ⟨g, j * 9 + 2, none⟩ = some (.int .i64 d.host) ∧ w2.cell? ⟨g, j * 9 + 3, none⟩ = some (.int .i64 d.shadow) ∧ w2.cell? ⟨g, j * 9 + 4, none⟩ = some (.int .i64 d.mode) ∧ w2.cell? ⟨g, j * 9 + 5, none⟩ = some (.bool d.slot) ∧ w2.cell? ⟨g, j * 9 + 6, none⟩ = some (.string d.name) ∧ w2.cell? ⟨g, j * 9 + 7, none⟩ = some (.string d.want) ∧ w2.cell? ⟨g, j * 9 + 8, none⟩ = some (.slice Ak d.kids.length ck) ∧ w2.cell? ⟨g2, j * 9, none⟩ = some (.int .i64 d2.kind) ∧ w2.cell? ⟨g2, j * 9 + 1, none⟩ = some (.int .i64 d2.parent) ∧ w2.cell? ⟨g2, j * 9 + 2, none⟩ = some (.int .i64 d2.host) ∧ w2.cell? ⟨g2, j * 9 + 3, none⟩ = some (.int .i64 d2.shadow) ∧ w2.cell? ⟨g2, j * 9 + 4, none⟩ = some (.int .i64 d2.mode) ∧ w2.cell? ⟨g2, j * 9 + 5, none⟩ = some (.bool d2.slot) ∧ w2.cell? ⟨g2, j * 9 + 6, none⟩ = some (.string d2.name) ∧ w2.cell? ⟨g2, j * 9 + 7, none⟩ = some (.string d2.want) ∧ w2.cell? ⟨g2, j * 9 + 8, none⟩ = some (.slice Ak2 d2.kids.length ck2) := ⟨(T1 _).trans S0.1, (T1 _).trans S0.2.1, (T1 _).trans S0.2.2.1, (T1 _).trans S0.2.2.2.1, (T1 _).trans S0.2.2.2.2.1, (T1 _).trans S0.2.2.2.2.2.1, (T1 _).trans S0.2.2.2.2.2.2.1, (T1 _).trans S0.2.2.2.2.2.2.2.1, (T1 _).trans S0.2.2.2.2.2.2.2.2.1, (T2 _).trans S0.2.2.2.2.2.2.2.2.2.1, (T2 _).trans S0.2.2.2.2.2.2.2.2.2.2.1, (T2 _).trans S0.2.2.2.2.2.2.2.2.2.2.2.1, (T2 _).trans S0.2.2.2.2.2.2.2.2.2.2.2.2.1, (T2 _).trans S0.2.2.2.2.2.2.2.2.2.2.2.2.2.1, (T2 _).trans S0.2.2.2.2.2.2.2.2.2.2.2.2.2.2.1, (T2 _).trans S0.2.2.2.2.2.2.2.2.2.2.2.2.2.2.2.1, (T2 _).trans S0.2.2.2.2.2.2.2.2.2.2.2.2.2.2.2.2.1, (T2 _).trans S0.2.2.2.2.2.2.2.2.2.2.2.2.2.2.2.2.2⟩
          clear hb2 T1 T2
          go_simp
          refine hK.out _ _ S2 (fun hHeld => ?_)
          clear hK K
          (try simp only [Act.put, List.setIfInBounds_toArray, List.set_cons_zero, List.set_cons_succ])
          (repeat (first | (refine way_skip (by simp only [List.getElem?_toArray, List.getElem?_cons_succ, List.getElem?_cons_zero]; rfl) (by rfl) hHeld ?_; (try simp only [Act.put, List.setIfInBounds_toArray, List.set_cons_zero, List.set_cons_succ])) | (refine way_pass (by simp only [List.getElem?_toArray, List.getElem?_cons_succ, List.getElem?_cons_zero]; rfl) (by rfl) hHeld ?_; (try simp only [Act.put, List.setIfInBounds_toArray, List.set_cons_zero, List.set_cons_succ])) | (refine way_take (v := ?_) (by simp only [List.getElem?_toArray, List.getElem?_cons_succ, List.getElem?_cons_zero]; rfl) (by rfl) ?_ hHeld ?_; rotate_left; (focus (intro w hSw; (try dsimp only at hSw); go_simp; (try with_reducible rfl); done)); (try simp only [Act.put, List.setIfInBounds_toArray, List.set_cons_zero, List.set_cons_succ]))))
          refine way_done ?_
          go_wp2
          go_ret
          rw [E1.out]
          exact ⟨rfl, hbr.trans (hb2'.mono hbr.size)⟩
      · have e1 : sameL l1 l2 = true := by
          rw [sameL, decide_eq_true_iff]
          exact ⟨Hn.out, fun i hi => Hall.out i (by rw [Hn1.out] at hi; omega)⟩
        have E1 := Lib.hid e1
        clear e1
        go_wp2
        go_ret
        rw [E1.out]
        exact ⟨rfl, hbr⟩
  · have hn' : ((l1.length : Int) != (l2.length : Int)) = true := by rw [bne_iff_ne]; omega
    have hn2 : ((l1.length : Int) == (l2.length : Int)) = false := by rw [beq_eq_false_iff_ne]; omega
    have e1 : sameL l1 l2 = false := by
      rw [sameL, decide_eq_false_iff_not]
      exact fun e => hn e.1
    have E1 := Lib.hid e1
    clear e1
    go_enter Try.func16, Try.ntmps16
    go_wp2
    go_ret
    rw [E1.out]
    exact ⟨rfl, Below.refl _ _⟩
end Go.Proofs.Ytlbaahfadfmffaa
