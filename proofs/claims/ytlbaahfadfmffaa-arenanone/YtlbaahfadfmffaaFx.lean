/-
  What towncrierlaw04.made does with an arena that keeps its promises.
-/
import Derived.Test.YtlbaahfadfmffaaFa
namespace Go.Proofs.Ytlbaahfadfmffaa
open Go Go.RowKit

theorem good_take {xs : List Ac} (h : Small xs) : ∀ j, Good (forest (xs.take j))
  | 0 => good_nil
  | j + 1 => by
    rcases Nat.lt_or_ge j xs.length with hj | hj
    · rw [List.take_add_one, List.getElem?_eq_getElem hj]
      show Good (forest (xs.take j ++ [xs[j]]))
      rw [forest_snoc]
      exact good_act (good_take h j) (h.2 _ (List.getElem_mem hj))
    · rw [List.take_of_length_le (by omega), ← List.take_of_length_le hj]
      exact good_take h j
theorem good_forest {xs : List Ac} (h : Small xs) : Good (forest xs) := by
  have := good_take h xs.length
  rwa [List.take_length] at this

section
variable {Rep : (Nat → Prop) → World → Nat → List Nd → Prop}
set_option maxHeartbeats 4000000 in
set_option maxRecDepth 100000 in
theorem made_any (O : ForestOk Rep) (A : Option Addr) (n c : Nat) (xs : List Ac) (w : World) (hn : xs.length = n) (h : Acts w A xs) (hs : Small xs) :
    Calls Try.prog 17 #[.slice A n c] w fun e w' => ∃ b, e = .returned (at_ b) ∧ Rep (fun i => w.heap.size ≤ i) w' b (forest xs) ∧ Below w.heap.size w w' := by
  have H := Lib.hid h
  have Hn := Lib.hid hn
  have Hs := Lib.hid hs
  have hnb : n ≤ 300 := by rw [← hn]; exact hs.1
  clear h hn hs
  go_enter Try.func17, Try.ntmps17
  go_wp2_with fail
  refine (O.new (fun i => w.heap.size ≤ i) w (fun _ h => h)).mono ?_
  rintro e w1 ⟨b, rfl, hR1, hb1⟩
  go_wp2_with fail
  go_loopw [4] (fun i wr => ∃ j : Nat, i = .int .i64 j ∧ j ≤ n ∧ Rep (fun i => w.heap.size ≤ i) wr b (forest (xs.take j)) ∧ Below w.heap.size w wr) (fun i _ => n - (intOf i).toNat)
  case atStart => exact ⟨0, rfl, Nat.zero_le _, hR1, hb1⟩
  case round =>
    obtain ⟨j, rfl, hj, hR, hb⟩ := hrel
    clear hR1 hb1
    by_cases hjn : (j : Int) < n
    · have hjx : j < xs.length := by rw [Hn.out]; omega
      obtain ⟨b', off, A1, c1, A2, c2, rfl, hB, hc, hL, hA⟩ := (H.out.below hb) j hjx
      have hsn : forest (xs.take (j + 1)) = actL (forest (xs.take j)) xs[j] := by
        rw [List.take_add_one, List.getElem?_eq_getElem hjx]
        exact forest_snoc _ _
      have hxl : xs[j].l.length ≤ 200 := Hs.out.2 _ (List.getElem_mem hjx)
      obtain ⟨x, hx⟩ : ∃ x, x = xs[j] := ⟨_, rfl⟩
      rw [← hx] at hc hL hA hsn hxl
      have hc' : ∀ f, f < 14 → wr.cell? ⟨b', off + j * 14 + f, none⟩ = (actCells x (.slice A1 x.n.kids.length c1) (.slice A2 x.l.length c2))[f]? := fun f hf => by
        rw [Nat.add_assoc]
        exact hc f hf
      have g0 : wr.cell? ⟨b', off + j * 14, none⟩ = some (.int .i64 x.kind) := (hc' 0 (by omega))
      have g1 : wr.cell? ⟨b', off + j * 14 + 1, none⟩ = some (.int .i64 x.a) := (hc' 1 (by omega))
      have g2 : wr.cell? ⟨b', off + j * 14 + 2, none⟩ = some (.int .i64 x.b) := (hc' 2 (by omega))
      have g3 : wr.cell? ⟨b', off + j * 14 + 3, none⟩ = some (.string x.s) := (hc' 3 (by omega))
      have g4 : wr.cell? ⟨b', off + j * 14 + 4, none⟩ = some (.int .i64 x.n.kind) := (hc' 4 (by omega))
      have g5 : wr.cell? ⟨b', off + j * 14 + 5, none⟩ = some (.int .i64 x.n.parent) := (hc' 5 (by omega))
      have g6 : wr.cell? ⟨b', off + j * 14 + 6, none⟩ = some (.int .i64 x.n.host) := (hc' 6 (by omega))
      have g7 : wr.cell? ⟨b', off + j * 14 + 7, none⟩ = some (.int .i64 x.n.shadow) := (hc' 7 (by omega))
      have g8 : wr.cell? ⟨b', off + j * 14 + 8, none⟩ = some (.int .i64 x.n.mode) := (hc' 8 (by omega))
      have g9 : wr.cell? ⟨b', off + j * 14 + 9, none⟩ = some (.bool x.n.slot) := (hc' 9 (by omega))
      have g10 : wr.cell? ⟨b', off + j * 14 + 10, none⟩ = some (.string x.n.name) := (hc' 10 (by omega))
      have g11 : wr.cell? ⟨b', off + j * 14 + 11, none⟩ = some (.string x.n.want) := (hc' 11 (by omega))
      have g12 : wr.cell? ⟨b', off + j * 14 + 12, none⟩ = some (.slice A1 x.n.kids.length c1) := (hc' 12 (by omega))
      have g13 : wr.cell? ⟨b', off + j * 14 + 13, none⟩ = some (.slice A2 x.l.length c2) := (hc' 13 (by omega))
      have C := do4_any O (fun i => w.heap.size ≤ i) wr b _ x A1 c1 A2 c2 hR (good_take Hs.out j) (fun i hi => Nat.le_trans hb.size hi) hL hA hxl
      unfold actVal at C
      have HC := Lib.hid C
      have Hsn := Lib.hid hsn
      clear C hc hc' hsn hx hL hA hR
      go_wp2_with fail
      refine HC.out.mono ?_
      rintro e w2 ⟨rfl, hR2, hk2⟩
      go_wp2
      go_roundw
      case rel => exact ⟨j + 1, by go_num, by omega, by rw [Hsn.out]; exact hR2, below_then hb hk2 hb.size fun i hi hh => by omega⟩
      case measure => simp [intOf]; omega
    · go_wp2
      go_ret
      refine ⟨b, rfl, ?_, hb⟩
      rw [List.take_of_length_le (by rw [Hn.out]; omega)] at hR
      exact hR
end
end Go.Proofs.Ytlbaahfadfmffaa
