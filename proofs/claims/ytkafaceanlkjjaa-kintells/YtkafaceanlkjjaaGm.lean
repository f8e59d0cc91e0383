/-
  What the law's own made does with an arena that keeps its promises (stages 5 and later: a list is handed on as it came in).
-/
import Derived.Test.YtkafaceanlkjjaaFx
namespace Go.Proofs.Ytkafaceanlkjjaa
open Go Go.RowKit

section
variable {Rep : (Nat → Prop) → World → Nat → List Nd → Prop}
set_option maxHeartbeats 8000000 in
set_option maxRecDepth 100000 in
theorem built_any (O : ForestOk Rep) (A : Option Addr) (n c : Nat) (xs : List Ac) (w : World) (hn : xs.length = n) (h : Acts w A xs) (hs : Small xs) :
    Calls Try.prog 8 #[.slice A n c] w fun e w' => ∃ b, e = .returned (at_ b) ∧ Rep (fun i => w.heap.size ≤ i) w' b (forest xs) ∧ Below w.heap.size w w' := by
  have H := Lib.hid h
  have Hn := Lib.hid hn
  have Hs := Lib.hid hs
  have hnb : n ≤ 300 := by rw [← hn]; exact hs.1
  clear h hn hs
  go_enter Try.func8, Try.ntmps8
  go_wp2_with fail
  refine (O.new (fun i => w.heap.size ≤ i) w (fun _ h => h)).mono ?_
  rintro e w1 ⟨b, rfl, hR1, hb1⟩
  go_wp2_with fail
  go_loopw [4] (fun i wr => ∃ j : Nat, i = .int .i64 j ∧ j ≤ n ∧ Rep (fun i => w.heap.size ≤ i) wr b (forest (xs.take j)) ∧ Below w.heap.size w wr) (fun i _ => n - (intOf i).toNat)
  case atStart => exact ⟨0, rfl, Nat.zero_le _, hR1, hb1⟩
  case round =>
    obtain ⟨j, rfl, hj, hR, hb⟩ := hrel
    clear hR1 hb1
    by_cases hjn : (j : Int) < n
    · have hjx : j < xs.length := by rw [Hn.out]; omega
      have hj3 : (j : Int) < 300 := by omega
      obtain ⟨b', off, A1, c1, A2, c2, rfl, hB, hc, hL, hA⟩ := H.out j hjx
      have hsn : forest (xs.take (j + 1)) = actL (forest (xs.take j)) xs[j] := by
        rw [List.take_add_one, List.getElem?_eq_getElem hjx]
        exact forest_snoc _ _
      have hxl : xs[j].l.length ≤ 200 := Hs.out.2 _ (List.getElem_mem hjx)
      have hg : Good (forest (xs.take j)) := good_take Hs.out j
      obtain ⟨l, hl⟩ : ∃ l, l = forest (xs.take j) := ⟨_, rfl⟩
      rw [← hl] at hsn hg hR
      obtain ⟨x, hx⟩ : ∃ x, x = xs[j] := ⟨_, rfl⟩
      rw [← hx] at hc hL hA hsn hxl
      clear hl hx
      have hc' : ∀ f, f < 14 → wr.cell? ⟨b', off + j * 14 + f, none⟩ = (actCells x (.slice A1 x.n.kids.length c1) (.slice A2 x.l.length c2))[f]? := fun f hf => by
        rw [hb.cell (p := ⟨b', off + j * 14 + f, none⟩) hB, Nat.add_assoc]
        exact hc f hf
      have hapart : 0 < x.l.length → ∀ b'' off' s, A2 = some ⟨b'', off', s⟩ → b'' < w.heap.size := fun h0 b'' off' s e => by
        obtain ⟨b3, off3, e3, hb3, _⟩ := hA.nums 0 h0
        rw [e] at e3
        cases e3
        exact hb3
      obtain ⟨kx, ax, bx, sx, ⟨k, pa, ho, sh, m, sl, na, wa, ks⟩, xl⟩ := x
      have g0 : wr.cell? ⟨b', off + j * 14, none⟩ = some (.int .i64 kx) := hc' 0 (by omega)
      have g1 : wr.cell? ⟨b', off + j * 14 + 1, none⟩ = some (.int .i64 ax) := hc' 1 (by omega)
      have g2 : wr.cell? ⟨b', off + j * 14 + 2, none⟩ = some (.int .i64 bx) := hc' 2 (by omega)
      have g3 : wr.cell? ⟨b', off + j * 14 + 3, none⟩ = some (.string sx) := hc' 3 (by omega)
      have g4 : wr.cell? ⟨b', off + j * 14 + 4, none⟩ = some (.int .i64 k) := hc' 4 (by omega)
      have g5 : wr.cell? ⟨b', off + j * 14 + 5, none⟩ = some (.int .i64 pa) := hc' 5 (by omega)
      have g6 : wr.cell? ⟨b', off + j * 14 + 6, none⟩ = some (.int .i64 ho) := hc' 6 (by omega)
      have g7 : wr.cell? ⟨b', off + j * 14 + 7, none⟩ = some (.int .i64 sh) := hc' 7 (by omega)
      have g8 : wr.cell? ⟨b', off + j * 14 + 8, none⟩ = some (.int .i64 m) := hc' 8 (by omega)
      have g9 : wr.cell? ⟨b', off + j * 14 + 9, none⟩ = some (.bool sl) := hc' 9 (by omega)
      have g10 : wr.cell? ⟨b', off + j * 14 + 10, none⟩ = some (.string na) := hc' 10 (by omega)
      have g11 : wr.cell? ⟨b', off + j * 14 + 11, none⟩ = some (.string wa) := hc' 11 (by omega)
      have g12 : wr.cell? ⟨b', off + j * 14 + 12, none⟩ = some (.slice A1 ks.length c1) := hc' 12 (by omega)
      have g13 : wr.cell? ⟨b', off + j * 14 + 13, none⟩ = some (.slice A2 xl.length c2) := hc' 13 (by omega)
      obtain ⟨q1, q2, q3, q4, q5, q6⟩ := hA
      have hxl' : xl.length ≤ 200 := hxl
      have hbb : Below wr.heap.size wr (wr.alloc (.cells #[.int .i64 kx, .int .i64 ax, .int .i64 bx, .string sx, .int .i64 k, .int .i64 pa, .int .i64 ho, .int .i64 sh, .int .i64 m, .bool sl, .string na, .string wa, .slice A1 ks.length c1, .slice A2 xl.length c2] 46)) := (Below.refl _ wr).alloc (Nat.le_refl _) _
      have HR := Lib.hid (O.below hR hbb)
      have HS : Hid (Fut (fun i => w.heap.size ≤ i) (wr.alloc (.cells #[.int .i64 kx, .int .i64 ax, .int .i64 bx, .string sx, .int .i64 k, .int .i64 pa, .int .i64 ho, .int .i64 sh, .int .i64 m, .bool sl, .string na, .string wa, .slice A1 ks.length c1, .slice A2 xl.length c2] 46)).heap.size) := Lib.hid fun i hi => Nat.le_trans (Nat.le_trans hb.size hbb.size) hi
      have H1 : Hid (ListIn (wr.alloc (.cells #[.int .i64 kx, .int .i64 ax, .int .i64 bx, .string sx, .int .i64 k, .int .i64 pa, .int .i64 ho, .int .i64 sh, .int .i64 m, .bool sl, .string na, .string wa, .slice A1 ks.length c1, .slice A2 xl.length c2] 46)) A1 c1 ks) := Lib.hid ((hL.below hb).below hbb)
      have H6 : Hid (ListIn (wr.alloc (.cells #[.int .i64 kx, .int .i64 ax, .int .i64 bx, .string sx, .int .i64 k, .int .i64 pa, .int .i64 ho, .int .i64 sh, .int .i64 m, .bool sl, .string na, .string wa, .slice A1 ks.length c1, .slice A2 xl.length c2] 46)) A2 c2 xl) := Lib.hid ((ListIn.below ⟨q4, q5, q6⟩ hb).below hbb)
      have HB : Hid (Below w.heap.size w (wr.alloc (.cells #[.int .i64 kx, .int .i64 ax, .int .i64 bx, .string sx, .int .i64 k, .int .i64 pa, .int .i64 ho, .int .i64 sh, .int .i64 m, .bool sl, .string na, .string wa, .slice A1 ks.length c1, .slice A2 xl.length c2] 46))) := Lib.hid (hb.alloc hb.size _)
      have HA := Lib.hid hapart
      have Hg := Lib.hid hg
      have Hsn := Lib.hid hsn
      have Q1 : sx.size ≤ 9223372036854775807 := q1
      have Q2 : na.size ≤ 9223372036854775807 := q2
      have Q3 : wa.size ≤ 9223372036854775807 := q3
      clear hc hc' hsn hL hR hapart hbb hg q4 q5 q6 hxl q1 q2 q3
      by_cases h0 : kx = 0
      · subst h0
        have e1 : actL l ⟨0, ax, bx, sx, ⟨k, pa, ho, sh, m, sl, na, wa, ks⟩, xl⟩ = mkL l ⟨k, pa, ho, sh, m, sl, na, wa, ks⟩ := rfl
        have E1 := Lib.hid e1
        clear e1
        go_wp2_with fail
        refine (O.make (fun i => w.heap.size ≤ i) _ b l k pa ho sh m sl na wa ks A1 c1 HR.out Hg.out HS.out Q2 Q3 H1.out).mono ?_
        rintro e w2 ⟨rfl, hR2, hk2⟩
        go_wp2
        go_roundw
        case rel => exact ⟨j + 1, by go_num, by omega, by rw [Hsn.out, E1.out]; exact hR2, below_then HB.out hk2 HB.out.size fun i hi hh => by omega⟩
        case measure => simp [intOf]; omega
      · have h0' : (kx == 0) = false := by simpa using h0
        by_cases h1 : kx = 1
        · subst h1
          have e1 : actL l ⟨1, ax, bx, sx, ⟨k, pa, ho, sh, m, sl, na, wa, ks⟩, xl⟩ = putL l ax xl := rfl
          have E1 := Lib.hid e1
          clear e1
          go_wp2_with fail
          refine (O.put (fun i => w.heap.size ≤ i) _ b l ax xl A2 c2 HR.out Hg.out HS.out hxl' H6.out fun h0 b2 off2 s e _ hh => by have := HA.out h0 b2 off2 s e; omega).mono ?_
          rintro e w2 ⟨rfl, hR2, hk2⟩
          go_wp2
          go_roundw
          case rel => exact ⟨j + 1, by go_num, by omega, by rw [Hsn.out, E1.out]; exact hR2, below_then HB.out hk2 HB.out.size fun i hi hh => by omega⟩
          case measure => simp [intOf]; omega
        · have h1' : (kx == 1) = false := by simpa using h1
          by_cases h2 : kx = 2
          · subst h2
            have e1 : actL l ⟨2, ax, bx, sx, ⟨k, pa, ho, sh, m, sl, na, wa, ks⟩, xl⟩ = tieL l ax bx := rfl
            have E1 := Lib.hid e1
            clear e1
            go_wp2_with fail
            refine (O.tie (fun i => w.heap.size ≤ i) _ b l ax bx HR.out Hg.out HS.out).mono ?_
            rintro e w2 ⟨rfl, hR2, hk2⟩
            go_wp2
            go_roundw
            case rel => exact ⟨j + 1, by go_num, by omega, by rw [Hsn.out, E1.out]; exact hR2, below_then HB.out hk2 HB.out.size fun i hi hh => by omega⟩
            case measure => simp [intOf]; omega
          · have h2' : (kx == 2) = false := by simpa using h2
            by_cases h3 : kx = 3
            · subst h3
              have e1 : actL l ⟨3, ax, bx, sx, ⟨k, pa, ho, sh, m, sl, na, wa, ks⟩, xl⟩ = nameL l ax sx := rfl
              have E1 := Lib.hid e1
              clear e1
              go_wp2_with fail
              refine (O.name (fun i => w.heap.size ≤ i) _ b l ax sx HR.out Hg.out HS.out Q1).mono ?_
              rintro e w2 ⟨rfl, hR2, hk2⟩
              go_wp2
              go_roundw
              case rel => exact ⟨j + 1, by go_num, by omega, by rw [Hsn.out, E1.out]; exact hR2, below_then HB.out hk2 HB.out.size fun i hi hh => by omega⟩
              case measure => simp [intOf]; omega
            · have h3' : (kx == 3) = false := by simpa using h3
              by_cases h4 : kx = 4
              · subst h4
                have e1 : actL l ⟨4, ax, bx, sx, ⟨k, pa, ho, sh, m, sl, na, wa, ks⟩, xl⟩ = wantL l ax sx := rfl
                have E1 := Lib.hid e1
                clear e1
                go_wp2_with fail
                refine (O.want (fun i => w.heap.size ≤ i) _ b l ax sx HR.out Hg.out HS.out Q1).mono ?_
                rintro e w2 ⟨rfl, hR2, hk2⟩
                go_wp2
                go_roundw
                case rel => exact ⟨j + 1, by go_num, by omega, by rw [Hsn.out, E1.out]; exact hR2, below_then HB.out hk2 HB.out.size fun i hi hh => by omega⟩
                case measure => simp [intOf]; omega
              · have h4' : (kx == 4) = false := by simpa using h4
                have e1 : actL l ⟨kx, ax, bx, sx, ⟨k, pa, ho, sh, m, sl, na, wa, ks⟩, xl⟩ = l := by simp only [actL, if_neg h0, if_neg h1, if_neg h2, if_neg h3, if_neg h4]
                have E1 := Lib.hid e1
                clear e1
                go_wp2
                go_roundw
                case rel => exact ⟨j + 1, by go_num, by omega, by rw [Hsn.out, E1.out]; exact HR.out, HB.out⟩
                case measure => simp [intOf]; omega
    · go_wp2
      go_ret
      refine ⟨b, rfl, ?_, hb⟩
      rw [List.take_of_length_le (by rw [Hn.out]; omega)] at hR
      exact hR
end
end Go.Proofs.Ytkafaceanlkjjaa
