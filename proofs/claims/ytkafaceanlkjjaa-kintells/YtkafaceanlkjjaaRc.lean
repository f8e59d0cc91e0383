/-
  What towncrierref05.Order does.
-/
import Derived.Test.YtkafaceanlkjjaaRb
import Derived.Test.YtkafaceanlkjjaaKe
namespace Go.Proofs.Ytkafaceanlkjjaa
open Go Go.RowKit

theorem snoc_of {ws : List Int} (h : ws ≠ []) : ∃ vs k, ws = vs ++ [k] := ⟨ws.dropLast, ws.getLast h, (List.dropLast_concat_getLast h).symm⟩
theorem flat_ge {f : Int → List Int} : ∀ (ks : List Int), (∀ k ∈ ks, 1 ≤ (f k).length) → ks.length ≤ (ks.flatMap f).length
  | [], _ => Nat.le_refl _
  | k :: r, h => by
    have h1 := h k (by simp)
    have h2 := flat_ge r fun k' hk' => h k' (by simp [hk'])
    rw [List.flatMap_cons, List.length_append, List.length_cons]
    omega
theorem drop_rev {ks : List Int} {j : Nat} (hj : j < ks.length) : (ks.drop j).reverse = (ks.drop (j + 1)).reverse ++ [ks[j]] := by
  rw [List.drop_eq_getElem_cons hj, List.reverse_cons]

section
variable {G : Nat → Prop} {l : List Nd} {A : Option Addr} {c : Nat} {w : World}
/-- What is told, and who waits. -/
structure Waits (l : List Nd) (R : List Int) (w wr : World) (o a : Value) (xs ws : List Int) : Prop where
  out : Pile w.heap.size wr o xs
  wait : Pile w.heap.size wr a ws
  apart : ∀ g, a.ownBlock = some g → o.ownBlock ≠ some g
  all : xs ++ ws.reverse.flatMap (ordL l) = R
  there : ∀ x ∈ ws, thereB l x = true
  below : Below w.heap.size w wr
set_option maxHeartbeats 8000000 in
set_option maxRecDepth 100000 in
theorem refOrder (id : Int) (hg : Good l) (h : Nodes G w 0 A c l) :
    Calls Try.prog 18 #[.slice A l.length c, .int .i64 id] w fun e w' => ∃ v, e = .returned v ∧ Pile w.heap.size w' v (ordL l id) ∧ Below w.heap.size w w' := by
  have hnot : ∀ (x : Bool) (w : World), (Op.unary .not (.bool x)).run Try.prog w = .ok (.bool (!x)) w := fun _ _ => rfl
  have hll := hg.len
  have H := Lib.hid h
  have Hg := Lib.hid hg
  cases ht : thereB l id with
  | false =>
    have e0 := ordL_no ht
    have E0 := Lib.hid e0
    have Ht := Lib.hid ht
    clear e0 ht h hg
    go_enter Try.func18, Try.ntmps18
    go_wp2_with fail
    refine (there_any l A c id w).mono ?_
    rintro e w1 ⟨rfl, rfl⟩
    rw [Ht.out]
    go_wp2
    go_ret
    rw [E0.out]
    exact ⟨_, rfl, Pile.nil _ _, Below.refl _ _⟩
  | true =>
    have hRl : (ordL l id).length ≤ 128 := Nat.le_trans (ordL_len hg.tree id) hg.len
    obtain ⟨R, hR⟩ : ∃ R, R = ordL l id := ⟨_, rfl⟩
    rw [← hR] at hRl
    rw [← hR]
    have hW0 : Waits l R w (w.alloc (.cells #[.int .i64 id] 3)) (.slice none 0 0) (.slice (some ⟨w.heap.size, 0, none⟩) 1 1) [] [id] :=
      ⟨Pile.nil _ _, Pile.lit w [id] 1 rfl (by decide) (Nat.le_refl _), (fun g _ e => by cases e), by rw [hR]; simp, (fun x hx => by rw [List.mem_singleton.1 hx]; exact ht), (Below.refl _ w).alloc (Nat.le_refl _) _⟩
    have HW0 := Lib.hid hW0
    have Ht := Lib.hid ht
    clear ht h hg hW0 hR
    go_enter Try.func18, Try.ntmps18
    go_wp2_with fail
    refine (there_any l A c id w).mono ?_
    rintro e w1 ⟨rfl, rfl⟩
    rw [Ht.out]
    go_wp2_with fail
    go_loopw [5, 6, 7] (fun o a s wr => ∃ (xs ws : List Int), s = .int .i64 xs.length ∧ Waits l R w wr o a xs ws) (fun _ _ s _ => 1000 - (intOf s).toNat)
    case atStart => exact ⟨[], [id], rfl, HW0.out⟩
    case round =>
      obtain ⟨xs, ws, rfl, hW⟩ := hrel
      clear HW0
      obtain ⟨Ao, co, rfl, -⟩ := hW.out.form
      obtain ⟨Aw, cw, rfl, hLw⟩ := hW.wait.form
      by_cases hws : ws = []
      · subst hws
        have e0 : xs = R := by rw [← hW.all]; simp
        go_wp2
        go_ret
        rw [← e0]
        exact ⟨_, rfl, hW.out, hW.below⟩
      · obtain ⟨vs, k, rfl⟩ := snoc_of hws
        have hk : thereB l k = true := hW.there k (by simp)
        have hst := ordL_step Hg.out.tree hk
        have hxr : xs.length < R.length := by
          rw [← hW.all, List.reverse_append, List.reverse_singleton, List.singleton_append, List.flatMap_cons, hst]
          simp
        obtain ⟨bw, offw, rfl, -, cw0⟩ := hLw.nums vs.length (by simp)
        rw [List.getElem_append_right (Nat.le_refl _)] at cw0
        simp only [Nat.sub_self, List.getElem_singleton] at cw0
        have hlen : (vs ++ [k]).length = vs.length + 1 := by simp
        rw [hlen]
        have hWw := hW.wait
        rw [hlen] at hWw
        obtain ⟨gw, eg, hclip⟩ := hWw.clip rfl
        obtain ⟨rfl, rfl⟩ : bw = gw ∧ offw = 0 := by simpa using eg
        obtain ⟨m, rfl, hm⟩ := there_at hk
        obtain ⟨g, A1, c1, rfl, hgw, ck, hL, -, -⟩ := H.out.row hm
        rw [Nat.zero_add] at cw0
        have hvl : vs.length ≤ 1000 := by
          have h1 := flat_ge (f := ordL l) (vs ++ [(m : Int) + 1]).reverse fun x hx => by
            rw [ordL_step Hg.out.tree (hW.there x (List.mem_reverse.1 hx))]
            simp
          have h2 := congrArg List.length hW.all
          rw [List.length_append] at h2
          rw [List.length_reverse, hlen] at h1
          omega
        have hx3 : (xs.length : Int) < 1000 := by omega
        have ckr : wr.cell? ⟨g, m * 9 + 8, none⟩ = _ := (hW.below.cell (p := ⟨g, m * 9 + 8, none⟩) hgw).trans ck
        have hcap : vs.length + 1 ≤ cw := by have := hLw.cap; rw [hlen] at this; exact this
        have hown := hW.out.lt
        obtain ⟨ks, hks⟩ : ∃ ks, ks = (nd l ((m : Int) + 1)).kids := ⟨_, rfl⟩
        have hkl : ks.length ≤ 200 := by rw [hks]; exact few_nd Hg.out.few _
        have hkth : ∀ x ∈ ks, thereB l x = true := fun x hx => (Hg.out.tree.kid _ hk x (hks ▸ hx)).1
        rw [← hks] at ckr hL hst
        have hall : (xs ++ [(m : Int) + 1]) ++ (vs ++ ks.reverse).reverse.flatMap (ordL l) = R := by
          rw [← hW.all, List.reverse_append, List.reverse_append, List.reverse_reverse, List.reverse_singleton, List.singleton_append, List.flatMap_append, List.flatMap_cons, hst, List.append_assoc, List.cons_append]
          rfl
        have hvth : ∀ x ∈ vs, thereB l x = true := fun x hx => hW.there x (by simp [hx])
        have hwapart : ∀ g, (Value.slice (some ⟨bw, 0, none⟩) vs.length vs.length).ownBlock = some g → (Value.slice Ao xs.length co).ownBlock ≠ some g := hW.apart
        have hbwl : bw < wr.heap.size := (hclip.lt bw rfl).2
        have HP2 : Hid (Pile w.heap.size (wr.alloc (.cells #[.int .i64 ((m : Int) + 1)] 3)) (.slice Ao xs.length co) xs) := Lib.hid (hW.out.alloc _)
        have HB2 : Hid (Has (wr.alloc (.cells #[.int .i64 ((m : Int) + 1)] 3)) wr.heap.size (.cells #[.int .i64 ((m : Int) + 1)] 3 (0, 0))) := Lib.hid (Has.fresh _ _)
        have HS2 : Hid (w.heap.size ≤ (wr.alloc (.cells #[.int .i64 ((m : Int) + 1)] 3)).heap.size) := Lib.hid (by have := hW.below.size; simp; omega)
        have hxl : xs.length ≤ 1000000 := by omega
        have HE : Hid (∀ g2 cap w2, Pile w.heap.size w2 (.slice (some ⟨g2, 0, none⟩) (xs.length + 1) cap) (xs ++ [(m : Int) + 1]) → Keeps (fun i => (Value.slice Ao xs.length co).ownBlock = some i) (wr.alloc (.cells #[.int .i64 ((m : Int) + 1)] 3)) w2 → ((Value.slice Ao xs.length co).ownBlock = some g2 ∨ (wr.alloc (.cells #[.int .i64 ((m : Int) + 1)] 3)).heap.size ≤ g2) →
            w2.cell? ⟨g, m * 9 + 8, none⟩ = some (.slice A1 ks.length c1) ∧ Hid (Pile w.heap.size w2 (.slice (some ⟨bw, 0, none⟩) vs.length vs.length) vs ∧ bw ≠ g2 ∧ Below w.heap.size w w2)) := Lib.hid fun g2 cap w2 hp2 hk2 hat => by
          have hb2 : Below w.heap.size w w2 := below_then (hW.below.alloc hW.below.size _) hk2 (by have := hW.below.size; simp; omega) fun i hi e => by have := (hown _ e).1; omega
          refine ⟨(hb2.cell (p := ⟨g, m * 9 + 8, none⟩) hgw).trans (by rw [← ckr]; exact (hW.below.cell (p := ⟨g, m * 9 + 8, none⟩) hgw).symm), Lib.hid ⟨(hclip.alloc _).kept hk2 fun g' hg' e => hwapart g' hg' e, fun e => ?_, hb2⟩⟩
          subst e
          rcases hat with h | h
          · exact hwapart bw rfl h
          · simp at h
            omega
        have ckw := ck
        rw [← hks] at ckw
        have Hall := Lib.hid hall
        have Hkth := Lib.hid hkth
        have Hvth := Lib.hid hvth
        have HL := Lib.hid hL
        have hRl' : xs.length + 1 ≤ 1000 := by omega
        clear hall hkth hvth hL hst hW hWw hLw hclip hown hwapart hks hk ckr hws eg ck hxr hlen hbwl
        go_wp2_with (at_builtin; refine wpList_push rfl (.tmp 40) (.tmp 42) rfl rfl HP2.out rfl HB2.out hxl HS2.out ?_; intro g2 cap w2 hp2 hk2 hat _; obtain ⟨d8, HK⟩ := HE.out g2 cap w2 hp2 hk2 hat)
        obtain ⟨n, hn⟩ : ∃ n, n = ks.length := ⟨_, rfl⟩
        rw [← hn] at d8 hkl ckw
        rw [← hn]
        have Hn := Lib.hid hn
        have HP := Lib.hid hp2
        have C8 := Lib.hid ckw
        clear ckw
        clear hn hp2 hk2 hat HE HP2 HB2 HS2
        go_loopw [6, 9] (fun a i w3 => ∃ (j : Nat) (ws3 : List Int), j ≤ n ∧ i = .int .i64 ((j : Int) - 1) ∧ ws3 = vs ++ (ks.drop j).reverse ∧ Pile w.heap.size w3 a ws3 ∧ Pile w.heap.size w3 (.slice (some ⟨g2, 0, none⟩) (xs.length + 1) cap) (xs ++ [(m : Int) + 1]) ∧ (∀ g', a.ownBlock = some g' → g2 ≠ g') ∧ Below w.heap.size w w3) (fun _ i _ => (intOf i + 1).toNat)
        case atStart =>
          obtain ⟨h1, h2, h3⟩ := HK.out
          refine ⟨n, vs, Nat.le_refl _, rfl, ?_, h1, HP.out, fun g' hg' e => ?_, h3⟩
          · rw [List.drop_of_length_le (by rw [Hn.out]; exact Nat.le_refl _)]
            simp
          · obtain rfl : bw = g' := by simpa [Value.ownBlock] using hg'
            exact h2 e.symm
        case round =>
          obtain ⟨j, ws3, hj, rfl, hw3, hPa, hPo, hap, hb3⟩ := hrel
          clear HK HP d8
          obtain ⟨Aa, ca, rfl, -⟩ := hPa.form
          cases j with
          | zero =>
            have e1 : (((0 : Nat) : Int) - 1) = -1 := rfl
            rw [e1]
            have hW' : Waits l R w wr (.slice (some ⟨g2, 0, none⟩) (xs.length + 1) cap) (.slice Aa ws3.length ca) (xs ++ [(m : Int) + 1]) ws3 := by
              subst hw3
              refine ⟨hPo, hPa, fun g' hg' e => hap g' hg' (by simpa [Value.ownBlock] using e), Hall.out, fun x hx => ?_, hb3⟩
              rcases List.mem_append.1 hx with hx | hx
              · exact Hvth.out x hx
              · exact Hkth.out x (List.mem_reverse.1 hx)
            have HW := Lib.hid hW'
            clear hW' e1 hPa hPo hap hb3 hw3
            go_wp2
            go_roundw
            case rel => exact ⟨xs ++ [(m : Int) + 1], ws3, by rw [List.length_append]; go_num, HW.out⟩
            case measure => simp [intOf]; omega
          | succ j =>
            have e1 : (((j + 1 : Nat) : Int) - 1) = (j : Int) := by omega
            rw [e1]
            have hjk : j < ks.length := by rw [← Hn.out]; omega
            obtain ⟨bk, offk, rfl, hbk, ckk⟩ := HL.out.nums j hjk
            have hdr := drop_rev hjk
            obtain ⟨y, hy⟩ : ∃ y, y = ks[j] := ⟨_, rfl⟩
            rw [← hy] at ckk hdr
            have d8 : wr.cell? ⟨g, m * 9 + 8, none⟩ = some (.slice (some ⟨bk, offk, none⟩) n c1) := (hb3.cell (p := ⟨g, m * 9 + 8, none⟩) hgw).trans C8.out
            have dk : wr.cell? ⟨bk, offk + j, none⟩ = some (.int .i64 y) := (hb3.cell (p := ⟨bk, offk + j, none⟩) hbk).trans ckk
            have hnew : ws3 ++ [y] = vs ++ (ks.drop j).reverse := by rw [hw3, hdr, List.append_assoc]
            have hl3 : ws3.length ≤ 1000000 := by
              have := Hn.out
              rw [hw3, List.length_append, List.length_reverse, List.length_drop]
              omega
            have hown := hPa.lt
            have HP2 : Hid (Pile w.heap.size (wr.alloc (.cells #[.int .i64 y] 3)) (.slice Aa ws3.length ca) ws3) := Lib.hid (hPa.alloc _)
            have HB2 : Hid (Has (wr.alloc (.cells #[.int .i64 y] 3)) wr.heap.size (.cells #[.int .i64 y] 3 (0, 0))) := Lib.hid (Has.fresh _ _)
            have HS2 : Hid (w.heap.size ≤ (wr.alloc (.cells #[.int .i64 y] 3)).heap.size) := Lib.hid (by have := hb3.size; simp; omega)
            have hg2 : g2 < wr.heap.size := (hPo.lt g2 rfl).2
            have HE : Hid (∀ g4 cap4 w4, Keeps (fun i => (Value.slice Aa ws3.length ca).ownBlock = some i) (wr.alloc (.cells #[.int .i64 y] 3)) w4 → ((Value.slice Aa ws3.length ca).ownBlock = some g4 ∨ (wr.alloc (.cells #[.int .i64 y] 3)).heap.size ≤ g4) →
                Pile w.heap.size w4 (.slice (some ⟨g2, 0, none⟩) (xs.length + 1) cap) (xs ++ [(m : Int) + 1]) ∧ (∀ g', (Value.slice (some ⟨g4, 0, none⟩) (ws3.length + 1) cap4).ownBlock = some g' → g2 ≠ g') ∧ Below w.heap.size w w4) := Lib.hid fun g4 cap4 w4 hk4 hat4 => by
              refine ⟨(hPo.alloc _).kept hk4 fun g' hg' e => ?_, fun g' hg' e => ?_, below_then (hb3.alloc hb3.size _) hk4 (by have := hb3.size; simp; omega) fun i hi e => by have := (hown _ e).1; omega⟩
              · obtain rfl : g2 = g' := by simpa [Value.ownBlock] using hg'
                exact hap g2 e rfl
              · obtain rfl : g4 = g' := by simpa [Value.ownBlock] using hg'
                subst e
                rcases hat4 with h | h
                · exact hap g2 h rfl
                · simp at h
                  omega
            have Hnew := Lib.hid hnew
            clear e1 hdr hy ckk hw3 hPa hPo hap hb3 hnew hown hjk
            go_wp2_with (at_builtin; refine wpList_push rfl (.tmp 56) (.tmp 66) rfl rfl HP2.out rfl HB2.out hl3 HS2.out ?_; intro g4 cap4 w4 hp4 hk4 hat4 _)
            go_roundw
            case rel =>
              obtain ⟨q1, q2, q3⟩ := HE.out g4 cap4 w4 hk4 hat4
              exact ⟨j, ws3 ++ [y], by omega, rfl, Hnew.out, by simpa using hp4, q1, q2, q3⟩
            case measure => simp [intOf]
end
end Go.Proofs.Ytkafaceanlkjjaa
