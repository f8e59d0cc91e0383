/-
  What towncrierref05.Order does.
  What towncrierref09.Slots and Of do.
  What towncrierref09.Assigned, shown and once do.
  What towncrierref09.once does.
  What towncrierref09.Flat does: slot by slot is put in the place of by what stands there, until there is none.
  What towncrierlaw09.SlotTells does with an arena that keeps its promises: it answers true.
  What towncrierlaw09.SlotFlat does with an arena that keeps its promises: it answers true.
  What towncrierlaw09.SlotOnce does with an arena that keeps its promises: it answers true.
  What stage 9's laws do with this arena.
  Arguments that came in, opened: lists of texts and of numbers. Facts of the program that every row's proof wants.
  Proved: the law answers true for every input, and each argument reads afterwards as it read before. No condition.
-/
import Derived.Test.YtloncmhcdmjjgaaPartF
import Derived.Deep.DeepCutAuto
import Derived.Test.YtloncmhcdmjjgaaProg
import Derived.Test.YtloncmhcdmjjgaaChecked
import Derived.ProofKit
import Derived.OpenShut
import Derived.Test.YtloncmhcdmjjgaaRows
import Derived.ChangeOld

namespace Go.Proofs.Ytloncmhcdmjjgaa
open Go Go.RowKit

theorem snoc_of {ws : List Int} (h : ws ≠ []) : ∃ vs k, ws = vs ++ [k] := ⟨ws.dropLast, ws.getLast h, (List.dropLast_concat_getLast h).symm⟩
theorem flat_ge {f : Int → List Int} : ∀ (ks : List Int), (∀ k ∈ ks, 1 ≤ (f k).length) → ks.length ≤ (ks.flatMap f).length
  | [], _ => Nat.le_refl _
  | k :: r, h => by
    have h1 := h k (by simp)
    have h2 := flat_ge r fun k' hk' => h k' (by simp [hk'])
    rw [List.flatMap_cons, List.length_append, List.length_cons]
    omega
theorem drop_rev {ks : List Int} {j : Nat} (hj : j < ks.length) : (ks.drop j).reverse = (ks.drop (j + 1)).reverse ++ [ks[j]] := by
  rw [List.drop_eq_getElem_cons hj, List.reverse_cons]

section
variable {G : Nat → Prop} {l : List Nd} {A : Option Addr} {c : Nat} {w : World}
/-- What is told, and who waits. -/
structure Waits (l : List Nd) (R : List Int) (w wr : World) (o a : Value) (xs ws : List Int) : Prop where
  out : Pile w.heap.size wr o xs
  wait : Pile w.heap.size wr a ws
  apart : ∀ g, a.ownBlock = some g → o.ownBlock ≠ some g
  all : xs ++ ws.reverse.flatMap (ordL l) = R
  there : ∀ x ∈ ws, thereB l x = true
  below : Below w.heap.size w wr
set_option maxHeartbeats 8000000 in
set_option maxRecDepth 100000 in
theorem refOrder (id : Int) (hg : Good l) (h : Nodes G w 0 A c l) :
    Calls Try.prog 38 #[.slice A l.length c, .int .i64 id] w fun e w' => ∃ v, e = .returned v ∧ Pile w.heap.size w' v (ordL l id) ∧ Below w.heap.size w w' := by
  have hnot : ∀ (x : Bool) (w : World), (Op.unary .not (.bool x)).run Try.prog w = .ok (.bool (!x)) w := fun _ _ => rfl
  have hll := hg.len
  have H := Lib.hid h
  have Hg := Lib.hid hg
  cases ht : thereB l id with
  | false =>
    have e0 := ordL_no ht
    have E0 := Lib.hid e0
    have Ht := Lib.hid ht
    clear e0 ht h hg
    go_enter Try.func38, Try.ntmps38
    go_wp2_with fail
    refine (there_any l A c id w).mono ?_
    rintro e w1 ⟨rfl, rfl⟩
    rw [Ht.out]
    go_wp2
    go_ret
    rw [E0.out]
    exact ⟨_, rfl, Pile.nil _ _, Below.refl _ _⟩
  | true =>
    have hRl : (ordL l id).length ≤ 128 := Nat.le_trans (ordL_len hg.tree id) hg.len
    obtain ⟨R, hR⟩ : ∃ R, R = ordL l id := ⟨_, rfl⟩
    rw [← hR] at hRl
    rw [← hR]
    have hW0 : Waits l R w (w.alloc (.cells #[.int .i64 id] 3)) (.slice none 0 0) (.slice (some ⟨w.heap.size, 0, none⟩) 1 1) [] [id] :=
      ⟨Pile.nil _ _, Pile.lit w [id] 1 rfl (by decide) (Nat.le_refl _), (fun g _ e => by cases e), by rw [hR]; simp, (fun x hx => by rw [List.mem_singleton.1 hx]; exact ht), (Below.refl _ w).alloc (Nat.le_refl _) _⟩
    have HW0 := Lib.hid hW0
    have Ht := Lib.hid ht
    clear ht h hg hW0 hR
    go_enter Try.func38, Try.ntmps38
    go_wp2_with fail
    refine (there_any l A c id w).mono ?_
    rintro e w1 ⟨rfl, rfl⟩
    rw [Ht.out]
    go_wp2_with fail
    go_loopw [5, 6, 7] (fun o a s wr => ∃ (xs ws : List Int), s = .int .i64 xs.length ∧ Waits l R w wr o a xs ws) (fun _ _ s _ => 1000 - (intOf s).toNat)
    case atStart => exact ⟨[], [id], rfl, HW0.out⟩
    case round =>
      obtain ⟨xs, ws, rfl, hW⟩ := hrel
      clear HW0
      obtain ⟨Ao, co, rfl, -⟩ := hW.out.form
      obtain ⟨Aw, cw, rfl, hLw⟩ := hW.wait.form
      by_cases hws : ws = []
      · subst hws
        have e0 : xs = R := by rw [← hW.all]; simp
        go_wp2
        go_ret
        rw [← e0]
        exact ⟨_, rfl, hW.out, hW.below⟩
      · obtain ⟨vs, k, rfl⟩ := snoc_of hws
        have hk : thereB l k = true := hW.there k (by simp)
        have hst := ordL_step Hg.out.tree hk
        have hxr : xs.length < R.length := by
          rw [← hW.all, List.reverse_append, List.reverse_singleton, List.singleton_append, List.flatMap_cons, hst]
          simp
        obtain ⟨bw, offw, rfl, -, cw0⟩ := hLw.nums vs.length (by simp)
        rw [List.getElem_append_right (Nat.le_refl _)] at cw0
        simp only [Nat.sub_self, List.getElem_singleton] at cw0
        have hlen : (vs ++ [k]).length = vs.length + 1 := by simp
        rw [hlen]
        have hWw := hW.wait
        rw [hlen] at hWw
        obtain ⟨gw, eg, hclip⟩ := hWw.clip rfl
        obtain ⟨rfl, rfl⟩ : bw = gw ∧ offw = 0 := by simpa using eg
        obtain ⟨m, rfl, hm⟩ := there_at hk
        obtain ⟨g, A1, c1, rfl, hgw, ck, hL, -, -⟩ := H.out.row hm
        rw [Nat.zero_add] at cw0
        have hvl : vs.length ≤ 1000 := by
          have h1 := flat_ge (f := ordL l) (vs ++ [(m : Int) + 1]).reverse fun x hx => by
            rw [ordL_step Hg.out.tree (hW.there x (List.mem_reverse.1 hx))]
            simp
          have h2 := congrArg List.length hW.all
          rw [List.length_append] at h2
          rw [List.length_reverse, hlen] at h1
          omega
        have hx3 : (xs.length : Int) < 1000 := by omega
        have ckr : wr.cell? ⟨g, m * 9 + 8, none⟩ = _ := (hW.below.cell (p := ⟨g, m * 9 + 8, none⟩) hgw).trans ck
        have hcap : vs.length + 1 ≤ cw := by have := hLw.cap; rw [hlen] at this; exact this
        have hown := hW.out.lt
        obtain ⟨ks, hks⟩ : ∃ ks, ks = (nd l ((m : Int) + 1)).kids := ⟨_, rfl⟩
        have hkl : ks.length ≤ 200 := by rw [hks]; exact few_nd Hg.out.few _
        have hkth : ∀ x ∈ ks, thereB l x = true := fun x hx => (Hg.out.tree.kid _ hk x (hks ▸ hx)).1
        rw [← hks] at ckr hL hst
        have hall : (xs ++ [(m : Int) + 1]) ++ (vs ++ ks.reverse).reverse.flatMap (ordL l) = R := by
          rw [← hW.all, List.reverse_append, List.reverse_append, List.reverse_reverse, List.reverse_singleton, List.singleton_append, List.flatMap_append, List.flatMap_cons, hst, List.append_assoc, List.cons_append]
          rfl
        have hvth : ∀ x ∈ vs, thereB l x = true := fun x hx => hW.there x (by simp [hx])
        have hwapart : ∀ g, (Value.slice (some ⟨bw, 0, none⟩) vs.length vs.length).ownBlock = some g → (Value.slice Ao xs.length co).ownBlock ≠ some g := hW.apart
        have hbwl : bw < wr.heap.size := (hclip.lt bw rfl).2
        have HP2 : Hid (Pile w.heap.size (wr.alloc (.cells #[.int .i64 ((m : Int) + 1)] 3)) (.slice Ao xs.length co) xs) := Lib.hid (hW.out.alloc _)
        have HB2 : Hid (Has (wr.alloc (.cells #[.int .i64 ((m : Int) + 1)] 3)) wr.heap.size (.cells #[.int .i64 ((m : Int) + 1)] 3 (0, 0))) := Lib.hid (Has.fresh _ _)
        have HS2 : Hid (w.heap.size ≤ (wr.alloc (.cells #[.int .i64 ((m : Int) + 1)] 3)).heap.size) := Lib.hid (by have := hW.below.size; simp; omega)
        have hxl : xs.length ≤ 1000000 := by omega
        have HE : Hid (∀ g2 cap w2, Pile w.heap.size w2 (.slice (some ⟨g2, 0, none⟩) (xs.length + 1) cap) (xs ++ [(m : Int) + 1]) → Keeps (fun i => (Value.slice Ao xs.length co).ownBlock = some i) (wr.alloc (.cells #[.int .i64 ((m : Int) + 1)] 3)) w2 → ((Value.slice Ao xs.length co).ownBlock = some g2 ∨ (wr.alloc (.cells #[.int .i64 ((m : Int) + 1)] 3)).heap.size ≤ g2) →
            w2.cell? ⟨g, m * 9 + 8, none⟩ = some (.slice A1 ks.length c1) ∧ Hid (Pile w.heap.size w2 (.slice (some ⟨bw, 0, none⟩) vs.length vs.length) vs ∧ bw ≠ g2 ∧ Below w.heap.size w w2)) := Lib.hid fun g2 cap w2 hp2 hk2 hat => by
          have hb2 : Below w.heap.size w w2 := below_then (hW.below.alloc hW.below.size _) hk2 (by have := hW.below.size; simp; omega) fun i hi e => by have := (hown _ e).1; omega
          refine ⟨(hb2.cell (p := ⟨g, m * 9 + 8, none⟩) hgw).trans (by rw [← ckr]; exact (hW.below.cell (p := ⟨g, m * 9 + 8, none⟩) hgw).symm), Lib.hid ⟨(hclip.alloc _).kept hk2 fun g' hg' e => hwapart g' hg' e, fun e => ?_, hb2⟩⟩
          subst e
          rcases hat with h | h
          · exact hwapart bw rfl h
          · simp at h
            omega
        have ckw := ck
        rw [← hks] at ckw
        have Hall := Lib.hid hall
        have Hkth := Lib.hid hkth
        have Hvth := Lib.hid hvth
        have HL := Lib.hid hL
        have hRl' : xs.length + 1 ≤ 1000 := by omega
        clear hall hkth hvth hL hst hW hWw hLw hclip hown hwapart hks hk ckr hws eg ck hxr hlen hbwl
        go_wp2_with (at_builtin; refine wpList_push rfl (.tmp 40) (.tmp 42) rfl rfl HP2.out rfl HB2.out hxl HS2.out ?_; intro g2 cap w2 hp2 hk2 hat _; obtain ⟨d8, HK⟩ := HE.out g2 cap w2 hp2 hk2 hat)
        obtain ⟨n, hn⟩ : ∃ n, n = ks.length := ⟨_, rfl⟩
        rw [← hn] at d8 hkl ckw
        rw [← hn]
        have Hn := Lib.hid hn
        have HP := Lib.hid hp2
        have C8 := Lib.hid ckw
        clear ckw
        clear hn hp2 hk2 hat HE HP2 HB2 HS2
        go_loopw [6, 9] (fun a i w3 => ∃ (j : Nat) (ws3 : List Int), j ≤ n ∧ i = .int .i64 ((j : Int) - 1) ∧ ws3 = vs ++ (ks.drop j).reverse ∧ Pile w.heap.size w3 a ws3 ∧ Pile w.heap.size w3 (.slice (some ⟨g2, 0, none⟩) (xs.length + 1) cap) (xs ++ [(m : Int) + 1]) ∧ (∀ g', a.ownBlock = some g' → g2 ≠ g') ∧ Below w.heap.size w w3) (fun _ i _ => (intOf i + 1).toNat)
        case atStart =>
          obtain ⟨h1, h2, h3⟩ := HK.out
          refine ⟨n, vs, Nat.le_refl _, rfl, ?_, h1, HP.out, fun g' hg' e => ?_, h3⟩
          · rw [List.drop_of_length_le (by rw [Hn.out]; exact Nat.le_refl _)]
            simp
          · obtain rfl : bw = g' := by simpa [Value.ownBlock] using hg'
            exact h2 e.symm
        case round =>
          obtain ⟨j, ws3, hj, rfl, hw3, hPa, hPo, hap, hb3⟩ := hrel
          clear HK HP d8
          obtain ⟨Aa, ca, rfl, -⟩ := hPa.form
          cases j with
          | zero =>
            have e1 : (((0 : Nat) : Int) - 1) = -1 := rfl
            rw [e1]
            have hW' : Waits l R w wr (.slice (some ⟨g2, 0, none⟩) (xs.length + 1) cap) (.slice Aa ws3.length ca) (xs ++ [(m : Int) + 1]) ws3 := by
              subst hw3
              refine ⟨hPo, hPa, fun g' hg' e => hap g' hg' (by simpa [Value.ownBlock] using e), Hall.out, fun x hx => ?_, hb3⟩
              rcases List.mem_append.1 hx with hx | hx
              · exact Hvth.out x hx
              · exact Hkth.out x (List.mem_reverse.1 hx)
            have HW := Lib.hid hW'
            clear hW' e1 hPa hPo hap hb3 hw3
            go_wp2
            go_roundw
            case rel => exact ⟨xs ++ [(m : Int) + 1], ws3, by rw [List.length_append]; go_num, HW.out⟩
            case measure => simp [intOf]; omega
          | succ j =>
            have e1 : (((j + 1 : Nat) : Int) - 1) = (j : Int) := by omega
            rw [e1]
            have hjk : j < ks.length := by rw [← Hn.out]; omega
            obtain ⟨bk, offk, rfl, hbk, ckk⟩ := HL.out.nums j hjk
            have hdr := drop_rev hjk
            obtain ⟨y, hy⟩ : ∃ y, y = ks[j] := ⟨_, rfl⟩
            rw [← hy] at ckk hdr
            have d8 : wr.cell? ⟨g, m * 9 + 8, none⟩ = some (.slice (some ⟨bk, offk, none⟩) n c1) := (hb3.cell (p := ⟨g, m * 9 + 8, none⟩) hgw).trans C8.out
            have dk : wr.cell? ⟨bk, offk + j, none⟩ = some (.int .i64 y) := (hb3.cell (p := ⟨bk, offk + j, none⟩) hbk).trans ckk
            have hnew : ws3 ++ [y] = vs ++ (ks.drop j).reverse := by rw [hw3, hdr, List.append_assoc]
            have hl3 : ws3.length ≤ 1000000 := by
              have := Hn.out
              rw [hw3, List.length_append, List.length_reverse, List.length_drop]
              omega
            have hown := hPa.lt
            have HP2 : Hid (Pile w.heap.size (wr.alloc (.cells #[.int .i64 y] 3)) (.slice Aa ws3.length ca) ws3) := Lib.hid (hPa.alloc _)
            have HB2 : Hid (Has (wr.alloc (.cells #[.int .i64 y] 3)) wr.heap.size (.cells #[.int .i64 y] 3 (0, 0))) := Lib.hid (Has.fresh _ _)
            have HS2 : Hid (w.heap.size ≤ (wr.alloc (.cells #[.int .i64 y] 3)).heap.size) := Lib.hid (by have := hb3.size; simp; omega)
            have hg2 : g2 < wr.heap.size := (hPo.lt g2 rfl).2
            have HE : Hid (∀ g4 cap4 w4, Keeps (fun i => (Value.slice Aa ws3.length ca).ownBlock = some i) (wr.alloc (.cells #[.int .i64 y] 3)) w4 → ((Value.slice Aa ws3.length ca).ownBlock = some g4 ∨ (wr.alloc (.cells #[.int .i64 y] 3)).heap.size ≤ g4) →
                Pile w.heap.size w4 (.slice (some ⟨g2, 0, none⟩) (xs.length + 1) cap) (xs ++ [(m : Int) + 1]) ∧ (∀ g', (Value.slice (some ⟨g4, 0, none⟩) (ws3.length + 1) cap4).ownBlock = some g' → g2 ≠ g') ∧ Below w.heap.size w w4) := Lib.hid fun g4 cap4 w4 hk4 hat4 => by
              refine ⟨(hPo.alloc _).kept hk4 fun g' hg' e => ?_, fun g' hg' e => ?_, below_then (hb3.alloc hb3.size _) hk4 (by have := hb3.size; simp; omega) fun i hi e => by have := (hown _ e).1; omega⟩
              · obtain rfl : g2 = g' := by simpa [Value.ownBlock] using hg'
                exact hap g2 e rfl
              · obtain rfl : g4 = g' := by simpa [Value.ownBlock] using hg'
                subst e
                rcases hat4 with h | h
                · exact hap g2 h rfl
                · simp at h
                  omega
            have Hnew := Lib.hid hnew
            clear e1 hdr hy ckk hw3 hPa hPo hap hb3 hnew hown hjk
            go_wp2_with (at_builtin; refine wpList_push rfl (.tmp 56) (.tmp 66) rfl rfl HP2.out rfl HB2.out hl3 HS2.out ?_; intro g4 cap4 w4 hp4 hk4 hat4 _)
            go_roundw
            case rel =>
              obtain ⟨q1, q2, q3⟩ := HE.out g4 cap4 w4 hk4 hat4
              exact ⟨j, ws3 ++ [y], by omega, rfl, Hnew.out, by simpa using hp4, q1, q2, q3⟩
            case measure => simp [intOf]
end
end Go.Proofs.Ytloncmhcdmjjgaa

namespace Go.Proofs.Ytloncmhcdmjjgaa
open Go Go.RowKit

theorem named_step {l : List Nd} {n : ByteArray} {xs : List Int} {j : Nat} (hj : j < xs.length) : namedL l n (xs.drop j) = (if ((nd l xs[j]).name.toList == n.toList) = true then [xs[j]] else []) ++ namedL l n (xs.drop (j + 1)) := by
  rw [List.drop_eq_getElem_cons hj]
  unfold namedL
  rw [List.filter_cons]
  split <;> rfl
section
variable {G : Nat → Prop} {w : World} {A : Option Addr} {c : Nat} {l : List Nd}
set_option maxHeartbeats 4000000 in
set_option maxRecDepth 100000 in
theorem rsSlots (id : Int) (hg : Good l) (h : Nodes G w 0 A c l) :
    Calls Try.prog 16 #[.slice A l.length c, .int .i64 id] w fun e w' => ∃ v, e = .returned v ∧ Pile w.heap.size w' v (slotsL l id) ∧ Below w.heap.size w w' := by
  have C := Lib.hid (refOrder id hg h)
  have H := Lib.hid h
  have hll := hg.len
  have hRl : (ordL l id).length ≤ 128 := Nat.le_trans (ordL_len hg.tree id) hg.len
  have hall : ∀ x ∈ ordL l id, thereB l x = true := fun x hx => ordL_there hg.tree hx
  have hsl : slotsL l id = (ordL l id).filter fun x => (nd l x).slot := rfl
  rw [hsl]
  obtain ⟨R, hR⟩ : ∃ R, R = ordL l id := ⟨_, rfl⟩
  rw [← hR] at hRl C hall
  rw [← hR]
  have Hall := Lib.hid hall
  clear h hg hR hsl hall
  go_enter Try.func16, Try.ntmps16
  go_wp2_with fail
  refine C.out.mono ?_
  rintro e w1 ⟨v, rfl, hP, hb⟩
  obtain ⟨A2, c2, rfl, hL⟩ := hP.form
  have HL := Lib.hid hL
  have Hb := Lib.hid hb
  have Hs1 := Lib.hid hb.size
  have HN := Lib.hid (H.out.below hb)
  obtain ⟨n, hn⟩ : ∃ n, n = R.length := ⟨_, rfl⟩
  rw [← hn] at hRl
  rw [← hn]
  have Hn := Lib.hid hn
  clear C hP hL hb hn
  go_wp2_with fail
  go_loopw [5, 7] (fun o k wr => ∃ j : Nat, k = .int .i64 j ∧ j ≤ n ∧ Pile w1.heap.size wr o ((R.take j).filter fun x => (nd l x).slot) ∧ Below w1.heap.size w1 wr) (fun _ k _ => n - (intOf k).toNat)
  case atStart => exact ⟨0, rfl, Nat.zero_le _, Pile.nil _ _, Below.refl _ _⟩
  case round =>
    obtain ⟨j, rfl, hj, hPo, hbr⟩ := hrel
    obtain ⟨Ao, co, rfl, -⟩ := hPo.form
    by_cases hjn : (j : Int) < n
    · have hjk : j < R.length := by rw [← Hn.out]; omega
      obtain ⟨b', off, rfl, hB, hc0⟩ := HL.out.nums j hjk
      have hc : wr.cell? ⟨b', off + j, none⟩ = some (.int .i64 R[j]) := (hbr.cell (p := ⟨b', off + j, none⟩) hB).trans hc0
      have hth := Hall.out R[j] (List.getElem_mem hjk)
      have htk : R.take (j + 1) = R.take j ++ [R[j]] := by rw [List.take_add_one, List.getElem?_eq_getElem hjk]; rfl
      have hxl : ((R.take j).filter fun x => (nd l x).slot).length ≤ 1000000 := by
        have h1 := List.length_filter_le (fun x => (nd l x).slot) (R.take j)
        rw [List.length_take] at h1
        omega
      obtain ⟨y, hy⟩ : ∃ y, y = R[j] := ⟨_, rfl⟩
      rw [← hy] at hc hth htk
      have hst : ((R.take (j + 1)).filter fun x => (nd l x).slot) = ((R.take j).filter fun x => (nd l x).slot) ++ [y].filter fun x => (nd l x).slot := by rw [htk, List.filter_append]
      obtain ⟨xs, hxs⟩ : ∃ xs, xs = (R.take j).filter fun x => (nd l x).slot := ⟨_, rfl⟩
      rw [← hxs] at hst hxl hPo
      rw [← hxs]
      obtain ⟨m, rfl, hm⟩ := there_at hth
      obtain ⟨g, k, rfl, -, hgw, -, -, -, -, -, -, -, c5, -⟩ := HN.out.nine hm
      have d5 : wr.cell? ⟨g, m * 9 + 5, none⟩ = some (.bool (nd l ((m : Int) + 1)).slot) := (hbr.cell (p := ⟨g, m * 9 + 5, none⟩) hgw).trans c5
      have Hst := Lib.hid hst
      clear hst hc0 hy hxs hjk htk hB hth c5
      cases hs : (nd l ((m : Int) + 1)).slot with
      | true =>
        have hfin : xs ++ [(m : Int) + 1] = ((R.take (j + 1)).filter fun x => (nd l x).slot) := by rw [Hst.out]; simp [hs]
        have Hfin := Lib.hid hfin
        have hown : ∀ g, (Value.slice Ao xs.length co).ownBlock = some g → w1.heap.size ≤ g ∧ g < wr.heap.size := hPo.lt
        have HP2 : Hid (Pile w1.heap.size (wr.alloc (.cells #[.int .i64 ((m : Int) + 1)] 3)) (.slice Ao xs.length co) xs) := Lib.hid (hPo.alloc _)
        have HB2 : Hid (Has (wr.alloc (.cells #[.int .i64 ((m : Int) + 1)] 3)) wr.heap.size (.cells #[.int .i64 ((m : Int) + 1)] 3 (0, 0))) := Lib.hid (Has.fresh _ _)
        have HS2 : Hid (w1.heap.size ≤ (wr.alloc (.cells #[.int .i64 ((m : Int) + 1)] 3)).heap.size) := Lib.hid (by have := hbr.size; simp; omega)
        have HE : Hid (∀ w4, Keeps (fun i => (Value.slice Ao xs.length co).ownBlock = some i) (wr.alloc (.cells #[.int .i64 ((m : Int) + 1)] 3)) w4 → Below w1.heap.size w1 w4) := Lib.hid fun w4 hk4 =>
          below_then (hbr.alloc hbr.size _) hk4 (by have := hbr.size; simp; omega) fun i hi e => by have := (hown _ e).1; omega
        rw [hs] at d5
        clear hfin hown hPo hbr hs Hst
        go_wp2_with (at_builtin; refine wpList_push rfl (.tmp 26) (.tmp 31) rfl rfl HP2.out rfl HB2.out hxl HS2.out ?_; intro g' cap w4 hp4 hk4 _ _)
        go_roundw
        case rel => exact ⟨j + 1, by go_num, by omega, by rw [← Hfin.out]; simpa using hp4, HE.out w4 hk4⟩
        case measure => simp [intOf]; omega
      | false =>
        have hfin : xs = ((R.take (j + 1)).filter fun x => (nd l x).slot) := by rw [Hst.out]; simp [hs]
        have Hfin := Lib.hid hfin
        have HF : Hid (Pile w1.heap.size wr (.slice Ao xs.length co) xs ∧ Below w1.heap.size w1 wr) := Lib.hid ⟨hPo, hbr⟩
        rw [hs] at d5
        clear hfin hPo hbr hs Hst
        go_wp2
        go_roundw
        case rel => exact ⟨j + 1, by go_num, by omega, by rw [← Hfin.out]; exact HF.out.1, HF.out.2⟩
        case measure => simp [intOf]; omega
    · have he : ((R.take j).filter fun x => (nd l x).slot) = R.filter fun x => (nd l x).slot := by rw [List.take_of_length_le (by rw [← Hn.out]; omega)]
      rw [he] at hPo
      rw [he]
      clear he
      go_wp2
      go_ret
      exact ⟨_, rfl, hPo.from_ Hs1.out, Hb.out.trans (hbr.mono Hs1.out)⟩
set_option maxHeartbeats 8000000 in
set_option maxRecDepth 100000 in
theorem rsOf (id : Int) (hg : Good l) (h : Nodes G w 0 A c l) :
    Calls Try.prog 11 #[.slice A l.length c, .int .i64 id] w fun e w' => e = .returned (.int .i64 (ofL l id)) ∧ Below w.heap.size w w' := by
  have hnot : ∀ (x : Bool) (w : World), (Op.unary .not (.bool x)).run Try.prog w = .ok (.bool (!x)) w := fun _ _ => rfl
  have hll := hg.len
  have H := Lib.hid h
  have Hg := Lib.hid hg
  obtain ⟨R, hR⟩ : ∃ R, R = ofL l id := ⟨_, rfl⟩
  rw [← hR]
  cases ht : thereB l id with
  | false =>
    rw [ofL_no ht] at hR
    have HR := Lib.hid hR
    have Ht := Lib.hid ht
    clear ht h hg hR
    go_enter Try.func11, Try.ntmps11
    go_wp2_with fail
    refine (there_any l A c id w).mono ?_
    rintro e w1 ⟨rfl, rfl⟩
    rw [Ht.out]
    go_wp2
    go_ret
    rw [HR.out]
    exact ⟨rfl, Below.refl _ _⟩
  | true =>
    obtain ⟨m, rfl, hm⟩ := there_at ht
    obtain ⟨g, k, rfl, -, hgw, -, -, c0, c1, -, -, -, -, -, c7, -⟩ := h.nine hm
    have hTp := hg.tree.par _ ht
    have hTs := fun hp => hg.tree.shade (nd l ((m : Int) + 1)).parent hp
    have hk : (nd l ((m : Int) + 1)).kind ≠ 2 → R = 0 := fun h => by rw [hR, ofL_kind h]
    have ha : (nd l ((m : Int) + 1)).kind = 2 → R = headL (namedL l (nd l ((m : Int) + 1)).want (slotsL l (shOf l (nd l ((m : Int) + 1)).parent))) := fun h => by rw [hR, ofL_at ht h]
    obtain ⟨d, hd⟩ : ∃ d, d = nd l ((m : Int) + 1) := ⟨_, rfl⟩
    rw [← hd] at c0 c1 c7 hTp hTs hk ha
    have Ht := Lib.hid ht
    have HTp := Lib.hid hTp
    have Hk := Lib.hid hk
    have Ha := Lib.hid ha
    clear ht h hg hR hd hTp hk ha hTs
    go_enter Try.func11, Try.ntmps11
    go_wp2_with fail
    refine (there_any l _ c ((m : Int) + 1) w).mono ?_
    rintro e w1 ⟨rfl, rfl⟩
    rw [Ht.out]
    by_cases hk2 : d.kind = 2
    · have zk : (d.kind != 2) = false := by simpa using hk2
      have e1 := Ha.out hk2
      by_cases hp0 : d.parent = 0
      · have e2 : R = 0 := by
          rw [e1, hp0, shOf_no (there_zero l), slotsL_no (there_zero l)]
          rfl
        have E2 := Lib.hid e2
        have zp : (d.parent == 0) = true := by simpa using hp0
        clear e1 e2 hk2 hp0
        go_wp2
        go_ret
        rw [E2.out]
        exact ⟨rfl, Below.refl _ _⟩
      · have zp : (d.parent == 0) = false := by simpa using hp0
        obtain ⟨hpt, -⟩ := HTp.out hp0
        rw [shOf_at hpt] at e1
        obtain ⟨mp, hmp, hml⟩ := there_at hpt
        obtain ⟨g', k', e', -, -, -, -, -, -, -, c3, -⟩ := H.out.nine hml
        obtain rfl : g = g' := by simpa using e'
        rw [hmp] at e1 c1 zp
        obtain ⟨sh, hsh⟩ : ∃ sh, sh = (nd l ((mp : Int) + 1)).shadow := ⟨_, rfl⟩
        rw [← hsh] at c3 e1
        have zm : IntKind.i64.wrap ((mp : Int) + 1 - 1) = (mp : Int) := by rw [wrap_small (by omega) (by omega)]; omega
        by_cases hs0 : sh = 0
        · have e2 : R = 0 := by
            rw [e1, hs0, slotsL_no (there_zero l)]
            rfl
          have E2 := Lib.hid e2
          have zs : (sh == 0) = true := by simpa using hs0
          clear e1 e2 hk2 hp0 hpt hmp hsh hs0 e'
          go_wp2
          go_ret
          rw [E2.out]
          exact ⟨rfl, Below.refl _ _⟩
        · have E1 := Lib.hid e1
          have zs : (sh == 0) = false := by simpa using hs0
          clear e1 hk2 hp0 hpt hmp hsh hs0 e'
          go_wp2_with fail
          refine (rsSlots sh Hg.out H.out).mono ?_
          rintro e w2 ⟨v, rfl, hP, hb⟩
          have hsl : (slotsL l sh).length ≤ 128 := Nat.le_trans (slots_len Hg.out.tree sh) Hg.out.len
          have hall : ∀ x ∈ slotsL l sh, thereB l x = true := fun x hx => ordL_there Hg.out.tree (List.mem_filter.1 hx).1
          obtain ⟨xs, hxs⟩ : ∃ xs, xs = slotsL l sh := ⟨_, rfl⟩
          rw [← hxs] at hsl hall hP E1
          obtain ⟨A2, c2, rfl, hL⟩ := hP.form
          obtain ⟨n, hn⟩ : ∃ n, n = xs.length := ⟨_, rfl⟩
          rw [← hn] at hsl
          rw [← hn]
          have e7 : w2.cell? ⟨g, m * 9 + 7, none⟩ = some (.string d.want) := (hb.cell (p := ⟨g, m * 9 + 7, none⟩) hgw).trans c7
          have Hn := Lib.hid hn
          have HL := Lib.hid hL
          have Hall := Lib.hid hall
          have HN := Lib.hid (H.out.below hb)
          have hgw2 : g < w2.heap.size := Nat.lt_of_lt_of_le hgw hb.size
          have Hb := Lib.hid hb
          clear hP hL hall hxs hn hb
          go_wp2_with fail
          go_loopw [7] (fun k wr => ∃ j : Nat, k = .int .i64 j ∧ j ≤ n ∧ R = headL (namedL l d.want (xs.drop j)) ∧ Below w2.heap.size w2 wr) (fun k _ => n - (intOf k).toNat)
          case atStart => exact ⟨0, rfl, Nat.zero_le _, E1.out, Below.refl _ _⟩
          case round =>
            obtain ⟨j, rfl, hj, hRj, hbr⟩ := hrel
            have HRj := Lib.hid hRj
            clear hRj
            by_cases hjn : (j : Int) < n
            · have hjk : j < xs.length := by rw [← Hn.out]; omega
              obtain ⟨b', off, rfl, hB, hc0⟩ := HL.out.nums j hjk
              have hc : wr.cell? ⟨b', off + j, none⟩ = some (.int .i64 xs[j]) := (hbr.cell (p := ⟨b', off + j, none⟩) hB).trans hc0
              have f7 : wr.cell? ⟨g, m * 9 + 7, none⟩ = some (.string d.want) := (hbr.cell (p := ⟨g, m * 9 + 7, none⟩) hgw2).trans e7
              have hth := Hall.out xs[j] (List.getElem_mem hjk)
              have hst := named_step (l := l) (n := d.want) hjk
              obtain ⟨y, hy⟩ : ∃ y, y = xs[j] := ⟨_, rfl⟩
              rw [← hy] at hc hth hst
              obtain ⟨my, rfl, hmy⟩ := there_at hth
              obtain ⟨g', k', e', -, -, -, -, -, -, -, -, -, -, c6, -⟩ := (HN.out.below hbr).nine hmy
              obtain rfl : g = g' := by simpa using e'
              obtain ⟨nm, hnm⟩ : ∃ nm, nm = (nd l ((my : Int) + 1)).name := ⟨_, rfl⟩
              rw [← hnm] at c6 hst
              have zy : IntKind.i64.wrap ((my : Int) + 1 - 1) = (my : Int) := by rw [wrap_small (by omega) (by omega)]; omega
              have zm' : IntKind.i64.wrap ((m : Int) + 1 - 1) = (m : Int) := by rw [wrap_small (by omega) (by omega)]; omega
              have hmy' : (my : Int) < (l.length : Int) := by omega
              have hm' : (m : Int) < (l.length : Int) := by omega
              have Hst := Lib.hid hst
              clear hst hy hth hjk e' hnm hB hc0
              go_upto_region 10 with fail
              go_quiet (fail)
              have HBr : Hid (Below w2.heap.size w2 (wr.drewN nq)) := Lib.hid (below_draws hbr nq)
              cases hq : (nm.toList == d.want.toList) with
              | true =>
                have e1 : R = (my : Int) + 1 := by
                  rw [HRj.out, Hst.out, hq]
                  rfl
                have E1 := Lib.hid e1
                clear e1
                go_wp2
                go_ret
                rw [E1.out]
                exact ⟨rfl, Hb.out.trans (HBr.out.mono Hb.out.size)⟩
              | false =>
                have e1 : R = headL (namedL l d.want (xs.drop (j + 1))) := by
                  rw [HRj.out, Hst.out, hq]
                  rfl
                have E1 := Lib.hid e1
                clear e1
                go_wp2
                go_roundw
                case rel => exact ⟨j + 1, by go_num, by omega, E1.out, HBr.out⟩
                case measure => simp [intOf]; omega
            · have e1 : R = 0 := by
                rw [HRj.out, List.drop_of_length_le (by rw [← Hn.out]; omega)]
                rfl
              have E1 := Lib.hid e1
              clear e1
              go_wp2
              go_ret
              rw [E1.out]
              exact ⟨rfl, Hb.out.trans (hbr.mono Hb.out.size)⟩
    · have zk : (d.kind != 2) = true := by simpa using hk2
      have e1 := Hk.out hk2
      have E1 := Lib.hid e1
      clear e1 hk2
      go_wp2
      go_ret
      rw [E1.out]
      exact ⟨rfl, Below.refl _ _⟩
end
end Go.Proofs.Ytloncmhcdmjjgaa

namespace Go.Proofs.Ytloncmhcdmjjgaa
open Go Go.RowKit

section
variable {G : Nat → Prop} {w : World} {A : Option Addr} {c : Nat} {l : List Nd}
set_option maxHeartbeats 8000000 in
set_option maxRecDepth 100000 in
theorem rsAssigned (id : Int) (hg : Good l) (h : Nodes G w 0 A c l) :
    Calls Try.prog 14 #[.slice A l.length c, .int .i64 id] w fun e w' => ∃ v, e = .returned v ∧ Pile w.heap.size w' v (asgL l id) ∧ Below w.heap.size w w' := by
  have hll := hg.len
  have H := Lib.hid h
  have Hg := Lib.hid hg
  have hasg : asgL l id = asgOf l id (kidsOf l (hostL l id)) := rfl
  obtain ⟨R, hR⟩ : ∃ R, R = asgL l id := ⟨_, rfl⟩
  rw [← hR] at hasg
  rw [← hR]
  have HR := Lib.hid hasg
  clear h hg hR hasg
  go_enter Try.func14, Try.ntmps14
  go_wp2_with fail
  refine (refRoot l A c id w Hg.out H.out).mono ?_
  rintro e w1 ⟨rfl, hb1⟩
  cases ht : thereB l id with
  | false =>
    have e0 := rootL_no ht
    have e1 : R = [] := by rw [HR.out, hostL_no ht, kidsOf_no (there_zero l)]; rfl
    have E1 := Lib.hid e1
    rw [e0]
    clear e0 e1 ht HR
    go_wp2
    go_ret
    rw [E1.out]
    exact ⟨_, rfl, Pile.nil _ _, hb1⟩
  | true =>
    have hrt := rootL_there Hg.out.tree ht
    have e1 := hostL_at ht
    have hTh := Hg.out.tree.host (rootL l id) hrt
    obtain ⟨m, hr, hm⟩ := there_at hrt
    rw [hr] at e1 hTh
    rw [hr]
    have hN := H.out.below hb1
    obtain ⟨g, k, rfl, -, hgw, -, -, -, -, c2, -⟩ := hN.nine hm
    obtain ⟨ho, hho⟩ : ∃ ho, ho = (nd l ((m : Int) + 1)).host := ⟨_, rfl⟩
    rw [← hho] at c2 e1 hTh
    have z1 : (((m : Int) + 1) == 0) = false := by rw [beq_eq_false_iff_ne]; omega
    by_cases h0 : ho = 0
    · have e2 : R = [] := by rw [HR.out, e1, h0, kidsOf_no (there_zero l)]; rfl
      have E2 := Lib.hid e2
      have z2 : (ho == 0) = true := by simpa using h0
      clear hr hrt e1 e2 ht hho HR hN h0 hTh
      go_wp2
      go_ret
      rw [E2.out]
      exact ⟨_, rfl, Pile.nil _ _, hb1⟩
    · obtain ⟨-, hht⟩ := hTh h0
      have e2 : R = asgOf l id (nd l ho).kids := by rw [HR.out, e1, kidsOf_at hht]
      have z2 : (ho == 0) = false := by simpa using h0
      obtain ⟨mh, rfl, hmh⟩ := there_at hht
      obtain ⟨g', A1, c1, e', -, c8, hL, -⟩ := hN.row hmh
      obtain rfl : g = g' := by simpa using e'
      have hkl : (nd l ((mh : Int) + 1)).kids.length ≤ 200 := few_kids Hg.out.few _
      obtain ⟨ks, hks⟩ : ∃ ks, ks = (nd l ((mh : Int) + 1)).kids := ⟨_, rfl⟩
      rw [← hks] at c8 hL hkl e2
      obtain ⟨n, hn⟩ : ∃ n, n = ks.length := ⟨_, rfl⟩
      rw [← hn] at hkl c8
      have E2 := Lib.hid e2
      have Hn := Lib.hid hn
      have HL := Lib.hid hL
      have HN := Lib.hid hN
      have Hb1 := Lib.hid hb1
      have Hs1 := Lib.hid hb1.size
      clear hr hrt e1 e2 ht hho HR hN h0 hht hks hn hL hb1 e'
      go_wp2_with fail
      go_loopw [5, 8] (fun o k wr => ∃ j : Nat, k = .int .i64 j ∧ j ≤ n ∧ Pile w1.heap.size wr o (asgOf l id (ks.take j)) ∧ Below w1.heap.size w1 wr) (fun _ k _ => n - (intOf k).toNat)
      case atStart => exact ⟨0, rfl, Nat.zero_le _, Pile.nil _ _, Below.refl _ _⟩
      case round =>
        obtain ⟨j, rfl, hj, hPo, hbr⟩ := hrel
        obtain ⟨Ao, co, rfl, -⟩ := hPo.form
        by_cases hjn : (j : Int) < n
        · have hjk : j < ks.length := by rw [← Hn.out]; omega
          obtain ⟨b', off, rfl, hB, hc0⟩ := HL.out.nums j hjk
          have hc : wr.cell? ⟨b', off + j, none⟩ = some (.int .i64 ks[j]) := (hbr.cell (p := ⟨b', off + j, none⟩) hB).trans hc0
          have htk : ks.take (j + 1) = ks.take j ++ [ks[j]] := by rw [List.take_add_one, List.getElem?_eq_getElem hjk]; rfl
          have hxl : (asgOf l id (ks.take j)).length ≤ 1000000 := by
            have h1 := List.length_filter_le (fun k => decide (ofL l k = id)) (ks.take j)
            rw [List.length_take] at h1
            unfold asgOf
            omega
          obtain ⟨y, hy⟩ : ∃ y, y = ks[j] := ⟨_, rfl⟩
          rw [← hy] at hc hc0 htk
          have hst : asgOf l id (ks.take (j + 1)) = asgOf l id (ks.take j) ++ asgOf l id [y] := by rw [htk]; unfold asgOf; rw [List.filter_append]
          obtain ⟨xs, hxs⟩ : ∃ xs, xs = asgOf l id (ks.take j) := ⟨_, rfl⟩
          rw [← hxs] at hst hxl hPo
          rw [← hxs]
          have Hst := Lib.hid hst
          have HPo := Lib.hid hPo
          have Hbr := Lib.hid hbr
          have HNr := Lib.hid (HN.out.below hbr)
          have Hc0 := Lib.hid hc0
          clear hst hc0 hy hxs hjk htk hPo hbr
          go_wp2_with fail
          refine (rsOf y Hg.out HNr.out).mono ?_
          rintro e w4 ⟨rfl, hb4⟩
          have hP4 : Pile w1.heap.size w4 (.slice Ao xs.length co) xs := HPo.out.below hb4
          have hB4 : Below w1.heap.size w1 w4 := Hbr.out.trans (hb4.mono Hbr.out.size)
          have hc4 : w4.cell? ⟨b', off + j, none⟩ = some (.int .i64 y) := (hB4.cell (p := ⟨b', off + j, none⟩) hB).trans Hc0.out
          clear hb4 HPo Hbr HNr hc
          by_cases hq : ofL l y = id
          · have hfin : xs ++ [y] = asgOf l id (ks.take (j + 1)) := by rw [Hst.out]; simp [asgOf, hq]
            have Hfin := Lib.hid hfin
            have zq : (ofL l y == id) = true := by simpa using hq
            obtain ⟨oy, hoy⟩ : ∃ oy, oy = ofL l y := ⟨_, rfl⟩
            rw [← hoy] at zq
            rw [← hoy]
            have hown : ∀ g, (Value.slice Ao xs.length co).ownBlock = some g → w1.heap.size ≤ g ∧ g < w4.heap.size := hP4.lt
            have HP2 : Hid (Pile w1.heap.size (w4.alloc (.cells #[.int .i64 y] 3)) (.slice Ao xs.length co) xs) := Lib.hid (hP4.alloc _)
            have HB2 : Hid (Has (w4.alloc (.cells #[.int .i64 y] 3)) w4.heap.size (.cells #[.int .i64 y] 3 (0, 0))) := Lib.hid (Has.fresh _ _)
            have HS2 : Hid (w1.heap.size ≤ (w4.alloc (.cells #[.int .i64 y] 3)).heap.size) := Lib.hid (by have := hB4.size; simp; omega)
            have HE : Hid (∀ w5, Keeps (fun i => (Value.slice Ao xs.length co).ownBlock = some i) (w4.alloc (.cells #[.int .i64 y] 3)) w5 → Below w1.heap.size w1 w5) := Lib.hid fun w5 hk5 =>
              below_then (hB4.alloc hB4.size _) hk5 (by have := hB4.size; simp; omega) fun i hi e => by have := (hown _ e).1; omega
            clear hfin hown hP4 hB4 hq Hst hoy
            go_wp2_with (at_builtin; refine wpList_push rfl (.tmp 49) (.tmp 54) rfl rfl HP2.out rfl HB2.out hxl HS2.out ?_; intro g' cap w5 hp5 hk5 _ _)
            go_roundw
            case rel => exact ⟨j + 1, by go_num, by omega, by rw [← Hfin.out]; simpa using hp5, HE.out w5 hk5⟩
            case measure => simp [intOf]; omega
          · have hfin : xs = asgOf l id (ks.take (j + 1)) := by rw [Hst.out]; simp [asgOf, hq]
            have Hfin := Lib.hid hfin
            have zq : (ofL l y == id) = false := by simpa using hq
            obtain ⟨oy, hoy⟩ : ∃ oy, oy = ofL l y := ⟨_, rfl⟩
            rw [← hoy] at zq
            rw [← hoy]
            have HF : Hid (Pile w1.heap.size w4 (.slice Ao xs.length co) xs ∧ Below w1.heap.size w1 w4) := Lib.hid ⟨hP4, hB4⟩
            clear hfin hP4 hB4 hq Hst hoy
            go_wp2
            go_roundw
            case rel => exact ⟨j + 1, by go_num, by omega, by rw [← Hfin.out]; exact HF.out.1, HF.out.2⟩
            case measure => simp [intOf]; omega
        · have he : asgOf l id (ks.take j) = R := by rw [E2.out, List.take_of_length_le (by rw [← Hn.out]; omega)]
          rw [he] at hPo
          rw [he]
          clear he
          go_wp2
          go_ret
          exact ⟨_, rfl, hPo.from_ Hs1.out, Hb1.out.trans (hbr.mono Hs1.out)⟩
set_option maxHeartbeats 2000000 in
set_option maxRecDepth 100000 in
theorem rsShown (id : Int) (hg : Good l) (h : Nodes G w 0 A c l) :
    Calls Try.prog 41 #[.slice A l.length c, .int .i64 id] w fun e w' => e = .returned (.bool (upB l id)) ∧ Below w.heap.size w w' := by
  have hll := hg.len
  have H := Lib.hid h
  have Hg := Lib.hid hg
  obtain ⟨R, hR⟩ : ∃ R, R = upB l id := ⟨_, rfl⟩
  rw [← hR]
  have HR := Lib.hid hR
  clear h hg hR
  go_enter Try.func41, Try.ntmps41
  go_wp2_with fail
  refine (refRoot l A c id w Hg.out H.out).mono ?_
  rintro e w1 ⟨rfl, hb1⟩
  cases ht : thereB l id with
  | false =>
    have e0 := rootL_no ht
    have e1 : R = false := by rw [HR.out]; unfold upB; rw [ht]; rfl
    have E1 := Lib.hid e1
    rw [e0]
    clear e0 e1 ht HR
    go_wp2
    go_ret
    rw [E1.out]
    exact ⟨rfl, hb1⟩
  | true =>
    have hrt := rootL_there Hg.out.tree ht
    have e1 : R = ((nd l id).slot && ((nd l (rootL l id)).kind == 3)) := by rw [HR.out]; unfold upB; rw [ht]; rfl
    obtain ⟨m, hr, hm⟩ := there_at hrt
    rw [hr] at e1
    rw [hr]
    have hN := H.out.below hb1
    obtain ⟨mi, rfl, hmi⟩ := there_at ht
    obtain ⟨g, k, rfl, -, hgw, -, -, c0, -⟩ := hN.nine hm
    obtain ⟨g', k', e', -, -, -, -, -, -, -, -, -, c5, -⟩ := hN.nine hmi
    obtain rfl : g = g' := by simpa using e'
    obtain ⟨dk, hdk⟩ : ∃ dk, dk = (nd l ((m : Int) + 1)).kind := ⟨_, rfl⟩
    rw [← hdk] at c0 e1
    have z1 : (((m : Int) + 1) != 0) = true := by simp; omega
    cases hs : (nd l ((mi : Int) + 1)).slot with
    | false =>
      rw [hs] at c5 e1
      have e2 : R = false := by rw [e1]; rfl
      have E2 := Lib.hid e2
      clear hr hrt e1 e2 ht HR hN hdk hs e'
      go_wp2
      go_ret
      rw [E2.out]
      exact ⟨rfl, hb1⟩
    | true =>
      rw [hs] at c5 e1
      have e2 : R = (dk == 3) := by rw [e1]; rfl
      have E2 := Lib.hid e2
      clear hr hrt e1 e2 ht HR hN hdk hs e'
      go_wp2
      go_ret
      rw [E2.out]
      exact ⟨rfl, hb1⟩
end
end Go.Proofs.Ytloncmhcdmjjgaa

namespace Go.Proofs.Ytloncmhcdmjjgaa
open Go Go.RowKit

section
variable {G : Nat → Prop} {w : World} {A : Option Addr} {c : Nat} {l : List Nd}
set_option maxHeartbeats 8000000 in
set_option maxRecDepth 100000 in
theorem rsOnce (id : Int) (hg : Good l) (h : Nodes G w 0 A c l) (ht : thereB l id = true) :
    Calls Try.prog 42 #[.slice A l.length c, .int .i64 id] w fun e w' => ∃ v, e = .returned v ∧ Pile w.heap.size w' v (conL l id) ∧ Below w.heap.size w w' := by
  have hll := hg.len
  have C := Lib.hid (rsAssigned id hg h)
  have Hg := Lib.hid hg
  have hal : (asgL l id).length ≤ 1000000 := Nat.le_trans (Nat.le_trans (List.length_filter_le _ _) (kidsOf_len hg.few _)) (by decide)
  obtain ⟨R, hR⟩ : ∃ R, R = conL l id := ⟨_, rfl⟩
  rw [← hR]
  unfold conL at hR
  obtain ⟨as0, has⟩ : ∃ as0, as0 = asgL l id := ⟨_, rfl⟩
  rw [← has] at hR C hal
  rw [kidsOf_at ht] at hR
  have hkt := hg.tree.kid id ht
  obtain ⟨m, rfl, hm⟩ := there_at ht
  obtain ⟨g, A1, c1, rfl, hgw, c8, hL, -, -⟩ := h.row hm
  have hkl : (nd l ((m : Int) + 1)).kids.length ≤ 200 := few_kids hg.few _
  have HN := Lib.hid h
  obtain ⟨ks, hks⟩ : ∃ ks, ks = (nd l ((m : Int) + 1)).kids := ⟨_, rfl⟩
  rw [← hks] at hR c8 hL hkl hkt
  have hth : ∀ x ∈ ks, thereB l x = true := fun x hx => (hkt x hx).1
  obtain ⟨n, hn⟩ : ∃ n, n = ks.length := ⟨_, rfl⟩
  rw [← hn] at hkl c8
  have HR := Lib.hid hR
  have Hth := Lib.hid hth
  have HL := Lib.hid hL
  have Hn := Lib.hid hn
  clear h hg hR has ht hkt hks hth hL hn
  go_enter Try.func42, Try.ntmps42
  go_wp2_with fail
  refine C.out.mono ?_
  rintro e w1 ⟨v, rfl, hP, hb⟩
  obtain ⟨A2, c2, rfl, -⟩ := hP.form
  have HP := Lib.hid hP
  have Hb := Lib.hid hb
  have d8 : w1.cell? ⟨g, m * 9 + 8, none⟩ = some (.slice A1 n c1) := (hb.cell (p := ⟨g, m * 9 + 8, none⟩) hgw).trans c8
  clear C hP hb c8
  cases as0 with
  | cons y r =>
    have e0 : R = y :: r := by
      have := HR.out
      rw [if_neg (by simp)] at this
      exact this
    have E0 := Lib.hid e0
    obtain ⟨k, hk⟩ : ∃ k, k = r.length := ⟨_, rfl⟩
    rw [show (y :: r).length = k + 1 by rw [hk]; rfl] at hal HP
    rw [show (y :: r).length = k + 1 by rw [hk]; rfl]
    have z1 : decide ((0 : Int) < (k : Int) + 1) = true := decide_eq_true (by omega)
    have z2 : (0 : Int) < (k : Int) + 1 := by omega
    clear e0 hk HR
    go_wp2
    go_ret
    rw [E0.out]
    exact ⟨_, rfl, HP.out, Hb.out⟩
  | nil =>
    have e0 : R = elsOf l ks := by
      have := HR.out
      rw [if_pos rfl] at this
      exact this
    have E0 := Lib.hid e0
    clear e0 HR
    go_wp2_with fail
    go_loopw [5, 7] (fun o k wr => ∃ j : Nat, k = .int .i64 j ∧ j ≤ n ∧ Pile w.heap.size wr o (elsOf l (ks.take j)) ∧ Below w.heap.size w wr) (fun _ k _ => n - (intOf k).toNat)
    case atStart => exact ⟨0, rfl, Nat.zero_le _, HP.out, Hb.out⟩
    case round =>
      obtain ⟨j, rfl, hj, hPo, hbr⟩ := hrel
      obtain ⟨Ao, co, rfl, -⟩ := hPo.form
      clear HP
      by_cases hjn : (j : Int) < n
      · have hjk : j < ks.length := by rw [← Hn.out]; omega
        obtain ⟨b', off, rfl, hB, hc0⟩ := HL.out.nums j hjk
        have hc : wr.cell? ⟨b', off + j, none⟩ = some (.int .i64 ks[j]) := (hbr.cell (p := ⟨b', off + j, none⟩) hB).trans hc0
        have hty := Hth.out ks[j] (List.getElem_mem hjk)
        have htk : ks.take (j + 1) = ks.take j ++ [ks[j]] := by rw [List.take_add_one, List.getElem?_eq_getElem hjk]; rfl
        have hxl : (elsOf l (ks.take j)).length ≤ 1000000 := by
          have h1 := List.length_filter_le (fun k => decide ((nd l k).kind = 2)) (ks.take j)
          rw [List.length_take] at h1
          unfold elsOf
          omega
        obtain ⟨y, hy⟩ : ∃ y, y = ks[j] := ⟨_, rfl⟩
        rw [← hy] at hc htk hty
        have hst : elsOf l (ks.take (j + 1)) = elsOf l (ks.take j) ++ elsOf l [y] := by rw [htk]; unfold elsOf; rw [List.filter_append]
        obtain ⟨xs, hxs⟩ : ∃ xs, xs = elsOf l (ks.take j) := ⟨_, rfl⟩
        rw [← hxs] at hst hxl hPo
        rw [← hxs]
        obtain ⟨my, rfl, hmy⟩ := there_at hty
        obtain ⟨g', k', e', -, -, -, -, k0, -⟩ := HN.out.nine hmy
        obtain rfl : g = g' := by simpa using e'
        obtain ⟨dk, hdk⟩ : ∃ dk, dk = (nd l ((my : Int) + 1)).kind := ⟨_, rfl⟩
        rw [← hdk] at k0
        have d0 : wr.cell? ⟨g, my * 9, none⟩ = some (.int .i64 dk) := (hbr.cell (p := ⟨g, my * 9, none⟩) hgw).trans k0
        have hels : elsOf l [(my : Int) + 1] = if dk = 2 then [(my : Int) + 1] else [] := by
          unfold elsOf
          rw [List.filter_cons, List.filter_nil, ← hdk]
          split <;> split <;> simp_all
        have Hst := Lib.hid hst
        have Hels := Lib.hid hels
        clear hst hc0 hy hxs hjk htk hels hdk hty e' k0 hB
        by_cases hq : dk = 2
        · have hfin : xs ++ [(my : Int) + 1] = elsOf l (ks.take (j + 1)) := by rw [Hst.out, Hels.out, if_pos hq]
          have Hfin := Lib.hid hfin
          have zq : (dk == 2) = true := by simpa using hq
          have hown : ∀ g, (Value.slice Ao xs.length co).ownBlock = some g → w.heap.size ≤ g ∧ g < wr.heap.size := hPo.lt
          have HP2 : Hid (Pile w.heap.size (wr.alloc (.cells #[.int .i64 ((my : Int) + 1)] 3)) (.slice Ao xs.length co) xs) := Lib.hid (hPo.alloc _)
          have HB2 : Hid (Has (wr.alloc (.cells #[.int .i64 ((my : Int) + 1)] 3)) wr.heap.size (.cells #[.int .i64 ((my : Int) + 1)] 3 (0, 0))) := Lib.hid (Has.fresh _ _)
          have HS2 : Hid (w.heap.size ≤ (wr.alloc (.cells #[.int .i64 ((my : Int) + 1)] 3)).heap.size) := Lib.hid (by have := hbr.size; simp; omega)
          have HE : Hid (∀ w5, Keeps (fun i => (Value.slice Ao xs.length co).ownBlock = some i) (wr.alloc (.cells #[.int .i64 ((my : Int) + 1)] 3)) w5 → Below w.heap.size w w5) := Lib.hid fun w5 hk5 =>
            below_then (hbr.alloc hbr.size _) hk5 (by have := hbr.size; simp; omega) fun i hi e => by have := (hown _ e).1; omega
          clear hfin hown hPo hbr hq Hst Hels
          go_wp2_with (at_builtin; refine wpList_push rfl (.tmp 37) (.tmp 42) rfl rfl HP2.out rfl HB2.out hxl HS2.out ?_; intro g' cap w5 hp5 hk5 _ _)
          go_roundw
          case rel => exact ⟨j + 1, by go_num, by omega, by rw [← Hfin.out]; simpa using hp5, HE.out w5 hk5⟩
          case measure => simp [intOf]; omega
        · have hfin : xs = elsOf l (ks.take (j + 1)) := by rw [Hst.out, Hels.out, if_neg hq, List.append_nil]
          have Hfin := Lib.hid hfin
          have zq : (dk == 2) = false := by simpa using hq
          have HF : Hid (Pile w.heap.size wr (.slice Ao xs.length co) xs ∧ Below w.heap.size w wr) := Lib.hid ⟨hPo, hbr⟩
          clear hfin hPo hbr hq Hst Hels
          go_wp2
          go_roundw
          case rel => exact ⟨j + 1, by go_num, by omega, by rw [← Hfin.out]; exact HF.out.1, HF.out.2⟩
          case measure => simp [intOf]; omega
      · have he : elsOf l (ks.take j) = R := by rw [E0.out, List.take_of_length_le (by rw [← Hn.out]; omega)]
        rw [he] at hPo
        rw [he]
        clear he
        go_wp2
        go_ret
        exact ⟨_, rfl, hPo, hbr⟩
end
end Go.Proofs.Ytloncmhcdmjjgaa

namespace Go.Proofs.Ytloncmhcdmjjgaa
open Go Go.RowKit

/-- All of them may stay. -/
theorem flat_stays {l : List Nd} : ∀ (xs : List Int), (∀ x ∈ xs, upB l x = false) → xs.flatMap (oneL l) = xs
  | [], _ => rfl
  | x :: r, h => by
    rw [List.flatMap_cons, oneL_not (h x (by simp)), flat_stays r fun y hy => h y (by simp [hy])]
    rfl
theorem split_at {xs : List Int} {p : Nat} (hp : p < xs.length) : xs = xs.take p ++ xs[p] :: xs.drop (p + 1) := by rw [List.getElem_cons_drop, List.take_append_drop]
theorem own_empty (w : World) : (w.alloc (.cells #[] 3)).ownsRow w.heap.size 3 1 (.slice (some ⟨w.heap.size, 0, none⟩) 0 0) 0 [] :=
  ⟨rfl, .inr ⟨w.heap.size, 0, #[], rfl, Nat.le_refl _, Has.fresh w (.cells #[] 3), Nat.le_refl _, Nat.zero_le _, rfl, rfl⟩⟩
section
variable {l : List Nd} {xs : List Int} {p : Nat}
/-- One slot is put in the place of: what comes of it is the same, and less is left to do. -/
theorem subst_same (T : Tree l) (hp : p < xs.length) (hu : upB l xs[p] = true) : (xs.take p ++ conL l xs[p] ++ xs.drop (p + 1)).flatMap (oneL l) = xs.flatMap (oneL l) := by
  have e := congrArg (List.flatMap (oneL l)) (split_at hp)
  rw [e, List.flatMap_append, List.flatMap_append, List.flatMap_append, List.flatMap_cons, oneL_up hu, flatL_step T hu, List.append_assoc]
theorem subst_less (T : Tree l) (hp : p < xs.length) (hu : upB l xs[p] = true) : ((xs.take p ++ conL l xs[p] ++ xs.drop (p + 1)).flatMap (visL l)).length + 1 = (xs.flatMap (visL l)).length := by
  have e := congrArg (List.flatMap (visL l)) (split_at hp)
  rw [e, List.flatMap_append, List.flatMap_append, List.flatMap_append, List.flatMap_cons, visL_step T hu]
  simp only [List.length_append, List.length_cons]
  omega
end
section
variable {G : Nat → Prop} {w : World} {A : Option Addr} {c : Nat} {l : List Nd}
set_option maxHeartbeats 16000000 in
set_option maxRecDepth 100000 in
theorem rsFlat (id : Int) (hg : Good l) (h : Nodes G w 0 A c l) :
    Calls Try.prog 18 #[.slice A l.length c, .int .i64 id] w fun e w' => ∃ A' c', e = .returned (.slice A' (flatL l id).length c') ∧ ListIn w' A' c' (flatL l id) ∧ Below w.heap.size w w' := by
  have hnot : ∀ (x : Bool) (w : World), (Op.unary .not (.bool x)).run Try.prog w = .ok (.bool (!x)) w := fun _ _ => rfl
  obtain ⟨i0, hi, hz0, hz1, hz2⟩ := info_parts Try.infoInt
  have Hi := Lib.hid hi
  have Hz0 := Lib.hid hz0
  have Hz1 := Lib.hid hz1
  have Hz2 := Lib.hid hz2
  have H := Lib.hid h
  have Hg := Lib.hid hg
  have hno : upB l id = false → flatL l id = [] := fun h => flatL_no h
  have hyes : upB l id = true → (conL l id).flatMap (oneL l) = flatL l id := fun h => (flatL_step hg.tree h).symm
  obtain ⟨K, hK⟩ : ∃ K, K = (visL l id).length - 1 := ⟨_, rfl⟩
  have hKl : K ≤ 128 := by
    have h1 := visL_len hg.tree id
    have h2 := hg.len
    omega
  have hKe : upB l id = true → 0 + ((conL l id).flatMap (visL l)).length = K := fun h => by
    rw [hK, visL_step hg.tree h]
    simp
  obtain ⟨R, hR⟩ : ∃ R, R = flatL l id := ⟨_, rfl⟩
  rw [← hR] at hno hyes
  rw [← hR]
  have Hno := Lib.hid hno
  have Hyes := Lib.hid hyes
  have HKe := Lib.hid hKe
  clear hi hz0 hz1 hz2 h hg hno hyes hR hK hKe
  go_enter Try.func18, Try.ntmps18
  go_wp2_with fail
  refine (rsShown id Hg.out H.out).mono ?_
  rintro e w1 ⟨rfl, hb1⟩
  have Hb1 := Lib.hid hb1
  have HN1 := Lib.hid (H.out.below hb1)
  clear hb1
  cases hu : upB l id with
  | false =>
    have e0 := Hno.out hu
    have E0 := Lib.hid e0
    clear e0 hu
    go_wp2
    go_ret
    rw [E0.out]
    exact ⟨_, _, rfl, listNone _, Hb1.out⟩
  | true =>
    have hti := (upB_what hu).1
    have e1 := Hyes.out hu
    have e2 := HKe.out hu
    have E1 := Lib.hid e1
    have E2 := Lib.hid e2
    have Hti := Lib.hid hti
    clear hu e1 e2 hti Hno Hyes HKe
    go_wp2_with fail
    refine (rsOnce id Hg.out HN1.out Hti.out).mono ?_
    rintro e w2 ⟨v, rfl, hP, hb2⟩
    obtain ⟨A2, c2, rfl, hL2⟩ := hP.form
    have hcl : (conL l id).length ≤ 200 * (0 + 1) := con_len Hg.out.few id
    have HL2 := Lib.hid hL2
    have Hcl := Lib.hid hcl
    have Hb2 := Lib.hid (Hb1.out.trans (hb2.mono Hb1.out.size))
    obtain ⟨cs, hcs⟩ : ∃ cs, cs = conL l id := ⟨_, rfl⟩
    rw [← hcs] at HL2 Hcl E1 E2
    rw [← hcs]
    clear hP hL2 hcl hb2 hcs HN1 Hb1
    go_wp2_with fail
    go_loopw [5, 6] (fun o s wr => ∃ (xs : List Int) (Al : Option Addr) (cl st : Nat), o = .slice Al xs.length cl ∧ s = .int .i64 st ∧ ListIn wr Al cl xs ∧ xs.flatMap (oneL l) = R ∧ st + (xs.flatMap (visL l)).length = K ∧ xs.length ≤ 200 * (st + 1) ∧ Below w.heap.size w wr) (fun _ s _ => 1000 - (intOf s).toNat)
    case atStart => exact ⟨cs, A2, c2, 0, rfl, rfl, HL2.out, E1.out, E2.out, Hcl.out, Hb2.out⟩
    case round =>
      obtain ⟨xs, Al, cl, st, rfl, rfl, hL, hxR, hxK, hxl, hb⟩ := hrel
      have hst : (st : Int) < 1000 := by omega
      have hst' : st ≤ 128 := by omega
      obtain ⟨n, hn⟩ : ∃ n, n = xs.length := ⟨_, rfl⟩
      rw [← hn] at hxl
      rw [← hn]
      have hn3 : n ≤ 30000 := by omega
      have hcap : n ≤ cl := by rw [hn]; exact hL.cap
      have HN := Lib.hid (H.out.below hb)
      have HL := Lib.hid hL
      have HxR := Lib.hid hxR
      have HxK := Lib.hid hxK
      have Hb := Lib.hid hb
      have Hn := Lib.hid hn
      have Hxl := Lib.hid hxl
      obtain ⟨WB, hWB⟩ : ∃ WB, WB = wr := ⟨_, rfl⟩
      rw [← hWB] at HN HL Hb
      rw [← hWB]
      clear hL hxR hxK hxl hb hn hWB HL2 Hcl Hb2 E1 E2
      go_wp2_with fail
      go_loopw [7, 8] (fun a i wx => ∃ j : Nat, i = .int .i64 j ∧ j ≤ n ∧ Below WB.heap.size WB wx ∧ ((a = .int .i64 (-1) ∧ ∀ x ∈ xs.take j, upB l x = false) ∨ ∃ p : Nat, j = p + 1 ∧ a = .int .i64 p ∧ ∃ hp : p < xs.length, upB l xs[p] = true)) (fun _ i _ => n - (intOf i).toNat)
      case atStart => exact ⟨0, rfl, Nat.zero_le _, Below.refl _ _, .inl ⟨rfl, fun x hx => by simp at hx⟩⟩
      case round =>
        obtain ⟨j, rfl, hj, hbx, hcase⟩ := hrel
        have HNx := Lib.hid (HN.out.below hbx)
        have HLx := Lib.hid (HL.out.below hbx)
        have Hbx := Lib.hid (Hb.out.trans (hbx.mono Hb.out.size))
        have HB := Lib.hid hbx
        clear hbx
        rcases hcase with ⟨rfl, hnone⟩ | ⟨p, rfl, rfl, hp, hup⟩
        · have Hnone := Lib.hid hnone
          clear hnone
          by_cases hjn : (j : Int) < n
          · have hjk : j < xs.length := by rw [← Hn.out]; omega
            obtain ⟨b', off, rfl, hBk, hc⟩ := HLx.out.nums j hjk
            have hnx : upB l xs[j] = false → ∀ x ∈ xs.take (j + 1), upB l x = false := fun hf x hx => by
              rw [List.take_add_one, List.getElem?_eq_getElem hjk, Option.toList_some, List.mem_append, List.mem_singleton] at hx
              rcases hx with hx | rfl
              · exact Hnone.out x hx
              · exact hf
            obtain ⟨y, hy⟩ : ∃ y, y = xs[j]'hjk := ⟨_, rfl⟩
            rw [← hy] at hc hnx
            have Hy : Hid (∃ hj : j < xs.length, y = xs[j]'hj) := Lib.hid ⟨hjk, hy⟩
            have Hnx := Lib.hid hnx
            clear hjk hy hnx hBk
            go_wp2_with fail
            refine (rsShown y Hg.out HNx.out).mono ?_
            rintro e w4 ⟨rfl, hb4⟩
            have HB4 := Lib.hid (HB.out.trans (hb4.mono HB.out.size))
            clear hb4
            cases hu : upB l y with
            | true =>
              have Hu := Lib.hid hu
              clear hu
              go_wp2
              go_roundw
              case rel => exact ⟨j + 1, by go_num, by omega, HB4.out, .inr ⟨j, rfl, rfl, Hy.out.1, by rw [← Hy.out.2]; exact Hu.out⟩⟩
              case measure => simp [intOf]; omega
            | false =>
              have Hu := Lib.hid (Hnx.out hu)
              clear hu
              go_wp2
              go_roundw
              case rel => exact ⟨j + 1, by go_num, by omega, HB4.out, .inl ⟨rfl, Hu.out⟩⟩
              case measure => simp [intOf]; omega
          · have e0 : xs = R := by
              rw [← HxR.out, flat_stays xs fun x hx => Hnone.out x (by rw [List.take_of_length_le (by rw [← Hn.out]; omega)]; exact hx)]
            have E0 := Lib.hid e0
            clear e0
            go_wp2
            go_ret
            refine ⟨Al, cl, ?_, ?_, Hbx.out⟩
            · rw [Hn.out, E0.out]
              rfl
            · rw [← E0.out]
              exact HLx.out
        · have hpn : p < n := by rw [Hn.out]; exact hp
          have hlow : ∀ w : World, (Instr.slice 32 (.slice Al n cl) none (some (.int .i64 (p : Int))) none).run Try.prog w = .ok (.slice Al p cl) w := fun w => cut_low Al n cl p (by omega) w
          have hhigh : ∀ w : World, (Instr.slice 32 (.slice Al n cl) (some (.int .i64 ((p : Int) + 1))) none none).run Try.prog w = .ok (.slice (if cl = p + 1 then Al else Al.map (·.add (p + 1))) (n - (p + 1)) (cl - (p + 1))) w := fun w => by
            have := cut_high Al n cl (p + 1) (by omega) w
            rw [show ((p + 1 : Nat) : Int) = (p : Int) + 1 by omega] at this
            exact this
          have hsplit := split_at hp
          have hsame := subst_same Hg.out.tree hp hup
          have hless := subst_less Hg.out.tree hp hup
          have htt : thereB l xs[p] = true := (upB_what hup).1
          have hcy : (conL l xs[p]).length ≤ 200 := con_len Hg.out.few _
          have hLs := HLx.out
          rw [hsplit] at hLs
          have hlo := hLs.low
          have hLs' : ListIn wr Al cl ((xs.take p ++ [xs[p]]) ++ xs.drop (p + 1)) := by
            rw [List.append_assoc]
            exact hLs
          have hhi := hLs'.high
          have hl1 : (xs.take p ++ [xs[p]]).length = p + 1 := by rw [List.length_append, List.length_take]; simp; omega
          rw [hl1] at hhi
          have hl2 : (xs.drop (p + 1)).length = n - (p + 1) := by rw [List.length_drop, Hn.out]
          have hl3 : (xs.take p).length = p := by rw [List.length_take]; omega
          obtain ⟨b', off, eA, hBk, hc⟩ := HLx.out.nums p hp
          rw [HxR.out] at hsame
          have hK2 := HxK.out
          rw [← hless] at hK2
          obtain ⟨y, hy⟩ : ∃ y, y = xs[p]'hp := ⟨_, rfl⟩
          rw [← hy] at hsame hK2 htt hcy hc
          obtain ⟨tp, htp⟩ : ∃ tp, tp = xs.take p := ⟨_, rfl⟩
          rw [← htp] at hsame hK2 hlo hl3
          obtain ⟨dp, hdp⟩ : ∃ dp, dp = xs.drop (p + 1) := ⟨_, rfl⟩
          rw [← hdp] at hsame hK2 hhi hl2
          have Hsame := Lib.hid hsame
          have HK2 := Lib.hid hK2
          have Htt := Lib.hid htt
          have Hlo := Lib.hid hlo
          have Hl3 := Lib.hid hl3
          have Hc := Lib.hid hc
          have HoE := Lib.hid (own_empty wr)
          have Hgv1 : Hid (Gives (wr.alloc (.cells #[] 3)) 1 (.slice Al p cl) p (tp.map (Value.int .i64))) := Lib.hid (nums_gives (hlo.below ((Below.refl _ wr).alloc (Nat.le_refl _) _)).nums hl3.symm hlo.nil)
          have hxl' := Hxl.out
          have hm1 : p + 200 + n ≤ 100000 := by omega
          have zp : ¬ ((p : Int) < 0) := by omega
          rw [show ((p + 1 : Nat) : Int) = (p : Int) + 1 by omega]
          obtain ⟨Ah, hAh⟩ : ∃ Ah, Ah = (if cl = p + 1 then Al else Al.map (·.add (p + 1))) := ⟨_, rfl⟩
          obtain ⟨ch, hch⟩ : ∃ ch, ch = cl - (p + 1) := ⟨_, rfl⟩
          obtain ⟨nh, hnh⟩ : ∃ nh, nh = n - (p + 1) := ⟨_, rfl⟩
          rw [← hAh, ← hch] at hhi
          rw [← hnh] at hl2
          rw [← hAh, ← hch, ← hnh] at hhigh
          have hnn : nh ≤ n := by omega
          have Hhi := Lib.hid hhi
          have Hl2 := Lib.hid hl2
          have Hhn := Lib.hid hnh
          subst eA
          clear hsplit hsame hless htt hLs hLs' hlo hhi hl1 hl2 hl3 hc hK2 hy htp hdp hup hxl' hAh hch hnh
          have HBk := Lib.hid hBk
          clear hBk
          by_cases hjn : (p : Int) + 1 < n
          all_goals
            go_upto_region 16 with (at_builtin; refine wpList_append_gives rfl (.tmp 41) (.tmp 44) 32 rfl wr.heap.size 3 i0 _ 1 8 Try.underlying32 Hi.out Hz0.out Hz1.out Hz2.out rfl (by decide) (.slice (some ⟨wr.heap.size, 0, none⟩) 0 0) 0 [] rfl HoE.out _ p (tp.map (Value.int .i64)) rfl Hgv1.out (kids_one tp) (by unfold maxLen; omega) (by omega) (by simp) ?_; intro v5 w5 ho5 hg5; rw [Nat.zero_add, List.nil_append] at ho5; obtain ⟨A5, c5, rfl, hc5⟩ := own_form ho5)
            have hb5 : Below wr.heap.size wr w5 := ((Below.refl _ wr).alloc (Nat.le_refl _) _).grown hg5 (by simp) (fun k hk => by have := (HoE.out.lt k hk).1; exact this)
            have hcw : w5.cell? ⟨b', off + p, none⟩ = some (.int .i64 y) := (hb5.cell (p := ⟨b', off + p, none⟩) HBk.out).trans Hc.out
            have Ho5 := Lib.hid ho5
            have Hb5 := Lib.hid hb5
            have HN5 := Lib.hid (HNx.out.below hb5)
            clear ho5 hg5 hb5 hc5
            go_wp2_with fail
            refine (rsOnce y Hg.out HN5.out Htt.out).mono ?_
            rintro e w6 ⟨v6, rfl, hP6, hb6⟩
            obtain ⟨A6, c6, rfl, hL6⟩ := hP6.form
            obtain ⟨ks, hks⟩ : ∃ ks, ks = conL l y := ⟨_, rfl⟩
            rw [← hks] at hL6 Hsame HK2 hcy
            rw [← hks]
            obtain ⟨k, hk⟩ : ∃ k, k = ks.length := ⟨_, rfl⟩
            rw [← hk] at hcy
            rw [← hk]
            have Hgv6 : Hid (Gives w6 1 (.slice A6 k c6) k (ks.map (Value.int .i64))) := Lib.hid (nums_gives hL6.nums hk hL6.nil)
            have ho6 := own_below Ho5.out hb6
            have hb6' : Below wr.heap.size wr w6 := Hb5.out.trans (hb6.mono Hb5.out.size)
            have hbw6 := hb6'.size
            have Hk := Lib.hid hk
            clear hP6 hb6 hL6 hks hk hcw
            go_upto_region 17 with (at_builtin; refine wpList_append_gives rfl (.tmp 46) (.tmp 52) 32 rfl wr.heap.size 3 i0 _ 1 8 Try.underlying32 Hi.out Hz0.out Hz1.out Hz2.out rfl (by decide) (.slice A5 p c5) p (tp.map (Value.int .i64)) rfl ho6 _ k (ks.map (Value.int .i64)) rfl Hgv6.out (kids_one ks) (by unfold maxLen; omega) (by omega) hbw6 ?_; intro v7 w7 ho7 hg7; obtain ⟨A7, c7, rfl, hc7⟩ := own_form ho7)
            have hb7 : Below wr.heap.size wr w7 := hb6'.grown hg7 hbw6 (fun k hk => (ho6.lt k hk).1)
            have hbw7 := hb7.size
            have Hgv7 := Lib.hid (nums_gives (Hhi.out.below hb7).nums Hl2.out.symm Hhi.out.nil)
            clear ho6 hg7 hc7 hb6' hbw6
            go_wp2_with (at_builtin; refine wpList_append_gives rfl (.tmp 54) (.tmp 58) 32 rfl wr.heap.size 3 i0 _ 1 8 Try.underlying32 Hi.out Hz0.out Hz1.out Hz2.out rfl (by decide) (.slice A7 (p + k) c7) (p + k) (tp.map (Value.int .i64) ++ ks.map (Value.int .i64)) rfl ho7 _ nh (dp.map (Value.int .i64)) rfl Hgv7.out (kids_one dp) (by unfold maxLen; omega) (by omega) hbw7 ?_; intro v8 w8 ho8 hg8; have hb8 : Below wr.heap.size wr w8 := hb7.grown hg8 hbw7 (fun k hk => (ho7.lt k hk).1); obtain ⟨A8, c8, rfl, hc8⟩ := own_form ho8)
            go_roundw
            case rel =>
              have hN : p + k + nh = (tp ++ ks ++ dp).length := by rw [List.length_append, List.length_append, Hl3.out, Hl2.out, Hk.out]
              rw [hN] at ho8
              have ho9 : w8.ownsRow wr.heap.size 3 1 (.slice A8 (tp ++ ks ++ dp).length c8) (tp ++ ks ++ dp).length ((tp ++ ks ++ dp).map (Value.int .i64)) := by
                rw [List.map_append, List.map_append]
                exact ho8
              obtain ⟨A9, c9, e9, hL9⟩ := (Pile.of_own ho9).form
              obtain ⟨rfl, rfl⟩ : A8 = A9 ∧ c8 = c9 := by injection e9 with e1 _ e3; exact ⟨e1, e3⟩
              refine ⟨tp ++ ks ++ dp, A8, c8, st + 1, by rw [hN], by go_num, hL9, Hsame.out, ?_, ?_, Hbx.out.trans (hb8.mono Hbx.out.size)⟩
              · have := HK2.out
                omega
              · have := Hxl.out
                have := Hhn.out
                omega
            case measure => simp [intOf]; omega
end
end Go.Proofs.Ytloncmhcdmjjgaa

namespace Go.Proofs.Ytloncmhcdmjjgaa
open Go Go.RowKit

section
variable {Rep : (Nat → Prop) → World → Nat → List Nd → Prop}
set_option maxHeartbeats 8000000 in
set_option maxRecDepth 100000 in
theorem slotTells_any (O : ForestOk Rep) (M : ForestMore Rep) (A : Option Addr) (n c : Nat) (xs : List Ac) (a : Int) (w : World) (hn : xs.length = n) (hm : n ≤ maxLen) (h : Acts w A xs) :
    Calls Try.prog 3 #[.slice A n c, .int .i64 a] w fun e w' => e = .returned (.bool true) ∧ Below w.heap.size w w' := by
  have hnot : ∀ (x : Bool) (w : World), (Op.unary .not (.bool x)).run Try.prog w = .ok (.bool (!x)) w := fun _ _ => rfl
  have H := Lib.hid h
  have Hn := Lib.hid hn
  have Hm := Lib.hid hm
  clear h hn hm
  go_enter Try.func3, Try.ntmps3
  go_wp2_with fail
  refine (awake9_any O M w).mono ?_
  rintro e w0 ⟨rfl, hb0⟩
  go_wp2_with fail
  refine (great_any A n c xs w0 Hn.out Hm.out (H.out.below hb0)).mono ?_
  rintro e w1 ⟨⟨gr, rfl, hgr⟩, rfl⟩
  cases gr with
  | true =>
    go_wp2
    go_ret
    exact ⟨rfl, hb0⟩
  | false =>
    have Hs := Lib.hid (hgr rfl)
    have Hb0 := Lib.hid hb0
    clear hgr hb0
    go_wp2_with fail
    refine (built_any O A n c xs w0 Hn.out (H.out.below Hb0.out) Hs.out).mono ?_
    rintro e w1 ⟨b, rfl, hR, hb1⟩
    have hB1 := Hb0.out.trans (hb1.mono Hb0.out.size)
    have HB1 := Lib.hid hB1
    have HR := Lib.hid (O.wide hR (S' := fun _ => True) fun _ _ _ => trivial)
    clear hR hb1 hB1 Hb0
    go_wp2_with fail
    refine (refNodes A n c xs w1 Hn.out (H.out.below HB1.out) Hs.out).mono ?_
    rintro e w2 ⟨A2, c2, rfl, hN, hb2⟩
    have Hg := Lib.hid (good_forest Hs.out)
    obtain ⟨l, hl⟩ : ∃ l, l = forest xs := ⟨_, rfl⟩
    rw [← hl] at hN HR Hg
    rw [← hl]
    have hT2 : Two Rep w b A2 c2 l w2 := ⟨O.since HR.out hb2, hN.wide fun _ _ _ => trivial, HB1.out.trans (hb2.mono HB1.out.size)⟩
    have T2 := Lib.hid hT2
    clear hN hb2 HR HB1 Hs H Hn hl hT2
    go_wp2_with fail
    refine (slOf O M a T2.out.rep Hg.out).mono ?_
    rintro e w3 ⟨rfl, hb3⟩
    have T3 := Lib.hid (T2.out.next O hb3)
    clear hb3 T2
    go_wp2_with fail
    refine (rsOf a Hg.out T3.out.nodes).mono ?_
    rintro e w4 ⟨rfl, hb4⟩
    have T4 := Lib.hid (T3.out.next O hb4)
    clear hb4 T3
    go_wp2_with fail
    refine (slAssigned O M a T4.out.rep Hg.out).mono ?_
    rintro e w5 ⟨v5, rfl, hP5, hb5⟩
    have T5 := Lib.hid (T4.out.next O hb5)
    have P5 := Lib.hid hP5
    obtain ⟨A5, c5, rfl, -⟩ := hP5.form
    clear hb5 T4 hP5
    go_wp2_with fail
    refine (rsAssigned a Hg.out T5.out.nodes).mono ?_
    rintro e w6 ⟨v6, rfl, hP6, hb6⟩
    have T6 := Lib.hid (T5.out.next O hb6)
    obtain ⟨A5', c5', e5, hL5⟩ := (P5.out.below hb6).form
    obtain ⟨rfl, rfl⟩ : A5 = A5' ∧ c5 = c5' := by injection e5 with e1 _ e3; exact ⟨e1, e3⟩
    obtain ⟨A6, c6, rfl, hL6⟩ := hP6.form
    have HL5 := Lib.hid hL5
    have HL6 := Lib.hid hL6
    have hl1 : (asgL l a).length ≤ 1000000 := Nat.le_trans (Nat.le_trans (List.length_filter_le _ _) (kidsOf_len Hg.out.few _)) (by decide)
    clear hb6 T5 P5 e5 hL5 hL6 hP6
    go_wp2_with fail
    refine (ints_any (asgL l a) (asgL l a) A5 A6 _ _ c5 c6 w6 rfl rfl hl1 HL5.out.nums HL6.out.nums).mono ?_
    rintro e w7 ⟨rfl, hb7⟩
    rw [sameInts_self]
    have T7 := Lib.hid (T6.out.next O hb7)
    clear hb7 T6 HL5 HL6 hl1
    go_wp2_with fail
    refine (slSlots O M a T7.out.rep Hg.out).mono ?_
    rintro e w8 ⟨v8, rfl, hP8, hb8⟩
    have T8 := Lib.hid (T7.out.next O hb8)
    have P8 := Lib.hid hP8
    obtain ⟨A8, c8, rfl, -⟩ := hP8.form
    clear hb8 T7 hP8
    go_wp2_with fail
    refine (rsSlots a Hg.out T8.out.nodes).mono ?_
    rintro e w9 ⟨v9, rfl, hP9, hb9⟩
    have T9 := Lib.hid (T8.out.next O hb9)
    obtain ⟨A8', c8', e8, hL8⟩ := (P8.out.below hb9).form
    obtain ⟨rfl, rfl⟩ : A8 = A8' ∧ c8 = c8' := by injection e8 with e1 _ e3; exact ⟨e1, e3⟩
    obtain ⟨A9, c9, rfl, hL9⟩ := hP9.form
    have HL8 := Lib.hid hL8
    have HL9 := Lib.hid hL9
    have hl2 : (slotsL l a).length ≤ 1000000 := Nat.le_trans (Nat.le_trans (slots_len Hg.out.tree a) Hg.out.len) (by decide)
    clear hb9 T8 P8 e8 hL8 hL9 hP9
    go_wp2_with fail
    refine (ints_any (slotsL l a) (slotsL l a) A8 A9 _ _ c8 c9 w9 rfl rfl hl2 HL8.out.nums HL9.out.nums).mono ?_
    rintro e w10 ⟨rfl, hb10⟩
    rw [sameInts_self]
    have T10 := Lib.hid (T9.out.next O hb10)
    clear hb10 T9 HL8 HL9 hl2
    go_wp2_with fail
    refine (slFlat O M a T10.out.rep Hg.out).mono ?_
    rintro e w11 ⟨v11, rfl, hP11, hb11⟩
    have T11 := Lib.hid (T10.out.next O hb11)
    have P11 := Lib.hid hP11
    obtain ⟨A11, c11, rfl, -⟩ := hP11.form
    clear hb11 T10 hP11
    go_wp2_with fail
    refine (rsFlat a Hg.out T11.out.nodes).mono ?_
    rintro e w12 ⟨A12, c12, rfl, hL12, hb12⟩
    have T12 := Lib.hid (T11.out.next O hb12)
    obtain ⟨A11', c11', e11, hL11⟩ := (P11.out.below hb12).form
    obtain ⟨rfl, rfl⟩ : A11 = A11' ∧ c11 = c11' := by injection e11 with e1 _ e3; exact ⟨e1, e3⟩
    have HL11 := Lib.hid hL11
    have HL12 := Lib.hid hL12
    have hl3 : (flatL l a).length ≤ 1000000 := Nat.le_trans (flatL_len Hg.out.tree Hg.out.len Hg.out.few a) (by decide)
    clear hb12 T11 P11 e11 hL11 hL12
    go_wp2_with fail
    refine (ints_any (flatL l a) (flatL l a) A11 A12 _ _ c11 c12 w12 rfl rfl hl3 HL11.out.nums HL12.out.nums).mono ?_
    rintro e w13 ⟨rfl, hb13⟩
    rw [sameInts_self]
    have T13 := Lib.hid (T12.out.next O hb13)
    clear hb13 T12 HL11 HL12 hl3
    go_wp2
    go_ret
    exact ⟨rfl, T13.out.below⟩
end
end Go.Proofs.Ytloncmhcdmjjgaa

namespace Go.Proofs.Ytloncmhcdmjjgaa
open Go Go.RowKit

section
variable {Rep : (Nat → Prop) → World → Nat → List Nd → Prop}
set_option maxHeartbeats 8000000 in
set_option maxRecDepth 100000 in
theorem slotFlat_any (O : ForestOk Rep) (M : ForestMore Rep) (A : Option Addr) (n c : Nat) (xs : List Ac) (a : Int) (w : World) (hn : xs.length = n) (hm : n ≤ maxLen) (h : Acts w A xs) :
    Calls Try.prog 5 #[.slice A n c, .int .i64 a] w fun e w' => e = .returned (.bool true) ∧ Below w.heap.size w w' := by
  have hnot : ∀ (x : Bool) (w : World), (Op.unary .not (.bool x)).run Try.prog w = .ok (.bool (!x)) w := fun _ _ => rfl
  have H := Lib.hid h
  have Hn := Lib.hid hn
  have Hm := Lib.hid hm
  clear h hn hm
  go_enter Try.func5, Try.ntmps5
  go_wp2_with fail
  refine (awake9_any O M w).mono ?_
  rintro e w0 ⟨rfl, hb0⟩
  go_wp2_with fail
  refine (great_any A n c xs w0 Hn.out Hm.out (H.out.below hb0)).mono ?_
  rintro e w1 ⟨⟨gr, rfl, hgr⟩, rfl⟩
  cases gr with
  | true =>
    go_wp2
    go_ret
    exact ⟨rfl, hb0⟩
  | false =>
    have Hs := Lib.hid (hgr rfl)
    have Hb0 := Lib.hid hb0
    clear hgr hb0
    go_wp2_with fail
    refine (built_any O A n c xs w0 Hn.out (H.out.below Hb0.out) Hs.out).mono ?_
    rintro e w1 ⟨b, rfl, hR, hb1⟩
    have Hg := Lib.hid (good_forest Hs.out)
    obtain ⟨l, hl⟩ : ∃ l, l = forest xs := ⟨_, rfl⟩
    rw [← hl] at hR Hg
    have hO1 : One Rep w b l w1 := ⟨O.wide hR (S' := fun _ => True) fun _ _ _ => trivial, Hb0.out.trans (hb1.mono Hb0.out.size)⟩
    have T1 := Lib.hid hO1
    clear hR hb1 hO1 Hb0 hl Hs H Hn
    go_wp2_with fail
    refine (slFlat O M a T1.out.rep Hg.out).mono ?_
    rintro e w2 ⟨v2, rfl, hP2, hb2⟩
    have T2 := Lib.hid (T1.out.next O hb2)
    obtain ⟨A2, c2, rfl, hL2⟩ := hP2.form
    have hkl : (flatL l a).length ≤ 25600 := flatL_len Hg.out.tree Hg.out.len Hg.out.few a
    have e1 : (flatL l a).length = 0 ∨ upB l a = true := by
      cases hu : upB l a with
      | true => exact .inr rfl
      | false => rw [flatL_no hu]; exact .inl rfl
    have E2 : Hid (∀ x ∈ flatL l a, thereB l x = true ∧ (nd l x).kind = 2 ∧ upB l x = false) := Lib.hid fun x hx => flatL_what Hg.out.tree hx
    obtain ⟨cs, hcs⟩ : ∃ cs, cs = flatL l a := ⟨_, rfl⟩
    rw [← hcs] at hL2 hkl e1 E2
    rw [← hcs]
    obtain ⟨k, hk⟩ : ∃ k, k = cs.length := ⟨_, rfl⟩
    rw [← hk] at hkl e1
    rw [← hk]
    have Hk := Lib.hid hk
    have HL2 := Lib.hid hL2
    clear hP2 hb2 hL2 T1 hcs hk
    by_cases hk0 : k = 0
    · subst hk0
      clear e1
      cases ht : thereB l a with
      | false =>
        have Ht := Lib.hid ht
        clear ht
        go_wp2_with fail
        refine (nodeNo M T2.out.rep Hg.out Ht.out).mono ?_
        rintro e w3 ⟨A3, c3, rfl, -, hb3⟩
        have T3 := Lib.hid (T2.out.next O (hb3.alloc hb3.size (.cells #[.int .i64 0, .int .i64 0, .int .i64 0, .int .i64 0, .int .i64 0, .bool false, .string ⟨#[]⟩, .string ⟨#[]⟩, .slice A3 0 c3] 39)))
        clear hb3 T2
        go_wp2_with fail
        go_loopw [9] (fun i wr => i = .int .i64 0 ∧ One Rep w b l wr) (fun _ _ => 0)
        case atStart => exact ⟨rfl, T3.out⟩
        case round =>
          obtain ⟨rfl, hO⟩ := hrel
          go_wp2
          go_ret
          exact ⟨rfl, hO.below⟩
      | true =>
        have Ht := Lib.hid ht
        clear ht
        go_wp2_with fail
        refine (nodeYes M T2.out.rep Hg.out Ht.out).mono ?_
        rintro e w3 ⟨A3, c3, rfl, -, hb3⟩
        obtain ⟨d3, hd3⟩ : ∃ d, d = nd l a := ⟨_, rfl⟩
        rw [← hd3]
        have T3 := Lib.hid (T2.out.next O (hb3.alloc hb3.size (.cells #[.int .i64 d3.kind, .int .i64 d3.parent, .int .i64 d3.host, .int .i64 d3.shadow, .int .i64 d3.mode, .bool d3.slot, .string d3.name, .string d3.want, .slice A3 d3.kids.length c3] 39)))
        clear hb3 T2 hd3
        go_wp2_with fail
        go_loopw [9] (fun i wr => i = .int .i64 0 ∧ One Rep w b l wr) (fun _ _ => 0)
        case atStart => exact ⟨rfl, T3.out⟩
        case round =>
          obtain ⟨rfl, hO⟩ := hrel
          go_wp2
          go_ret
          exact ⟨rfl, hO.below⟩
    · have hu := e1.resolve_left hk0
      obtain ⟨ht, hsl, -⟩ := upB_what hu
      have Ht := Lib.hid ht
      have hk1 : (0 : Int) < k := by omega
      clear ht hu e1
      go_wp2_with fail
      refine (nodeYes M T2.out.rep Hg.out Ht.out).mono ?_
      rintro e w3 ⟨A3, c3, rfl, -, hb3⟩
      obtain ⟨d3, hd3⟩ : ∃ d, d = nd l a := ⟨_, rfl⟩
      rw [← hd3] at hsl
      rw [← hd3]
      rw [hsl]
      have T3 := Lib.hid (T2.out.next O (hb3.alloc hb3.size (.cells #[.int .i64 d3.kind, .int .i64 d3.parent, .int .i64 d3.host, .int .i64 d3.shadow, .int .i64 d3.mode, .bool true, .string d3.name, .string d3.want, .slice A3 d3.kids.length c3] 39)))
      have HL3 := Lib.hid (HL2.out.below (hb3.alloc hb3.size (.cells #[.int .i64 d3.kind, .int .i64 d3.parent, .int .i64 d3.host, .int .i64 d3.shadow, .int .i64 d3.mode, .bool true, .string d3.name, .string d3.want, .slice A3 d3.kids.length c3] 39)))
      clear hb3 T2 hd3 hsl HL2
      go_wp2_with fail
      go_loopw [9] (fun i wr => ∃ j : Nat, i = .int .i64 j ∧ j ≤ k ∧ One Rep w b l wr ∧ ListIn wr A2 c2 cs) (fun i _ => k - (intOf i).toNat)
      case atStart => exact ⟨0, rfl, Nat.zero_le _, T3.out, HL3.out⟩
      case round =>
        obtain ⟨j, rfl, hj, hO, hL⟩ := hrel
        have TO := Lib.hid hO
        have TL := Lib.hid hL
        clear hO hL T3 HL3
        by_cases hjk : (j : Int) < k
        · have hjl : j < cs.length := by rw [← Hk.out]; omega
          obtain ⟨b', off, rfl, hB, hc⟩ := TL.out.nums j hjl
          obtain ⟨hy1, hy2, hy3⟩ := E2.out _ (List.getElem_mem hjl)
          obtain ⟨y, hy⟩ : ∃ y, y = cs[j] := ⟨_, rfl⟩
          rw [← hy] at hc hy1 hy2 hy3
          have Hy1 := Lib.hid hy1
          have HBk := Lib.hid hB
          clear hB hjl hy
          go_wp2_with fail
          refine (nodeYes M TO.out.rep Hg.out Hy1.out).mono ?_
          rintro e w4 ⟨A4, c4, rfl, -, hb4⟩
          obtain ⟨d4, hd4⟩ : ∃ d, d = nd l y := ⟨_, rfl⟩
          have hq : d4.slot = true → (nd l (rootL l y)).kind ≠ 3 := fun hq h3 => by
            unfold upB at hy3
            rw [hy1, ← hd4, hq, h3] at hy3
            exact absurd hy3 (by decide)
          rw [← hd4] at hy2
          rw [← hd4]
          rw [hy2]
          have hb4' : Below wr.heap.size wr (w4.alloc (.cells #[.int .i64 2, .int .i64 d4.parent, .int .i64 d4.host, .int .i64 d4.shadow, .int .i64 d4.mode, .bool d4.slot, .string d4.name, .string d4.want, .slice A4 d4.kids.length c4] 39)) := hb4.alloc hb4.size _
          have hx4 := Has.fresh w4 (.cells #[.int .i64 2, .int .i64 d4.parent, .int .i64 d4.host, .int .i64 d4.shadow, .int .i64 d4.mode, .bool d4.slot, .string d4.name, .string d4.want, .slice A4 d4.kids.length c4] 39)
          have hc4 := (hb4'.cell (p := ⟨b', off + j, none⟩) HBk.out).trans hc
          have HB4 := Lib.hid hb4'
          have X4 := Lib.hid hx4
          have Hq := Lib.hid hq
          have hsz : w4.heap.size < (w4.alloc (.cells #[.int .i64 2, .int .i64 d4.parent, .int .i64 d4.host, .int .i64 d4.shadow, .int .i64 d4.mode, .bool d4.slot, .string d4.name, .string d4.want, .slice A4 d4.kids.length c4] 39)).heap.size := by simp
          have HSZ := Lib.hid hsz
          obtain ⟨sl, hsl4⟩ : ∃ sl, sl = d4.slot := ⟨_, rfl⟩
          rw [← hsl4] at X4 HB4 HSZ Hq hc4
          rw [← hsl4]
          clear hc hb4 hb4' hx4 hq hy1 hy2 hy3 hd4 hsz hsl4
          go_wp2_with fail
          refine (kinRoot O M y (TO.out.next O HB4.out).rep Hg.out).mono ?_
          rintro e w5 ⟨rfl, hb5⟩
          have HB5 := Lib.hid (HB4.out.trans (hb5.mono HB4.out.size))
          have hx0 := (hb5.cell (p := ⟨w4.heap.size, 0, none⟩) HSZ.out).trans (X4.out.cell 0)
          have hx5 := (hb5.cell (p := ⟨w4.heap.size, 5, none⟩) HSZ.out).trans (X4.out.cell 5)
          have hsz5 : w4.heap.size < w5.heap.size := Nat.lt_of_lt_of_le HSZ.out hb5.size
          have HX := Lib.hid (And.intro hx0 hx5)
          have Hr := Lib.hid (rootL_there Hg.out.tree Hy1.out)
          clear hb5 hx0 hx5 hc4 X4
          go_wp2_with fail
          refine (nodeYes M (TO.out.next O HB5.out).rep Hg.out Hr.out).mono ?_
          rintro e w6 ⟨A6, c6, rfl, -, hb6⟩
          obtain ⟨d6, hd6⟩ : ∃ d, d = nd l (rootL l y) := ⟨_, rfl⟩
          rw [← hd6] at Hq
          rw [← hd6]
          have hb6' := hb6.alloc hb6.size (.cells #[.int .i64 d6.kind, .int .i64 d6.parent, .int .i64 d6.host, .int .i64 d6.shadow, .int .i64 d6.mode, .bool d6.slot, .string d6.name, .string d6.want, .slice A6 d6.kids.length c6] 39)
          have hx0 : (w6.alloc (.cells #[.int .i64 d6.kind, .int .i64 d6.parent, .int .i64 d6.host, .int .i64 d6.shadow, .int .i64 d6.mode, .bool d6.slot, .string d6.name, .string d6.want, .slice A6 d6.kids.length c6] 39)).cell? ⟨w4.heap.size, 0, none⟩ = some (.int .i64 2) := (hb6'.cell (p := ⟨w4.heap.size, 0, none⟩) hsz5).trans HX.out.1
          have hx5 : (w6.alloc (.cells #[.int .i64 d6.kind, .int .i64 d6.parent, .int .i64 d6.host, .int .i64 d6.shadow, .int .i64 d6.mode, .bool d6.slot, .string d6.name, .string d6.want, .slice A6 d6.kids.length c6] 39)).cell? ⟨w4.heap.size, 5, none⟩ = some (.bool sl) := (hb6'.cell (p := ⟨w4.heap.size, 5, none⟩) hsz5).trans HX.out.2
          have HB6 := Lib.hid (HB5.out.trans (hb6'.mono HB5.out.size))
          clear hb6 hb6' HX hd6
          cases sl with
          | false =>
            go_wp2
            go_roundw
            case rel => exact ⟨j + 1, by go_num, by omega, TO.out.next O HB6.out, TL.out.below HB6.out⟩
            case measure => simp [intOf]; omega
          | true =>
            have hr3 := Hq.out rfl
            go_wp2
            go_roundw
            case rel => exact ⟨j + 1, by go_num, by omega, TO.out.next O HB6.out, TL.out.below HB6.out⟩
            case measure => simp [intOf]; omega
        · go_wp2
          go_ret
          exact ⟨rfl, TO.out.below⟩
end
end Go.Proofs.Ytloncmhcdmjjgaa

namespace Go.Proofs.Ytloncmhcdmjjgaa
open Go Go.RowKit

theorem idx_get {xs : List Int} (hn : xs.Nodup) {i : Nat} (hi : i < xs.length) : idxL xs xs[i] = (i : Int) := by
  refine idxL_at hi rfl fun hm => ?_
  obtain ⟨k, hk, e⟩ := List.mem_take_iff_getElem.1 hm
  exact List.pairwise_iff_getElem.1 hn k i (by omega) hi (by omega) e
theorem idx_rise {xs : List Int} (hn : xs.Nodup) {p : Int → Bool} {i : Nat} (h : i + 1 < (xs.filter p).length) : idxL xs (xs.filter p)[i] < idxL xs (xs.filter p)[i + 1] := by
  have h1 : xs.Pairwise (fun a b => idxL xs a < idxL xs b) := List.pairwise_iff_getElem.2 fun i j hi hj hij => by
    rw [idx_get hn hi, idx_get hn hj]
    omega
  exact List.pairwise_iff_getElem.1 (h1.filter p) i (i + 1) (by omega) h (by omega)
section
variable {l : List Nd} {s k : Int}
theorem asg_row (T : Tree l) (hs : s ≠ 0) (h : k ∈ asgL l s) : rowL l k = kidsOf l (hostL l s) := by
  have e := (asg_iff T hs).1 h
  obtain ⟨h1, _, h3, _, _, _, _, h8⟩ := of_what T (by rw [e]; exact hs)
  rw [e] at h8
  unfold rowL
  rw [if_pos h1, if_pos h3, h8, kidsOf_at h3]
theorem asg_rise (T : Tree l) (hs : s ≠ 0) {i : Nat} (h : i + 1 < (asgL l s).length) : idxL (rowL l (asgL l s)[i]) (asgL l s)[i] < idxL (rowL l (asgL l s)[i + 1]) (asgL l s)[i + 1] := by
  rw [asg_row T hs (List.getElem_mem _), asg_row T hs (List.getElem_mem _)]
  exact idx_rise (kidsOf_once T _) h
theorem asg_rise' (T : Tree l) (hs : s ≠ 0) (i : Nat) (x y : Int) (hx : (asgL l s)[i]? = some x) (hy : (asgL l s)[i + 1]? = some y) : idxL (rowL l x) x < idxL (rowL l y) y := by
  obtain ⟨h1, rfl⟩ := List.getElem?_eq_some_iff.1 hx
  obtain ⟨h2, rfl⟩ := List.getElem?_eq_some_iff.1 hy
  exact asg_rise T hs h2
theorem asg_all (T : Tree l) (hs : s ≠ 0) (h : k ∈ asgL l s) : thereB l k = true ∧ (nd l k).parent = hostL l s ∧ thereB l (rootL l s) = true ∧ (nd l (rootL l s)).kind = 3 ∧ (nd l (rootL l s)).host = hostL l s := by
  have e := (asg_iff T hs).1 h
  obtain ⟨h1, _, _, _, h5, _, h7, h8⟩ := of_what T (by rw [e]; exact hs)
  rw [e] at h5 h7 h8
  exact ⟨h1, h8.symm, rootL_there T h5, h7, (hostL_at h5).symm⟩
theorem asg_has (T : Tree l) (hs : s ≠ 0) (i : Int) : hasB (asgL l s) i = (ofL l i == s) := by
  rw [Bool.eq_iff_iff, beq_iff_eq, ← asg_iff T hs]
  exact ⟨fun h => hasB_mem h, fun h => decide_eq_true h⟩
end
section
variable {Rep : (Nat → Prop) → World → Nat → List Nd → Prop}
set_option maxHeartbeats 8000000 in
set_option maxRecDepth 100000 in
theorem slotOnce_any (O : ForestOk Rep) (M : ForestMore Rep) (A : Option Addr) (n c : Nat) (xs : List Ac) (a : Int) (w : World) (hn : xs.length = n) (hm : n ≤ maxLen) (h : Acts w A xs) :
    Calls Try.prog 4 #[.slice A n c, .int .i64 a] w fun e w' => e = .returned (.bool true) ∧ Below w.heap.size w w' := by
  have hnot : ∀ (x : Bool) (w : World), (Op.unary .not (.bool x)).run Try.prog w = .ok (.bool (!x)) w := fun _ _ => rfl
  have H := Lib.hid h
  have Hn := Lib.hid hn
  have Hm := Lib.hid hm
  clear h hn hm
  go_enter Try.func4, Try.ntmps4
  go_wp2_with fail
  refine (awake9_any O M w).mono ?_
  rintro e w0 ⟨rfl, hb0⟩
  go_wp2_with fail
  refine (great_any A n c xs w0 Hn.out Hm.out (H.out.below hb0)).mono ?_
  rintro e w1 ⟨⟨gr, rfl, hgr⟩, rfl⟩
  cases gr with
  | true =>
    go_wp2
    go_ret
    exact ⟨rfl, hb0⟩
  | false =>
    have Hs := Lib.hid (hgr rfl)
    have Hb0 := Lib.hid hb0
    clear hgr hb0
    go_wp2_with fail
    refine (built_any O A n c xs w0 Hn.out (H.out.below Hb0.out) Hs.out).mono ?_
    rintro e w1 ⟨b, rfl, hR, hb1⟩
    have Hg := Lib.hid (good_forest Hs.out)
    obtain ⟨l, hl⟩ : ∃ l, l = forest xs := ⟨_, rfl⟩
    rw [← hl] at hR Hg
    have hO1 : One Rep w b l w1 := ⟨O.wide hR (S' := fun _ => True) fun _ _ _ => trivial, Hb0.out.trans (hb1.mono Hb0.out.size)⟩
    have T1 := Lib.hid hO1
    clear hR hb1 hO1 Hb0 hl Hs H Hn
    go_wp2_with fail
    refine (slOf O M a T1.out.rep Hg.out).mono ?_
    rintro e w2 ⟨rfl, hb2⟩
    have T2 := Lib.hid (T1.out.next O hb2)
    clear hb2 T1
    have hlen : l.length ≤ 128 := Hg.out.len
    obtain ⟨m, hm⟩ : ∃ m, m = l.length := ⟨_, rfl⟩
    rw [← hm] at hlen
    have HM := Lib.hid hm
    clear hm
    go_wp2_with fail
    go_loopw [7] (fun i wr => ∃ j : Nat, i = .int .i64 j ∧ 1 ≤ j ∧ j ≤ m + 1 ∧ One Rep w b l wr) (fun i _ => m + 1 - (intOf i).toNat)
    case atStart => exact ⟨1, rfl, Nat.le_refl _, by omega, T2.out⟩
    case round =>
      obtain ⟨j, rfl, hj1, hj, hO⟩ := hrel
      have TO := Lib.hid hO
      clear hO T2
      go_wp2_with fail
      refine (M.len _ wr b l TO.out.rep Hg.out).mono ?_
      rintro e w3 ⟨rfl, hb3⟩
      rw [← HM.out]
      have T3 := Lib.hid (TO.out.next O hb3)
      clear hb3 TO
      by_cases hjm : (j : Int) ≤ m
      · have hj128 : (j : Int) ≤ 128 := by omega
        have hj0 : (j : Int) ≠ 0 := by omega
        have E1 := Lib.hid (asg_has Hg.out.tree hj0 a)
        have E2 : Hid (∀ k ∈ asgL l j, thereB l k = true ∧ (nd l k).parent = hostL l j ∧ thereB l (rootL l j) = true ∧ (nd l (rootL l j)).kind = 3 ∧ (nd l (rootL l j)).host = hostL l j) := Lib.hid fun k hk => asg_all Hg.out.tree hj0 hk
        have E3 : Hid (∀ (i : Nat) (x y : Int), (asgL l j)[i]? = some x → (asgL l j)[i + 1]? = some y → idxL (rowL l x) x < idxL (rowL l y) y) := Lib.hid (asg_rise' Hg.out.tree hj0)
        have hkl : (asgL l j).length ≤ 1000000 := Nat.le_trans (Nat.le_trans (List.length_filter_le _ _) (kidsOf_len Hg.out.few _)) (by decide)
        go_wp2_with fail
        refine (slAssigned O M j T3.out.rep Hg.out).mono ?_
        rintro e w4 ⟨v4, rfl, hP4, hb4⟩
        have T4 := Lib.hid (T3.out.next O hb4)
        obtain ⟨A4, c4, rfl, hL4⟩ := hP4.form
        obtain ⟨cs, hcs⟩ : ∃ cs, cs = asgL l j := ⟨_, rfl⟩
        rw [← hcs] at hL4 hkl E1 E2 E3
        rw [← hcs]
        obtain ⟨k, hk⟩ : ∃ k, k = cs.length := ⟨_, rfl⟩
        rw [← hk] at hkl
        rw [← hk]
        have Hk := Lib.hid hk
        have HL4 := Lib.hid hL4
        clear hP4 hb4 hL4 T3 hcs hk
        go_wp2_with fail
        refine (has_any cs A4 k c4 a w4 Hk.out hkl HL4.out.nums).mono ?_
        rintro e w5 ⟨rfl, rfl⟩
        rw [E1.out]
        obtain ⟨q, hq⟩ : ∃ q, q = (ofL l a == (j : Int)) := ⟨_, rfl⟩
        rw [← hq]
        have hqe : (ofL l a == (j : Int)) = q := hq.symm
        clear hq
        go_wp2_with fail
        clear hqe E1
        go_loopw [9] (fun i wr => ∃ i' : Nat, i = .int .i64 i' ∧ i' ≤ k ∧ One Rep w b l wr ∧ ListIn wr A4 c4 cs) (fun i _ => k - (intOf i).toNat)
        case atStart => exact ⟨0, rfl, Nat.zero_le _, T4.out, HL4.out⟩
        case round =>
          obtain ⟨i', rfl, hi, hO, hL⟩ := hrel
          have TI := Lib.hid hO
          have TL := Lib.hid hL
          clear hO hL T4 HL4
          by_cases hik : (i' : Int) < k
          · have hil : i' < cs.length := by rw [← Hk.out]; omega
            obtain ⟨b', off, rfl, hB, hc⟩ := TL.out.nums i' hil
            obtain ⟨hy1, hy2, hr1, hr2, hr3⟩ := E2.out _ (List.getElem_mem hil)
            have hyl : cs[i']? = some cs[i'] := List.getElem?_eq_getElem hil
            obtain ⟨y, hy⟩ : ∃ y, y = cs[i'] := ⟨_, rfl⟩
            rw [← hy] at hc hy1 hy2 hyl
            obtain ⟨ho, hho⟩ : ∃ ho, ho = hostL l j := ⟨_, rfl⟩
            rw [← hho] at hy2 hr3
            have Hy1 := Lib.hid hy1
            have Hr1 := Lib.hid hr1
            have HBk := Lib.hid hB
            have Hyl := Lib.hid hyl
            clear hB hil hy hho hy1 hr1 hyl
            go_wp2_with fail
            refine (nodeYes M TI.out.rep Hg.out Hy1.out).mono ?_
            rintro e w6 ⟨A6, c6, rfl, -, hb6⟩
            obtain ⟨d6, hd6⟩ : ∃ d, d = nd l y := ⟨_, rfl⟩
            rw [← hd6] at hy2
            rw [← hd6]
            have hb6' := hb6.alloc hb6.size (.cells #[.int .i64 d6.kind, .int .i64 d6.parent, .int .i64 d6.host, .int .i64 d6.shadow, .int .i64 d6.mode, .bool d6.slot, .string d6.name, .string d6.want, .slice A6 d6.kids.length c6] 39)
            have hx6 := (Has.fresh w6 (.cells #[.int .i64 d6.kind, .int .i64 d6.parent, .int .i64 d6.host, .int .i64 d6.shadow, .int .i64 d6.mode, .bool d6.slot, .string d6.name, .string d6.want, .slice A6 d6.kids.length c6] 39)).cell 1
            have hsz : w6.heap.size < (w6.alloc (.cells #[.int .i64 d6.kind, .int .i64 d6.parent, .int .i64 d6.host, .int .i64 d6.shadow, .int .i64 d6.mode, .bool d6.slot, .string d6.name, .string d6.want, .slice A6 d6.kids.length c6] 39)).heap.size := by simp
            have HB6 := Lib.hid hb6'
            have HX6 := Lib.hid hx6
            have HSZ := Lib.hid hsz
            have Hy2 := Lib.hid hy2
            clear hb6 hb6' hx6 hsz hd6 hy2
            go_wp2_with fail
            refine (kinRoot O M j (TI.out.next O HB6.out).rep Hg.out).mono ?_
            rintro e w7 ⟨rfl, hb7⟩
            have HX7 := Lib.hid ((hb7.cell (p := ⟨w6.heap.size, 1, none⟩) HSZ.out).trans HX6.out)
            have HSZ7 := Lib.hid (Nat.lt_of_lt_of_le HSZ.out hb7.size)
            have HB7 := Lib.hid (HB6.out.trans (hb7.mono HB6.out.size))
            clear hb7 HX6 HSZ HB6
            go_wp2_with fail
            refine (nodeYes M (TI.out.next O HB7.out).rep Hg.out Hr1.out).mono ?_
            rintro e w8 ⟨A8, c8, rfl, -, hb8⟩
            obtain ⟨d8, hd8⟩ : ∃ d, d = nd l (rootL l j) := ⟨_, rfl⟩
            rw [← hd8] at hr2 hr3
            rw [← hd8]
            have hb8' := hb8.alloc hb8.size (.cells #[.int .i64 d8.kind, .int .i64 d8.parent, .int .i64 d8.host, .int .i64 d8.shadow, .int .i64 d8.mode, .bool d8.slot, .string d8.name, .string d8.want, .slice A8 d8.kids.length c8] 39)
            have hx8 : (w8.alloc (.cells #[.int .i64 d8.kind, .int .i64 d8.parent, .int .i64 d8.host, .int .i64 d8.shadow, .int .i64 d8.mode, .bool d8.slot, .string d8.name, .string d8.want, .slice A8 d8.kids.length c8] 39)).cell? ⟨w6.heap.size, 1, none⟩ = some (.int .i64 ho) := by
              rw [← Hy2.out]
              exact (hb8'.cell (p := ⟨w6.heap.size, 1, none⟩) HSZ7.out).trans HX7.out
            have hz0 : (w8.alloc (.cells #[.int .i64 d8.kind, .int .i64 d8.parent, .int .i64 d8.host, .int .i64 d8.shadow, .int .i64 d8.mode, .bool d8.slot, .string d8.name, .string d8.want, .slice A8 d8.kids.length c8] 39)).cell? ⟨w8.heap.size, 0, none⟩ = some (.int .i64 3) := by
              rw [← hr2]
              exact (Has.fresh w8 (.cells #[.int .i64 d8.kind, .int .i64 d8.parent, .int .i64 d8.host, .int .i64 d8.shadow, .int .i64 d8.mode, .bool d8.slot, .string d8.name, .string d8.want, .slice A8 d8.kids.length c8] 39)).cell 0
            have hz2 : (w8.alloc (.cells #[.int .i64 d8.kind, .int .i64 d8.parent, .int .i64 d8.host, .int .i64 d8.shadow, .int .i64 d8.mode, .bool d8.slot, .string d8.name, .string d8.want, .slice A8 d8.kids.length c8] 39)).cell? ⟨w8.heap.size, 2, none⟩ = some (.int .i64 ho) := by
              rw [← hr3]
              exact (Has.fresh w8 (.cells #[.int .i64 d8.kind, .int .i64 d8.parent, .int .i64 d8.host, .int .i64 d8.shadow, .int .i64 d8.mode, .bool d8.slot, .string d8.name, .string d8.want, .slice A8 d8.kids.length c8] 39)).cell 2
            have hB8 := HB7.out.trans (hb8'.mono HB7.out.size)
            have hc8 : (w8.alloc (.cells #[.int .i64 d8.kind, .int .i64 d8.parent, .int .i64 d8.host, .int .i64 d8.shadow, .int .i64 d8.mode, .bool d8.slot, .string d8.name, .string d8.want, .slice A8 d8.kids.length c8] 39)).cell? ⟨b', off + i', none⟩ = some (.int .i64 y) := (hB8.cell (p := ⟨b', off + i', none⟩) HBk.out).trans hc
            have hs6 : w6.heap.size < (w8.alloc (.cells #[.int .i64 d8.kind, .int .i64 d8.parent, .int .i64 d8.host, .int .i64 d8.shadow, .int .i64 d8.mode, .bool d8.slot, .string d8.name, .string d8.want, .slice A8 d8.kids.length c8] 39)).heap.size := Nat.lt_of_lt_of_le HSZ7.out hb8'.size
            have hs8 : w8.heap.size < (w8.alloc (.cells #[.int .i64 d8.kind, .int .i64 d8.parent, .int .i64 d8.host, .int .i64 d8.shadow, .int .i64 d8.mode, .bool d8.slot, .string d8.name, .string d8.want, .slice A8 d8.kids.length c8] 39)).heap.size := by simp
            have hT8 := TI.out.next O hB8
            have hL8 := TL.out.below hB8
            have hb8s : b' < (w8.alloc (.cells #[.int .i64 d8.kind, .int .i64 d8.parent, .int .i64 d8.host, .int .i64 d8.shadow, .int .i64 d8.mode, .bool d8.slot, .string d8.name, .string d8.want, .slice A8 d8.kids.length c8] 39)).heap.size := Nat.lt_of_lt_of_le HBk.out hB8.size
            clear hb8 hb8' HX7 HSZ7 HB7 hd8 hc hB8 Hy2 TI TL HBk
            obtain ⟨W, hW⟩ : ∃ W, W = w8.alloc (.cells #[.int .i64 d8.kind, .int .i64 d8.parent, .int .i64 d8.host, .int .i64 d8.shadow, .int .i64 d8.mode, .bool d8.slot, .string d8.name, .string d8.want, .slice A8 d8.kids.length c8] 39) := ⟨_, rfl⟩
            rw [← hW] at hx8 hz0 hz2 hc8 hs6 hs8 hT8 hL8 hb8s
            have HT := Lib.hid hT8
            have HLL := Lib.hid hL8
            clear hT8 hL8 hr2 hr3
            cases i' with
            | zero =>
              have HS : Hid (∀ w', Below W.heap.size W w' → w'.cell? ⟨w6.heap.size, 1, none⟩ = some (.int .i64 ho) ∧ w'.cell? ⟨w8.heap.size, 0, none⟩ = some (.int .i64 3) ∧ w'.cell? ⟨w8.heap.size, 2, none⟩ = some (.int .i64 ho)) := Lib.hid fun w' hb' =>
                ⟨(hb'.cell (p := ⟨w6.heap.size, 1, none⟩) hs6).trans hx8, (hb'.cell (p := ⟨w8.heap.size, 0, none⟩) hs8).trans hz0, (hb'.cell (p := ⟨w8.heap.size, 2, none⟩) hs8).trans hz2⟩
              have hdr : Below W.heap.size W W.drew := (Below.refl _ W).drew
              have HT' := Lib.hid (HT.out.next O hdr)
              have HL' := Lib.hid (HLL.out.below hdr)
              have HSd := Lib.hid (HS.out W.drew hdr)
              clear hx8 hz0 hz2 hc8 hs6 hs8 hb8s hdr HS
              go_wp2_with fail
              rw [← hW]
              clear hW
              refine wp_region_way (late := []) (S := fun w' => w'.cell? ⟨w6.heap.size, 1, none⟩ = some (.int .i64 ho) ∧ w'.cell? ⟨w8.heap.size, 0, none⟩ = some (.int .i64 3) ∧ w'.cell? ⟨w8.heap.size, 2, none⟩ = some (.int .i64 ho)) (y := Way.takes [0, 1, 2, 3, 4, 5, 6, 7, 8, 9, 10, 11, 12, 13, 14, 15, 16, 17, 18, 19, 20, 21, 22, 23, 24, 25, 26, 27, 29, 30, 31, 32, 33] (.run 28 (.run 34 (Way.takes [35, 36, 37] .fin)))) (by kernel_rfl) (by kernel_rfl) rfl (by kernel_rfl) HSd.out (fun hHeld => ?_)
              simp only [Way.takes]
              (repeat (first | (refine way_skip (by simp only [List.getElem?_toArray, List.getElem?_cons_succ, List.getElem?_cons_zero]; rfl) (by rfl) hHeld ?_; (try simp only [Act.put, List.setIfInBounds_toArray, List.set_cons_zero, List.set_cons_succ])) | (refine way_pass (by simp only [List.getElem?_toArray, List.getElem?_cons_succ, List.getElem?_cons_zero]; rfl) (by rfl) hHeld ?_; (try simp only [Act.put, List.setIfInBounds_toArray, List.set_cons_zero, List.set_cons_succ])) | (refine way_take (v := ?_) (by simp only [List.getElem?_toArray, List.getElem?_cons_succ, List.getElem?_cons_zero]; rfl) (by rfl) ?_ hHeld ?_; rotate_left; (focus (intro w hSw; (try dsimp only at hSw); go_simp; (try with_reducible rfl); done)); (try simp only [Act.put, List.setIfInBounds_toArray, List.set_cons_zero, List.set_cons_succ]))))
              refine way_done ?_
              go_wp2
              go_roundw
              case rel => exact ⟨0 + 1, by go_num, by omega, HT'.out, HL'.out⟩
              case measure => simp [intOf]; omega
            | succ i0 =>
              have hi0 : i0 < cs.length := by rw [← Hk.out]; omega
              obtain ⟨b2, off2, e2, -, hcp⟩ := HLL.out.nums i0 hi0
              obtain ⟨rfl, rfl⟩ : b' = b2 ∧ off = off2 := by
                injection e2 with e2
                injection e2 with e3 e4
                exact ⟨e3, e4⟩
              have hlt := E3.out i0 _ y (List.getElem?_eq_getElem hi0) Hyl.out
              obtain ⟨x, hx⟩ : ∃ x, x = cs[i0] := ⟨_, rfl⟩
              rw [← hx] at hcp hlt
              have HS : Hid (∀ w', Below W.heap.size W w' → w'.cell? ⟨w6.heap.size, 1, none⟩ = some (.int .i64 ho) ∧ w'.cell? ⟨w8.heap.size, 0, none⟩ = some (.int .i64 3) ∧ w'.cell? ⟨w8.heap.size, 2, none⟩ = some (.int .i64 ho) ∧ w'.cell? ⟨b', off + i0, none⟩ = some (.int .i64 x) ∧ w'.cell? ⟨b', off + (i0 + 1), none⟩ = some (.int .i64 y)) := Lib.hid fun w' hb' =>
                ⟨(hb'.cell (p := ⟨w6.heap.size, 1, none⟩) hs6).trans hx8, (hb'.cell (p := ⟨w8.heap.size, 0, none⟩) hs8).trans hz0, (hb'.cell (p := ⟨w8.heap.size, 2, none⟩) hs8).trans hz2, (hb'.cell (p := ⟨b', off + i0, none⟩) hb8s).trans hcp, (hb'.cell (p := ⟨b', off + (i0 + 1), none⟩) hb8s).trans hc8⟩
              have hdr : Below W.heap.size W W.drew := (Below.refl _ W).drew
              have C1 := Lib.hid (kinIndex O M x (HT.out.next O hdr).rep Hg.out)
              have HSd := Lib.hid (HS.out W.drew hdr)
              obtain ⟨p0, hp0⟩ : ∃ p0, p0 = idxL (rowL l x) x := ⟨_, rfl⟩
              obtain ⟨p1, hp1⟩ : ∃ p1, p1 = idxL (rowL l y) y := ⟨_, rfl⟩
              rw [← hp0, ← hp1] at hlt
              rw [← hp0] at C1
              have Hp1 := Lib.hid hp1
              have z1 : ((i0 + 1 : Nat) : Int) = (i0 : Int) + 1 := by omega
              rw [z1] at hik
              rw [z1]
              have z4 : IntKind.i64.wrap ((i0 : Int) + 1 - 1) = (i0 : Int) := by rw [wrap_small] <;> omega
              have z5 : IntKind.i64.wrap (i0 : Int) = (i0 : Int) := by rw [wrap_small] <;> omega
              have z6 : ((i0 : Int)).toNat = i0 := by omega
              have z7 : ((i0 : Int) + 1).toNat = i0 + 1 := by omega
              have z8 : (0 : Int) < (i0 : Int) + 1 := by omega
              have z9 : (i0 : Int) < k := by omega
              have z10 : ¬ p1 ≤ p0 := by omega
              have z11 : (0 : Int) ≤ (i0 : Int) + 1 := by omega
              have z12 : ¬ ((i0 : Int) + 1 < 0) := by omega
              have z13 : IntKind.i64.wrap ((i0 : Int) + 1) = (i0 : Int) + 1 := by rw [wrap_small] <;> omega
              have z14 : i0 + 1 < k := by omega
              clear hx8 hz0 hz2 hc8 hs6 hs8 hb8s hdr hcp hx hp0 hp1 hlt z1 hi0 e2
              go_wp2_with fail
              rw [← hW]
              clear hW
              refine wp_region_way (late := []) (S := fun w' => w'.cell? ⟨w6.heap.size, 1, none⟩ = some (.int .i64 ho) ∧ w'.cell? ⟨w8.heap.size, 0, none⟩ = some (.int .i64 3) ∧ w'.cell? ⟨w8.heap.size, 2, none⟩ = some (.int .i64 ho) ∧ w'.cell? ⟨b', off + i0, none⟩ = some (.int .i64 x) ∧ w'.cell? ⟨b', off + (i0 + 1), none⟩ = some (.int .i64 y)) (y := Way.takes [0, 1, 2, 3, 4, 5, 6, 7, 8, 9, 10, 11, 12, 13, 14, 15, 16, 17, 18, 19, 20, 21, 22, 23, 24, 25, 26, 27, 29, 30, 31, 32, 33] (.run 28 (.run 34 (Way.takes [35, 36, 37] .fin)))) (by kernel_rfl) (by kernel_rfl) rfl (by kernel_rfl) HSd.out (fun hHeld => ?_)
              simp only [Way.takes]
              (repeat (first | (refine way_skip (by simp only [List.getElem?_toArray, List.getElem?_cons_succ, List.getElem?_cons_zero]; rfl) (by rfl) hHeld ?_; (try simp only [Act.put, List.setIfInBounds_toArray, List.set_cons_zero, List.set_cons_succ])) | (refine way_pass (by simp only [List.getElem?_toArray, List.getElem?_cons_succ, List.getElem?_cons_zero]; rfl) (by rfl) hHeld ?_; (try simp only [Act.put, List.setIfInBounds_toArray, List.set_cons_zero, List.set_cons_succ])) | (refine way_take (v := ?_) (by simp only [List.getElem?_toArray, List.getElem?_cons_succ, List.getElem?_cons_zero]; rfl) (by rfl) ?_ hHeld ?_; rotate_left; (focus (intro w hSw; (try dsimp only at hSw); go_simp; (try with_reducible rfl); done)); (try simp only [Act.put, List.setIfInBounds_toArray, List.set_cons_zero, List.set_cons_succ]))))
              refine way_run (by simp only [List.getElem?_toArray, List.getElem?_cons_succ, List.getElem?_cons_zero]; rfl) (by rfl) (fun K hK => ?_)
              go_simp
              refine C1.out.mono ?_
              rintro e w9 ⟨rfl, hb9⟩
              have hb9' : Below W.heap.size W w9 := (Below.refl _ W).drew.trans hb9
              have hS9 := HS.out w9 hb9'
              have C2 := Lib.hid (kinIndex O M y (HT.out.next O hb9').rep Hg.out)
              rw [← Hp1.out] at C2
              have HB9 := Lib.hid hb9'
              go_simp
              refine hK.out _ _ hS9 (fun hHeld => ?_)
              clear hK K hb9 hb9' hS9 C1
              (try simp only [Act.put, List.setIfInBounds_toArray, List.set_cons_zero, List.set_cons_succ])
              (repeat (first | (refine way_skip (by simp only [List.getElem?_toArray, List.getElem?_cons_succ, List.getElem?_cons_zero]; rfl) (by rfl) hHeld ?_; (try simp only [Act.put, List.setIfInBounds_toArray, List.set_cons_zero, List.set_cons_succ])) | (refine way_pass (by simp only [List.getElem?_toArray, List.getElem?_cons_succ, List.getElem?_cons_zero]; rfl) (by rfl) hHeld ?_; (try simp only [Act.put, List.setIfInBounds_toArray, List.set_cons_zero, List.set_cons_succ])) | (refine way_take (v := ?_) (by simp only [List.getElem?_toArray, List.getElem?_cons_succ, List.getElem?_cons_zero]; rfl) (by rfl) ?_ hHeld ?_; rotate_left; (focus (intro w hSw; (try dsimp only at hSw); go_simp; (try with_reducible rfl); done)); (try simp only [Act.put, List.setIfInBounds_toArray, List.set_cons_zero, List.set_cons_succ]))))
              refine way_run (by simp only [List.getElem?_toArray, List.getElem?_cons_succ, List.getElem?_cons_zero]; rfl) (by rfl) (fun K hK => ?_)
              go_simp
              refine C2.out.mono ?_
              rintro e w10 ⟨rfl, hb10⟩
              have hb10' : Below W.heap.size W w10 := HB9.out.trans (hb10.mono HB9.out.size)
              have hS10 := HS.out w10 hb10'
              have HT' := Lib.hid (HT.out.next O hb10')
              have HL' := Lib.hid (HLL.out.below hb10')
              go_simp
              refine hK.out _ _ hS10 (fun hHeld => ?_)
              clear hK K hb10 hb10' hS10 C2 HB9 HS HT HLL
              (try simp only [Act.put, List.setIfInBounds_toArray, List.set_cons_zero, List.set_cons_succ])
              (repeat (first | (refine way_skip (by simp only [List.getElem?_toArray, List.getElem?_cons_succ, List.getElem?_cons_zero]; rfl) (by rfl) hHeld ?_; (try simp only [Act.put, List.setIfInBounds_toArray, List.set_cons_zero, List.set_cons_succ])) | (refine way_pass (by simp only [List.getElem?_toArray, List.getElem?_cons_succ, List.getElem?_cons_zero]; rfl) (by rfl) hHeld ?_; (try simp only [Act.put, List.setIfInBounds_toArray, List.set_cons_zero, List.set_cons_succ])) | (refine way_take (v := ?_) (by simp only [List.getElem?_toArray, List.getElem?_cons_succ, List.getElem?_cons_zero]; rfl) (by rfl) ?_ hHeld ?_; rotate_left; (focus (intro w hSw; (try dsimp only at hSw); go_simp; (try with_reducible rfl); done)); (try simp only [Act.put, List.setIfInBounds_toArray, List.set_cons_zero, List.set_cons_succ]))))
              refine way_done ?_
              go_wp2
              go_roundw
              case rel => exact ⟨i0 + 1 + 1, by go_num, by omega, HT'.out, HL'.out⟩
              case measure => simp [intOf]; omega
          · go_wp2
            go_roundw
            case rel => exact ⟨j + 1, by go_num, by omega, by omega, TI.out⟩
            case measure => simp [intOf]; omega
      · go_wp2
        go_ret
        exact ⟨rfl, T3.out.below⟩
end
end Go.Proofs.Ytloncmhcdmjjgaa

namespace Go.Proofs.Ytloncmhcdmjjgaa
open Go Go.RowKit
theorem slotTells_here (A : Option Addr) (n c : Nat) (xs : List Ac) (a1 : Int) (w : World) (hn : xs.length = n) (hm : n ≤ maxLen) (h : Acts w A xs) :
    Calls Try.prog 3 #[.slice A n c, .int .i64 a1] w fun e w' => e = .returned (.bool true) ∧ Below w.heap.size w w' := slotTells_any arOk arMore A n c xs a1 w hn hm h
theorem slotOnce_here (A : Option Addr) (n c : Nat) (xs : List Ac) (a1 : Int) (w : World) (hn : xs.length = n) (hm : n ≤ maxLen) (h : Acts w A xs) :
    Calls Try.prog 4 #[.slice A n c, .int .i64 a1] w fun e w' => e = .returned (.bool true) ∧ Below w.heap.size w w' := slotOnce_any arOk arMore A n c xs a1 w hn hm h
theorem slotFlat_here (A : Option Addr) (n c : Nat) (xs : List Ac) (a1 : Int) (w : World) (hn : xs.length = n) (hm : n ≤ maxLen) (h : Acts w A xs) :
    Calls Try.prog 5 #[.slice A n c, .int .i64 a1] w fun e w' => e = .returned (.bool true) ∧ Below w.heap.size w w' := slotFlat_any arOk arMore A n c xs a1 w hn hm h
end Go.Proofs.Ytloncmhcdmjjgaa

namespace Go.Proofs.Ytloncmhcdmjjgaa
open Go.ChangeShapes Go.WideShapes Go.ChangeAt Go.RowKit

theorem own : ownKnob Try.prog.godebug = none := by kernel_rfl
theorem laidOut : laidOutB Try.prog = true := by kernel_rfl
theorem ib {a : Int} (h : (Lit.int .i64 a).wf = true) : -9223372036854775808 ≤ a ∧ a ≤ 9223372036854775807 := by
  have h1 : IntKind.i64.min = -9223372036854775808 := rfl
  have h2 : IntKind.i64.max = 9223372036854775807 := rfl
  simp only [Lit.wf, Bool.and_eq_true, decide_eq_true_eq, h1, h2] at h
  exact h
theorem ib8 {a : Int} (h : (Lit.int .u8 a).wf = true) : 0 ≤ a ∧ a ≤ 255 := by
  have h1 : IntKind.u8.min = 0 := rfl
  have h2 : IntKind.u8.max = 255 := rfl
  simp only [Lit.wf, Bool.and_eq_true, decide_eq_true_eq, h1, h2] at h
  exact h
theorem ib16 {a : Int} (h : (Lit.int .u16 a).wf = true) : 0 ≤ a ∧ a ≤ 65535 := by
  have h1 : IntKind.u16.min = 0 := rfl
  have h2 : IntKind.u16.max = 65535 := rfl
  simp only [Lit.wf, Bool.and_eq_true, decide_eq_true_eq, h1, h2] at h
  exact h
end Go.Proofs.Ytloncmhcdmjjgaa

namespace Go.Proofs.Ytloncmhcdmjjgaa
open Go.ChangeShapes Go.WideShapes Go.ChangeAt Go.RowKit
open Go.ChangeMaps (open_string shut_string)

set_option maxRecDepth 100000 in
theorem slotFlat_lifted (os : Os) (started : os.Started) (H : Type) (enc : TypeId × Value → H) :
    ReturnsInHanded {} Try.checked os 5 .any (Rows.slotFlatSpec.pre6 enc Try.prog Try.f5 Rows.slotFlatRow.domain false) (Rows.slotFlatSpec.post enc Try.prog Try.f5 false true false false) := by
  refine returnsInHanded_of_change (C := Try.checked) own started (by kernel_rfl) Try.func5
    (ChangeSpec.witness6 (enc := enc) (C := Try.checked) false ⟨#[], #[.slice none 0 0, .int .i64 0], []⟩ 8 (by kernel_rfl) (by kernel_rfl) (by kernel_rfl) (by kernel_rfl)) ?_
  intro W base args ds gs before hval0 hW hcnd _
  have hval : ∀ (j : Nat) t v, Try.f5.params[j]? = some t → args[j]? = some v → Value.okWide Try.prog W .any base t v := hval0
  clear hval0 hcnd
  have hW' := hW
  obtain ⟨p, q, hA0, hV, rfl, hfz, hnd⟩ := hW
  have hA : DataW.TrodAll enc Try.prog W 0 (fun _ => true) true Try.f5.params.toList args.toList ds p := hA0
  rw [Try.params5] at hA hval
  obtain ⟨v0, vs0, d0, ds0, p0, q0, hargs, rfl, rfl, h0, r0⟩ := trodAll_cons hA
  obtain ⟨v1, vs1, d1, ds1, p1, q1, rfl, rfl, rfl, h1, r1⟩ := trodAll_cons r0
  obtain ⟨rfl, rfl, rfl⟩ := trodAll_nil r1
  obtain rfl : args = #[v0, v1] := by cases args; simp_all
  obtain ⟨rfl, rfl⟩ := trodVars_none hV
  obtain ⟨A0, n0, c0, rfl⟩ := okWide_slice Try.underlying22 (hval 0 22 v0 rfl rfl)
  have k0 := h0
  have lt0 : ∀ x ∈ p0, x.block < W.heap.size := by obtain ⟨m, hm⟩ := k0; exact DataW.trod_lt m _ _ _ hm
  obtain ⟨x0, l0, y0, z0, q0x⟩ : ∃ xs : List Ac, xs.length = n0 ∧ Acts W A0 xs ∧ n0 ≤ c0 ∧ n0 ≤ maxLen := by
    obtain ⟨fuel, hf⟩ := h0
    exact acts_in hf
  obtain ⟨a1, rfl, rfl, rfl, w1⟩ := open_int Try.underlying3 (hval 1 3 v1 rfl rfl) h1
  clear hA0
  refine (slotFlat_here A0 n0 c0 x0 a1 W l0 q0x y0).mono fun e W' ⟨he, bel⟩ => ?_
  subst he
  exact ⟨_, rfl, _, _, _, [], _, [], hW', trodAll_mk1 (shut_bool Try.underlying4 _), (trodAll_cons_mk (Below.trod laidOut (by kernel_rfl) (of_decide_eq_true (by kernel_rfl)) k0 bel lt0) (trodAll_cons_mk (shut_int Try.underlying3 w1) trodAll_mk0)), rfl, bel.frame _, fun h => by cases h⟩

theorem slotFlat_holds : Rows.SlotFlatSaid :=
  OpenClaim.holds_of_wide 5 Try.f5 rfl rfl rfl rfl rfl rfl rfl ⟨rfl, rfl, rfl, rfl, rfl⟩ rfl rfl rfl rfl rfl (by kernel_rfl) Try.func5 (by kernel_rfl)
    (of_decide_eq_true (by kernel_rfl)) (by unfold Func.isWrapper; rw [if_neg (by decide +kernel)]; exact ⟨rfl, rfl⟩)
    (fun os started H enc _ => slotFlat_lifted os started H enc)
end Go.Proofs.Ytloncmhcdmjjgaa
