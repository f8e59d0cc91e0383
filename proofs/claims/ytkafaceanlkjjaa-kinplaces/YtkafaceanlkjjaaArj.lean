/-
  What Put of package arena does.
-/
import Derived.Test.YtkafaceanlkjjaaAri
import Derived.Test.YtkafaceanlkjjaaFy
namespace Go.Proofs.Ytkafaceanlkjjaa
open Go Go.RowKit

section
variable {l l' : List Nd} {p : Int}
theorem nd_ext (hlen : l'.length = l.length) (h : ∀ k, thereB l k = true → nd l' k = nd l k) : l' = l := by
  refine List.ext_getElem hlen fun i h1 h2 => ?_
  have ht : thereB l ((i : Int) + 1) = true := thereB_iff.2 ⟨by omega, by omega⟩
  have := h _ ht
  rwa [nd_at h1, nd_at h2] at this
/-- The nodes whose parent it is are its children. -/
theorem clr_kids (T : Tree l) (hp : thereB l p = true) : toPar l 0 (nd l p).kids = clr l p := by
  refine nd_ext (by rw [toPar_length, clr_length]) fun k hk => ?_
  have hk' : thereB l k = true := by rwa [there_len (clr_length l p)] at hk
  have hth : ∀ x ∈ (nd l p).kids, thereB l x = true := fun x hx => (T.kid p hp x hx).1
  rw [nd_toPar _ l k hth hk', nd_clr hk']
  by_cases hm : k ∈ (nd l p).kids
  · rw [if_pos hm, if_pos (T.kid p hp k hm).2]
  · rw [if_neg hm, if_neg]
    intro e
    have h0 : (nd l k).parent ≠ 0 := by rw [e]; exact there_pos hp
    have := (T.par k hk' h0).2
    rw [e] at this
    exact hm this
end

section
variable {S : Nat → Prop} {w w' : World} {b g c m : Nat} {l : List Nd}
theorem FrstAt.kidsSet {v : Value} {ks : List Int} (h : FrstAt S w b g c l) (hm : m < l.length) (hk : Kids S w v ks) : FrstAt S (w.setCell ⟨g, m * 9 + 8, none⟩ v) b g c (modN l ((m : Int) + 1) fun d => { d with kids := ks }) := by
  obtain ⟨-, -, h3⟩ := h.nodes.kidsSet hm hk
  refine ⟨h.mine, ?_, h3⟩
  rw [modN_length]
  exact h.head.aside h.ne v
theorem FrstAt.cellAny (h : FrstAt S w b g c l) (hm : m < l.length) {f : Nat} (hf : f < 9) : (∃ x, w.cell? ⟨g, m * 9 + f, none⟩ = some x) ∧ w.frozen? ⟨g, m * 9 + f, none⟩ = false := by
  obtain ⟨g', k', e, _, _, hz, hc⟩ := h.nodes.at_ hm
  obtain rfl : g = g' := by simpa using e
  exact ⟨⟨(l[m].cells k')[f]'(by rw [Nd.cells_length]; exact hf), by rw [hc f hf, List.getElem?_eq_getElem]⟩, hz _⟩
/-- A list that lies elsewhere stays. -/
theorem ListIn.kept {A : Option Addr} {c : Nat} {xs : List Int} (h : ListIn w A c xs) (k : Keeps S w w') (hA : 0 < xs.length → ∀ b' off s, A = some ⟨b', off, s⟩ → b' < w.heap.size → ¬ S b') : ListIn w' A c xs :=
  ⟨h.cap, h.nil, fun i hi => by
    obtain ⟨b', off, e, hb, hc⟩ := h.nums i hi
    refine ⟨b', off, e, Nat.lt_of_lt_of_le hb k.grows, ?_⟩
    have ho := k.old b' hb (hA (by omega) _ _ _ e hb)
    rw [← hc]
    unfold World.cell?
    simp only [ho]⟩
end

section
variable {S : Nat → Prop} {w : World} {b : Nat} {l : List Nd}
theorem arC {A : Option Addr} {c n : Nat} {xs : List Int} (hL : ListIn w A c xs) (hn : n = xs.length) (hx : n ≤ 200) (hG : Fut S w.heap.size) :
    Calls Try.prog 40 #[.slice A n c] w.drew fun e w' => ∃ A' c', e = .returned (.slice A' n c') ∧ Kids S w' (.slice A' n c') xs ∧ Below w.drew.heap.size w.drew w' := by
  subst hn
  exact arCopy (w := w.drew) A c ⟨hL.cap, hL.nil, hL.nums⟩ hx hG

set_option maxHeartbeats 8000000 in
set_option maxRecDepth 100000 in
theorem arPut (p : Int) (kids : List Int) (A2 : Option Addr) (c2 : Nat) (h : Frst S w b l) (hl : l.length ≤ 128) (hf : Few 200 l) (T : Tree l) (hS : Fut S w.heap.size) (hn : kids.length ≤ 200) (hL : ListIn w A2 c2 kids) (hA : 0 < kids.length → ∀ b' off s, A2 = some ⟨b', off, s⟩ → b' < w.heap.size → ¬ S b') :
    Calls Try.prog 28 #[.pointer (some ⟨b, 0, none⟩), .int .i64 p, .slice A2 kids.length c2] w (Told S w b (putL l p kids) (putErr l p kids)) := by
  have H := Lib.hid h
  have HT := Lib.hid T
  have Hf := Lib.hid hf
  have HS := Lib.hid hS
  have HL := Lib.hid hL
  have HA := Lib.hid hA
  clear h T hf hS hL hA
  have hnot : ∀ (x : Bool) (w : World), (Op.unary .not (.bool x)).run Try.prog w = .ok (.bool (!x)) w := fun _ _ => rfl
  cases hth : thereB l p with
  | false =>
    have e1 := put_no (kids := kids) hth
    rw [put_same e1 (by decide), e1]
    have Hth := Lib.hid hth
    clear hth e1
    go_enter Try.func28, Try.ntmps28
    go_wp2_with fail
    refine (arHas_is H.out Hth.out).mono ?_
    rintro e w1 ⟨rfl, rfl⟩
    go_wp2
    go_ret
    exact ⟨rfl, H.out, Keeps.refl _ _⟩
  | true =>
    have Hth := Lib.hid hth
    cases hea : eachB l kids with
    | false =>
      have e1 : putErr l p kids = 1 := by
        unfold putErr
        rw [if_neg (by rw [hth]; decide), if_pos (of_decide_eq_false hea)]
      rw [put_same e1 (by decide), e1]
      have Hea := Lib.hid hea
      clear hth hea e1
      go_enter Try.func28, Try.ntmps28
      go_wp2_with fail
      refine (arHas_is H.out Hth.out).mono ?_
      rintro e w1 ⟨rfl, rfl⟩
      go_wp2_with fail
      refine (arEach H.out hl A2 c2 HL.out hn Hea.out).mono ?_
      rintro e w1 ⟨rfl, hb1⟩
      go_wp2
      go_ret
      exact ⟨rfl, H.out.below hb1, Keeps.ofBelow hb1⟩
    | true =>
      have hall : ∀ i, i < kids.length → kidIn l kids i = true := of_decide_eq_true hea
      have hkt : ∀ k ∈ kids, thereB l k = true := kids_there hall
      have Hall := Lib.hid hall
      have Hkt := Lib.hid hkt
      have Hea := Lib.hid hea
      obtain ⟨n, hnn⟩ : ∃ n, n = kids.length := ⟨_, rfl⟩
      have Hn := Lib.hid hnn
      have hup := fun (k : Int) (hk : k ∈ kids) (hb : kidOk l (over l p) p k = false) => put_up hth hall hk hb
      have hok := put_ok (p := p) hth hall
      have Hup := Lib.hid hup
      have Hok := Lib.hid hok
      have hea' := arEach H.out hl A2 c2 HL.out hn Hea.out
      rw [← hnn] at hea'
      have Hea' := Lib.hid hea'
      rw [← hnn]
      rw [← hnn] at hn
      clear hall hkt hea hnn hup hok hea' Hea hth
      go_enter Try.func28, Try.ntmps28
      go_wp2_with fail
      refine (arHas_is H.out Hth.out).mono ?_
      rintro e w1 ⟨rfl, rfl⟩
      go_wp2_with fail
      refine Hea'.out.mono ?_
      rintro e w1 ⟨rfl, hb1⟩
      go_wp2_with fail
      go_loopw [25] (fun i wr => ∃ j : Nat, i = .int .i64 j ∧ j ≤ n ∧ (∀ k, k ∈ kids.take j → kidOk l (over l p) p k = true) ∧ Below w.heap.size w wr) (fun i _ => n - (intOf i).toNat)
      case atStart => exact ⟨0, rfl, Nat.zero_le _, fun k hk => absurd hk (by simp), hb1⟩
      case round =>
        obtain ⟨j, rfl, hj, hgood, hb⟩ := hrel
        have Hgood := Lib.hid hgood
        clear hgood hb1 Hea'
        by_cases hjn : (j : Int) < n
        · have hjk : j < kids.length := by rw [← Hn.out]; omega
          obtain ⟨b', off, rfl, hB, hc⟩ := (HL.out.below hb).nums j hjk
          obtain ⟨y, hy⟩ : ∃ y, y = kids[j] := ⟨_, rfl⟩
          rw [← hy] at hc
          have hmem : y ∈ kids := hy ▸ List.getElem_mem hjk
          have hstep : kidOk l (over l p) p y = true → ∀ k, k ∈ kids.take (j + 1) → kidOk l (over l p) p k = true := fun h k hk => by
            rw [List.take_add_one, List.getElem?_eq_getElem hjk, ← hy] at hk
            rcases List.mem_append.1 hk with hk | hk
            · exact Hgood.out k hk
            · obtain rfl : k = y := by simpa using hk
              exact h
          have Hstep := Lib.hid hstep
          have hbad := Hup.out y hmem
          have hty := Hkt.out y hmem
          have Hbad := Lib.hid hbad
          have Hty := Lib.hid hty
          have hR := H.out.below hb
          clear hy hmem hstep hbad hty
          cases hko : kidOk l (over l p) p y with
          | false =>
            have E1 := Lib.hid (Hbad.out hko)
            have Hko := Lib.hid hko
            clear hko
            go_wp2_with fail
            refine (arMay hR hl HT.out Hth.out Hty.out Hko.out).mono ?_
            rintro e w2 ⟨rfl, hb2⟩
            go_wp2
            go_ret
            rw [Told, put_same E1.out (by decide), E1.out]
            have hB2 := hb.trans (hb2.mono hb.size)
            exact ⟨rfl, H.out.below hB2, Keeps.ofBelow hB2⟩
          | true =>
            have Hnext := Lib.hid (Hstep.out hko)
            have Hko := Lib.hid hko
            clear hko
            go_wp2_with fail
            refine (arMay hR hl HT.out Hth.out Hty.out Hko.out).mono ?_
            rintro e w2 ⟨rfl, hb2⟩
            go_wp2
            go_roundw
            case rel => exact ⟨j + 1, by go_num, by omega, Hnext.out, hb.trans (hb2.mono hb.size)⟩
            case measure => simp [intOf]; omega
        · have hE : putErr l p kids = 0 := Hok.out fun k hk => Hgood.out k (by rw [List.take_of_length_le (by rw [← Hn.out]; omega)]; exact hk)
          have HE := Lib.hid hE
          obtain ⟨mp, hmp, hmpl⟩ := there_at Hth.out
          obtain ⟨g, c, hR0⟩ := H.out.at_ hmpl
          have hR := hR0.below hb
          have HSg := Lib.hid hR.row.1
          have q0 := hR.there_
          obtain ⟨_, kv, e', -, -, hkv, -, -, -, -, -, -, -, -, -, c8⟩ := hR.nodes.nine hmpl
          cases e'
          rw [← hmp] at hkv
          obtain ⟨A1, n1, rfl, -⟩ := hkv.list
          have hK0 : Keeps S w wr := Keeps.ofBelow hb
          have hok : (nd l p).kids.length ≤ 200 := by
            rw [hmp, nd_at hmpl]
            exact Hf.out _ (List.getElem_mem hmpl)
          have hclr := clr_kids HT.out Hth.out
          have hkin : ∀ k ∈ (nd l p).kids, thereB l k = true := fun k hk => (HT.out.kid p Hth.out k hk).1
          obtain ⟨oks, hoks⟩ : ∃ oks, oks = (nd l p).kids := ⟨_, rfl⟩
          rw [← hoks] at hkv c8 hok hclr hkin
          obtain ⟨on, hon⟩ : ∃ on, on = oks.length := ⟨_, rfl⟩
          rw [← hon] at c8 hok
          have Hon := Lib.hid hon
          have Hclr := Lib.hid hclr
          have Hkin := Lib.hid hkin
          have HR := Lib.hid hR
          have Hkv := Lib.hid hkv
          have HK0 := Lib.hid hK0
          subst hmp
          clear hE hR0 hR hkv hK0 hclr hkin hoks hon Hgood Hok Hup
          go_wp2_with fail
          go_loopw [45] (fun i wr' => ∃ j : Nat, i = .int .i64 j ∧ j ≤ on ∧ FrstAt S wr' b g c (toPar l 0 (oks.take j)) ∧ Kids S wr' (.slice A1 on n1) oks ∧ Keeps S w wr') (fun i _ => on - (intOf i).toNat)
          case atStart => exact ⟨0, rfl, Nat.zero_le _, HR.out, by rw [Hon.out]; exact Hkv.out, HK0.out⟩
          case round =>
            obtain ⟨i, rfl, hi, hRi, hkv, hKi⟩ := hrel
            clear hjn hj HR Hkv HK0 q0 c8 hb
            have hli : (toPar l 0 (oks.take i)).length = l.length := toPar_length _ _ _
            by_cases hin : (i : Int) < on
            · have hik : i < oks.length := by rw [← Hon.out]; omega
              obtain ⟨A', c', e', -, hnum⟩ := hkv.form
              obtain ⟨b', off, e'', hB, hc⟩ := hnum i hik
              have eA : A1 = A' := by injection e'
              subst eA
              subst e''
              obtain ⟨y, hy⟩ : ∃ y, y = oks[i] := ⟨_, rfl⟩
              rw [← hy] at hc
              have hty := Hkin.out y (hy ▸ List.getElem_mem hik)
              have hsn : toPar l 0 (oks.take (i + 1)) = modN (toPar l 0 (oks.take i)) y fun d => { d with parent := 0 } := by
                rw [List.take_add_one, List.getElem?_eq_getElem hik, ← hy]
                exact toPar_snoc _ _ _ _
              obtain ⟨m, rfl, hm⟩ := there_at hty
              have hm' : m < (toPar l 0 (oks.take i)).length := by rw [hli]; exact hm
              have q0 := hRi.there_
              rw [hli] at q0
              obtain ⟨⟨x, hx⟩, hz⟩ := hRi.cellAny hm' (f := 1) (by omega)
              have hR2 := hRi.turn (N := fun d => { d with parent := 0 }) (u := .int .i64 0) (f := 1) hm' (by omega) (fun _ _ => rfl) (fun _ => rfl)
              rw [← hsn] at hR2
              obtain ⟨-, -, cur, hrow⟩ := hRi.row
              have hkv2 := hkv.aside (i := m * 9 + 1) (u := .int .i64 0) hrow (by decide)
              have hK2 := hKi.store (p := ⟨g, m * 9 + 1, none⟩) (.inl HSg.out) (.int .i64 0)
              have HR2 := Lib.hid hR2
              have Hkv2 := Lib.hid hkv2
              have HK2 := Lib.hid hK2
              clear hnum e' hy hty hsn hm' hRi hR2 hrow hkv2 hK2 hKi hkv hli
              go_wp2
              go_roundw
              case rel => exact ⟨i + 1, by go_num, by omega, HR2.out, Hkv2.out, HK2.out⟩
              case measure => simp [intOf]; omega
            · have htk : oks.take i = oks := List.take_of_length_le (by rw [← Hon.out]; omega)
              rw [htk, Hclr.out] at hRi
              have HRi := Lib.hid hRi
              have HKi := Lib.hid hKi
              clear hRi hKi hkv htk hli Hclr Hkin
              go_wp2_with fail
              go_loopw [60] (fun i wr' => ∃ j : Nat, i = .int .i64 j ∧ j ≤ n ∧ FrstAt S wr' b g c (toPar (clr l ((mp : Int) + 1)) ((mp : Int) + 1) (kids.take j)) ∧ Keeps S w wr') (fun i _ => n - (intOf i).toNat)
              case atStart => exact ⟨0, rfl, Nat.zero_le _, HRi.out, HKi.out⟩
              case round =>
                obtain ⟨j, rfl, hj, hRj, hKj⟩ := hrel
                clear HRi HKi hin hi
                have hlj : (toPar (clr l ((mp : Int) + 1)) ((mp : Int) + 1) (kids.take j)).length = l.length := by rw [toPar_length, clr_length]
                have q0 := hRj.there_
                rw [hlj] at q0
                by_cases hjn : (j : Int) < n
                · have hjk : j < kids.length := by rw [← Hn.out]; omega
                  obtain ⟨b', off, rfl, hB, hc⟩ := (HL.out.kept hKj HA.out).nums j hjk
                  obtain ⟨y, hy⟩ : ∃ y, y = kids[j] := ⟨_, rfl⟩
                  rw [← hy] at hc
                  have hty := Hkt.out y (hy ▸ List.getElem_mem hjk)
                  have hsn : toPar (clr l ((mp : Int) + 1)) ((mp : Int) + 1) (kids.take (j + 1)) = modN (toPar (clr l ((mp : Int) + 1)) ((mp : Int) + 1) (kids.take j)) y fun d => { d with parent := (mp : Int) + 1 } := by
                    rw [List.take_add_one, List.getElem?_eq_getElem hjk, ← hy]
                    exact toPar_snoc _ _ _ _
                  obtain ⟨m, rfl, hm⟩ := there_at hty
                  have hm' : m < (toPar (clr l ((mp : Int) + 1)) ((mp : Int) + 1) (kids.take j)).length := by rw [hlj]; exact hm
                  obtain ⟨⟨x, hx⟩, hz⟩ := hRj.cellAny hm' (f := 1) (by omega)
                  have hR2 := hRj.turn (N := fun d => { d with parent := (mp : Int) + 1 }) (u := .int .i64 ((mp : Int) + 1)) (f := 1) hm' (by omega) (fun _ _ => rfl) (fun _ => rfl)
                  rw [← hsn] at hR2
                  have hK2 := hKj.store (p := ⟨g, m * 9 + 1, none⟩) (.inl HSg.out) (.int .i64 ((mp : Int) + 1))
                  have HR2 := Lib.hid hR2
                  have HK2 := Lib.hid hK2
                  clear hy hty hsn hm' hRj hR2 hK2 hKj hlj
                  go_wp2
                  go_roundw
                  case rel => exact ⟨j + 1, by go_num, by omega, HR2.out, HK2.out⟩
                  case measure => simp [intOf]; omega
                · rw [List.take_of_length_le (by rw [← Hn.out]; omega)] at hRj hlj
                  have hLj := HL.out.kept hKj HA.out
                  have hL : putL l ((mp : Int) + 1) kids = modN (toPar (clr l ((mp : Int) + 1)) ((mp : Int) + 1) kids) ((mp : Int) + 1) fun d => { d with kids := kids } := by unfold putL; rw [if_pos HE.out]
                  have hm' : mp < (toPar (clr l ((mp : Int) + 1)) ((mp : Int) + 1) kids).length := by rw [hlj]; exact hmpl
                  have HPL := Lib.hid hL
                  have HRj := Lib.hid hRj
                  have HKj := Lib.hid hKj
                  have HLj := Lib.hid hLj
                  have Hm' := Lib.hid hm'
                  have Hlj := Lib.hid hlj
                  clear hL hRj hKj hLj hm' hlj
                  go_wp2_with fail
                  refine wp_region_way (late := []) (S := fun w' => w'.cell? ⟨b, 0, none⟩ = some (.slice (some ⟨g, 0, none⟩) l.length c)) (y := Way.takes [0, 1, 2, 3, 4, 5, 6] (.run 7 (.take 8 (.take 9 (.run 10 .fin))))) (by kernel_rfl) (by kernel_rfl) rfl (by kernel_rfl) q0 (fun hHeld => ?_)
                  simp only [Way.takes]
                  (repeat (first | (refine way_skip (by simp only [List.getElem?_toArray, List.getElem?_cons_succ, List.getElem?_cons_zero]; rfl) (by rfl) hHeld ?_; (try simp only [Act.put, List.setIfInBounds_toArray, List.set_cons_zero, List.set_cons_succ])) | (refine way_pass (by simp only [List.getElem?_toArray, List.getElem?_cons_succ, List.getElem?_cons_zero]; rfl) (by rfl) hHeld ?_; (try simp only [Act.put, List.setIfInBounds_toArray, List.set_cons_zero, List.set_cons_succ])) | (refine way_take (v := ?_) (by simp only [List.getElem?_toArray, List.getElem?_cons_succ, List.getElem?_cons_zero]; rfl) (by rfl) ?_ hHeld ?_; rotate_left; (focus (intro w hSw; (try dsimp only at hSw); go_simp; (try with_reducible rfl); done)); (try simp only [Act.put, List.setIfInBounds_toArray, List.set_cons_zero, List.set_cons_succ]))))
                  refine way_run (by simp only [List.getElem?_toArray, List.getElem?_cons_succ, List.getElem?_cons_zero]; rfl) (by rfl) (fun K hK => ?_)
                  go_simp
                  refine (arC (S := S) HLj.out Hn.out hn (HS.out.mono HKj.out.grows)).mono ?_
                  rintro e w2 ⟨A3, c3, rfl, hk3, hb3⟩
                  have hR3 : FrstAt S w2 b g c (toPar (clr l ((mp : Int) + 1)) ((mp : Int) + 1) kids) := FrstAt.below (w := wr.drew) ⟨HRj.out.mine, HRj.out.head, HRj.out.nodes⟩ hb3
                  have q3 := hR3.there_
                  rw [Hlj.out] at q3
                  obtain ⟨⟨x, hx⟩, hz⟩ := hR3.cellAny Hm'.out (f := 8) (by omega)
                  have hR4 := hR3.kidsSet Hm'.out hk3
                  rw [← HPL.out] at hR4
                  have q4 := hR4.there_
                  rw [putL_length] at q4
                  have hK4 : Keeps S w (w2.setCell ⟨g, mp * 9 + 8, none⟩ (.slice A3 n c3)) := (HKj.out.also (((Keeps.refl _ wr).drew).also (Keeps.ofBelow hb3))).store (p := ⟨g, mp * 9 + 8, none⟩) (.inl HSg.out) _
                  have HR4 := Lib.hid hR4.frst
                  have HK4 := Lib.hid hK4
                  have hw2 : IntKind.i64.wrap (mp : Int) = (mp : Int) := wrap_small (by omega) (by omega)
                  clear hR3 hR4 hK4 hk3 hb3
                  go_simp
                  refine hK.out _ _ q3 (fun hHeld => ?_)
                  clear hK K
                  (try simp only [Act.put, List.setIfInBounds_toArray, List.set_cons_zero, List.set_cons_succ])
                  (repeat (first | (refine way_skip (by simp only [List.getElem?_toArray, List.getElem?_cons_succ, List.getElem?_cons_zero]; rfl) (by rfl) hHeld ?_; (try simp only [Act.put, List.setIfInBounds_toArray, List.set_cons_zero, List.set_cons_succ])) | (refine way_pass (by simp only [List.getElem?_toArray, List.getElem?_cons_succ, List.getElem?_cons_zero]; rfl) (by rfl) hHeld ?_; (try simp only [Act.put, List.setIfInBounds_toArray, List.set_cons_zero, List.set_cons_succ])) | (refine way_take (v := ?_) (by simp only [List.getElem?_toArray, List.getElem?_cons_succ, List.getElem?_cons_zero]; rfl) (by rfl) ?_ hHeld ?_; rotate_left; (focus (intro w hSw; (try dsimp only at hSw); go_simp; (try with_reducible rfl); done)); (try simp only [Act.put, List.setIfInBounds_toArray, List.set_cons_zero, List.set_cons_succ]))))
                  refine way_run (by simp only [List.getElem?_toArray, List.getElem?_cons_succ, List.getElem?_cons_zero]; rfl) (by rfl) (fun K hK => ?_)
                  go_simp
                  refine hK.out _ _ q4 (fun hHeld => ?_)
                  clear hK K
                  (try simp only [Act.put, List.setIfInBounds_toArray, List.set_cons_zero, List.set_cons_succ])
                  refine way_done ?_
                  go_wp2
                  go_ret
                  rw [Told, HE.out]
                  exact ⟨rfl, HR4.out, HK4.out⟩
end
end Go.Proofs.Ytkafaceanlkjjaa
