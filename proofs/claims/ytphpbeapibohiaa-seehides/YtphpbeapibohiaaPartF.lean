/-
  What package kin's Order does with an arena that keeps its promises.
  What package slot's pick does with an arena that keeps its promises, for whatever function is handed in.
  What package slot's Slots and Of do with an arena that keeps its promises.
  What package shade's around, Whole and Closed do with an arena that keeps its promises.
  What package shade's Holds and Hidden do with an arena that keeps its promises.
  What package aim's Aim and Both do with an arena that keeps its promises.
  What package path's Parent and isClosed do with an arena that keeps its promises.
  Paths, plain: what the laws ask of a path, by places. No program is named here.
  What the function that package path's Make gathers with does.
-/
import Derived.Test.YtphpbeapibohiaaPartE
import Derived.Laws.EntriesVeiled
import Derived.Conc.MuLone
import Derived.Deep.DeepCutAuto

namespace Go.Proofs.Ytphpbeapibohiaa
open Go Go.RowKit

theorem flat_room {f : Int → List Int} {ks : List Int} {j : Nat} (hj : j < ks.length) : ((ks.take j).flatMap f).length + (f ks[j]).length ≤ (ks.flatMap f).length := by
  have e : ks = ks.take j ++ ks[j] :: ks.drop (j + 1) := by rw [List.getElem_cons_drop, List.take_append_drop]
  have e2 : (ks.flatMap f).length = ((ks.take j ++ ks[j] :: ks.drop (j + 1)).flatMap f).length := congrArg (fun z => (List.flatMap f z).length) e
  rw [e2, List.flatMap_append, List.flatMap_cons, List.length_append, List.length_append]
  omega
theorem flat_step {f : Int → List Int} {ks : List Int} {j : Nat} (hj : j < ks.length) : (ks.take (j + 1)).flatMap f = (ks.take j).flatMap f ++ f ks[j] := by
  rw [List.take_add_one, List.getElem?_eq_getElem hj, Option.toList_some, List.flatMap_append, List.flatMap_cons, List.flatMap_nil, List.append_nil]

/-- The forest's pointer, the list so far, and the function itself, in their three blocks. -/
structure Gath (Rep : (Nat → Prop) → World → Nat → List Nd → Prop) (S : Nat → Prop) (b : Nat) (l : List Nd) (B : Nat) (w : World) (v : Value) (xs : List Int) : Prop where
  rep : Rep (fun i => S i ∧ i < B) w b l
  hp : Has w B (.cells #[at_ b] 33 (0, 0))
  hq : Has w (B + 1) (.cells #[v] 24 (0, 0))
  hr : Has w (B + 2) (.cells #[.func (.func 69) #[] #[.pointer (some ⟨B, 0, none⟩), .pointer (some ⟨B + 1, 0, none⟩), .pointer (some ⟨B + 2, 0, none⟩)]] 90 (0, 0))
  pile : Pile (B + 3) w v xs
/-- What gather leaves. -/
def Gathd (Rep : (Nat → Prop) → World → Nat → List Nd → Prop) (S : Nat → Prop) (b : Nat) (l : List Nd) (B : Nat) (w : World) (v : Value) (xs : List Int) (w' : World) : Prop :=
  ∃ v', Gath Rep S b l B w' v' xs ∧ Keeps (fun i => i = B + 1 ∨ v.ownBlock = some i) w w' ∧ ∀ g, v'.ownBlock = some g → v.ownBlock = some g ∨ w.heap.size ≤ g

section
variable {Rep : (Nat → Prop) → World → Nat → List Nd → Prop} {S : Nat → Prop} {w w' : World} {b B : Nat} {l : List Nd} {v : Value} {xs : List Int}
theorem Gath.below (O : ForestOk Rep) (h : Gath Rep S b l B w v xs) (k : Below w.heap.size w w') : Gath Rep S b l B w' v xs :=
  ⟨O.since h.rep k, h.hp.below k h.hp.inside, h.hq.below k h.hq.inside, h.hr.below k h.hr.inside, h.pile.below k⟩
/-- The list is another one, in the old row or a new one. -/
theorem Gath.put (O : ForestOk Rep) (h : Gath Rep S b l B w v xs) {v' : Value} {xs' : List Int} (k : Keeps (fun i => v.ownBlock = some i) w w') (hp' : Pile (B + 3) w' v' xs') : Gath Rep S b l B (w'.setCell ⟨B + 1, 0, none⟩ v') v' xs' := by
  have hlt := h.pile.lt
  have hb := h.hp.inside
  have k2 : Keeps (fun i => v.ownBlock = some i ∨ i = B + 1) w (w'.setCell ⟨B + 1, 0, none⟩ v') := (k.wide fun _ _ hF => .inl hF).store (.inl (.inr rfl)) _
  have k3 : Keeps (fun i => i = B + 1) w' (w'.setCell ⟨B + 1, 0, none⟩ v') := Keeps.store (F := fun i => i = B + 1) (p := ⟨B + 1, 0, none⟩) (Keeps.refl _ _) (.inl rfl) _
  have hq' : Has w' (B + 1) (.cells #[v] 24 (0, 0)) := h.hq.kept k fun e => by have := (hlt _ e).1; omega
  refine ⟨O.keep h.rep k2 fun i hi _ hF => ?_, h.hp.kept k2 fun hF => ?_, ?_, h.hr.kept k2 fun hF => ?_, hp'.kept k3 fun g hg e => ?_⟩
  · rcases hF with hF | hF
    · have := (hlt _ hF).1; omega
    · omega
  · rcases hF with hF | hF
    · have := (hlt _ hF).1; omega
    · omega
  · have := hq'.stored 0 v'
    simpa using this
  · rcases hF with hF | hF
    · have := (hlt _ hF).1; omega
    · omega
  · have := (hp'.lt g hg).1; omega

set_option maxHeartbeats 8000000 in
set_option maxRecDepth 100000 in
theorem gather_any (O : ForestOk Rep) (M : ForestMore Rep) (hg : Good l) : ∀ (m : Nat) (w : World) (v : Value) (id : Int) (xs : List Int), l.length + 1 ≤ m + (parL l id).length → Gath Rep S b l B w v xs → xs.length + (ordL l id).length ≤ 1000 →
    Calls Try.prog 69 #[.int .i64 id, .pointer (some ⟨B, 0, none⟩), .pointer (some ⟨B + 1, 0, none⟩), .pointer (some ⟨B + 2, 0, none⟩)] w fun e w' => e = .returned (.tuple #[]) ∧ Gathd Rep S b l B w v (xs ++ ordL l id) w' := by
  intro m
  induction m with
  | zero =>
    intro w v id xs hm
    have := parL_len hg.tree id
    omega
  | succ m ih =>
    intro w v id xs hm h hlen
    have H := Lib.hid h
    have Hg := Lib.hid hg
    have IH := Lib.hid ih
    have hnot : ∀ (x : Bool) (w : World), (Op.unary .not (.bool x)).run Try.prog w = .ok (.bool (!x)) w := fun _ _ => rfl
    have p0 := h.hp.cell 0
    cases ht : thereB l id with
    | false =>
      have e0 : xs ++ ordL l id = xs := by rw [ordL_no ht, List.append_nil]
      have E0 := Lib.hid e0
      have Ht := Lib.hid ht
      clear ht h hg ih hm hlen e0
      go_enter Try.func69, Try.ntmps69
      go_wp2_with fail
      refine (nodeNo M H.out.rep Hg.out Ht.out).mono ?_
      rintro e w1 ⟨A1, c1, rfl, -, hb1⟩
      have hb2 : Below w.heap.size w (w1.alloc (.cells #[.int .i64 0, .int .i64 0, .int .i64 0, .int .i64 0, .int .i64 0, .bool false, .string ⟨#[]⟩, .string ⟨#[]⟩, .slice A1 0 c1] 52)) := hb1.alloc hb1.size _
      have Hb2 := Lib.hid hb2
      clear hb1 hb2
      go_wp2
      first | go_end0 | (simp only [Exit.inBlock, Exit.then]; refine bodyPost_ret (results_none rfl _ _ _) rfl ?_) | refine bodyPost_ret (results_none rfl _ _ _) rfl ?_
      rw [E0.out]
      exact ⟨rfl, v, H.out.below O Hb2.out, Keeps.of_below Hb2.out fun i hi hle => by omega, fun g hg => .inl hg⟩
    | true =>
      have hst := ordL_step hg.tree ht
      have hkid : ∀ k ∈ (nd l id).kids, l.length + 1 ≤ m + (parL l k).length := fun k hk => by
        rw [parL_kid hg.tree ht hk]
        simp only [List.length_cons]
        omega
      have hkl : (nd l id).kids.length ≤ 200 := few_nd hg.few id
      have Ht := Lib.hid ht
      have Hst := Lib.hid hst
      have Hkid := Lib.hid hkid
      have Hlen := Lib.hid hlen
      clear ht hg ih hm hst hkid hlen h
      go_enter Try.func69, Try.ntmps69
      go_wp2_with fail
      refine (nodeYes M H.out.rep Hg.out Ht.out).mono ?_
      rintro e w1 ⟨A1, c1, rfl, hk1, hb1⟩
      obtain ⟨d, hd⟩ : ∃ d, d = nd l id := ⟨_, rfl⟩
      rw [← hd] at hk1 hkl Hst Hkid
      rw [← hd]
      have hG1 := H.out.below O hb1
      obtain ⟨W2, hW2⟩ : ∃ W2, W2 = (w1.alloc (.cells #[.int .i64 d.kind, .int .i64 d.parent, .int .i64 d.host, .int .i64 d.shadow, .int .i64 d.mode, .bool d.slot, .string d.name, .string d.want, .slice A1 d.kids.length c1] 52)).alloc (.cells #[.int .i64 id] 3) := ⟨_, rfl⟩
      have hb12 : Below w1.heap.size w1 W2 := by
        rw [hW2]
        exact ((Below.refl _ w1).alloc (Nat.le_refl _) _).alloc (by simp) _
      have hG2 := hG1.below O hb12
      have hboxW : Has W2 w1.heap.size (.cells #[.int .i64 d.kind, .int .i64 d.parent, .int .i64 d.host, .int .i64 d.shadow, .int .i64 d.mode, .bool d.slot, .string d.name, .string d.want, .slice A1 d.kids.length c1] 52 (0, 0)) := by
        rw [hW2]
        exact (Has.fresh _ _).more _
      have hlitW : Has W2 (w1.heap.size + 1) (.cells #[.int .i64 id] 3 (0, 0)) := by
        rw [hW2]
        have := Has.fresh (w1.alloc (.cells #[.int .i64 d.kind, .int .i64 d.parent, .int .i64 d.host, .int .i64 d.shadow, .int .i64 d.mode, .bool d.slot, .string d.name, .string d.want, .slice A1 d.kids.length c1] 52)) (.cells #[.int .i64 id] 3)
        simpa using this
      have hs2 : W2.heap.size = w1.heap.size + 2 := by rw [hW2]; simp
      have hkP : Pile w.heap.size W2 (.slice A1 d.kids.length c1) d.kids := (Pile.of_kids hk1 fun g hg _ => hg).below hb12
      have hkin : ∀ g, (Value.slice A1 d.kids.length c1).ownBlock = some g → w.heap.size ≤ g ∧ g < w1.heap.size := (Pile.of_kids (base := w.heap.size) hk1 fun g hg _ => hg).lt
      have hvl : ∀ g, v.ownBlock = some g → B + 3 ≤ g ∧ g < w.heap.size := H.out.pile.lt
      have hBw : B + 2 < w.heap.size := H.out.hr.inside
      have hw1 := hb1.size
      have hxl : xs.length ≤ 1000000 := by have := Hlen.out; omega
      have q0 : W2.cell? ⟨B + 1, 0, none⟩ = some v := hG2.hq.cell 0
      have q1 : (w1.alloc (.cells #[.int .i64 d.kind, .int .i64 d.parent, .int .i64 d.host, .int .i64 d.shadow, .int .i64 d.mode, .bool d.slot, .string d.name, .string d.want, .slice A1 d.kids.length c1] 52)).cell? ⟨B + 1, 0, none⟩ = some v := (hG1.below O ((Below.refl _ w1).alloc (Nat.le_refl _) _)).hq.cell 0
      -- what is so behind the append and the store
      have HC : Hid (∀ g cap w3, Pile (B + 3) w3 (.slice (some ⟨g, 0, none⟩) (xs.length + 1) cap) (xs ++ [id]) → Keeps (fun i => v.ownBlock = some i) W2 w3 → (v.ownBlock = some g ∨ W2.heap.size ≤ g) →
          w3.cell? ⟨B + 1, 0, none⟩ = some v ∧ w3.frozen? ⟨B + 1, 0, none⟩ = false ∧ (w3.setCell ⟨B + 1, 0, none⟩ (.slice (some ⟨g, 0, none⟩) (xs.length + 1) cap)).cell? ⟨w1.heap.size, 8, none⟩ = some (.slice A1 d.kids.length c1) ∧
          Hid (Gath Rep S b l B (w3.setCell ⟨B + 1, 0, none⟩ (.slice (some ⟨g, 0, none⟩) (xs.length + 1) cap)) (.slice (some ⟨g, 0, none⟩) (xs.length + 1) cap) (xs ++ [id]) ∧ Keeps (fun i => i = B + 1 ∨ v.ownBlock = some i) w (w3.setCell ⟨B + 1, 0, none⟩ (.slice (some ⟨g, 0, none⟩) (xs.length + 1) cap)) ∧
            (v.ownBlock = some g ∨ w1.heap.size ≤ g) ∧ Pile w.heap.size (w3.setCell ⟨B + 1, 0, none⟩ (.slice (some ⟨g, 0, none⟩) (xs.length + 1) cap)) (.slice A1 d.kids.length c1) d.kids)) := Lib.hid fun g cap w3 hp3 hk3 hat => by
        have hq3 : Has w3 (B + 1) (.cells #[v] 24 (0, 0)) := hG2.hq.kept hk3 fun e => by have := (hvl _ e).1; omega
        have hbox3 : Has w3 w1.heap.size (.cells #[.int .i64 d.kind, .int .i64 d.parent, .int .i64 d.host, .int .i64 d.shadow, .int .i64 d.mode, .bool d.slot, .string d.name, .string d.want, .slice A1 d.kids.length c1] 52 (0, 0)) := hboxW.kept hk3 fun e => by have := (hvl _ e).2; omega
        refine ⟨hq3.cell 0, hq3.free 0, (hbox3.aside (p := ⟨B + 1, 0, none⟩) (show w1.heap.size ≠ B + 1 by omega) _).cell 8, Lib.hid ⟨hG2.put O hk3 hp3, ?_, ?_, ?_⟩⟩
        · have kk : Keeps (fun i => i = B + 1 ∨ v.ownBlock = some i) w W2 := Keeps.of_below (hb1.trans (hb12.mono hb1.size)) fun i hi hle => by omega
          exact (kk.also (hk3.wide fun _ _ h => .inr h)).store (.inl (.inl rfl)) _
        · exact hat.imp (fun h => h) fun h => by omega
        · refine (hkP.kept hk3 fun g' hg' e => ?_).kept (Keeps.store (F := fun i => i = B + 1) (p := ⟨B + 1, 0, none⟩) (Keeps.refl _ _) (.inl rfl) _) fun g' hg' e => ?_
          · have h1 := (hkin g' hg').1
            have h2 := (hvl _ e).2
            omega
          · have h1 := (hkin g' hg').1
            omega
      have HS2 : Hid (B + 3 ≤ W2.heap.size) := Lib.hid (by omega)
      have HP2 := Lib.hid hG2.pile
      have HL2 := Lib.hid hlitW
      have Hkin := Lib.hid hkin
      have Hvl := Lib.hid hvl
      obtain ⟨Ao, co, ev, -⟩ := hG2.pile.form
      have HW2 := Lib.hid hW2
      rw [HW2.out] at q0 HC HP2 HL2 HS2
      clear hd hb12 hG1 hG2 hboxW hlitW hs2 hkP hk1 hkin hvl hW2 HW2 hb1
      subst ev
      go_wp2_with (at_builtin; refine wpList_push rfl (.tmp 17) (.tmp 19) rfl rfl HP2.out rfl HL2.out hxl HS2.out ?_; intro g cap w3 hp3 hk3 hat _; obtain ⟨r0, r1, r2, HGK⟩ := HC.out g cap w3 hp3 hk3 hat)
      obtain ⟨w4, hw4⟩ : ∃ w4, w4 = w3.setCell ⟨B + 1, 0, none⟩ (.slice (some ⟨g, 0, none⟩) (xs.length + 1) cap) := ⟨_, rfl⟩
      rw [← hw4] at HGK
      rw [← hw4]
      obtain ⟨n, hn⟩ : ∃ n, n = d.kids.length := ⟨_, rfl⟩
      rw [← hn] at HGK hkl Hkin
      rw [← hn]
      have Hn := Lib.hid hn
      clear hw4 hn r0 r1 r2 hp3 hk3 hat HC HP2 HL2 HS2 q0 q1
      go_loopw [8, 24] (fun _ i wr => ∃ (j : Nat) (v' : Value), i = .int .i64 j ∧ j ≤ n ∧ Gath Rep S b l B wr v' ((xs ++ [id]) ++ (d.kids.take j).flatMap (ordL l)) ∧ Keeps (fun i => i = B + 1 ∨ (Value.slice Ao xs.length co).ownBlock = some i) w wr ∧ (∀ g, v'.ownBlock = some g → (Value.slice Ao xs.length co).ownBlock = some g ∨ w.heap.size ≤ g) ∧ (∀ g, (Value.slice A1 n c1).ownBlock = some g → v'.ownBlock ≠ some g) ∧ Pile w.heap.size wr (.slice A1 n c1) d.kids) (fun _ i _ => n - (intOf i).toNat)
      case atStart =>
        obtain ⟨h1, h2, h3, h4⟩ := HGK.out
        refine ⟨0, _, rfl, Nat.zero_le _, by simpa using h1, h2, fun g' hg' => ?_, fun g' hg' e => ?_, h4⟩
        · obtain rfl : g = g' := by simpa [Value.ownBlock] using hg'
          exact h3.imp (fun h => h) fun h => by omega
        · obtain rfl : g = g' := by simpa [Value.ownBlock] using e
          have q := Hkin.out g hg'
          rcases h3 with h3 | h3
          · have := (Hvl.out g h3).2
            omega
          · omega
      case round =>
        obtain ⟨j, v', rfl, hj, hG, hK, hat, hap, hPk⟩ := hrel
        by_cases hjn : (j : Int) < n
        · have hjk : j < d.kids.length := by rw [← Hn.out]; omega
          obtain ⟨A, c, eA, hL⟩ := hPk.form
          obtain ⟨rfl, rfl⟩ : A1 = A ∧ c1 = c := by injection eA with e1 _ e3; exact ⟨e1, e3⟩
          obtain ⟨b', off, rfl, hB, hc⟩ := hL.nums j hjk
          have hdeep := Hkid.out d.kids[j] (List.getElem_mem hjk)
          have hlen' : ((xs ++ [id]) ++ (d.kids.take j).flatMap (ordL l)).length + (ordL l d.kids[j]).length ≤ 1000 := by
            have h1 := Hlen.out
            rw [Hst.out] at h1
            have h2 := flat_room (f := ordL l) hjk
            simp only [List.length_append, List.length_cons, List.length_nil] at h1 ⊢
            omega
          have hstep := flat_step (f := ordL l) hjk
          obtain ⟨y, hy⟩ : ∃ y, y = d.kids[j] := ⟨_, rfl⟩
          rw [← hy] at hc hdeep hlen' hstep
          have C := Lib.hid (IH.out wr v' y _ hdeep hG hlen')
          have f0 := hG.hr.cell 0
          have Hstep := Lib.hid hstep
          have Hhap := Lib.hid hap
          have Hhat := Lib.hid hat
          have HPk := Lib.hid hPk
          have hBr := hG.hr.inside
          clear hdeep hlen' hstep hy hL eA hG hap hat hPk HGK hB
          go_wp2_with fail
          refine C.out.mono ?_
          rintro e w5 ⟨rfl, v5, hG5, hK5, hat5⟩
          go_wp2
          go_roundw
          case rel =>
            have hPl := HPk.out.lt
            refine ⟨j + 1, v5, by go_num, by omega, ?_, hK.trans hK5 fun i hi hF => ?_, fun g' hg' => ?_, fun g' hg' e => ?_, HPk.out.kept hK5 fun g' hg' e => ?_⟩
            · rw [Hstep.out, ← List.append_assoc]
              exact hG5
            · rcases hF with hF | hF
              · exact .inl hF
              · rcases Hhat.out i hF with h | h
                · exact .inr h
                · omega
            · rcases hat5 g' hg' with h | h
              · exact Hhat.out g' h
              · exact .inr (Nat.le_trans hK.grows h)
            · rcases hat5 g' e with h | h
              · exact Hhap.out g' hg' h
              · have := (hPl g' hg').2
                omega
            · rcases e with e | e
              · have := (hPl g' hg').1
                omega
              · exact Hhap.out g' hg' e
          case measure => simp [intOf]; omega
        · have he : (xs ++ [id]) ++ (d.kids.take j).flatMap (ordL l) = xs ++ ordL l id := by
            rw [List.take_of_length_le (by rw [← Hn.out]; omega), Hst.out, List.append_assoc, List.singleton_append]
          rw [he] at hG
          clear he
          go_wp2
          first | go_end0 | (simp only [Exit.inBlock, Exit.then]; refine bodyPost_ret (results_none rfl _ _ _) rfl ?_) | refine bodyPost_ret (results_none rfl _ _ _) rfl ?_
          exact ⟨rfl, v', hG, hK, hat⟩

set_option maxHeartbeats 2000000 in
theorem kinOrder (O : ForestOk Rep) (M : ForestMore Rep) (id : Int) (h : Rep S w b l) (hg : Good l) :
    Calls Try.prog 63 #[at_ b, .int .i64 id] w fun e w' => ∃ v, e = .returned v ∧ Pile w.heap.size w' v (ordL l id) ∧ Below w.heap.size w w' := by
  have hmf : ∀ (fn : Fn) (first cap : Array Value) (w : World), (Instr.makeFunc fn first cap).run Try.prog w = .ok (.func fn first cap) w := fun _ _ _ _ => rfl
  have hlen : ([] : List Int).length + (ordL l id).length ≤ 1000 := by
    have := ordL_len hg.tree id
    have := hg.len
    simp
    omega
  obtain ⟨W, hW⟩ : ∃ W, W = ((w.alloc (.cells #[at_ b] 33)).alloc (.cells #[.slice none 0 0] 24)).alloc (.cells #[.func (.func 69) #[] #[.pointer (some ⟨w.heap.size, 0, none⟩), .pointer (some ⟨w.heap.size + 1, 0, none⟩), .pointer (some ⟨w.heap.size + 1 + 1, 0, none⟩)]] 90) := ⟨_, rfl⟩
  have hb : Below w.heap.size w W := by
    rw [hW]
    exact (((Below.refl _ w).alloc (Nat.le_refl _) _).alloc (by simp) _).alloc (by simp; omega) _
  have hG : Gath Rep S b l w.heap.size W (.slice none 0 0) [] := by
    refine ⟨O.since (O.wide h fun i hi hlt => ⟨hi, hlt⟩) hb, ?_, ?_, ?_, Pile.nil _ _⟩
    · rw [hW]
      exact ((Has.fresh _ _).more _).more _
    · rw [hW]
      have := Has.fresh (w.alloc (.cells #[at_ b] 33)) (.cells #[.slice none 0 0] 24)
      rw [show (w.alloc (.cells #[at_ b] 33)).heap.size = w.heap.size + 1 by simp] at this
      exact this.more _
    · rw [hW]
      have := Has.fresh ((w.alloc (.cells #[at_ b] 33)).alloc (.cells #[.slice none 0 0] 24)) (.cells #[.func (.func 69) #[] #[.pointer (some ⟨w.heap.size, 0, none⟩), .pointer (some ⟨w.heap.size + 1, 0, none⟩), .pointer (some ⟨w.heap.size + 1 + 1, 0, none⟩)]] 90)
      rw [show ((w.alloc (.cells #[at_ b] 33)).alloc (.cells #[.slice none 0 0] 24)).heap.size = w.heap.size + 2 by simp] at this
      exact this
  have hs : w.heap.size ≤ W.heap.size := hb.size
  have C := Lib.hid (gather_any O M hg (l.length + 1) W (.slice none 0 0) id [] (by omega) hG hlen)
  have Hb := Lib.hid hb
  have HW := Lib.hid hW
  clear h hg hlen hb hG hW
  go_enter Try.func63, Try.ntmps63
  go_wp2_with fail
  rw [← HW.out]
  refine C.out.mono ?_
  rintro e w1 ⟨rfl, v, hG, hK, -⟩
  have c0 : w1.cell? ⟨w.heap.size + 1, 0, none⟩ = some v := hG.hq.cell 0
  have HF : Hid (Pile w.heap.size w1 v (ordL l id) ∧ Below w.heap.size w w1) := Lib.hid ⟨hG.pile.from_ (by omega), below_then Hb.out hK hs fun i hi hF => by
    rcases hF with hF | hF
    · omega
    · cases hF⟩
  clear hG hK C HW Hb hs
  go_wp2
  go_ret
  exact ⟨v, rfl, HF.out.1, HF.out.2⟩
end
end Go.Proofs.Ytphpbeapibohiaa

namespace Go.Proofs.Ytphpbeapibohiaa
open Go Go.RowKit

section
variable {Rep : (Nat → Prop) → World → Nat → List Nd → Prop} {S : Nat → Prop} {w : World} {b : Nat} {l : List Nd}
set_option maxHeartbeats 8000000 in
set_option maxRecDepth 100000 in
theorem slPick (O : ForestOk Rep) (M : ForestMore Rep) (fn : Nat) (cap : Array Value) (q : Int → Bool) (xs : List Int) (A : Option Addr) (n c : Nat) (hn : n = xs.length) (hl : n ≤ 1000000) (hL : ListIn w A c xs) (h : Rep S w b l) (hg : Good l)
    (hth : ∀ x ∈ xs, thereB l x = true)
    (hE : ∀ (x d : Value) (w : World), (callFunc fn (#[x, d] ++ cap)).run Try.prog w = .ok (.enter fn (#[x, d] ++ cap)) w)
    (hf : ∀ x ∈ xs, ∀ w1 A1 c1, Below w.heap.size w w1 → Rep S w1 b l → Calls Try.prog fn (#[.int .i64 x, (.agg #[.int .i64 (nd l x).kind, .int .i64 (nd l x).parent, .int .i64 (nd l x).host, .int .i64 (nd l x).shadow, .int .i64 (nd l x).mode, .bool (nd l x).slot, .string (nd l x).name, .string (nd l x).want, .slice A1 (nd l x).kids.length c1])] ++ cap) w1 fun e w2 => e = .returned (.bool (q x)) ∧ Below w1.heap.size w1 w2) :
    Calls Try.prog 52 #[at_ b, .slice A n c, .func (.func fn) #[] cap] w fun e w' => ∃ v, e = .returned v ∧ Pile w.heap.size w' v (xs.filter q) ∧ Below w.heap.size w w' := by
  have H := Lib.hid h
  have Hg := Lib.hid hg
  have Hn := Lib.hid hn
  have HL := Lib.hid hL
  have Hth := Lib.hid hth
  have Hf := Lib.hid hf
  clear h hg hn hL hth hf
  go_enter Try.func52, Try.ntmps52
  go_wp2_with fail
  go_loopw [7, 14] (fun o k wr => ∃ j : Nat, k = .int .i64 j ∧ j ≤ n ∧ Pile w.heap.size wr o ((xs.take j).filter q) ∧ Below w.heap.size w wr) (fun _ k _ => n - (intOf k).toNat)
  case atStart => exact ⟨0, rfl, Nat.zero_le _, Pile.nil _ _, Below.refl _ _⟩
  case round =>
    obtain ⟨j, rfl, hj, hPo, hbr⟩ := hrel
    obtain ⟨Ao, co, rfl, -⟩ := hPo.form
    by_cases hjn : (j : Int) < n
    · have hjk : j < xs.length := by rw [← Hn.out]; omega
      obtain ⟨b', off, rfl, hB, hc0⟩ := HL.out.nums j hjk
      have hc : wr.cell? ⟨b', off + j, none⟩ = some (.int .i64 xs[j]) := (hbr.cell (p := ⟨b', off + j, none⟩) hB).trans hc0
      have ht := Hth.out xs[j] (List.getElem_mem hjk)
      have hfx := Hf.out xs[j] (List.getElem_mem hjk)
      have htk : xs.take (j + 1) = xs.take j ++ [xs[j]] := by rw [List.take_add_one, List.getElem?_eq_getElem hjk]; rfl
      have hxl : ((xs.take j).filter q).length ≤ 1000000 := by
        have h1 := List.length_filter_le q (xs.take j)
        rw [List.length_take] at h1
        omega
      obtain ⟨y, hy⟩ : ∃ y, y = xs[j] := ⟨_, rfl⟩
      rw [← hy] at hc ht hfx htk
      have hst : (xs.take (j + 1)).filter q = (xs.take j).filter q ++ [y].filter q := by rw [htk, List.filter_append]
      obtain ⟨zs, hzs⟩ : ∃ zs, zs = (xs.take j).filter q := ⟨_, rfl⟩
      rw [← hzs] at hst hxl hPo
      rw [← hzs]
      have Ht := Lib.hid ht
      have Hst := Lib.hid hst
      have Hfx := Lib.hid hfx
      have HPo := Lib.hid hPo
      have Hbr := Lib.hid hbr
      have Hrep := Lib.hid (O.since H.out hbr)
      clear ht hst hc0 hy hzs hjk hfx htk hPo hbr hB
      go_wp2_with fail
      refine (nodeYes M Hrep.out Hg.out Ht.out).mono ?_
      rintro e w2 ⟨A1, c1, rfl, -, hb2⟩
      have hfy := Hfx.out
      obtain ⟨d, hd⟩ : ∃ d, d = nd l y := ⟨_, rfl⟩
      rw [← hd] at hfy
      rw [← hd]
      have hB2 : Below w.heap.size w w2 := Hbr.out.trans (hb2.mono Hbr.out.size)
      have hB3 : Below w.heap.size w (w2.alloc (.cells #[.int .i64 d.kind, .int .i64 d.parent, .int .i64 d.host, .int .i64 d.shadow, .int .i64 d.mode, .bool d.slot, .string d.name, .string d.want, .slice A1 d.kids.length c1] 52)) := hB2.alloc hB2.size _
      have hR3 : Rep S (w2.alloc (.cells #[.int .i64 d.kind, .int .i64 d.parent, .int .i64 d.host, .int .i64 d.shadow, .int .i64 d.mode, .bool d.slot, .string d.name, .string d.want, .slice A1 d.kids.length c1] 52)) b l := O.since (O.since Hrep.out hb2) ((Below.refl _ w2).alloc (Nat.le_refl _) _)
      have C := Lib.hid (hfy (w2.alloc (.cells #[.int .i64 d.kind, .int .i64 d.parent, .int .i64 d.host, .int .i64 d.shadow, .int .i64 d.mode, .bool d.slot, .string d.name, .string d.want, .slice A1 d.kids.length c1] 52)) A1 c1 hB3 hR3)
      have HP3 := Lib.hid ((HPo.out.below hb2).alloc (.cells #[.int .i64 d.kind, .int .i64 d.parent, .int .i64 d.host, .int .i64 d.shadow, .int .i64 d.mode, .bool d.slot, .string d.name, .string d.want, .slice A1 d.kids.length c1] 52))
      have HB3 := Lib.hid hB3
      have hE' := hE (.int .i64 y) (.agg #[.int .i64 d.kind, .int .i64 d.parent, .int .i64 d.host, .int .i64 d.shadow, .int .i64 d.mode, .bool d.slot, .string d.name, .string d.want, .slice A1 d.kids.length c1])
      clear hfy hd hB2 hB3 hR3 hb2 Hfx HPo Hbr Hrep hE
      go_wp2_with fail
      refine C.out.mono ?_
      rintro e w4 ⟨rfl, hb4⟩
      have hP4 : Pile w.heap.size w4 (.slice Ao zs.length co) zs := HP3.out.below hb4
      have hB4 : Below w.heap.size w w4 := HB3.out.trans (hb4.mono HB3.out.size)
      clear hb4 C HP3 HB3 hE'
      cases hq : q y with
      | true =>
        have hfin : zs ++ [y] = (xs.take (j + 1)).filter q := by rw [Hst.out, List.filter_cons_of_pos hq]; rfl
        have Hfin := Lib.hid hfin
        have hown : ∀ g, (Value.slice Ao zs.length co).ownBlock = some g → w.heap.size ≤ g ∧ g < w4.heap.size := hP4.lt
        have HP2 : Hid (Pile w.heap.size (w4.alloc (.cells #[.int .i64 y] 3)) (.slice Ao zs.length co) zs) := Lib.hid (hP4.alloc _)
        have HB2 : Hid (Has (w4.alloc (.cells #[.int .i64 y] 3)) w4.heap.size (.cells #[.int .i64 y] 3 (0, 0))) := Lib.hid (Has.fresh _ _)
        have HS2 : Hid (w.heap.size ≤ (w4.alloc (.cells #[.int .i64 y] 3)).heap.size) := Lib.hid (by have := hB4.size; simp; omega)
        have HE : Hid (∀ w5, Keeps (fun i => (Value.slice Ao zs.length co).ownBlock = some i) (w4.alloc (.cells #[.int .i64 y] 3)) w5 → Below w.heap.size w w5) := Lib.hid fun w5 hk5 =>
          below_then (hB4.alloc hB4.size _) hk5 (by have := hB4.size; simp; omega) fun i hi e => by have := (hown _ e).1; omega
        clear hfin hown hP4 hB4 hq Hst
        go_wp2_with (at_builtin; refine wpList_push rfl (.tmp 28) (.tmp 30) rfl rfl HP2.out rfl HB2.out hxl HS2.out ?_; intro g cap' w5 hp5 hk5 _ _)
        go_roundw
        case rel => exact ⟨j + 1, by go_num, by omega, by rw [← Hfin.out]; simpa using hp5, HE.out w5 hk5⟩
        case measure => simp [intOf]; omega
      | false =>
        have hfin : zs = (xs.take (j + 1)).filter q := by rw [Hst.out, List.filter_cons_of_neg (by rw [hq]; decide)]; simp
        have Hfin := Lib.hid hfin
        have HF : Hid (Pile w.heap.size w4 (.slice Ao zs.length co) zs ∧ Below w.heap.size w w4) := Lib.hid ⟨hP4, hB4⟩
        clear hfin hP4 hB4 hq Hst
        go_wp2
        go_roundw
        case rel => exact ⟨j + 1, by go_num, by omega, by rw [← Hfin.out]; exact HF.out.1, HF.out.2⟩
        case measure => simp [intOf]; omega
    · have he : (xs.take j).filter q = xs.filter q := by rw [List.take_of_length_le (by rw [← Hn.out]; omega)]
      rw [he] at hPo
      rw [he]
      clear he
      go_wp2
      go_ret
      exact ⟨_, rfl, hPo, hbr⟩
end
end Go.Proofs.Ytphpbeapibohiaa

namespace Go.Proofs.Ytphpbeapibohiaa
open Go Go.RowKit

section
variable {Rep : (Nat → Prop) → World → Nat → List Nd → Prop} {S : Nat → Prop} {w : World} {b : Nat} {l : List Nd}
theorem slSlots1 (x : Int) (d : Nd) (A1 : Option Addr) (c1 : Nat) (w : World) :
    Calls Try.prog 64 #[.int .i64 x, (.agg #[.int .i64 d.kind, .int .i64 d.parent, .int .i64 d.host, .int .i64 d.shadow, .int .i64 d.mode, .bool d.slot, .string d.name, .string d.want, .slice A1 d.kids.length c1])] w fun e w' => e = .returned (.bool d.slot) ∧ Below w.heap.size w w' := by
  have hb : Below w.heap.size w (w.alloc (.cells #[.int .i64 d.kind, .int .i64 d.parent, .int .i64 d.host, .int .i64 d.shadow, .int .i64 d.mode, .bool d.slot, .string d.name, .string d.want, .slice A1 d.kids.length c1] 52)) := (Below.refl _ w).alloc (Nat.le_refl _) _
  have hB := Lib.hid hb
  clear hb
  go_enter Try.func64, Try.ntmps64
  go_wp2
  go_ret
  exact ⟨rfl, hB.out⟩
set_option maxHeartbeats 1000000 in
theorem slSlots (O : ForestOk Rep) (M : ForestMore Rep) (id : Int) (h : Rep S w b l) (hg : Good l) :
    Calls Try.prog 53 #[at_ b, .int .i64 id] w fun e w' => ∃ v, e = .returned v ∧ Pile w.heap.size w' v (slotsL l id) ∧ Below w.heap.size w w' := by
  have C := Lib.hid (kinOrder O M id h hg)
  have H := Lib.hid h
  have Hg := Lib.hid hg
  have hRl : (ordL l id).length ≤ 1000000 := Nat.le_trans (Nat.le_trans (ordL_len hg.tree id) hg.len) (by decide)
  have hth : ∀ x ∈ ordL l id, thereB l x = true := fun x hx => ordL_there hg.tree hx
  have hsl : slotsL l id = (ordL l id).filter fun x => (nd l x).slot := rfl
  rw [hsl]
  obtain ⟨R, hR⟩ : ∃ R, R = ordL l id := ⟨_, rfl⟩
  rw [← hR] at hRl C hth
  rw [← hR]
  have Hth := Lib.hid hth
  clear h hg hR hsl hth
  go_enter Try.func53, Try.ntmps53
  go_wp2_with fail
  refine C.out.mono ?_
  rintro e w1 ⟨v, rfl, hP, hb⟩
  obtain ⟨A, c, rfl, hL⟩ := hP.form
  have HL := Lib.hid hL
  have Hb := Lib.hid hb
  have Hrep := Lib.hid (O.since H.out hb)
  clear C hP hL hb
  go_wp2_with fail
  refine (slPick O M 64 #[] (fun x => (nd l x).slot) R A R.length c rfl hRl HL.out Hrep.out Hg.out Hth.out (fun x d w => by rw [Array.append_empty]; exact MuLone.run_callFunc_enter Try.func64 (by kernel_rfl) rfl _ w) (fun x hx w1 A1 c1 hb hr => by rw [Array.append_empty]; exact slSlots1 x (nd l x) A1 c1 w1)).mono ?_
  rintro e w2 ⟨v, rfl, hP, hb2⟩
  have HF : Hid (Pile w.heap.size w2 v (R.filter fun x => (nd l x).slot) ∧ Below w.heap.size w w2) := Lib.hid ⟨hP.from_ Hb.out.size, Hb.out.trans (hb2.mono Hb.out.size)⟩
  obtain ⟨A2, c2, rfl, -⟩ := hP.form
  clear hP hb2 Hb Hrep
  go_wp2
  go_ret
  exact ⟨_, rfl, HF.out.1, HF.out.2⟩
theorem slOf1 (x : Int) (d e0 : Nd) (A1 A2 : Option Addr) (c1 c2 : Nat) {B : Nat} (w : World) (hB : Has w B (.cells #[.int .i64 e0.kind, .int .i64 e0.parent, .int .i64 e0.host, .int .i64 e0.shadow, .int .i64 e0.mode, .bool e0.slot, .string e0.name, .string e0.want, .slice A2 e0.kids.length c2] 52 (0, 0))) :
    Calls Try.prog 54 #[.int .i64 x, (.agg #[.int .i64 d.kind, .int .i64 d.parent, .int .i64 d.host, .int .i64 d.shadow, .int .i64 d.mode, .bool d.slot, .string d.name, .string d.want, .slice A1 d.kids.length c1]), .pointer (some ⟨B, 0, none⟩)] w fun e w' => e = .returned (.bool (d.name.toList == e0.want.toList)) ∧ Below w.heap.size w w' := by
  have hb : Below w.heap.size w (w.alloc (.cells #[.int .i64 d.kind, .int .i64 d.parent, .int .i64 d.host, .int .i64 d.shadow, .int .i64 d.mode, .bool d.slot, .string d.name, .string d.want, .slice A1 d.kids.length c1] 52)) := (Below.refl _ w).alloc (Nat.le_refl _) _
  have q7 : (w.alloc (.cells #[.int .i64 d.kind, .int .i64 d.parent, .int .i64 d.host, .int .i64 d.shadow, .int .i64 d.mode, .bool d.slot, .string d.name, .string d.want, .slice A1 d.kids.length c1] 52)).cell? ⟨B, 7, none⟩ = some (.string e0.want) := (hB.more _).cell 7
  have Hb := Lib.hid hb
  clear hb hB
  go_enter Try.func54, Try.ntmps54
  go_wp2
  go_ret
  exact ⟨rfl, Hb.out⟩
set_option maxHeartbeats 4000000 in
set_option maxRecDepth 100000 in
theorem slOf (O : ForestOk Rep) (M : ForestMore Rep) (id : Int) (h : Rep S w b l) (hg : Good l) :
    Calls Try.prog 37 #[at_ b, .int .i64 id] w fun e w' => e = .returned (.int .i64 (ofL l id)) ∧ Below w.heap.size w w' := by
  have hmf : ∀ (fn : Fn) (first cap : Array Value) (w : World), (Instr.makeFunc fn first cap).run Try.prog w = .ok (.func fn first cap) w := fun _ _ _ _ => rfl
  have H := Lib.hid h
  have Hg := Lib.hid hg
  obtain ⟨R, hR⟩ : ∃ R, R = ofL l id := ⟨_, rfl⟩
  rw [← hR]
  have HR := Lib.hid hR
  clear h hg hR
  go_enter Try.func37, Try.ntmps37
  go_wp2_with fail
  refine (M.node S w b l id H.out Hg.out).mono ?_
  rintro e w1 ⟨d, A1, c1, rfl, hd, -, hb1⟩
  obtain ⟨tb, htb⟩ : ∃ tb, tb = thereB l id := ⟨_, rfl⟩
  rw [← htb]
  have hb2 : Below w.heap.size w (w1.alloc (.cells #[.int .i64 d.kind, .int .i64 d.parent, .int .i64 d.host, .int .i64 d.shadow, .int .i64 d.mode, .bool d.slot, .string d.name, .string d.want, .slice A1 d.kids.length c1] 52)) := hb1.alloc hb1.size _
  by_cases hk : d.kind = 2
  · have ht : thereB l id = true := by
      cases ht : thereB l id with
      | true => rfl
      | false =>
        rw [ht, if_neg (by decide)] at hd
        rw [hd] at hk
        exact absurd hk (by decide)
    rw [ht, if_pos rfl] at hd
    have hof : R = headL (namedL l d.want (slotsL l (shOf l d.parent))) := by
      rw [HR.out, hd]
      exact ofL_at ht (by rw [← hd]; exact hk)
    have Hof := Lib.hid hof
    have zk : (d.kind != 2) = false := by simpa using hk
    have hbox : Has (w1.alloc (.cells #[.int .i64 d.kind, .int .i64 d.parent, .int .i64 d.host, .int .i64 d.shadow, .int .i64 d.mode, .bool d.slot, .string d.name, .string d.want, .slice A1 d.kids.length c1] 52)) w1.heap.size (.cells #[.int .i64 d.kind, .int .i64 d.parent, .int .i64 d.host, .int .i64 d.shadow, .int .i64 d.mode, .bool d.slot, .string d.name, .string d.want, .slice A1 d.kids.length c1] 52 (0, 0)) := Has.fresh _ _
    obtain ⟨g1, hg1⟩ : ∃ g, g = w1.heap.size := ⟨_, rfl⟩
    rw [← hg1] at hbox
    obtain ⟨W1, hW1⟩ : ∃ W, W = w1.alloc (.cells #[.int .i64 d.kind, .int .i64 d.parent, .int .i64 d.host, .int .i64 d.shadow, .int .i64 d.mode, .bool d.slot, .string d.name, .string d.want, .slice A1 d.kids.length c1] 52) := ⟨_, rfl⟩
    rw [← hW1] at hbox hb2
    have x0 : W1.cell? ⟨g1, 0, none⟩ = some (.int .i64 d.kind) := hbox.cell 0
    have x1 : W1.cell? ⟨g1, 1, none⟩ = some (.int .i64 d.parent) := hbox.cell 1
    have Hb2 := Lib.hid hb2
    have Hbox := Lib.hid hbox
    have Hrep := Lib.hid (O.since H.out hb2)
    have HW1 := Lib.hid hW1
    have Hg1 := Lib.hid hg1
    clear hd hof hbox hb1 hb2 ht htb hW1 hg1 HR hk
    go_upto_region 2 with fail
    rw [← HW1.out, ← Hg1.out]
    clear HW1 Hg1
    go_wp2_with fail
    refine (M.node S W1 b l d.parent Hrep.out Hg.out).mono ?_
    rintro e w3 ⟨d3, A3, c3, rfl, hd3, -, hb3⟩
    have hsh : shOf l d.parent = d3.shadow := by
      unfold shOf
      rw [hd3]
      split <;> rfl
    have hb4 : Below W1.heap.size W1 (w3.alloc (.cells #[.int .i64 d3.kind, .int .i64 d3.parent, .int .i64 d3.host, .int .i64 d3.shadow, .int .i64 d3.mode, .bool d3.slot, .string d3.name, .string d3.want, .slice A3 d3.kids.length c3] 52)) := hb3.alloc hb3.size _
    have hbox4 := Hbox.out.below hb4 Hbox.out.inside
    have HR4 := Lib.hid (O.since Hrep.out hb4)
    have Hb4 := Lib.hid (Hb2.out.trans (hb4.mono Hb2.out.size))
    have Hbox4 := Lib.hid hbox4
    have x3 : (w3.alloc (.cells #[.int .i64 d3.kind, .int .i64 d3.parent, .int .i64 d3.host, .int .i64 d3.shadow, .int .i64 d3.mode, .bool d3.slot, .string d3.name, .string d3.want, .slice A3 d3.kids.length c3] 52)).cell? ⟨w3.heap.size, 3, none⟩ = some (.int .i64 d3.shadow) := (Has.fresh w3 (.cells #[.int .i64 d3.kind, .int .i64 d3.parent, .int .i64 d3.host, .int .i64 d3.shadow, .int .i64 d3.mode, .bool d3.slot, .string d3.name, .string d3.want, .slice A3 d3.kids.length c3] 52)).cell 3
    rw [hsh] at Hof
    obtain ⟨tb3, htb3⟩ : ∃ tb, tb = thereB l d.parent := ⟨_, rfl⟩
    rw [← htb3]
    clear hd3 hsh hb3 hb4 hbox4 htb3 Hb2 Hbox Hrep x0 x1
    go_wp2_with fail
    refine (slSlots O M d3.shadow HR4.out Hg.out).mono ?_
    rintro e w5 ⟨v, rfl, hP, hb5⟩
    have hsl : (slotsL l d3.shadow).length ≤ 1000000 := Nat.le_trans (Nat.le_trans (slots_len Hg.out.tree d3.shadow) Hg.out.len) (by decide)
    have hth : ∀ x ∈ slotsL l d3.shadow, thereB l x = true := fun x hx => ordL_there Hg.out.tree (List.mem_filter.1 hx).1
    obtain ⟨xs, hxs⟩ : ∃ xs, xs = slotsL l d3.shadow := ⟨_, rfl⟩
    rw [← hxs] at hsl hth hP Hof
    obtain ⟨A5, c5, rfl, hL⟩ := hP.form
    have HL := Lib.hid hL
    have Hth := Lib.hid hth
    have HR5 := Lib.hid (O.since HR4.out hb5)
    have Hbox5 := Lib.hid (Hbox4.out.below hb5 Hbox4.out.inside)
    have Hb5 := Lib.hid (Hb4.out.trans (hb5.mono Hb4.out.size))
    clear hP hL hth hb5 hxs HR4 Hb4 Hbox4
    go_wp2_with fail
    refine (slPick O M 54 #[.pointer (some ⟨g1, 0, none⟩)] (fun x => (nd l x).name.toList == d.want.toList) xs A5 xs.length c5 rfl hsl HL.out HR5.out Hg.out Hth.out
      (fun x d w => MuLone.run_callFunc_enter Try.func54 (by kernel_rfl) rfl _ w)
      (fun x hx w6 A6 c6 hb6 hr6 => slOf1 x (nd l x) d A6 A1 c6 c1 w6 (Hbox5.out.below hb6 Hbox5.out.inside))).mono ?_
    rintro e w7 ⟨v, rfl, hP, hb7⟩
    have Hb7 := Lib.hid (Hb5.out.trans (hb7.mono Hb5.out.size))
    have hnl : (namedL l d.want xs).length ≤ 1000000 := Nat.le_trans (List.length_filter_le _ _) hsl
    have hnm : (xs.filter fun x => (nd l x).name.toList == d.want.toList) = namedL l d.want xs := rfl
    rw [hnm] at hP
    obtain ⟨zs, hzs⟩ : ∃ zs, zs = namedL l d.want xs := ⟨_, rfl⟩
    rw [← hzs] at hP Hof hnl
    obtain ⟨A7, c7, rfl, hL7⟩ := hP.form
    clear hnm hzs hP hb7 Hb5 Hbox5 HR5 HL Hth
    cases zs with
    | nil =>
      have e0 : R = 0 := Hof.out
      have E0 := Lib.hid e0
      clear e0 hL7
      go_wp2
      go_ret
      rw [E0.out]
      exact ⟨rfl, Hb7.out⟩
    | cons y r =>
      have e0 : R = y := Hof.out
      obtain ⟨b', off, rfl, -, hc⟩ := hL7.nums 0 (by simp)
      have hc' : w7.cell? ⟨b', off, none⟩ = some (.int .i64 y) := hc
      have E0 := Lib.hid e0
      obtain ⟨n, hn⟩ : ∃ n, n = r.length := ⟨_, rfl⟩
      rw [show (y :: r).length = n + 1 by rw [hn]; rfl] at hnl
      rw [show (y :: r).length = n + 1 by rw [hn]; rfl]
      have z1 : (((n : Int) + 1) == 0) = false := by rw [beq_eq_false_iff_ne]; omega
      clear e0 hL7 hc hn Hof
      go_wp2
      go_ret
      rw [E0.out]
      exact ⟨rfl, Hb7.out⟩
  · have e0 : R = 0 := by
      rw [HR.out]
      cases ht : thereB l id with
      | false => exact ofL_no ht
      | true =>
        rw [ht, if_pos rfl] at hd
        exact ofL_kind (by rw [← hd]; exact hk)
    have zk : (d.kind != 2) = true := by simpa using hk
    have x0 : (w1.alloc (.cells #[.int .i64 d.kind, .int .i64 d.parent, .int .i64 d.host, .int .i64 d.shadow, .int .i64 d.mode, .bool d.slot, .string d.name, .string d.want, .slice A1 d.kids.length c1] 52)).cell? ⟨w1.heap.size, 0, none⟩ = some (.int .i64 d.kind) := (Has.fresh w1 (.cells #[.int .i64 d.kind, .int .i64 d.parent, .int .i64 d.host, .int .i64 d.shadow, .int .i64 d.mode, .bool d.slot, .string d.name, .string d.want, .slice A1 d.kids.length c1] 52)).cell 0
    have E0 := Lib.hid e0
    have Hb2 := Lib.hid hb2
    clear e0 hd hk htb hb1 hb2 HR
    go_wp2
    go_ret
    rw [E0.out]
    exact ⟨rfl, Hb2.out⟩
end
end Go.Proofs.Ytphpbeapibohiaa

namespace Go.Proofs.Ytphpbeapibohiaa
open Go Go.RowKit

section
variable {Rep : (Nat → Prop) → World → Nat → List Nd → Prop} {S : Nat → Prop} {w : World} {b : Nat} {l : List Nd}
set_option maxHeartbeats 4000000 in
set_option maxRecDepth 100000 in
theorem shAround (O : ForestOk Rep) (M : ForestMore Rep) (id : Int) (h : Rep S w b l) (hg : Good l) :
    Calls Try.prog 57 #[at_ b, .int .i64 id] w fun e w' => ∃ v, e = .returned v ∧ Pile w.heap.size w' v (arL l id) ∧ Below w.heap.size w w' := by
  have H := Lib.hid h
  have Hg := Lib.hid hg
  have hnot : ∀ (x : Bool) (w : World), (Op.unary .not (.bool x)).run Try.prog w = .ok (.bool (!x)) w := fun _ _ => rfl
  have hRl : (arL l id).length ≤ 128 := Nat.le_trans (arL_len l id) hg.len
  have hll := hg.len
  obtain ⟨R, hR⟩ : ∃ R, R = arL l id := ⟨_, rfl⟩
  rw [← hR] at hRl
  rw [← hR]
  have hR0 : ([] : List Int) ++ arN l (l.length - 0) id = R := by rw [hR]; rfl
  have HR0 := Lib.hid hR0
  clear h hg hR hR0
  go_enter Try.func57, Try.ntmps57
  go_wp2_with fail
  refine (M.len S w b l H.out Hg.out).mono ?_
  rintro e w0 ⟨rfl, hb0⟩
  have Hb0 := Lib.hid hb0
  clear hb0
  go_wp2_with fail
  go_loopw [1, 5, 10] (fun a o k wr => ∃ (i : Int) (j : Nat) (xs : List Int), a = .int .i64 i ∧ k = .int .i64 j ∧ j ≤ l.length ∧ xs ++ arN l (l.length - j) i = R ∧ Pile w.heap.size wr o xs ∧ Below w.heap.size w wr) (fun _ _ k _ => l.length - (intOf k).toNat)
  case atStart => exact ⟨id, 0, [], rfl, rfl, Nat.zero_le _, HR0.out, Pile.nil _ _, Hb0.out⟩
  case round =>
    obtain ⟨i, j, xs, rfl, rfl, hj, hxs, hP, hb⟩ := hrel
    have Hxs := Lib.hid hxs
    have hxl : xs.length ≤ 1000000 := by have := app_len hxs; omega
    have Hrep := Lib.hid (O.since H.out hb)
    clear HR0 Hb0 hxs
    obtain ⟨Ao, co, rfl, -⟩ := hP.form
    by_cases hjl : (j : Int) < l.length
    · have HP := Lib.hid hP
      have Hb := Lib.hid hb
      clear hP hb
      go_wp2_with fail
      refine (kinRoot O M i Hrep.out Hg.out).mono ?_
      rintro e w1 ⟨rfl, hb1⟩
      have Hrep1 := Lib.hid (O.since Hrep.out hb1)
      have HP1 := Lib.hid (HP.out.below hb1)
      have Hb1 := Lib.hid (Hb.out.trans (hb1.mono Hb.out.size))
      clear hb1 HP Hb Hrep
      cases ht : thereB l i with
      | false =>
        have e0 := rootL_no ht
        rw [e0]
        have hfin : xs = R := by
          have := Hxs.out
          rw [ar_no ht, List.append_nil] at this
          exact this
        subst hfin
        clear e0 ht Hxs
        go_wp2_with fail
        refine (nodeNo M Hrep1.out Hg.out (there_zero l)).mono ?_
        rintro e w2 ⟨A1, c1, rfl, -, hb2⟩
        have HF : Hid (Pile w.heap.size (w2.alloc (.cells #[.int .i64 0, .int .i64 0, .int .i64 0, .int .i64 0, .int .i64 0, .bool false, .string ⟨#[]⟩, .string ⟨#[]⟩, .slice A1 0 c1] 52)) (.slice Ao xs.length co) xs ∧ Below w.heap.size w (w2.alloc (.cells #[.int .i64 0, .int .i64 0, .int .i64 0, .int .i64 0, .int .i64 0, .bool false, .string ⟨#[]⟩, .string ⟨#[]⟩, .slice A1 0 c1] 52))) := Lib.hid ⟨(HP1.out.below hb2).alloc _, (Hb1.out.trans (hb2.mono Hb1.out.size)).alloc (Nat.le_trans Hb1.out.size hb2.size) _⟩
        clear hb2 HP1 Hb1 Hrep1
        go_wp2
        go_ret
        exact ⟨_, rfl, HF.out.1, HF.out.2⟩
      | true =>
        have hrt := rootL_there Hg.out.tree ht
        have hfin : (xs ++ [i]) ++ arN l (l.length - (j + 1)) (nd l (rootL l i)).host = R := by
          rw [List.append_assoc, List.singleton_append, ← hostL_at ht, ← ar_go (n := l.length - (j + 1)) ht, show l.length - (j + 1) + 1 = l.length - j by omega]
          exact Hxs.out
        have Hrt := Lib.hid hrt
        have Hfin := Lib.hid hfin
        obtain ⟨r, hr⟩ : ∃ r, r = rootL l i := ⟨_, rfl⟩
        rw [← hr] at Hrt Hfin
        rw [← hr]
        clear ht hrt hfin hr Hxs
        go_wp2_with fail
        refine (nodeYes M Hrep1.out Hg.out Hrt.out).mono ?_
        rintro e w2 ⟨A1, c1, rfl, -, hb2⟩
        obtain ⟨d, hd⟩ : ∃ d, d = nd l r := ⟨_, rfl⟩
        rw [← hd] at Hfin
        rw [← hd]
        have hB2 : Below w.heap.size w w2 := Hb1.out.trans (hb2.mono Hb1.out.size)
        have hP2 : Pile w.heap.size w2 (.slice Ao xs.length co) xs := HP1.out.below hb2
        have hown : ∀ g, (Value.slice Ao xs.length co).ownBlock = some g → w.heap.size ≤ g ∧ g < w2.heap.size := hP2.lt
        have HC : Hid (∀ w3, Keeps (fun i => (Value.slice Ao xs.length co).ownBlock = some i) ((w2.alloc (.cells #[.int .i64 d.kind, .int .i64 d.parent, .int .i64 d.host, .int .i64 d.shadow, .int .i64 d.mode, .bool d.slot, .string d.name, .string d.want, .slice A1 d.kids.length c1] 52)).alloc (.cells #[.int .i64 i] 3)) w3 → w3.cell? ⟨w2.heap.size, 2, none⟩ = some (.int .i64 d.host)) := Lib.hid fun w3 hk3 => by
          have hh : Has ((w2.alloc (.cells #[.int .i64 d.kind, .int .i64 d.parent, .int .i64 d.host, .int .i64 d.shadow, .int .i64 d.mode, .bool d.slot, .string d.name, .string d.want, .slice A1 d.kids.length c1] 52)).alloc (.cells #[.int .i64 i] 3)) w2.heap.size (.cells #[.int .i64 d.kind, .int .i64 d.parent, .int .i64 d.host, .int .i64 d.shadow, .int .i64 d.mode, .bool d.slot, .string d.name, .string d.want, .slice A1 d.kids.length c1] 52 (0, 0)) := (Has.fresh _ _).more _
          exact (hh.kept hk3 fun e => by have := (hown _ e).2; omega).cell 2
        have HP2 : Hid (Pile w.heap.size ((w2.alloc (.cells #[.int .i64 d.kind, .int .i64 d.parent, .int .i64 d.host, .int .i64 d.shadow, .int .i64 d.mode, .bool d.slot, .string d.name, .string d.want, .slice A1 d.kids.length c1] 52)).alloc (.cells #[.int .i64 i] 3)) (.slice Ao xs.length co) xs) := Lib.hid ((hP2.alloc _).alloc _)
        have HB2 : Hid (Has ((w2.alloc (.cells #[.int .i64 d.kind, .int .i64 d.parent, .int .i64 d.host, .int .i64 d.shadow, .int .i64 d.mode, .bool d.slot, .string d.name, .string d.want, .slice A1 d.kids.length c1] 52)).alloc (.cells #[.int .i64 i] 3)) (w2.heap.size + 1) (.cells #[.int .i64 i] 3 (0, 0))) := Lib.hid (by
          have := Has.fresh (w2.alloc (.cells #[.int .i64 d.kind, .int .i64 d.parent, .int .i64 d.host, .int .i64 d.shadow, .int .i64 d.mode, .bool d.slot, .string d.name, .string d.want, .slice A1 d.kids.length c1] 52)) (.cells #[.int .i64 i] 3)
          simpa using this)
        have HS2 : Hid (w.heap.size ≤ ((w2.alloc (.cells #[.int .i64 d.kind, .int .i64 d.parent, .int .i64 d.host, .int .i64 d.shadow, .int .i64 d.mode, .bool d.slot, .string d.name, .string d.want, .slice A1 d.kids.length c1] 52)).alloc (.cells #[.int .i64 i] 3)).heap.size) := Lib.hid (by have := hB2.size; simp; omega)
        have HE : Hid (∀ w3, Keeps (fun i => (Value.slice Ao xs.length co).ownBlock = some i) ((w2.alloc (.cells #[.int .i64 d.kind, .int .i64 d.parent, .int .i64 d.host, .int .i64 d.shadow, .int .i64 d.mode, .bool d.slot, .string d.name, .string d.want, .slice A1 d.kids.length c1] 52)).alloc (.cells #[.int .i64 i] 3)) w3 → Below w.heap.size w w3) := Lib.hid fun w3 hk3 =>
          below_then ((hB2.alloc hB2.size _).alloc (by have := hB2.size; simp; omega) _) hk3 (by have := hB2.size; simp; omega) fun i hi e => by have := (hown _ e).1; omega
        clear hd hb2 hB2 hP2 hown HP1 Hb1 Hrep1
        go_wp2_with (at_builtin; refine wpList_push rfl (.tmp 22) (.tmp 24) rfl rfl HP2.out rfl HB2.out hxl HS2.out ?_; intro g cap w3 hp3 hk3 _ _; have c1 := HC.out w3 hk3)
        go_roundw
        case rel => exact ⟨_, j + 1, xs ++ [i], rfl, by go_num, by omega, Hfin.out, by simpa using hp3, HE.out w3 hk3⟩
        case measure => simp [intOf]; omega
    · have hfin : xs = R := by
        have := Hxs.out
        rw [show l.length - j = 0 by omega, arN, List.append_nil] at this
        exact this
      subst hfin
      clear Hxs
      go_wp2
      go_ret
      exact ⟨_, rfl, hP, hb⟩
set_option maxHeartbeats 4000000 in
set_option maxRecDepth 100000 in
theorem shClosed (O : ForestOk Rep) (M : ForestMore Rep) (id : Int) (h : Rep S w b l) (hg : Good l) :
    Calls Try.prog 41 #[at_ b, .int .i64 id] w fun e w' => ∃ v, e = .returned v ∧ Pile w.heap.size w' v (clsL l id) ∧ Below w.heap.size w w' := by
  have C := Lib.hid (shAround O M id h hg)
  have H := Lib.hid h
  have Hg := Lib.hid hg
  have hRl : (arL l id).length ≤ 128 := Nat.le_trans (arL_len l id) hg.len
  have hall := arL_there hg.tree id
  have hcls : clsL l id = clsOf l (arL l id) := rfl
  rw [hcls]
  obtain ⟨R, hR⟩ : ∃ R, R = arL l id := ⟨_, rfl⟩
  rw [← hR] at hRl C hall
  rw [← hR]
  have Hall := Lib.hid hall
  clear h hg hR hcls hall
  go_enter Try.func41, Try.ntmps41
  go_wp2_with fail
  refine C.out.mono ?_
  rintro e w1 ⟨v, rfl, hP, hb⟩
  obtain ⟨A, c, rfl, hL⟩ := hP.form
  have HL := Lib.hid hL
  have Hb := Lib.hid hb
  have Hs1 := Lib.hid hb.size
  obtain ⟨n, hn⟩ : ∃ n, n = R.length := ⟨_, rfl⟩
  rw [← hn] at hRl
  rw [← hn]
  have Hn := Lib.hid hn
  clear C hP hL hb hn
  go_wp2_with fail
  go_loopw [5, 15] (fun o k wr => ∃ j : Nat, k = .int .i64 j ∧ j ≤ n ∧ Pile w1.heap.size wr o (clsOf l (R.take j)) ∧ Below w1.heap.size w1 wr) (fun _ k _ => n - (intOf k).toNat)
  case atStart => exact ⟨0, rfl, Nat.zero_le _, Pile.nil _ _, Below.refl _ _⟩
  case round =>
    obtain ⟨j, rfl, hj, hPo, hbr⟩ := hrel
    obtain ⟨Ao, co, rfl, -⟩ := hPo.form
    by_cases hjn : (j : Int) < n
    · have hjk : j < R.length := by rw [← Hn.out]; omega
      obtain ⟨b', off, rfl, hB, hc0⟩ := HL.out.nums j hjk
      have hc : wr.cell? ⟨b', off + j, none⟩ = some (.int .i64 R[j]) := (hbr.cell (p := ⟨b', off + j, none⟩) hB).trans hc0
      have hth := Hall.out R[j] (List.getElem_mem hjk)
      have htk : R.take (j + 1) = R.take j ++ [R[j]] := by rw [List.take_add_one, List.getElem?_eq_getElem hjk]; rfl
      have hxl : (clsOf l (R.take j)).length ≤ 1000000 := by
        have h1 := cls_le (l := l) (R.take j)
        rw [List.length_take] at h1
        omega
      obtain ⟨y, hy⟩ : ∃ y, y = R[j] := ⟨_, rfl⟩
      rw [← hy] at hc hth htk
      have hst : clsOf l (R.take (j + 1)) = clsOf l (R.take j) ++ clsOf l [y] := by rw [htk, cls_append]
      obtain ⟨xs, hxs⟩ : ∃ xs, xs = clsOf l (R.take j) := ⟨_, rfl⟩
      rw [← hxs] at hst hxl hPo
      rw [← hxs]
      have hrt := rootL_there Hg.out.tree hth
      have Hrt := Lib.hid hrt
      have Hst := Lib.hid hst
      have HPo := Lib.hid hPo
      have Hbr := Lib.hid hbr
      have Hrep := Lib.hid (O.since (O.since H.out Hb.out) hbr)
      clear hth hst hc0 hy hxs hjk hrt htk hPo hbr hB
      go_wp2_with fail
      refine (kinRoot O M y Hrep.out Hg.out).mono ?_
      rintro e w2 ⟨rfl, hb2⟩
      have Hrep2 := Lib.hid (O.since Hrep.out hb2)
      have HP2 := Lib.hid (HPo.out.below hb2)
      have Hb2 := Lib.hid (Hbr.out.trans (hb2.mono Hbr.out.size))
      have e2 : ∀ m, (nd l (rootL l y)).mode = m → (m = 2 → clsOf l [y] = [rootL l y]) ∧ (m ≠ 2 → clsOf l [y] = []) := fun m hm => by
        subst hm
        exact ⟨fun h => cls_yes h, fun h => cls_not h⟩
      obtain ⟨r, hr⟩ : ∃ r, r = rootL l y := ⟨_, rfl⟩
      rw [← hr] at Hrt e2
      rw [← hr]
      have E2 := Lib.hid e2
      clear hb2 hr e2 HPo Hbr Hrep hc
      go_wp2_with fail
      refine (nodeYes M Hrep2.out Hg.out Hrt.out).mono ?_
      rintro e w3 ⟨A1, c1, rfl, -, hb3⟩
      have e3 := E2.out _ rfl
      obtain ⟨d, hd⟩ : ∃ d, d = nd l r := ⟨_, rfl⟩
      rw [← hd] at e3
      rw [← hd]
      have hB3 : Below w1.heap.size w1 w3 := Hb2.out.trans (hb3.mono Hb2.out.size)
      have hP3 : Pile w1.heap.size w3 (.slice Ao xs.length co) xs := HP2.out.below hb3
      have x4 : (w3.alloc (.cells #[.int .i64 d.kind, .int .i64 d.parent, .int .i64 d.host, .int .i64 d.shadow, .int .i64 d.mode, .bool d.slot, .string d.name, .string d.want, .slice A1 d.kids.length c1] 52)).cell? ⟨w3.heap.size, 4, none⟩ = some (.int .i64 d.mode) := (Has.fresh w3 (.cells #[.int .i64 d.kind, .int .i64 d.parent, .int .i64 d.host, .int .i64 d.shadow, .int .i64 d.mode, .bool d.slot, .string d.name, .string d.want, .slice A1 d.kids.length c1] 52)).cell 4
      have E3 := Lib.hid e3
      clear hd hb3 HP2 Hb2 Hrep2 e3 E2
      by_cases hm : d.mode = 2
      · have hfin : xs ++ [r] = clsOf l (R.take (j + 1)) := by rw [Hst.out, E3.out.1 hm]
        have Hfin := Lib.hid hfin
        have hown : ∀ g, (Value.slice Ao xs.length co).ownBlock = some g → w1.heap.size ≤ g ∧ g < w3.heap.size := hP3.lt
        have HP2 : Hid (Pile w1.heap.size ((w3.alloc (.cells #[.int .i64 d.kind, .int .i64 d.parent, .int .i64 d.host, .int .i64 d.shadow, .int .i64 d.mode, .bool d.slot, .string d.name, .string d.want, .slice A1 d.kids.length c1] 52)).alloc (.cells #[.int .i64 r] 3)) (.slice Ao xs.length co) xs) := Lib.hid ((hP3.alloc _).alloc _)
        have HB2 : Hid (Has ((w3.alloc (.cells #[.int .i64 d.kind, .int .i64 d.parent, .int .i64 d.host, .int .i64 d.shadow, .int .i64 d.mode, .bool d.slot, .string d.name, .string d.want, .slice A1 d.kids.length c1] 52)).alloc (.cells #[.int .i64 r] 3)) (w3.heap.size + 1) (.cells #[.int .i64 r] 3 (0, 0))) := Lib.hid (by
          have := Has.fresh (w3.alloc (.cells #[.int .i64 d.kind, .int .i64 d.parent, .int .i64 d.host, .int .i64 d.shadow, .int .i64 d.mode, .bool d.slot, .string d.name, .string d.want, .slice A1 d.kids.length c1] 52)) (.cells #[.int .i64 r] 3)
          simpa using this)
        have HS2 : Hid (w1.heap.size ≤ ((w3.alloc (.cells #[.int .i64 d.kind, .int .i64 d.parent, .int .i64 d.host, .int .i64 d.shadow, .int .i64 d.mode, .bool d.slot, .string d.name, .string d.want, .slice A1 d.kids.length c1] 52)).alloc (.cells #[.int .i64 r] 3)).heap.size) := Lib.hid (by have := hB3.size; simp; omega)
        have HE : Hid (∀ w4, Keeps (fun i => (Value.slice Ao xs.length co).ownBlock = some i) ((w3.alloc (.cells #[.int .i64 d.kind, .int .i64 d.parent, .int .i64 d.host, .int .i64 d.shadow, .int .i64 d.mode, .bool d.slot, .string d.name, .string d.want, .slice A1 d.kids.length c1] 52)).alloc (.cells #[.int .i64 r] 3)) w4 → Below w1.heap.size w1 w4) := Lib.hid fun w4 hk4 =>
          below_then ((hB3.alloc hB3.size _).alloc (by have := hB3.size; simp; omega) _) hk4 (by have := hB3.size; simp; omega) fun i hi e => by have := (hown _ e).1; omega
        have zm : (d.mode == 2) = true := by simpa using hm
        clear hfin hown hP3 hB3 hm E3 Hst
        go_wp2_with (at_builtin; refine wpList_push rfl (.tmp 31) (.tmp 33) rfl rfl HP2.out rfl HB2.out hxl HS2.out ?_; intro g cap w4 hp4 hk4 _ _)
        go_roundw
        case rel => exact ⟨j + 1, by go_num, by omega, by rw [← Hfin.out]; simpa using hp4, HE.out w4 hk4⟩
        case measure => simp [intOf]; omega
      · have hfin : xs = clsOf l (R.take (j + 1)) := by rw [Hst.out, E3.out.2 hm, List.append_nil]
        have Hfin := Lib.hid hfin
        have zm : (d.mode == 2) = false := by simpa using hm
        have HF : Hid (Pile w1.heap.size (w3.alloc (.cells #[.int .i64 d.kind, .int .i64 d.parent, .int .i64 d.host, .int .i64 d.shadow, .int .i64 d.mode, .bool d.slot, .string d.name, .string d.want, .slice A1 d.kids.length c1] 52)) (.slice Ao xs.length co) xs ∧ Below w1.heap.size w1 (w3.alloc (.cells #[.int .i64 d.kind, .int .i64 d.parent, .int .i64 d.host, .int .i64 d.shadow, .int .i64 d.mode, .bool d.slot, .string d.name, .string d.want, .slice A1 d.kids.length c1] 52))) := Lib.hid ⟨hP3.alloc _, hB3.alloc hB3.size _⟩
        clear hfin hm E3 Hst hP3 hB3
        go_wp2
        go_roundw
        case rel => exact ⟨j + 1, by go_num, by omega, by rw [← Hfin.out]; exact HF.out.1, HF.out.2⟩
        case measure => simp [intOf]; omega
    · have he : clsOf l (R.take j) = clsOf l R := by rw [List.take_of_length_le (by rw [← Hn.out]; omega)]
      rw [he] at hPo
      rw [he]
      clear he
      go_wp2
      go_ret
      exact ⟨_, rfl, hPo.from_ Hs1.out, Hb.out.trans (hbr.mono Hs1.out)⟩
end
end Go.Proofs.Ytphpbeapibohiaa

namespace Go.Proofs.Ytphpbeapibohiaa
open Go Go.RowKit

theorem anyUp_step {l : List Nd} {a : Int} {xs : List Int} {k : Nat} (hk : k < xs.length) : anyUp l a (xs.take (k + 1)) = (anyUp l a (xs.take k) || hasB (parL l xs[k]) a) := by
  unfold anyUp
  rw [List.take_add_one, List.getElem?_eq_getElem hk, Option.toList_some, List.any_append, List.any_cons, List.any_nil, Bool.or_false]
theorem anyUp_mem {l : List Nd} {a : Int} {xs : List Int} {k : Nat} (hk : k < xs.length) (h : hasB (parL l xs[k]) a = true) : anyUp l a xs = true := List.any_eq_true.2 ⟨xs[k], List.getElem_mem hk, h⟩
section
variable {Rep : (Nat → Prop) → World → Nat → List Nd → Prop} {S : Nat → Prop} {w : World} {b : Nat} {l : List Nd}
/-- The forest's pointer and a number, in two blocks. -/
structure Capd (w : World) (b : Nat) (a : Int) (B : Nat) : Prop where
  hp : Has w B (.cells #[at_ b] 33 (0, 0))
  hq : Has w (B + 1) (.cells #[.int .i64 a] 3 (0, 0))
theorem Capd.below {w' : World} {a : Int} {B : Nat} (h : Capd w b a B) (k : Below w.heap.size w w') : Capd w' b a B := ⟨h.hp.below k h.hp.inside, h.hq.below k h.hq.inside⟩
set_option maxHeartbeats 1000000 in
theorem shHolds1 (O : ForestOk Rep) (M : ForestMore Rep) (a x : Int) {B : Nat} (h : Rep S w b l) (hg : Good l) (hc : Capd w b a B) :
    Calls Try.prog 58 #[.int .i64 x, .pointer (some ⟨B, 0, none⟩), .pointer (some ⟨B + 1, 0, none⟩)] w fun e w' => e = .returned (.bool (hasB (parL l x) a)) ∧ Below w.heap.size w w' := by
  have H := Lib.hid h
  have Hg := Lib.hid hg
  have p0 : w.cell? ⟨B, 0, none⟩ = some (at_ b) := hc.hp.cell 0
  have q0 : w.cell? ⟨B + 1, 0, none⟩ = some (.int .i64 a) := hc.hq.cell 0
  clear h hg hc
  go_enter Try.func58, Try.ntmps58
  go_wp2_with fail
  refine (kinAbove O M a x H.out Hg.out).mono ?_
  rintro e w1 ⟨rfl, hb1⟩
  go_wp2
  go_ret
  exact ⟨rfl, hb1⟩
/-- The function that Holds hands on. -/
abbrev holdsF (B : Nat) : Value := .func (.func 58) #[] #[.pointer (some ⟨B, 0, none⟩), .pointer (some ⟨B + 1, 0, none⟩)]
set_option maxHeartbeats 4000000 in
theorem indexFunc_any (O : ForestOk Rep) (M : ForestMore Rep) (a : Int) (xs : List Int) (A : Option Addr) (n c : Nat) {B : Nat} (hn : n = xs.length) (hl : n ≤ 1000000) (hL : ListIn w A c xs) (h : Rep S w b l) (hg : Good l) (hc : Capd w b a B) :
    Calls Try.prog 65 #[.slice A n c, holdsF B] w fun e w' => (∃ k : Int, e = .returned (.int .i64 k) ∧ decide (0 ≤ k) = anyUp l a xs) ∧ Below w.heap.size w w' := by
  have Hn := Lib.hid hn
  have HL := Lib.hid hL
  have H := Lib.hid h
  have Hg := Lib.hid hg
  have Hc := Lib.hid hc
  clear hn hL h hg hc
  go_enter Try.func65, Try.ntmps65
  go_wp2_with fail
  go_loopw [8] (fun i wr => ∃ k : Nat, i = .int .i64 k ∧ k ≤ n ∧ anyUp l a (xs.take k) = false ∧ Below w.heap.size w wr) (fun i _ => n - (intOf i).toNat)
  case atStart => exact ⟨0, rfl, Nat.zero_le _, rfl, Below.refl _ _⟩
  case round =>
    obtain ⟨k, rfl, hk, hno, hb⟩ := hrel
    have Hno := Lib.hid hno
    clear hno
    by_cases hlt : (k : Int) < n
    · have hkl : k < xs.length := by rw [← Hn.out]; omega
      obtain ⟨b', off, rfl, hB, hcell0⟩ := HL.out.nums k hkl
      have hcell : wr.cell? ⟨b', off + k, none⟩ = some (.int .i64 xs[k]) := (hb.cell (p := ⟨b', off + k, none⟩) hB).trans hcell0
      have hst := anyUp_step (l := l) (a := a) hkl
      have hme := anyUp_mem (l := l) (a := a) hkl
      obtain ⟨y, hy⟩ : ∃ y, y = xs[k] := ⟨_, rfl⟩
      rw [← hy] at hcell hst hme
      have Hst := Lib.hid hst
      have Hme := Lib.hid hme
      have Hrep := Lib.hid (O.since H.out hb)
      have Hcr := Lib.hid (Hc.out.below hb)
      have Hb := Lib.hid hb
      clear hy hB hcell0 hst hme hkl hb
      go_wp2_with fail
      refine (shHolds1 O M a y Hrep.out Hg.out Hcr.out).mono ?_
      rintro e w1 ⟨rfl, hb1⟩
      have HB := Lib.hid (Hb.out.trans (hb1.mono Hb.out.size))
      clear hb1
      cases hp : hasB (parL l y) a with
      | true =>
        have e1 := Hme.out hp
        have E1 := Lib.hid e1
        clear e1 hp
        go_wp2
        go_ret
        refine ⟨⟨(k : Int), rfl, ?_⟩, HB.out⟩
        rw [E1.out]
        exact decide_eq_true (by omega)
      | false =>
        have e1 := Hst.out
        rw [hp, Hno.out] at e1
        have E1 := Lib.hid e1
        clear e1 hp
        go_wp2
        go_roundw
        case rel => exact ⟨k + 1, by go_num, by omega, E1.out, HB.out⟩
        case measure => simp [intOf]; omega
    · have e1 : anyUp l a xs = false := by
        have := Hno.out
        rw [List.take_of_length_le (by rw [← Hn.out]; omega)] at this
        exact this
      have E1 := Lib.hid e1
      clear e1
      go_wp2
      go_ret
      exact ⟨⟨-1, rfl, by rw [E1.out]; rfl⟩, hb⟩
set_option maxHeartbeats 1000000 in
theorem containsFunc_any (O : ForestOk Rep) (M : ForestMore Rep) (a : Int) (xs : List Int) (A : Option Addr) (n c : Nat) {B : Nat} (hn : n = xs.length) (hl : n ≤ 1000000) (hL : ListIn w A c xs) (h : Rep S w b l) (hg : Good l) (hc : Capd w b a B) :
    Calls Try.prog 56 #[.slice A n c, holdsF B] w fun e w' => e = .returned (.bool (anyUp l a xs)) ∧ Below w.heap.size w w' := by
  have C := Lib.hid (indexFunc_any O M a xs A n c hn hl hL h hg hc)
  clear hn hL h hg hc
  go_enter Try.func56, Try.ntmps56
  go_wp2_with fail
  refine C.out.mono ?_
  rintro e w1 ⟨⟨k, rfl, hk⟩, hb⟩
  have Hk := Lib.hid hk
  clear hk
  go_wp2
  go_ret
  rw [← Hk.out]
  exact ⟨rfl, hb⟩
set_option maxHeartbeats 2000000 in
theorem shHolds (O : ForestOk Rep) (M : ForestMore Rep) (a i : Int) (h : Rep S w b l) (hg : Good l) :
    Calls Try.prog 40 #[at_ b, .int .i64 a, .int .i64 i] w fun e w' => e = .returned (.bool (hasB (over l i) a)) ∧ Below w.heap.size w w' := by
  have hmf : ∀ (fn : Fn) (first cap : Array Value) (w : World), (Instr.makeFunc fn first cap).run Try.prog w = .ok (.func fn first cap) w := fun _ _ _ _ => rfl
  have hany := any_ar hg.tree a i
  have hRl : (arL l i).length ≤ 1000000 := Nat.le_trans (Nat.le_trans (arL_len l i) hg.len) (by decide)
  obtain ⟨W, hW⟩ : ∃ W, W = (w.alloc (.cells #[at_ b] 33)).alloc (.cells #[.int .i64 a] 3) := ⟨_, rfl⟩
  have hb : Below w.heap.size w W := by
    rw [hW]
    exact ((Below.refl _ w).alloc (Nat.le_refl _) _).alloc (by simp) _
  have hC : Capd W b a w.heap.size := by
    refine ⟨?_, ?_⟩
    · rw [hW]
      exact (Has.fresh _ _).more _
    · rw [hW]
      have := Has.fresh (w.alloc (.cells #[at_ b] 33)) (.cells #[.int .i64 a] 3)
      rw [show (w.alloc (.cells #[at_ b] 33)).heap.size = w.heap.size + 1 by simp] at this
      exact this
  have p0 : W.cell? ⟨w.heap.size, 0, none⟩ = some (at_ b) := hC.hp.cell 0
  have HR := Lib.hid (O.since h hb)
  have C := Lib.hid (shAround O M i (O.since h hb) hg)
  have Hg := Lib.hid hg
  have HC := Lib.hid hC
  have Hb := Lib.hid hb
  have HW := Lib.hid hW
  rw [← hany]
  obtain ⟨R, hR⟩ : ∃ R, R = arL l i := ⟨_, rfl⟩
  rw [← hR] at hRl C
  rw [← hR]
  rw [hW] at p0
  clear h hg hany hb hC hW hR
  go_enter Try.func40, Try.ntmps40
  go_wp2_with fail
  rw [← HW.out]
  refine C.out.mono ?_
  rintro e w1 ⟨v, rfl, hP, hb1⟩
  obtain ⟨A, c, rfl, hL⟩ := hP.form
  have HR1 := Lib.hid (O.since HR.out hb1)
  have HC1 := Lib.hid (HC.out.below hb1)
  have HB1 := Lib.hid (Hb.out.trans (hb1.mono Hb.out.size))
  have HL := Lib.hid hL
  clear hP hL hb1 C HR HC Hb p0
  go_wp2_with fail
  refine (containsFunc_any O M a R A R.length c rfl hRl HL.out HR1.out Hg.out HC1.out).mono ?_
  rintro e w2 ⟨rfl, hb2⟩
  have HB2 := Lib.hid (HB1.out.trans (hb2.mono HB1.out.size))
  clear hb2
  go_wp2
  go_ret
  exact ⟨rfl, HB2.out⟩
set_option maxHeartbeats 4000000 in
set_option maxRecDepth 100000 in
theorem shHidden (O : ForestOk Rep) (M : ForestMore Rep) (a i : Int) (h : Rep S w b l) (hg : Good l) :
    Calls Try.prog 17 #[at_ b, .int .i64 a, .int .i64 i] w fun e w' => e = .returned (.bool (hidL l a i)) ∧ Below w.heap.size w w' := by
  have hnot : ∀ (x : Bool) (w : World), (Op.unary .not (.bool x)).run Try.prog w = .ok (.bool (!x)) w := fun _ _ => rfl
  have H := Lib.hid h
  have Hg := Lib.hid hg
  obtain ⟨R, hR⟩ : ∃ R, R = hidL l a i := ⟨_, rfl⟩
  rw [← hR]
  have HR := Lib.hid hR
  clear h hg hR
  cases ht : thereB l i with
  | false =>
    have e0 : R = false := by rw [HR.out, hid_noB ht]
    subst e0
    have Ht := Lib.hid ht
    clear ht HR
    go_enter Try.func17, Try.ntmps17
    go_wp2_with fail
    refine (nodeNo M H.out Hg.out Ht.out).mono ?_
    rintro e w1 ⟨A1, c1, rfl, -, hb1⟩
    have hb2 : Below w.heap.size w (w1.alloc (.cells #[.int .i64 0, .int .i64 0, .int .i64 0, .int .i64 0, .int .i64 0, .bool false, .string ⟨#[]⟩, .string ⟨#[]⟩, .slice A1 0 c1] 52)) := hb1.alloc hb1.size _
    have HB2 := Lib.hid hb2
    have HR2 := Lib.hid (O.since H.out hb2)
    clear hb1 hb2
    go_wp2_with fail
    refine (shClosed O M a HR2.out Hg.out).mono ?_
    rintro e w3 ⟨v, rfl, hP, hb3⟩
    obtain ⟨A, c, rfl, -⟩ := hP.form
    have HB3 := Lib.hid (HB2.out.trans (hb3.mono HB2.out.size))
    clear hP hb3
    go_wp2
    go_ret
    exact ⟨rfl, HB3.out⟩
  | true =>
    have Ht := Lib.hid ht
    clear ht
    go_enter Try.func17, Try.ntmps17
    go_wp2_with fail
    refine (nodeYes M H.out Hg.out Ht.out).mono ?_
    rintro e w1 ⟨A1, c1, rfl, -, hb1⟩
    obtain ⟨d, hd⟩ : ∃ d, d = nd l i := ⟨_, rfl⟩
    rw [← hd]
    have hb2 : Below w.heap.size w (w1.alloc (.cells #[.int .i64 d.kind, .int .i64 d.parent, .int .i64 d.host, .int .i64 d.shadow, .int .i64 d.mode, .bool d.slot, .string d.name, .string d.want, .slice A1 d.kids.length c1] 52)) := hb1.alloc hb1.size _
    have HB2 := Lib.hid hb2
    have HR2 := Lib.hid (O.since H.out hb2)
    clear hb1 hb2 hd
    go_wp2_with fail
    refine (shClosed O M a HR2.out Hg.out).mono ?_
    rintro e w3 ⟨v, rfl, hP, hb3⟩
    obtain ⟨A, c, rfl, hL⟩ := hP.form
    have HB3 := Lib.hid (HB2.out.trans (hb3.mono HB2.out.size))
    have HR3 := Lib.hid (O.since HR2.out hb3)
    have hlen : (clsL l a).length ≤ 128 := Nat.le_trans (clsL_len l a) Hg.out.len
    clear hb3 HB2 HR2 hP
    cases hcs : clsL l a with
    | nil =>
      have e0 : R = false := by rw [HR.out, hid_none hcs]
      subst e0
      clear hcs HR hL hlen
      go_wp2
      go_ret
      exact ⟨rfl, HB3.out⟩
    | cons q qs =>
      have hqt : thereB l q = true := cls_there Hg.out.tree (i := a) (by rw [hcs]; exact List.mem_cons_self)
      have e0 : R = (decide ((nd l q).host ≠ 0) && !hasB (over l i) q) := by
        rw [HR.out]
        unfold hidL
        rw [hcs, Ht.out]
        rfl
      rw [hcs] at hL hlen
      obtain ⟨b', off, rfl, hB, hc⟩ := hL.nums 0 (by simp)
      have hc3 : w3.cell? ⟨b', off, none⟩ = some (.int .i64 q) := hc
      have Hqt := Lib.hid hqt
      have E0 := Lib.hid e0
      have HBb := Lib.hid hB
      have HC3 := Lib.hid hc3
      have hn0 : (qs.length : Int) + 1 ≠ 0 := by omega
      have z0 : (((qs.length : Int) + 1) == 0) = false := by rw [beq_eq_false_iff_ne]; omega
      have hql : (qs.length : Int) ≤ 128 := by simp at hlen; omega
      clear hcs hqt e0 hL hc hB hlen HR hn0
      go_wp2_with fail
      refine (nodeYes M HR3.out Hg.out Hqt.out).mono ?_
      rintro e w4 ⟨A4, c4, rfl, -, hb4⟩
      obtain ⟨d4, hd4⟩ : ∃ d4, d4 = nd l q := ⟨_, rfl⟩
      rw [← hd4] at E0
      rw [← hd4]
      have hb5 : Below w3.heap.size w3 (w4.alloc (.cells #[.int .i64 d4.kind, .int .i64 d4.parent, .int .i64 d4.host, .int .i64 d4.shadow, .int .i64 d4.mode, .bool d4.slot, .string d4.name, .string d4.want, .slice A4 d4.kids.length c4] 52)) := hb4.alloc hb4.size _
      have HB5 := Lib.hid (HB3.out.trans (hb5.mono HB3.out.size))
      have HR5 := Lib.hid (O.since HR3.out hb5)
      have x2 : (w4.alloc (.cells #[.int .i64 d4.kind, .int .i64 d4.parent, .int .i64 d4.host, .int .i64 d4.shadow, .int .i64 d4.mode, .bool d4.slot, .string d4.name, .string d4.want, .slice A4 d4.kids.length c4] 52)).cell? ⟨w4.heap.size, 2, none⟩ = some (.int .i64 d4.host) := (Has.fresh w4 (.cells #[.int .i64 d4.kind, .int .i64 d4.parent, .int .i64 d4.host, .int .i64 d4.shadow, .int .i64 d4.mode, .bool d4.slot, .string d4.name, .string d4.want, .slice A4 d4.kids.length c4] 52)).cell 2
      have y2 : (w4.alloc (.cells #[.int .i64 d4.kind, .int .i64 d4.parent, .int .i64 d4.host, .int .i64 d4.shadow, .int .i64 d4.mode, .bool d4.slot, .string d4.name, .string d4.want, .slice A4 d4.kids.length c4] 52)).cell? ⟨b', off, none⟩ = some (.int .i64 q) := (hb5.cell (p := ⟨b', off, none⟩) HBb.out).trans HC3.out
      clear hd4 hb4 hb5 HB3 HR3
      by_cases h0 : d4.host = 0
      · have e1 : R = false := by
          rw [E0.out, h0]
          rfl
        subst e1
        have z1 : (d4.host != 0) = false := by simpa using h0
        clear h0 E0
        go_wp2
        go_ret
        exact ⟨rfl, HB5.out⟩
      · have e1 : R = !hasB (over l i) q := by rw [E0.out, decide_eq_true h0]; rfl
        subst e1
        have z1 : (d4.host != 0) = true := by simpa using h0
        clear h0 E0
        go_wp2_with fail
        refine (shHolds O M q i HR5.out Hg.out).mono ?_
        rintro e w6 ⟨rfl, hb6⟩
        have HB6 := Lib.hid (HB5.out.trans (hb6.mono HB5.out.size))
        clear hb6
        go_wp2
        go_ret
        exact ⟨rfl, HB6.out⟩
end
end Go.Proofs.Ytphpbeapibohiaa

namespace Go.Proofs.Ytphpbeapibohiaa
open Go Go.RowKit

section
variable {l : List Nd} {i x : Int}
theorem aimL_root (h : thereB l i = true) (h0 : (nd l (rootL l i)).host = 0) : aimL l i x = i := aimL_stop h (aimB_end ((hostL_at h).trans h0))
theorem aimL_held (h : thereB l i = true) (h0 : hasB (over l x) (rootL l i) = true) : aimL l i x = i := aimL_stop h (aimB_held h0)
theorem aimL_next (T : Tree l) (h : thereB l i = true) (h0 : (nd l (rootL l i)).host ≠ 0) (h1 : hasB (over l x) (rootL l i) = false) : aimL l (nd l (rootL l i)).host x = aimL l i x := by
  rw [aimL_up (a := i) T (aimB_go (by rw [hostL_at h]; exact h0) h1), hostL_at h]
theorem host_short (T : Tree l) (h : thereB l i = true) : (over l (nd l (rootL l i)).host).length < (over l i).length := by
  have := host_less T h
  rw [hostL_at h] at this
  omega
end
section
variable {Rep : (Nat → Prop) → World → Nat → List Nd → Prop} {S : Nat → Prop} {w : World} {b : Nat} {l : List Nd}
set_option maxHeartbeats 4000000 in
set_option maxRecDepth 100000 in
theorem aiAim (O : ForestOk Rep) (M : ForestMore Rep) (a x : Int) (h : Rep S w b l) (hg : Good l) :
    Calls Try.prog 34 #[at_ b, .int .i64 a, .int .i64 x] w fun e w' => e = .returned (.int .i64 (aimL l a x)) ∧ Below w.heap.size w w' := by
  have hnot : ∀ (x : Bool) (w : World), (Op.unary .not (.bool x)).run Try.prog w = .ok (.bool (!x)) w := fun _ _ => rfl
  have H := Lib.hid h
  have Hg := Lib.hid hg
  obtain ⟨R, hR⟩ : ∃ R, R = aimL l a x := ⟨_, rfl⟩
  rw [← hR]
  have HR := Lib.hid hR.symm
  clear h hg hR
  go_enter Try.func34, Try.ntmps34
  go_wp2_with fail
  go_loopw [1] (fun v wr => ∃ i : Int, v = .int .i64 i ∧ aimL l i x = R ∧ Below w.heap.size w wr) (fun v _ => (over l (intOf v)).length)
  case atStart => exact ⟨a, rfl, HR.out, Below.refl _ _⟩
  case round =>
    obtain ⟨i, rfl, hi, hb⟩ := hrel
    have Hi := Lib.hid hi
    have Hb := Lib.hid hb
    have Hrep := Lib.hid (O.since H.out hb)
    clear hi hb HR
    go_wp2_with fail
    refine (kinRoot O M i Hrep.out Hg.out).mono ?_
    rintro e w1 ⟨rfl, hb1⟩
    have Hb1 := Lib.hid (Hb.out.trans (hb1.mono Hb.out.size))
    have Hrep1 := Lib.hid (O.since Hrep.out hb1)
    clear hb1 Hb Hrep
    cases ht : thereB l i with
    | false =>
      have e0 := rootL_no ht
      have e1 : R = 0 := by rw [← Hi.out, aimL_no ht]
      subst e1
      rw [e0]
      clear e0 ht Hi
      go_wp2_with fail
      refine (nodeNo M Hrep1.out Hg.out (there_zero l)).mono ?_
      rintro e w2 ⟨A2, c2, rfl, -, hb2⟩
      have HF := Lib.hid ((Hb1.out.trans (hb2.mono Hb1.out.size)).alloc (Nat.le_trans Hb1.out.size hb2.size) (.cells #[.int .i64 0, .int .i64 0, .int .i64 0, .int .i64 0, .int .i64 0, .bool false, .string ⟨#[]⟩, .string ⟨#[]⟩, .slice A2 0 c2] 52))
      clear hb2
      go_wp2
      go_ret
      exact ⟨rfl, HF.out⟩
    | true =>
      have hrt := rootL_there Hg.out.tree ht
      have e1 := aimL_root (x := x) ht
      have e2 := aimL_held (x := x) ht
      have e3 := aimL_next (x := x) Hg.out.tree ht
      have e4 := host_short Hg.out.tree ht
      obtain ⟨r, hr⟩ : ∃ r, r = rootL l i := ⟨_, rfl⟩
      rw [← hr] at hrt e1 e2 e3 e4
      rw [← hr]
      obtain ⟨d, hd⟩ : ∃ d, d = nd l r := ⟨_, rfl⟩
      rw [← hd] at e1 e3 e4
      rw [Hi.out] at e1 e2 e3
      have Hrt := Lib.hid hrt
      have Hd := Lib.hid hd
      have E1 := Lib.hid e1
      have E2 := Lib.hid e2
      have E3 := Lib.hid e3
      have E4 := Lib.hid e4
      clear ht hrt hr hd e1 e2 e3 e4
      go_wp2_with fail
      refine (nodeYes M Hrep1.out Hg.out Hrt.out).mono ?_
      rintro e w2 ⟨A2, c2, rfl, -, hb2⟩
      rw [← Hd.out]
      have hb3 : Below w1.heap.size w1 (w2.alloc (.cells #[.int .i64 d.kind, .int .i64 d.parent, .int .i64 d.host, .int .i64 d.shadow, .int .i64 d.mode, .bool d.slot, .string d.name, .string d.want, .slice A2 d.kids.length c2] 52)) := hb2.alloc hb2.size _
      have HB3 := Lib.hid (Hb1.out.trans (hb3.mono Hb1.out.size))
      have HR3 := Lib.hid (O.since Hrep1.out hb3)
      have x2 : (w2.alloc (.cells #[.int .i64 d.kind, .int .i64 d.parent, .int .i64 d.host, .int .i64 d.shadow, .int .i64 d.mode, .bool d.slot, .string d.name, .string d.want, .slice A2 d.kids.length c2] 52)).cell? ⟨w2.heap.size, 2, none⟩ = some (.int .i64 d.host) := (Has.fresh w2 (.cells #[.int .i64 d.kind, .int .i64 d.parent, .int .i64 d.host, .int .i64 d.shadow, .int .i64 d.mode, .bool d.slot, .string d.name, .string d.want, .slice A2 d.kids.length c2] 52)).cell 2
      have X2 : Hid (∀ w4, Below (w2.alloc (.cells #[.int .i64 d.kind, .int .i64 d.parent, .int .i64 d.host, .int .i64 d.shadow, .int .i64 d.mode, .bool d.slot, .string d.name, .string d.want, .slice A2 d.kids.length c2] 52)).heap.size (w2.alloc (.cells #[.int .i64 d.kind, .int .i64 d.parent, .int .i64 d.host, .int .i64 d.shadow, .int .i64 d.mode, .bool d.slot, .string d.name, .string d.want, .slice A2 d.kids.length c2] 52)) w4 → w4.cell? ⟨w2.heap.size, 2, none⟩ = some (.int .i64 d.host)) := Lib.hid fun w4 hb4 => (hb4.cell (p := ⟨w2.heap.size, 2, none⟩) (by simp)).trans x2
      clear hb2 hb3 Hb1 Hrep1 Hd
      by_cases h0 : d.host = 0
      · have e0 : R = i := E1.out h0
        subst e0
        have z1 : (d.host == 0) = true := by simpa using h0
        clear h0 E1 E2 E3 E4
        go_wp2
        go_ret
        exact ⟨rfl, HB3.out⟩
      · have z1 : (d.host == 0) = false := by simpa using h0
        have F3 := Lib.hid (E3.out h0)
        clear h0 E1 E3
        go_wp2_with fail
        refine (shHolds O M r x HR3.out Hg.out).mono ?_
        rintro e w4 ⟨rfl, hb4⟩
        have HB4 := Lib.hid (HB3.out.trans (hb4.mono HB3.out.size))
        have x4 := X2.out w4 hb4
        clear hb4 X2 HB3 HR3 x2
        cases hh : hasB (over l x) r with
        | true =>
          have e0 : R = i := (E2.out hh)
          subst e0
          clear hh E2 F3 E4
          go_wp2
          go_ret
          exact ⟨rfl, HB4.out⟩
        | false =>
          have G3 := Lib.hid (F3.out hh)
          clear hh E2 F3
          go_wp2
          go_roundw
          case rel => exact ⟨_, rfl, G3.out, HB4.out⟩
          case measure => exact E4.out
end
end Go.Proofs.Ytphpbeapibohiaa

namespace Go.Proofs.Ytphpbeapibohiaa
open Go Go.RowKit

section
variable {l : List Nd} {i first : Int} {comp : Bool}
theorem parE_slot (h : thereB l i = true) (h0 : ofL l i ≠ 0) : parE l first comp i = ofL l i := by
  unfold parE
  rw [if_pos h, if_pos h0]
theorem parE_par (h : thereB l i = true) (h0 : ofL l i = 0) (h3 : (nd l i).kind ≠ 3) : parE l first comp i = (nd l i).parent := by
  unfold parE
  rw [if_pos h, if_neg (fun e => e h0), if_neg h3]
theorem parE_end (h : thereB l i = true) (h0 : ofL l i = 0) (h3 : (nd l i).kind = 3) (hr : rootL l first = i) : parE l first false i = 0 := by
  unfold parE
  rw [if_pos h, if_neg (fun e => e h0), if_pos h3, if_pos ⟨rfl, hr⟩]
theorem parE_host (h : thereB l i = true) (h0 : ofL l i = 0) (h3 : (nd l i).kind = 3) (hr : comp = true ∨ rootL l first ≠ i) : parE l first comp i = (nd l i).host := by
  unfold parE
  rw [if_pos h, if_neg (fun e => e h0), if_pos h3, if_neg]
  rintro ⟨rfl, e⟩
  rcases hr with hr | hr
  · cases hr
  · exact hr e
end
section
variable {Rep : (Nat → Prop) → World → Nat → List Nd → Prop} {S : Nat → Prop} {w : World} {b : Nat} {l : List Nd}
set_option maxHeartbeats 2000000 in
theorem ptClosed (M : ForestMore Rep) (hm : Moded l) (i : Int) (h : Rep S w b l) (hg : Good l) (ht : thereB l i = true) :
    Calls Try.prog 36 #[at_ b, .int .i64 i] w fun e w' => e = .returned (.bool (crB l i)) ∧ Below w.heap.size w w' := by
  have H := Lib.hid h
  have Hg := Lib.hid hg
  have Ht := Lib.hid ht
  have hc := crB_mode hm i
  obtain ⟨R, hR⟩ : ∃ R, R = crB l i := ⟨_, rfl⟩
  rw [← hR] at hc
  rw [← hR]
  have Hc := Lib.hid hc
  clear h hg ht hm hR hc
  go_enter Try.func36, Try.ntmps36
  go_wp2_with fail
  refine (nodeYes M H.out Hg.out Ht.out).mono ?_
  rintro e w2 ⟨A2, c2, rfl, -, hb2⟩
  obtain ⟨d, hd⟩ : ∃ d, d = nd l i := ⟨_, rfl⟩
  rw [← hd] at Hc
  rw [← hd]
  have HF := Lib.hid (hb2.alloc hb2.size (.cells #[.int .i64 d.kind, .int .i64 d.parent, .int .i64 d.host, .int .i64 d.shadow, .int .i64 d.mode, .bool d.slot, .string d.name, .string d.want, .slice A2 d.kids.length c2] 52))
  clear hd hb2
  by_cases hq : d.mode = 2
  · have z1 : (d.mode == 2) = true := by simpa using hq
    have e1 : R = true := by rw [← Hc.out, decide_eq_true hq]
    subst e1
    clear hq Hc
    go_wp2
    go_ret
    exact ⟨rfl, HF.out⟩
  · have z1 : (d.mode == 2) = false := by simpa using hq
    have e1 : R = false := by rw [← Hc.out, decide_eq_false hq]
    subst e1
    clear hq Hc
    go_wp2
    go_ret
    exact ⟨rfl, HF.out⟩
set_option maxHeartbeats 4000000 in
set_option maxRecDepth 100000 in
theorem ptParent (O : ForestOk Rep) (M : ForestMore Rep) (i first : Int) (comp : Bool) (h : Rep S w b l) (hg : Good l) :
    Calls Try.prog 39 #[at_ b, .int .i64 i, .int .i64 first, .bool comp] w fun e w' => e = .returned (.int .i64 (parE l first comp i)) ∧ Below w.heap.size w w' := by
  have hnot : ∀ (x : Bool) (w : World), (Op.unary .not (.bool x)).run Try.prog w = .ok (.bool (!x)) w := fun _ _ => rfl
  have H := Lib.hid h
  have Hg := Lib.hid hg
  obtain ⟨R, hR⟩ : ∃ R, R = parE l first comp i := ⟨_, rfl⟩
  rw [← hR]
  have HR := Lib.hid hR
  clear h hg hR
  go_enter Try.func39, Try.ntmps39
  go_wp2_with fail
  refine (slOf O M i H.out Hg.out).mono ?_
  rintro e w1 ⟨rfl, hb1⟩
  have Hb1 := Lib.hid hb1
  have Hrep1 := Lib.hid (O.since H.out hb1)
  clear hb1 H
  cases ht : thereB l i with
  | false =>
    have e0 : R = 0 := by rw [HR.out, parE_no ht]
    subst e0
    rw [ofL_no ht]
    have Ht := Lib.hid ht
    clear ht HR
    go_wp2_with fail
    refine (nodeNo M Hrep1.out Hg.out Ht.out).mono ?_
    rintro e w2 ⟨A2, c2, rfl, -, hb2⟩
    have HF := Lib.hid ((Hb1.out.trans (hb2.mono Hb1.out.size)).alloc (Nat.le_trans Hb1.out.size hb2.size) (.cells #[.int .i64 0, .int .i64 0, .int .i64 0, .int .i64 0, .int .i64 0, .bool false, .string ⟨#[]⟩, .string ⟨#[]⟩, .slice A2 0 c2] 52))
    clear hb2
    go_wp2
    go_ret
    exact ⟨rfl, HF.out⟩
  | true =>
    have Ht := Lib.hid ht
    by_cases ho : ofL l i = 0
    · have e2 : (nd l i).kind ≠ 3 → R = (nd l i).parent := fun h3 => by rw [HR.out, parE_par ht ho h3]
      have e3 : (nd l i).kind = 3 → comp = false → rootL l first = i → R = 0 := fun h3 hc hr => by rw [HR.out, hc, parE_end ht ho h3 hr]
      have e4 : (nd l i).kind = 3 → (comp = true ∨ rootL l first ≠ i) → R = (nd l i).host := fun h3 hr => by rw [HR.out, parE_host ht ho h3 hr]
      rw [ho]
      clear ho ht HR
      obtain ⟨d, hd⟩ : ∃ d, d = nd l i := ⟨_, rfl⟩
      rw [← hd] at e2 e3 e4
      have Hd := Lib.hid hd
      have E2 := Lib.hid e2
      have E3 := Lib.hid e3
      have E4 := Lib.hid e4
      clear hd e2 e3 e4
      go_wp2_with fail
      refine (nodeYes M Hrep1.out Hg.out Ht.out).mono ?_
      rintro e w2 ⟨A2, c2, rfl, -, hb2⟩
      rw [← Hd.out]
      have hb3 : Below w1.heap.size w1 (w2.alloc (.cells #[.int .i64 d.kind, .int .i64 d.parent, .int .i64 d.host, .int .i64 d.shadow, .int .i64 d.mode, .bool d.slot, .string d.name, .string d.want, .slice A2 d.kids.length c2] 52)) := hb2.alloc hb2.size _
      have HB3 := Lib.hid (Hb1.out.trans (hb3.mono Hb1.out.size))
      have HR3 := Lib.hid (O.since Hrep1.out hb3)
      have x2 : (w2.alloc (.cells #[.int .i64 d.kind, .int .i64 d.parent, .int .i64 d.host, .int .i64 d.shadow, .int .i64 d.mode, .bool d.slot, .string d.name, .string d.want, .slice A2 d.kids.length c2] 52)).cell? ⟨w2.heap.size, 2, none⟩ = some (.int .i64 d.host) := (Has.fresh w2 (.cells #[.int .i64 d.kind, .int .i64 d.parent, .int .i64 d.host, .int .i64 d.shadow, .int .i64 d.mode, .bool d.slot, .string d.name, .string d.want, .slice A2 d.kids.length c2] 52)).cell 2
      have X2 : Hid (∀ w4, Below (w2.alloc (.cells #[.int .i64 d.kind, .int .i64 d.parent, .int .i64 d.host, .int .i64 d.shadow, .int .i64 d.mode, .bool d.slot, .string d.name, .string d.want, .slice A2 d.kids.length c2] 52)).heap.size (w2.alloc (.cells #[.int .i64 d.kind, .int .i64 d.parent, .int .i64 d.host, .int .i64 d.shadow, .int .i64 d.mode, .bool d.slot, .string d.name, .string d.want, .slice A2 d.kids.length c2] 52)) w4 → w4.cell? ⟨w2.heap.size, 2, none⟩ = some (.int .i64 d.host)) := Lib.hid fun w4 hb4 => (hb4.cell (p := ⟨w2.heap.size, 2, none⟩) (by simp)).trans x2
      clear hb2 hb3 Hb1 Hrep1 Hd x2
      by_cases h3 : d.kind = 3
      · have z1 : (d.kind != 3) = false := by simpa using h3
        have F3 := Lib.hid (E3.out h3)
        have F4 := Lib.hid (E4.out h3)
        clear h3 E2 E3 E4
        cases comp with
        | true =>
          have e5 : R = d.host := F4.out (.inl rfl)
          have E5 := Lib.hid e5
          clear e5 F3 F4
          go_wp2
          go_ret
          rw [E5.out]
          exact ⟨rfl, HB3.out⟩
        | false =>
          go_wp2_with fail
          refine (kinRoot O M first HR3.out Hg.out).mono ?_
          rintro e w4 ⟨rfl, hb4⟩
          have HB4 := Lib.hid (HB3.out.trans (hb4.mono HB3.out.size))
          have x4 := X2.out w4 hb4
          clear hb4 X2 HB3 HR3
          by_cases hr : rootL l first = i
          · have e5 : R = 0 := F3.out (by simp) hr
            have z2 : (rootL l first == i) = true := by simpa using hr
            have E5 := Lib.hid e5
            obtain ⟨r, hrr⟩ : ∃ r, r = rootL l first := ⟨_, rfl⟩
            rw [← hrr] at z2
            rw [← hrr]
            clear e5 F3 F4 hr hrr
            go_wp2
            go_ret
            rw [E5.out]
            exact ⟨rfl, HB4.out⟩
          · have e5 : R = d.host := F4.out (.inr hr)
            have z2 : (rootL l first == i) = false := by simpa using hr
            have E5 := Lib.hid e5
            obtain ⟨r, hrr⟩ : ∃ r, r = rootL l first := ⟨_, rfl⟩
            rw [← hrr] at z2
            rw [← hrr]
            clear e5 F3 F4 hr hrr
            go_wp2
            go_ret
            rw [E5.out]
            exact ⟨rfl, HB4.out⟩
      · have z1 : (d.kind != 3) = true := by simpa using h3
        have F2 := Lib.hid (E2.out h3)
        clear h3 E2 E3 E4
        go_wp2
        go_ret
        rw [F2.out]
        exact ⟨rfl, HB3.out⟩
    · have e1 : R = ofL l i := by rw [HR.out, parE_slot ht ho]
      have z1 : (ofL l i != 0) = true := by simpa using ho
      obtain ⟨o, hoo⟩ : ∃ o, o = ofL l i := ⟨_, rfl⟩
      rw [← hoo] at z1 e1
      rw [← hoo]
      have E1 := Lib.hid e1
      clear ht ho hoo HR e1
      go_wp2
      go_ret
      rw [E1.out]
      exact ⟨rfl, Hb1.out⟩
end
end Go.Proofs.Ytphpbeapibohiaa

namespace Go.Proofs.Ytphpbeapibohiaa
open Go

section
variable {l : List Nd} {rel tgt : Int} {comp : Bool} {k i : Nat} {x y : Stp}
theorem path_way (h : (makeP l tgt rel comp)[k]? = some x) : (wayE l tgt comp)[k]? = some x.node := by
  obtain ⟨r, hr⟩ := makeP_nodes (l := l) (target := tgt) (rel := rel) (comp := comp)
  have hk := (List.getElem?_eq_some_iff.1 h).1
  rw [← hr, List.getElem?_append_left (by rw [List.length_map]; exact hk), List.getElem?_map, h]
  rfl
theorem path_there (h : (makeP l tgt rel comp)[k]? = some x) : thereB l x.node = true := way_there _ (List.mem_of_getElem? (path_way h))
theorem path_all (T : Tree l) (h : x ∈ makeP l tgt rel comp) : thereB l tgt = true ∧ (x = ⟨tgt, tgt, aimL l rel tgt, crB l tgt, false⟩ ∨ x ∈ restP l rel tgt comp tgt tgt) := by
  cases ht : thereB l tgt with
  | false => rw [makeP_no ht] at h; cases h
  | true =>
    refine ⟨rfl, ?_⟩
    by_cases ha : aimL l rel tgt = tgt ∧ rel ≠ tgt
    · rw [makeP_shut T ht ha.1 ha.2] at h; cases h
    · rw [makeP_go T ht ha] at h
      exact List.mem_cons.1 h
theorem path_first (T : Tree l) (h : (makeP l tgt rel comp)[0]? = some x) : x.node = tgt ∧ x.target = tgt ∧ x.cs = false := by
  cases ht : thereB l tgt with
  | false => rw [makeP_no ht] at h; cases h
  | true =>
    by_cases ha : aimL l rel tgt = tgt ∧ rel ≠ tgt
    · rw [makeP_shut T ht ha.1 ha.2] at h; cases h
    · rw [makeP_go T ht ha] at h
      obtain rfl : _ = x := by simpa using h
      exact ⟨rfl, rfl, rfl⟩
theorem path_next (h : (makeP l tgt rel comp)[k]? = some x) (h' : (makeP l tgt rel comp)[k + 1]? = some y) : parE l tgt comp x.node = y.node := (upE_next _ tgt k _ _ (path_way h) (path_way h')).symm
theorem path_apart (T : Tree l) (h : (makeP l tgt rel comp)[k]? = some x) (h' : (makeP l tgt rel comp)[i]? = some y) (hk : k < i) : x.node ≠ y.node := by
  obtain ⟨h1, e1⟩ := List.getElem?_eq_some_iff.1 (path_way h)
  obtain ⟨h2, e2⟩ := List.getElem?_eq_some_iff.1 (path_way h')
  have := List.pairwise_iff_getElem.1 (upE_once (first := tgt) (comp := comp) T (l.length + 1) tgt) k i h1 h2 hk
  intro e
  apply this
  rw [← e1, ← e2] at e
  exact e
theorem path_held (T : Tree l) (h : (makeP l tgt rel false)[k]? = some x) : hasB (over l x.node) (rootL l tgt) = true :=
  hasB_yes (upE_held T _ tgt (root_over T (path_all T (List.mem_of_getElem? h)).1) _ (List.mem_of_getElem? (path_way h)))
theorem path_target (T : Tree l) (h : (makeP l tgt rel comp)[k]? = some x) : x.target = 0 ∨ x.target = x.node := by
  rcases (path_all T (List.mem_of_getElem? h)).2 with rfl | hx
  · exact .inr rfl
  · exact mkP_target _ _ _ x hx
theorem ends_pos (ht : thereB l tgt = true) : 0 < (makeP l tgt 0 comp).length := by
  have h := (makeP_whole (comp := comp) ht).1
  obtain ⟨r, hr⟩ := wayE_yes (comp := comp) ht
  rw [← List.length_map (f := Stp.node), h, hr]
  exact Nat.succ_pos _
theorem ends_last (T : Tree l) (ht : thereB l tgt = true) (hx : (makeP l tgt 0 comp)[(makeP l tgt 0 comp).length - 1]? = some x) : parE l tgt comp x.node = 0 := by
  have h := (makeP_whole (comp := comp) ht).1
  refine wayE_last T ?_
  rw [← h, List.getLast?_eq_getElem?, List.length_map, List.getElem?_map, hx]
  rfl
theorem ends_none (ht : thereB l tgt = true) (hx : (makeP l tgt 0 comp)[k]? = some x) : x.related = 0 := (makeP_whole (comp := comp) ht).2 x (List.mem_of_getElem? hx)
theorem ends_le : (makeP l tgt rel comp).length ≤ (makeP l tgt 0 comp).length := by
  have := (makeP_part (l := l) (target := tgt) (rel := rel) (comp := comp)).length_le
  rwa [List.length_map] at this
theorem ends_part (h : (makeP l tgt rel comp)[k]? = some x) : (makeP l tgt 0 comp)[k]? = some (bareP x) := by
  obtain ⟨r, hr⟩ := makeP_part (l := l) (target := tgt) (rel := rel) (comp := comp)
  have hk := (List.getElem?_eq_some_iff.1 h).1
  rw [← hr, List.getElem?_append_left (by rw [List.length_map]; exact hk), List.getElem?_map, h]
  rfl
theorem hides_at {t : Int} {p : List Stp} (hk : k < p.length) (h : HidesP l t (p.drop k)) : hidL l (if p[k].target ≠ 0 then p[k].target else t) p[k].node = false ∧ (p[k].related ≠ 0 → hidL l p[k].related p[k].node = false) ∧ HidesP l (if p[k].target ≠ 0 then p[k].target else t) (p.drop (k + 1)) := by
  rw [List.drop_eq_getElem_cons hk] at h
  exact h
end
end Go.Proofs.Ytphpbeapibohiaa

namespace Go.Proofs.Ytphpbeapibohiaa
open Go Go.RowKit

theorem Try.infoStep : (Try.prog.info? 28).map (fun i => (i.zero, i.size, i.bytes)) = some (some (.agg #[.int .i64 0, .int .i64 0, .int .i64 0, .bool false, .bool false]), 5, 32) := by kernel_rfl
/-- What the function closes over, and the path so far: the forest's pointer, the related node, the list and the last entry's node in four blocks; M: the list's rows lie from there on. -/
structure GE (w0 : World) (b : Nat) (rel : Int) (bf br bs ba M : Nat) (w : World) (v : Value) (prev : Int) (xs : List Stp) : Prop where
  low : w0.heap.size ≤ bf ∧ bf < br ∧ br < bs ∧ bs < ba ∧ ba < M ∧ M ≤ w.heap.size
  below : Below w0.heap.size w0 w
  hf : Has w bf (.cells #[at_ b] 33 (0, 0))
  hr : Has w br (.cells #[.int .i64 rel] 3 (0, 0))
  hs : Has w bs (.cells #[v] 22 (0, 0))
  ha : Has w ba (.cells #[.int .i64 prev] 3 (0, 0))
  rows : Recs RS 28 M w v xs
section
variable {w0 w w' : World} {b bf br bs ba M : Nat} {rel prev at' : Int} {v v' : Value} {xs xs' : List Stp}
theorem GE.next (h : GE w0 b rel bf br bs ba M w v prev xs) (k : Below w.heap.size w w') : GE w0 b rel bf br bs ba M w' v prev xs :=
  ⟨⟨h.low.1, h.low.2.1, h.low.2.2.1, h.low.2.2.2.1, h.low.2.2.2.2.1, Nat.le_trans h.low.2.2.2.2.2 k.size⟩, h.below.trans (k.mono h.below.size), h.hf.below k h.hf.inside, h.hr.below k h.hr.inside, h.hs.below k h.hs.inside, h.ha.below k h.ha.inside, h.rows.below k⟩
/-- The list is another one, in the old row or a new one. -/
theorem GE.pushed (h : GE w0 b rel bf br bs ba M w v prev xs) (k : Keeps (fun i => v.ownBlock = some i) w w') (hp : Recs RS 28 M w' v' xs') : GE w0 b rel bf br bs ba M (w'.setCell ⟨bs, 0, none⟩ v') v' prev xs' := by
  obtain ⟨l1, l2, l3, l4, l5, l6⟩ := h.low
  have hv : ∀ g, v.ownBlock = some g → M ≤ g := fun g hg => (h.rows.in_ g hg).1
  have k2 : Keeps (fun i => v.ownBlock = some i ∨ i = bs) w (w'.setCell ⟨bs, 0, none⟩ v') := (k.wide fun _ _ hF => .inl hF).store (p := ⟨bs, 0, none⟩) (.inl (.inr rfl)) _
  have k3 : Keeps (fun i => i = bs) w' (w'.setCell ⟨bs, 0, none⟩ v') := Keeps.store (F := fun i => i = bs) (p := ⟨bs, 0, none⟩) (Keeps.refl _ _) (.inl rfl) _
  have hs' : Has w' bs (.cells #[v] 22 (0, 0)) := h.hs.kept k fun e => by have := hv _ e; omega
  have far : ∀ i, i < M → i ≠ bs → ¬ (v.ownBlock = some i ∨ i = bs) := fun i hi hne hF => by
    rcases hF with hF | hF
    · have := hv _ hF; omega
    · exact hne hF
  refine ⟨⟨l1, l2, l3, l4, l5, Nat.le_trans l6 k2.grows⟩, below_then h.below k2 h.below.size fun i hi hF => ?_, h.hf.kept k2 (far _ (by omega) (by omega)), h.hr.kept k2 (far _ (by omega) (by omega)), ?_, h.ha.kept k2 (far _ (by omega) (by omega)), hp.kept k3 fun g hg e => ?_⟩
  · rcases hF with hF | hF
    · have := hv _ hF; omega
    · omega
  · have := hs'.stored 0 v'
    simpa using this
  · have := (hp.in_ g hg).1
    omega
/-- The last entry's node is another one. -/
theorem GE.moved (h : GE w0 b rel bf br bs ba M w v prev xs) (at' : Int) : GE w0 b rel bf br bs ba M (w.setCell ⟨ba, 0, none⟩ (.int .i64 at')) v at' xs := by
  obtain ⟨l1, l2, l3, l4, l5, l6⟩ := h.low
  have k : Keeps (fun i => i = ba) w (w.setCell ⟨ba, 0, none⟩ (.int .i64 at')) := Keeps.store (F := fun i => i = ba) (p := ⟨ba, 0, none⟩) (Keeps.refl _ _) (.inl rfl) _
  refine ⟨⟨l1, l2, l3, l4, l5, Nat.le_trans l6 k.grows⟩, below_then h.below k h.below.size fun i hi hF => by omega, h.hf.kept k (by omega), h.hr.kept k (by omega), h.hs.kept k (by omega), ?_, h.rows.kept k fun g hg e => ?_⟩
  · have := h.ha.stored 0 (.int .i64 at')
    simpa using this
  · have := (h.rows.in_ g hg).1
    omega
end
section
variable {Rep : (Nat → Prop) → World → Nat → List Nd → Prop} {S : Nat → Prop} {w0 w : World} {b bf br bs ba M : Nat} {l : List Nd} {rel prev : Int} {v : Value} {xs : List Stp}
set_option maxHeartbeats 8000000 in
set_option maxRecDepth 100000 in
theorem ptGather (O : ForestOk Rep) (M' : ForestMore Rep) (hm : Moded l) (at' told : Int) (hrep : Rep S w0 b l) (hg : Good l) (ht : thereB l at' = true) (h : GE w0 b rel bf br bs ba M w v prev xs) (hl : xs.length ≤ 1000000) :
    Calls Try.prog 35 #[.int .i64 at', .int .i64 told, .pointer (some ⟨bs, 0, none⟩), .pointer (some ⟨bf, 0, none⟩), .pointer (some ⟨br, 0, none⟩), .pointer (some ⟨ba, 0, none⟩)] w fun e w' => e = .returned (.tuple #[]) ∧ ∃ v', GE w0 b rel bf br bs ba M w' v' at' (xs ++ [⟨at', told, aimL l rel at', crB l at', decide (ofL l prev = at') && crB l (rootL l at')⟩]) := by
  obtain ⟨X, hX⟩ : ∃ X, X = aimL l rel at' := ⟨_, rfl⟩
  obtain ⟨C, hC⟩ : ∃ C, C = crB l at' := ⟨_, rfl⟩
  obtain ⟨D, hD⟩ : ∃ D, D = (decide (ofL l prev = at') && crB l (rootL l at')) := ⟨_, rfl⟩
  rw [← hX, ← hC, ← hD]
  have HREP : Hid (∀ W, Below w0.heap.size w0 W → Rep S W b l) := Lib.hid fun W hb => O.since hrep hb
  have HS : Hid (∀ W, GE w0 b rel bf br bs ba M W v prev xs → (W.cell? ⟨bs, 0, none⟩ = some v ∧ W.cell? ⟨bf, 0, none⟩ = some (at_ b) ∧ W.cell? ⟨br, 0, none⟩ = some (.int .i64 rel) ∧ W.cell? ⟨ba, 0, none⟩ = some (.int .i64 prev))) := Lib.hid fun W q => ⟨q.hs.cell 0, q.hf.cell 0, q.hr.cell 0, q.ha.cell 0⟩
  have H := Lib.hid h
  have Hm := Lib.hid hm
  have Hg := Lib.hid hg
  have Ht := Lib.hid ht
  have HX := Lib.hid hX
  have HC := Lib.hid hC
  have HD := Lib.hid hD
  have HRt := Lib.hid (rootL_there hg.tree ht)
  -- behind the append and the store
  have HE : Hid (∀ W1 g4 c4 w4, GE w0 b rel bf br bs ba M W1 v prev xs → Recs RS 28 M w4 (.slice (some ⟨g4, 0, none⟩) (xs.length + 1) c4) (xs ++ [⟨at', told, X, C, D⟩]) → Keeps (fun i => v.ownBlock = some i) W1 w4 →
      (w4.cell? ⟨bs, 0, none⟩ = some v ∧ w4.cell? ⟨bf, 0, none⟩ = some (at_ b) ∧ w4.cell? ⟨br, 0, none⟩ = some (.int .i64 rel) ∧ w4.cell? ⟨ba, 0, none⟩ = some (.int .i64 prev)) ∧ w4.frozen? ⟨bs, 0, none⟩ = false ∧
      Hid (GE w0 b rel bf br bs ba M (w4.setCell ⟨bs, 0, none⟩ (.slice (some ⟨g4, 0, none⟩) (xs.length + 1) c4)) (.slice (some ⟨g4, 0, none⟩) (xs.length + 1) c4) prev (xs ++ [⟨at', told, X, C, D⟩]))) := Lib.hid fun W1 g4 c4 w4 q hR hk => by
    obtain ⟨l1, l2, l3, l4, l5, l6⟩ := q.low
    have hv : ∀ i, i < M → ¬ v.ownBlock = some i := fun i hi e => by have := (q.rows.in_ _ e).1; omega
    have hs4 := q.hs.kept hk (hv _ (by omega))
    exact ⟨⟨hs4.cell 0, (q.hf.kept hk (hv _ (by omega))).cell 0, (q.hr.kept hk (hv _ (by omega))).cell 0, (q.ha.kept hk (hv _ (by omega))).cell 0⟩, hs4.free 0, Lib.hid (q.pushed hk hR)⟩
  obtain ⟨j0, qi, qz0, qz1, qz2⟩ := info_parts Try.infoStep
  have Qi := Lib.hid qi
  have Qz0 := Lib.hid qz0
  have Qz1 := Lib.hid qz1
  have Qz2 := Lib.hid qz2
  clear h hm hg ht hX hC hD hrep qi qz0 qz1 qz2
  go_enter Try.func35, Try.ntmps35
  go_wp2_with fail
  refine wp_region_way (late := [25]) (S := fun W => (W.cell? ⟨bs, 0, none⟩ = some v ∧ W.cell? ⟨bf, 0, none⟩ = some (at_ b) ∧ W.cell? ⟨br, 0, none⟩ = some (.int .i64 rel) ∧ W.cell? ⟨ba, 0, none⟩ = some (.int .i64 prev))) (y := Way.takes [0, 1, 2, 3, 4, 5, 7, 8, 10, 11, 13] (.run 6 (.run 9 (.run 12 (Way.takes [14, 15, 16, 17, 18] (.run 19 (.run 20 (Way.takes [21, 22] (.run 23 (.run 24 (.run 25 .fin))))))))))) (by kernel_rfl) (by kernel_rfl) rfl (by kernel_rfl) (HS.out _ (H.out.next (Below.refl _ _).drew)) (fun hHeld => ?_)
  simp only [Way.takes]
  (repeat (first | (refine way_skip (by simp only [List.getElem?_toArray, List.getElem?_cons_succ, List.getElem?_cons_zero]; rfl) (by rfl) hHeld ?_; (try simp only [Act.put, List.setIfInBounds_toArray, List.set_cons_zero, List.set_cons_succ])) | (refine way_pass (by simp only [List.getElem?_toArray, List.getElem?_cons_succ, List.getElem?_cons_zero]; rfl) (by rfl) hHeld ?_; (try simp only [Act.put, List.setIfInBounds_toArray, List.set_cons_zero, List.set_cons_succ])) | (refine way_take (v := ?_) (by simp only [List.getElem?_toArray, List.getElem?_cons_succ, List.getElem?_cons_zero]; rfl) (by rfl) ?_ hHeld ?_; rotate_left; (focus (intro w hSw; (try dsimp only at hSw); go_simp; (try with_reducible rfl); done)); (try simp only [Act.put, List.setIfInBounds_toArray, List.set_cons_zero, List.set_cons_succ]))))
  refine way_run (by simp only [List.getElem?_toArray, List.getElem?_cons_succ, List.getElem?_cons_zero]; rfl) (by rfl) (fun K hK => ?_)
  go_simp
  have H0 := Lib.hid (H.out.next (Below.refl _ _).drew)
  clear H
  refine (aiAim O M' rel at' (HREP.out _ H0.out.below) Hg.out).mono ?_
  rintro e w1 ⟨rfl, hb1⟩
  rw [← HX.out]
  have H1 := Lib.hid (H0.out.next hb1)
  clear hb1 H0
  go_simp
  refine hK.out _ _ (HS.out _ H1.out) (fun hHeld => ?_)
  clear hK K
  (try simp only [Act.put, List.setIfInBounds_toArray, List.set_cons_zero, List.set_cons_succ])
  refine way_run (by simp only [List.getElem?_toArray, List.getElem?_cons_succ, List.getElem?_cons_zero]; rfl) (by rfl) (fun K hK => ?_)
  go_simp
  refine (ptClosed M' Hm.out at' (HREP.out _ H1.out.below) Hg.out Ht.out).mono ?_
  rintro e w2 ⟨rfl, hb2⟩
  rw [← HC.out]
  have H2 := Lib.hid (H1.out.next hb2)
  clear hb2 H1
  go_simp
  refine hK.out _ _ (HS.out _ H2.out) (fun hHeld => ?_)
  clear hK K
  (try simp only [Act.put, List.setIfInBounds_toArray, List.set_cons_zero, List.set_cons_succ])
  refine way_run (by simp only [List.getElem?_toArray, List.getElem?_cons_succ, List.getElem?_cons_zero]; rfl) (by rfl) (fun K hK => ?_)
  go_simp
  refine (slOf O M' prev (HREP.out _ H2.out.below) Hg.out).mono ?_
  rintro e w3 ⟨rfl, hb3⟩
  have H3 := Lib.hid (H2.out.next hb3)
  clear hb3 H2
  go_simp
  refine hK.out _ _ (HS.out _ H3.out) (fun hHeld => ?_)
  clear hK K
  (try simp only [Act.put, List.setIfInBounds_toArray, List.set_cons_zero, List.set_cons_succ])
  by_cases hq : ofL l prev = at'
  · have z1 : (ofL l prev == at') = true := by simpa using hq
    have eD : D = crB l (rootL l at') := by rw [HD.out, decide_eq_true hq, Bool.true_and]
    have ED := Lib.hid eD
    obtain ⟨o, ho⟩ : ∃ o, o = ofL l prev := ⟨_, rfl⟩
    rw [← ho] at z1
    rw [← ho]
    clear hq eD ho HD
    (repeat (first | (refine way_skip (by simp only [List.getElem?_toArray, List.getElem?_cons_succ, List.getElem?_cons_zero]; rfl) (by rfl) hHeld ?_; (try simp only [Act.put, List.setIfInBounds_toArray, List.set_cons_zero, List.set_cons_succ])) | (refine way_pass (by simp only [List.getElem?_toArray, List.getElem?_cons_succ, List.getElem?_cons_zero]; rfl) (by rfl) hHeld ?_; (try simp only [Act.put, List.setIfInBounds_toArray, List.set_cons_zero, List.set_cons_succ])) | (refine way_take (v := ?_) (by simp only [List.getElem?_toArray, List.getElem?_cons_succ, List.getElem?_cons_zero]; rfl) (by rfl) ?_ hHeld ?_; rotate_left; (focus (intro w hSw; (try dsimp only at hSw); go_simp; (try with_reducible rfl); done)); (try simp only [Act.put, List.setIfInBounds_toArray, List.set_cons_zero, List.set_cons_succ]))))
    refine way_run (by simp only [List.getElem?_toArray, List.getElem?_cons_succ, List.getElem?_cons_zero]; rfl) (by rfl) (fun K hK => ?_)
    go_simp
    refine (kinRoot O M' at' (HREP.out _ H3.out.below) Hg.out).mono ?_
    rintro e w4 ⟨rfl, hb4⟩
    have H4 := Lib.hid (H3.out.next hb4)
    clear hb4 H3
    go_simp
    refine hK.out _ _ (HS.out _ H4.out) (fun hHeld => ?_)
    clear hK K
    (try simp only [Act.put, List.setIfInBounds_toArray, List.set_cons_zero, List.set_cons_succ])
    refine way_run (by simp only [List.getElem?_toArray, List.getElem?_cons_succ, List.getElem?_cons_zero]; rfl) (by rfl) (fun K hK => ?_)
    go_simp
    refine (ptClosed M' Hm.out (rootL l at') (HREP.out _ H4.out.below) Hg.out HRt.out).mono ?_
    rintro e w5 ⟨rfl, hb5⟩
    rw [← ED.out]
    have H5 := Lib.hid (H4.out.next hb5)
    clear hb5 H4
    go_simp
    refine hK.out _ _ (HS.out _ H5.out) (fun hHeld => ?_)
    clear hK K
    (try simp only [Act.put, List.setIfInBounds_toArray, List.set_cons_zero, List.set_cons_succ])
    (repeat (first | (refine way_skip (by simp only [List.getElem?_toArray, List.getElem?_cons_succ, List.getElem?_cons_zero]; rfl) (by rfl) hHeld ?_; (try simp only [Act.put, List.setIfInBounds_toArray, List.set_cons_zero, List.set_cons_succ])) | (refine way_pass (by simp only [List.getElem?_toArray, List.getElem?_cons_succ, List.getElem?_cons_zero]; rfl) (by rfl) hHeld ?_; (try simp only [Act.put, List.setIfInBounds_toArray, List.set_cons_zero, List.set_cons_succ])) | (refine way_take (v := ?_) (by simp only [List.getElem?_toArray, List.getElem?_cons_succ, List.getElem?_cons_zero]; rfl) (by rfl) ?_ hHeld ?_; rotate_left; (focus (intro w hSw; (try dsimp only at hSw); go_simp; (try with_reducible rfl); done)); (try simp only [Act.put, List.setIfInBounds_toArray, List.set_cons_zero, List.set_cons_succ]))))
    refine way_run (by simp only [List.getElem?_toArray, List.getElem?_cons_succ, List.getElem?_cons_zero]; rfl) (by rfl) (fun K hK => ?_)
    go_simp
    have H6 := Lib.hid (H5.out.next ((Below.refl _ w5).alloc (Nat.le_refl _) (.cells #[.int .i64 at', .int .i64 told, .int .i64 X, .bool C, .bool D] 28)))
    have HN6 : Hid (Has (w5.alloc (.cells #[.int .i64 at', .int .i64 told, .int .i64 X, .bool C, .bool D] 28)) w5.heap.size (.cells #[.int .i64 at', .int .i64 told, .int .i64 X, .bool C, .bool D] 28 (0, 0))) := Lib.hid (Has.fresh w5 (.cells #[.int .i64 at', .int .i64 told, .int .i64 X, .bool C, .bool D] 28))
    clear H5
    refine hK.out _ _ (HS.out _ H6.out) (fun hHeld => ?_)
    clear hK K
    (try simp only [Act.put, List.setIfInBounds_toArray, List.set_cons_zero, List.set_cons_succ])
    refine way_run (by simp only [List.getElem?_toArray, List.getElem?_cons_succ, List.getElem?_cons_zero]; rfl) (by rfl) (fun K hK => ?_)
    refine wp_pushR (R := RS) (x := ⟨at', told, X, C, D⟩) (v := v) (xs := xs) (base := M) (.tmp 8) (.tmp 31) 22 rfl j0 _ 32 Try.underlying22 Qi.out Qz0.out Qz1.out Qz2.out rfl rfl H6.out.rows rfl HN6.out hl (by omega) H6.out.low.2.2.2.2.2 (fun g4 c4 w6 hR6 hk6 _ _ => ?_)
    obtain ⟨hq6, hz6, HG6⟩ := HE.out _ g4 c4 w6 H6.out hR6 hk6
    have q66 := hq6.1
    have Q6 := Lib.hid hq6
    clear hR6 hk6 hq6 H6 HN6 HE HS
    refine hK.out _ _ Q6.out (fun hHeld => ?_)
    clear hK K
    (try simp only [Act.put, List.setIfInBounds_toArray, List.set_cons_zero, List.set_cons_succ])
    refine way_last (by rfl) (by simp only [List.getElem?_toArray, List.getElem?_cons_succ, List.getElem?_cons_zero]; rfl) (by rfl) (fun K hK => ?_)
    go_simp
    refine hK.out _ _ ?_
    clear hK K
    refine way_done ?_
    clear hHeld q66 hz6 Q6
    have q7 := HG6.out.ha.cell 0
    have z7 := HG6.out.ha.free 0
    obtain ⟨w7, hw7⟩ : ∃ w7, w7 = w6.setCell ⟨bs, 0, none⟩ (.slice (some ⟨g4, 0, none⟩) (xs.length + 1) c4) := ⟨_, rfl⟩
    rw [← hw7] at HG6 q7 z7
    rw [← hw7]
    clear hw7
    have HF := Lib.hid (HG6.out.moved at')
    go_wp2
    first | go_end0 | (simp only [Exit.inBlock, Exit.then]; refine bodyPost_ret (results_none rfl _ _ _) rfl ?_) | refine bodyPost_ret (results_none rfl _ _ _) rfl ?_
    exact ⟨rfl, _, HF.out⟩
  · have z1 : (ofL l prev == at') = false := by simpa using hq
    have eD : D = false := by rw [HD.out, decide_eq_false hq, Bool.false_and]
    obtain ⟨o, ho⟩ : ∃ o, o = ofL l prev := ⟨_, rfl⟩
    rw [← ho] at z1
    rw [← ho]
    subst eD
    clear hq ho HD
    (repeat (first | (refine way_skip (by simp only [List.getElem?_toArray, List.getElem?_cons_succ, List.getElem?_cons_zero]; rfl) (by rfl) hHeld ?_; (try simp only [Act.put, List.setIfInBounds_toArray, List.set_cons_zero, List.set_cons_succ])) | (refine way_pass (by simp only [List.getElem?_toArray, List.getElem?_cons_succ, List.getElem?_cons_zero]; rfl) (by rfl) hHeld ?_; (try simp only [Act.put, List.setIfInBounds_toArray, List.set_cons_zero, List.set_cons_succ])) | (refine way_take (v := ?_) (by simp only [List.getElem?_toArray, List.getElem?_cons_succ, List.getElem?_cons_zero]; rfl) (by rfl) ?_ hHeld ?_; rotate_left; (focus (intro w hSw; (try dsimp only at hSw); go_simp; (try with_reducible rfl); done)); (try simp only [Act.put, List.setIfInBounds_toArray, List.set_cons_zero, List.set_cons_succ]))))
    refine way_run (by simp only [List.getElem?_toArray, List.getElem?_cons_succ, List.getElem?_cons_zero]; rfl) (by rfl) (fun K hK => ?_)
    go_simp
    have H6 := Lib.hid (H3.out.next ((Below.refl _ w3).alloc (Nat.le_refl _) (.cells #[.int .i64 at', .int .i64 told, .int .i64 X, .bool C, .bool false] 28)))
    have HN6 : Hid (Has (w3.alloc (.cells #[.int .i64 at', .int .i64 told, .int .i64 X, .bool C, .bool false] 28)) w3.heap.size (.cells #[.int .i64 at', .int .i64 told, .int .i64 X, .bool C, .bool false] 28 (0, 0))) := Lib.hid (Has.fresh w3 (.cells #[.int .i64 at', .int .i64 told, .int .i64 X, .bool C, .bool false] 28))
    clear H3
    refine hK.out _ _ (HS.out _ H6.out) (fun hHeld => ?_)
    clear hK K
    (try simp only [Act.put, List.setIfInBounds_toArray, List.set_cons_zero, List.set_cons_succ])
    refine way_run (by simp only [List.getElem?_toArray, List.getElem?_cons_succ, List.getElem?_cons_zero]; rfl) (by rfl) (fun K hK => ?_)
    refine wp_pushR (R := RS) (x := ⟨at', told, X, C, false⟩) (v := v) (xs := xs) (base := M) (.tmp 8) (.tmp 31) 22 rfl j0 _ 32 Try.underlying22 Qi.out Qz0.out Qz1.out Qz2.out rfl rfl H6.out.rows rfl HN6.out hl (by omega) H6.out.low.2.2.2.2.2 (fun g4 c4 w6 hR6 hk6 _ _ => ?_)
    obtain ⟨hq6, hz6, HG6⟩ := HE.out _ g4 c4 w6 H6.out hR6 hk6
    have q66 := hq6.1
    have Q6 := Lib.hid hq6
    clear hR6 hk6 hq6 H6 HN6 HE HS
    refine hK.out _ _ Q6.out (fun hHeld => ?_)
    clear hK K
    (try simp only [Act.put, List.setIfInBounds_toArray, List.set_cons_zero, List.set_cons_succ])
    refine way_last (by rfl) (by simp only [List.getElem?_toArray, List.getElem?_cons_succ, List.getElem?_cons_zero]; rfl) (by rfl) (fun K hK => ?_)
    go_simp
    refine hK.out _ _ ?_
    clear hK K
    refine way_done ?_
    clear hHeld q66 hz6 Q6
    have q7 := HG6.out.ha.cell 0
    have z7 := HG6.out.ha.free 0
    obtain ⟨w7, hw7⟩ : ∃ w7, w7 = w6.setCell ⟨bs, 0, none⟩ (.slice (some ⟨g4, 0, none⟩) (xs.length + 1) c4) := ⟨_, rfl⟩
    rw [← hw7] at HG6 q7 z7
    rw [← hw7]
    clear hw7
    have HF := Lib.hid (HG6.out.moved at')
    go_wp2
    first | go_end0 | (simp only [Exit.inBlock, Exit.then]; refine bodyPost_ret (results_none rfl _ _ _) rfl ?_) | refine bodyPost_ret (results_none rfl _ _ _) rfl ?_
    exact ⟨rfl, _, HF.out⟩
end
end Go.Proofs.Ytphpbeapibohiaa
