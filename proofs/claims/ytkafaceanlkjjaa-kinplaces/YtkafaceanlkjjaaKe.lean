/-
  What package kin's Order does with an arena that keeps its promises.
-/
import Derived.Test.YtkafaceanlkjjaaKd
import Derived.Laws.EntriesVeiled
namespace Go.Proofs.Ytkafaceanlkjjaa
open Go Go.RowKit

theorem flat_room {f : Int → List Int} {ks : List Int} {j : Nat} (hj : j < ks.length) : ((ks.take j).flatMap f).length + (f ks[j]).length ≤ (ks.flatMap f).length := by
  have e : ks = ks.take j ++ ks[j] :: ks.drop (j + 1) := by rw [List.getElem_cons_drop, List.take_append_drop]
  have e2 : (ks.flatMap f).length = ((ks.take j ++ ks[j] :: ks.drop (j + 1)).flatMap f).length := congrArg (fun z => (List.flatMap f z).length) e
  rw [e2, List.flatMap_append, List.flatMap_cons, List.length_append, List.length_append]
  omega
theorem flat_step {f : Int → List Int} {ks : List Int} {j : Nat} (hj : j < ks.length) : (ks.take (j + 1)).flatMap f = (ks.take j).flatMap f ++ f ks[j] := by
  rw [List.take_add_one, List.getElem?_eq_getElem hj, Option.toList_some, List.flatMap_append, List.flatMap_cons, List.flatMap_nil, List.append_nil]

/-- The forest's pointer, the list so far, and the function itself, in their three blocks. -/
structure Gath (Rep : (Nat → Prop) → World → Nat → List Nd → Prop) (S : Nat → Prop) (b : Nat) (l : List Nd) (B : Nat) (w : World) (v : Value) (xs : List Int) : Prop where
  rep : Rep (fun i => S i ∧ i < B) w b l
  hp : Has w B (.cells #[at_ b] 25 (0, 0))
  hq : Has w (B + 1) (.cells #[v] 32 (0, 0))
  hr : Has w (B + 2) (.cells #[.func (.func 36) #[] #[.pointer (some ⟨B, 0, none⟩), .pointer (some ⟨B + 1, 0, none⟩), .pointer (some ⟨B + 2, 0, none⟩)]] 58 (0, 0))
  pile : Pile (B + 3) w v xs
/-- What gather leaves. -/
def Gathd (Rep : (Nat → Prop) → World → Nat → List Nd → Prop) (S : Nat → Prop) (b : Nat) (l : List Nd) (B : Nat) (w : World) (v : Value) (xs : List Int) (w' : World) : Prop :=
  ∃ v', Gath Rep S b l B w' v' xs ∧ Keeps (fun i => i = B + 1 ∨ v.ownBlock = some i) w w' ∧ ∀ g, v'.ownBlock = some g → v.ownBlock = some g ∨ w.heap.size ≤ g

section
variable {Rep : (Nat → Prop) → World → Nat → List Nd → Prop} {S : Nat → Prop} {w w' : World} {b B : Nat} {l : List Nd} {v : Value} {xs : List Int}
theorem Gath.below (O : ForestOk Rep) (h : Gath Rep S b l B w v xs) (k : Below w.heap.size w w') : Gath Rep S b l B w' v xs :=
  ⟨O.since h.rep k, h.hp.below k h.hp.inside, h.hq.below k h.hq.inside, h.hr.below k h.hr.inside, h.pile.below k⟩
/-- The list is another one, in the old row or a new one. -/
theorem Gath.put (O : ForestOk Rep) (h : Gath Rep S b l B w v xs) {v' : Value} {xs' : List Int} (k : Keeps (fun i => v.ownBlock = some i) w w') (hp' : Pile (B + 3) w' v' xs') : Gath Rep S b l B (w'.setCell ⟨B + 1, 0, none⟩ v') v' xs' := by
  have hlt := h.pile.lt
  have hb := h.hp.inside
  have k2 : Keeps (fun i => v.ownBlock = some i ∨ i = B + 1) w (w'.setCell ⟨B + 1, 0, none⟩ v') := (k.wide fun _ _ hF => .inl hF).store (.inl (.inr rfl)) _
  have k3 : Keeps (fun i => i = B + 1) w' (w'.setCell ⟨B + 1, 0, none⟩ v') := Keeps.store (F := fun i => i = B + 1) (p := ⟨B + 1, 0, none⟩) (Keeps.refl _ _) (.inl rfl) _
  have hq' : Has w' (B + 1) (.cells #[v] 32 (0, 0)) := h.hq.kept k fun e => by have := (hlt _ e).1; omega
  refine ⟨O.keep h.rep k2 fun i hi _ hF => ?_, h.hp.kept k2 fun hF => ?_, ?_, h.hr.kept k2 fun hF => ?_, hp'.kept k3 fun g hg e => ?_⟩
  · rcases hF with hF | hF
    · have := (hlt _ hF).1; omega
    · omega
  · rcases hF with hF | hF
    · have := (hlt _ hF).1; omega
    · omega
  · have := hq'.stored 0 v'
    simpa using this
  · rcases hF with hF | hF
    · have := (hlt _ hF).1; omega
    · omega
  · have := (hp'.lt g hg).1; omega

set_option maxHeartbeats 8000000 in
set_option maxRecDepth 100000 in
theorem gather_any (O : ForestOk Rep) (M : ForestMore Rep) (hg : Good l) : ∀ (m : Nat) (w : World) (v : Value) (id : Int) (xs : List Int), l.length + 1 ≤ m + (parL l id).length → Gath Rep S b l B w v xs → xs.length + (ordL l id).length ≤ 1000 →
    Calls Try.prog 36 #[.int .i64 id, .pointer (some ⟨B, 0, none⟩), .pointer (some ⟨B + 1, 0, none⟩), .pointer (some ⟨B + 2, 0, none⟩)] w fun e w' => e = .returned (.tuple #[]) ∧ Gathd Rep S b l B w v (xs ++ ordL l id) w' := by
  intro m
  induction m with
  | zero =>
    intro w v id xs hm
    have := parL_len hg.tree id
    omega
  | succ m ih =>
    intro w v id xs hm h hlen
    have H := Lib.hid h
    have Hg := Lib.hid hg
    have IH := Lib.hid ih
    have hnot : ∀ (x : Bool) (w : World), (Op.unary .not (.bool x)).run Try.prog w = .ok (.bool (!x)) w := fun _ _ => rfl
    have p0 := h.hp.cell 0
    cases ht : thereB l id with
    | false =>
      have e0 : xs ++ ordL l id = xs := by rw [ordL_no ht, List.append_nil]
      have E0 := Lib.hid e0
      have Ht := Lib.hid ht
      clear ht h hg ih hm hlen e0
      go_enter Try.func36, Try.ntmps36
      go_wp2_with fail
      refine (nodeNo M H.out.rep Hg.out Ht.out).mono ?_
      rintro e w1 ⟨A1, c1, rfl, -, hb1⟩
      have hb2 : Below w.heap.size w (w1.alloc (.cells #[.int .i64 0, .int .i64 0, .int .i64 0, .int .i64 0, .int .i64 0, .bool false, .string ⟨#[]⟩, .string ⟨#[]⟩, .slice A1 0 c1] 41)) := hb1.alloc hb1.size _
      have Hb2 := Lib.hid hb2
      clear hb1 hb2
      go_wp2
      first | go_end0 | (simp only [Exit.inBlock, Exit.then]; refine bodyPost_ret (results_none rfl _ _ _) rfl ?_) | refine bodyPost_ret (results_none rfl _ _ _) rfl ?_
      rw [E0.out]
      exact ⟨rfl, v, H.out.below O Hb2.out, Keeps.of_below Hb2.out fun i hi hle => by omega, fun g hg => .inl hg⟩
    | true =>
      have hst := ordL_step hg.tree ht
      have hkid : ∀ k ∈ (nd l id).kids, l.length + 1 ≤ m + (parL l k).length := fun k hk => by
        rw [parL_kid hg.tree ht hk]
        simp only [List.length_cons]
        omega
      have hkl : (nd l id).kids.length ≤ 200 := few_nd hg.few id
      have Ht := Lib.hid ht
      have Hst := Lib.hid hst
      have Hkid := Lib.hid hkid
      have Hlen := Lib.hid hlen
      clear ht hg ih hm hst hkid hlen h
      go_enter Try.func36, Try.ntmps36
      go_wp2_with fail
      refine (nodeYes M H.out.rep Hg.out Ht.out).mono ?_
      rintro e w1 ⟨A1, c1, rfl, hk1, hb1⟩
      obtain ⟨d, hd⟩ : ∃ d, d = nd l id := ⟨_, rfl⟩
      rw [← hd] at hk1 hkl Hst Hkid
      rw [← hd]
      have hG1 := H.out.below O hb1
      obtain ⟨W2, hW2⟩ : ∃ W2, W2 = (w1.alloc (.cells #[.int .i64 d.kind, .int .i64 d.parent, .int .i64 d.host, .int .i64 d.shadow, .int .i64 d.mode, .bool d.slot, .string d.name, .string d.want, .slice A1 d.kids.length c1] 41)).alloc (.cells #[.int .i64 id] 3) := ⟨_, rfl⟩
      have hb12 : Below w1.heap.size w1 W2 := by
        rw [hW2]
        exact ((Below.refl _ w1).alloc (Nat.le_refl _) _).alloc (by simp) _
      have hG2 := hG1.below O hb12
      have hboxW : Has W2 w1.heap.size (.cells #[.int .i64 d.kind, .int .i64 d.parent, .int .i64 d.host, .int .i64 d.shadow, .int .i64 d.mode, .bool d.slot, .string d.name, .string d.want, .slice A1 d.kids.length c1] 41 (0, 0)) := by
        rw [hW2]
        exact (Has.fresh _ _).more _
      have hlitW : Has W2 (w1.heap.size + 1) (.cells #[.int .i64 id] 3 (0, 0)) := by
        rw [hW2]
        have := Has.fresh (w1.alloc (.cells #[.int .i64 d.kind, .int .i64 d.parent, .int .i64 d.host, .int .i64 d.shadow, .int .i64 d.mode, .bool d.slot, .string d.name, .string d.want, .slice A1 d.kids.length c1] 41)) (.cells #[.int .i64 id] 3)
        simpa using this
      have hs2 : W2.heap.size = w1.heap.size + 2 := by rw [hW2]; simp
      have hkP : Pile w.heap.size W2 (.slice A1 d.kids.length c1) d.kids := (Pile.of_kids hk1 fun g hg _ => hg).below hb12
      have hkin : ∀ g, (Value.slice A1 d.kids.length c1).ownBlock = some g → w.heap.size ≤ g ∧ g < w1.heap.size := (Pile.of_kids (base := w.heap.size) hk1 fun g hg _ => hg).lt
      have hvl : ∀ g, v.ownBlock = some g → B + 3 ≤ g ∧ g < w.heap.size := H.out.pile.lt
      have hBw : B + 2 < w.heap.size := H.out.hr.inside
      have hw1 := hb1.size
      have hxl : xs.length ≤ 1000000 := by have := Hlen.out; omega
      have q0 : W2.cell? ⟨B + 1, 0, none⟩ = some v := hG2.hq.cell 0
      have q1 : (w1.alloc (.cells #[.int .i64 d.kind, .int .i64 d.parent, .int .i64 d.host, .int .i64 d.shadow, .int .i64 d.mode, .bool d.slot, .string d.name, .string d.want, .slice A1 d.kids.length c1] 41)).cell? ⟨B + 1, 0, none⟩ = some v := (hG1.below O ((Below.refl _ w1).alloc (Nat.le_refl _) _)).hq.cell 0
      -- what is so behind the append and the store
      have HC : Hid (∀ g cap w3, Pile (B + 3) w3 (.slice (some ⟨g, 0, none⟩) (xs.length + 1) cap) (xs ++ [id]) → Keeps (fun i => v.ownBlock = some i) W2 w3 → (v.ownBlock = some g ∨ W2.heap.size ≤ g) →
          w3.cell? ⟨B + 1, 0, none⟩ = some v ∧ w3.frozen? ⟨B + 1, 0, none⟩ = false ∧ (w3.setCell ⟨B + 1, 0, none⟩ (.slice (some ⟨g, 0, none⟩) (xs.length + 1) cap)).cell? ⟨w1.heap.size, 8, none⟩ = some (.slice A1 d.kids.length c1) ∧
          Hid (Gath Rep S b l B (w3.setCell ⟨B + 1, 0, none⟩ (.slice (some ⟨g, 0, none⟩) (xs.length + 1) cap)) (.slice (some ⟨g, 0, none⟩) (xs.length + 1) cap) (xs ++ [id]) ∧ Keeps (fun i => i = B + 1 ∨ v.ownBlock = some i) w (w3.setCell ⟨B + 1, 0, none⟩ (.slice (some ⟨g, 0, none⟩) (xs.length + 1) cap)) ∧
            (v.ownBlock = some g ∨ w1.heap.size ≤ g) ∧ Pile w.heap.size (w3.setCell ⟨B + 1, 0, none⟩ (.slice (some ⟨g, 0, none⟩) (xs.length + 1) cap)) (.slice A1 d.kids.length c1) d.kids)) := Lib.hid fun g cap w3 hp3 hk3 hat => by
        have hq3 : Has w3 (B + 1) (.cells #[v] 32 (0, 0)) := hG2.hq.kept hk3 fun e => by have := (hvl _ e).1; omega
        have hbox3 : Has w3 w1.heap.size (.cells #[.int .i64 d.kind, .int .i64 d.parent, .int .i64 d.host, .int .i64 d.shadow, .int .i64 d.mode, .bool d.slot, .string d.name, .string d.want, .slice A1 d.kids.length c1] 41 (0, 0)) := hboxW.kept hk3 fun e => by have := (hvl _ e).2; omega
        refine ⟨hq3.cell 0, hq3.free 0, (hbox3.aside (p := ⟨B + 1, 0, none⟩) (show w1.heap.size ≠ B + 1 by omega) _).cell 8, Lib.hid ⟨hG2.put O hk3 hp3, ?_, ?_, ?_⟩⟩
        · have kk : Keeps (fun i => i = B + 1 ∨ v.ownBlock = some i) w W2 := Keeps.of_below (hb1.trans (hb12.mono hb1.size)) fun i hi hle => by omega
          exact (kk.also (hk3.wide fun _ _ h => .inr h)).store (.inl (.inl rfl)) _
        · exact hat.imp (fun h => h) fun h => by omega
        · refine (hkP.kept hk3 fun g' hg' e => ?_).kept (Keeps.store (F := fun i => i = B + 1) (p := ⟨B + 1, 0, none⟩) (Keeps.refl _ _) (.inl rfl) _) fun g' hg' e => ?_
          · have h1 := (hkin g' hg').1
            have h2 := (hvl _ e).2
            omega
          · have h1 := (hkin g' hg').1
            omega
      have HS2 : Hid (B + 3 ≤ W2.heap.size) := Lib.hid (by omega)
      have HP2 := Lib.hid hG2.pile
      have HL2 := Lib.hid hlitW
      have Hkin := Lib.hid hkin
      have Hvl := Lib.hid hvl
      obtain ⟨Ao, co, ev, -⟩ := hG2.pile.form
      have HW2 := Lib.hid hW2
      rw [HW2.out] at q0 HC HP2 HL2 HS2
      clear hd hb12 hG1 hG2 hboxW hlitW hs2 hkP hk1 hkin hvl hW2 HW2 hb1
      subst ev
      go_wp2_with (at_builtin; refine wpList_push rfl (.tmp 17) (.tmp 19) rfl rfl HP2.out rfl HL2.out hxl HS2.out ?_; intro g cap w3 hp3 hk3 hat _; obtain ⟨r0, r1, r2, HGK⟩ := HC.out g cap w3 hp3 hk3 hat)
      obtain ⟨w4, hw4⟩ : ∃ w4, w4 = w3.setCell ⟨B + 1, 0, none⟩ (.slice (some ⟨g, 0, none⟩) (xs.length + 1) cap) := ⟨_, rfl⟩
      rw [← hw4] at HGK
      rw [← hw4]
      obtain ⟨n, hn⟩ : ∃ n, n = d.kids.length := ⟨_, rfl⟩
      rw [← hn] at HGK hkl Hkin
      rw [← hn]
      have Hn := Lib.hid hn
      clear hw4 hn r0 r1 r2 hp3 hk3 hat HC HP2 HL2 HS2 q0 q1
      go_loopw [8, 24] (fun _ i wr => ∃ (j : Nat) (v' : Value), i = .int .i64 j ∧ j ≤ n ∧ Gath Rep S b l B wr v' ((xs ++ [id]) ++ (d.kids.take j).flatMap (ordL l)) ∧ Keeps (fun i => i = B + 1 ∨ (Value.slice Ao xs.length co).ownBlock = some i) w wr ∧ (∀ g, v'.ownBlock = some g → (Value.slice Ao xs.length co).ownBlock = some g ∨ w.heap.size ≤ g) ∧ (∀ g, (Value.slice A1 n c1).ownBlock = some g → v'.ownBlock ≠ some g) ∧ Pile w.heap.size wr (.slice A1 n c1) d.kids) (fun _ i _ => n - (intOf i).toNat)
      case atStart =>
        obtain ⟨h1, h2, h3, h4⟩ := HGK.out
        refine ⟨0, _, rfl, Nat.zero_le _, by simpa using h1, h2, fun g' hg' => ?_, fun g' hg' e => ?_, h4⟩
        · obtain rfl : g = g' := by simpa [Value.ownBlock] using hg'
          exact h3.imp (fun h => h) fun h => by omega
        · obtain rfl : g = g' := by simpa [Value.ownBlock] using e
          have q := Hkin.out g hg'
          rcases h3 with h3 | h3
          · have := (Hvl.out g h3).2
            omega
          · omega
      case round =>
        obtain ⟨j, v', rfl, hj, hG, hK, hat, hap, hPk⟩ := hrel
        by_cases hjn : (j : Int) < n
        · have hjk : j < d.kids.length := by rw [← Hn.out]; omega
          obtain ⟨A, c, eA, hL⟩ := hPk.form
          obtain ⟨rfl, rfl⟩ : A1 = A ∧ c1 = c := by injection eA with e1 _ e3; exact ⟨e1, e3⟩
          obtain ⟨b', off, rfl, hB, hc⟩ := hL.nums j hjk
          have hdeep := Hkid.out d.kids[j] (List.getElem_mem hjk)
          have hlen' : ((xs ++ [id]) ++ (d.kids.take j).flatMap (ordL l)).length + (ordL l d.kids[j]).length ≤ 1000 := by
            have h1 := Hlen.out
            rw [Hst.out] at h1
            have h2 := flat_room (f := ordL l) hjk
            simp only [List.length_append, List.length_cons, List.length_nil] at h1 ⊢
            omega
          have hstep := flat_step (f := ordL l) hjk
          obtain ⟨y, hy⟩ : ∃ y, y = d.kids[j] := ⟨_, rfl⟩
          rw [← hy] at hc hdeep hlen' hstep
          have C := Lib.hid (IH.out wr v' y _ hdeep hG hlen')
          have f0 := hG.hr.cell 0
          have Hstep := Lib.hid hstep
          have Hhap := Lib.hid hap
          have Hhat := Lib.hid hat
          have HPk := Lib.hid hPk
          have hBr := hG.hr.inside
          clear hdeep hlen' hstep hy hL eA hG hap hat hPk HGK hB
          go_wp2_with fail
          refine C.out.mono ?_
          rintro e w5 ⟨rfl, v5, hG5, hK5, hat5⟩
          go_wp2
          go_roundw
          case rel =>
            have hPl := HPk.out.lt
            refine ⟨j + 1, v5, by go_num, by omega, ?_, hK.trans hK5 fun i hi hF => ?_, fun g' hg' => ?_, fun g' hg' e => ?_, HPk.out.kept hK5 fun g' hg' e => ?_⟩
            · rw [Hstep.out, ← List.append_assoc]
              exact hG5
            · rcases hF with hF | hF
              · exact .inl hF
              · rcases Hhat.out i hF with h | h
                · exact .inr h
                · omega
            · rcases hat5 g' hg' with h | h
              · exact Hhat.out g' h
              · exact .inr (Nat.le_trans hK.grows h)
            · rcases hat5 g' e with h | h
              · exact Hhap.out g' hg' h
              · have := (hPl g' hg').2
                omega
            · rcases e with e | e
              · have := (hPl g' hg').1
                omega
              · exact Hhap.out g' hg' e
          case measure => simp [intOf]; omega
        · have he : (xs ++ [id]) ++ (d.kids.take j).flatMap (ordL l) = xs ++ ordL l id := by
            rw [List.take_of_length_le (by rw [← Hn.out]; omega), Hst.out, List.append_assoc, List.singleton_append]
          rw [he] at hG
          clear he
          go_wp2
          first | go_end0 | (simp only [Exit.inBlock, Exit.then]; refine bodyPost_ret (results_none rfl _ _ _) rfl ?_) | refine bodyPost_ret (results_none rfl _ _ _) rfl ?_
          exact ⟨rfl, v', hG, hK, hat⟩

set_option maxHeartbeats 2000000 in
theorem kinOrder (O : ForestOk Rep) (M : ForestMore Rep) (id : Int) (h : Rep S w b l) (hg : Good l) :
    Calls Try.prog 17 #[at_ b, .int .i64 id] w fun e w' => ∃ v, e = .returned v ∧ Pile w.heap.size w' v (ordL l id) ∧ Below w.heap.size w w' := by
  have hmf : ∀ (fn : Fn) (first cap : Array Value) (w : World), (Instr.makeFunc fn first cap).run Try.prog w = .ok (.func fn first cap) w := fun _ _ _ _ => rfl
  have hlen : ([] : List Int).length + (ordL l id).length ≤ 1000 := by
    have := ordL_len hg.tree id
    have := hg.len
    simp
    omega
  obtain ⟨W, hW⟩ : ∃ W, W = ((w.alloc (.cells #[at_ b] 25)).alloc (.cells #[.slice none 0 0] 32)).alloc (.cells #[.func (.func 36) #[] #[.pointer (some ⟨w.heap.size, 0, none⟩), .pointer (some ⟨w.heap.size + 1, 0, none⟩), .pointer (some ⟨w.heap.size + 1 + 1, 0, none⟩)]] 58) := ⟨_, rfl⟩
  have hb : Below w.heap.size w W := by
    rw [hW]
    exact (((Below.refl _ w).alloc (Nat.le_refl _) _).alloc (by simp) _).alloc (by simp; omega) _
  have hG : Gath Rep S b l w.heap.size W (.slice none 0 0) [] := by
    refine ⟨O.since (O.wide h fun i hi hlt => ⟨hi, hlt⟩) hb, ?_, ?_, ?_, Pile.nil _ _⟩
    · rw [hW]
      exact ((Has.fresh _ _).more _).more _
    · rw [hW]
      have := Has.fresh (w.alloc (.cells #[at_ b] 25)) (.cells #[.slice none 0 0] 32)
      rw [show (w.alloc (.cells #[at_ b] 25)).heap.size = w.heap.size + 1 by simp] at this
      exact this.more _
    · rw [hW]
      have := Has.fresh ((w.alloc (.cells #[at_ b] 25)).alloc (.cells #[.slice none 0 0] 32)) (.cells #[.func (.func 36) #[] #[.pointer (some ⟨w.heap.size, 0, none⟩), .pointer (some ⟨w.heap.size + 1, 0, none⟩), .pointer (some ⟨w.heap.size + 1 + 1, 0, none⟩)]] 58)
      rw [show ((w.alloc (.cells #[at_ b] 25)).alloc (.cells #[.slice none 0 0] 32)).heap.size = w.heap.size + 2 by simp] at this
      exact this
  have hs : w.heap.size ≤ W.heap.size := hb.size
  have C := Lib.hid (gather_any O M hg (l.length + 1) W (.slice none 0 0) id [] (by omega) hG hlen)
  have Hb := Lib.hid hb
  have HW := Lib.hid hW
  clear h hg hlen hb hG hW
  go_enter Try.func17, Try.ntmps17
  go_wp2_with fail
  rw [← HW.out]
  refine C.out.mono ?_
  rintro e w1 ⟨rfl, v, hG, hK, -⟩
  have c0 : w1.cell? ⟨w.heap.size + 1, 0, none⟩ = some v := hG.hq.cell 0
  have HF : Hid (Pile w.heap.size w1 v (ordL l id) ∧ Below w.heap.size w w1) := Lib.hid ⟨hG.pile.from_ (by omega), below_then Hb.out hK hs fun i hi hF => by
    rcases hF with hF | hF
    · omega
    · cases hF⟩
  clear hG hK C HW Hb hs
  go_wp2
  go_ret
  exact ⟨v, rfl, HF.out.1, HF.out.2⟩
end
end Go.Proofs.Ytkafaceanlkjjaa
