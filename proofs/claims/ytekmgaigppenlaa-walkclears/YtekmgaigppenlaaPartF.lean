/-
  Paths of a forest, plain: at each place, what the walks see is just what isn't hidden from that place's node. No program is named here.
  What is seen of a path, as the document tells it, plain: the place, the level, the flags of all entries; of a path of a forest they tell just what isn't hidden. No program is named here.
  What is seen of a path, as loops do it, plain: the place from behind; flags written into a table. No program is named here.
  What is seen of a path, plain: it is a part of the path and has the node; of a path without closed trees it is all. No program is named here.
  What is seen of a path, as a walk over an iterator does it, plain: entries with their places, from behind and from ahead; levels; what a walk has told when so many entries have come. No program is named here.
  The library's iterators over a list of entries: slices.Backward, slices.All; a list of entries, cut.
  What place and Level of package see do: they range over slices.Backward.
  A range over an iterator that ranges over another one itself: what a round keeps is said of all blocks but those that are named, and those that hold records of one type; what abides is said of whatever the iterator lays behind the call's beginning. No program is named here.
  slices.Backward over a list of entries, whatever its rounds keep, if they keep that list and the iterator's box.
  The turns of a path, plain; the target that is told at a place. No program is named here.
  What hasTarget and phase of package walk do; a clone of a list of entries.
  A list of numbers, cut: s[:k], s[k:].
-/
import Derived.Test.YtekmgaigppenlaaPartE
import Derived.RangeFuncNested
import Derived.RangeFuncBound
import Derived.RangeFuncCalls
import Derived.RangeFuncLeaves
import Derived.Shelf.Abstract
import Derived.Shelf.RegionOpen
import Derived.WalkKit
import Derived.OwnWalkIn
import Derived.TacticsInMore
import Derived.LoopNIn
import Derived.LoopIn
import Derived.Lib.SliceRun

namespace Go.Proofs.Ytekmgaigppenlaa
open Go

/-- A path as Make tells it: each entry's node is the parent for the event of the one ahead. -/
def PthOk (l : List Nd) (first : Int) (comp : Bool) : List Stp → Prop
  | [] => True
  | s :: r => thereB l s.node = true ∧ s.cr = crB l s.node ∧ (∀ s' r', r = s' :: r' → s'.node = parE l first comp s.node ∧ s'.cs = csB l s.node s'.node) ∧ PthOk l first comp r
/-- .. from an entry back to the first one. -/
def RevOk (l : List Nd) (first : Int) (comp : Bool) : Stp → List Stp → Prop
  | y, [] => y.cs = false
  | y, x :: q => thereB l x.node = true ∧ x.cr = crB l x.node ∧ y.node = parE l first comp x.node ∧ y.cs = csB l x.node y.node ∧ RevOk l first comp x q
section
variable {l : List Nd} {first rel target x y c a b : Int} {comp : Bool} {s s0 e : Stp} {r q post mid pre : List Stp}
theorem roll : ∀ (mid : List Stp) (s0 : Stp) (q : List Stp), RevOk l first comp s0 q → PthOk l first comp (s0 :: (mid ++ s :: post)) → RevOk l first comp s (mid.reverse ++ s0 :: q) ∧ PthOk l first comp (s :: post)
  | [], s0, q, h, hp => by
    obtain ⟨h1, h2, h3, h4⟩ := hp
    obtain ⟨h5, h6⟩ := h3 s post rfl
    exact ⟨⟨h1, h2, h5, h6, h⟩, h4⟩
  | m :: mid, s0, q, h, hp => by
    obtain ⟨h1, h2, h3, h4⟩ := hp
    obtain ⟨h5, h6⟩ := h3 m (mid ++ s :: post) rfl
    have := roll mid m (s0 :: q) ⟨h1, h2, h5, h6, h⟩ h4
    rw [List.reverse_cons, List.append_assoc]
    exact this
theorem at_ok (hp : PthOk l first comp (pre ++ s :: post)) (h0 : ∀ h t, pre ++ s :: post = h :: t → h.cs = false) : RevOk l first comp s pre.reverse ∧ PthOk l first comp (s :: post) := by
  cases pre with
  | nil => exact ⟨h0 s post rfl, hp⟩
  | cons s0 mid =>
    have := roll mid s0 [] (h0 s0 _ rfl) hp
    rw [List.reverse_cons]
    exact this
theorem mu_over (T : Tree l) (h : x ∈ over l y) : mu l x ≤ mu l y := wgt_suffix _ (over_suffix T h)
theorem pth_mu (T : Tree l) : ∀ (r : List Stp) (s : Stp), PthOk l first comp (s :: r) → ∀ e ∈ r, mu l e.node < mu l s.node
  | [], _, _, e, he => by cases he
  | m :: r, s, hp, e, he => by
    obtain ⟨h1, h2, h3, h4⟩ := hp
    obtain ⟨h5, -⟩ := h3 m r rfl
    have hm : mu l m.node < mu l s.node := by
      have ht := h4.1
      rw [h5] at ht ⊢
      exact mu_less T fun e => by rw [e, thereB_zero] at ht; cases ht
    rcases List.mem_cons.1 he with rfl | he
    · exact hm
    · exact Nat.lt_trans (pth_mu T r m h4 e he) hm
theorem rev_mu (T : Tree l) : ∀ (q : List Stp) (y : Stp), thereB l y.node = true → RevOk l first comp y q → ∀ e ∈ q, mu l y.node < mu l e.node
  | [], _, _, _, e, he => by cases he
  | x :: q, y, hy, hr, e, he => by
    obtain ⟨h1, h2, h3, h4, h5⟩ := hr
    have hm : mu l y.node < mu l x.node := by
      rw [h3] at hy ⊢
      exact mu_less T fun e => by rw [e, thereB_zero] at hy; cases hy
    rcases List.mem_cons.1 he with rfl | he
    · exact hm
    · exact Nat.lt_trans hm (rev_mu T q x h1 h5 e he)
theorem clsL_once (T : Tree l) : ∀ i, (clsL l i).Nodup :=
  trees T (fun i h => by rw [clsL_no h]; exact List.nodup_nil) fun i h ih => by
    by_cases hm : (nd l (rootL l i)).mode = 2
    · rw [clsL_yes T h hm, List.nodup_cons]
      refine ⟨fun hc => ?_, ih⟩
      have h1 := over_suffix T (cls_over T hc)
      have h2 := h1.length_le
      rw [over_root T h, List.length_cons] at h2
      omega
    · rw [clsL_not T h hm]
      exact ih
theorem cls_is (T : Tree l) : ∀ i, ∀ c ∈ clsL l i, thereB l c = true ∧ rootL l c = c ∧ (nd l c).mode = 2 :=
  trees T (fun i h c hc => by rw [clsL_no h] at hc; cases hc) fun i h ih c hc => by
    by_cases hm : (nd l (rootL l i)).mode = 2
    · rw [clsL_yes T h hm] at hc
      rcases List.mem_cons.1 hc with rfl | hc
      · exact ⟨rootL_there T h, root_self T h, hm⟩
      · exact ih c hc
    · rw [clsL_not T h hm] at hc
      exact ih c hc
theorem cls_of_over (T : Tree l) (hc : rootL l c = c) (hm : (nd l c).mode = 2) : ∀ b, c ∈ over l b → c ∈ clsL l b :=
  trees T (fun b h hc' => by rw [over_none h] at hc'; cases hc') fun b h ih hc' => by
    have hct := over_in hc'
    rw [over_host T h] at hc'
    rcases List.mem_append.1 hc' with hc' | hc'
    · have e : rootL l b = c := by
        have := rootL_of T hct (x := b) (by rw [hc]; exact hc')
        rw [this, hc]
      rw [clsL_yes T h (by rw [e]; exact hm), e]
      exact List.mem_cons_self
    · have := ih hc'
      by_cases hm' : (nd l (rootL l b)).mode = 2
      · rw [clsL_yes T h hm']
        exact List.mem_cons_of_mem _ this
      · rw [clsL_not T h hm']
        exact this
/-- What the walks tell is whether it is hidden. -/
theorem right_hid (T : Tree l) {f : Bool} (hb : thereB l b = true) (h : Right1 (fun c => c ∈ clsL l b) (fun c => (nd l c).host ≠ 0) f (clsL l a)) : hidL l a b = !f := by
  rcases h with ⟨rfl, h⟩ | ⟨rfl, c, r, e, hn, hh⟩
  · unfold hidL
    cases hc : clsL l a with
    | nil => exact Bool.and_false _
    | cons c r =>
      have := cls_over T (h c (by rw [hc]; exact List.mem_cons_self))
      show (_ && (_ && !hasB (over l b) c)) = false
      rw [hasB_yes this]
      simp
  · obtain ⟨-, h1, h2⟩ := cls_is T a c (by rw [e]; exact List.mem_cons_self)
    have hno : c ∉ over l b := fun ho => hn (cls_of_over T h1 h2 b ho)
    unfold hidL
    rw [hb, e]
    show (true && (decide ((nd l c).host ≠ 0) && !hasB (over l b) c)) = true
    rw [hasB_no hno, decide_eq_true hh]
    rfl
/-- On from an entry. -/
theorem chain_fwd (T : Tree l) : ∀ (r : List Stp) (s : Stp), PthOk l first comp (s :: r) → (∀ e ∈ r, ∀ c ∈ clsL l b, c ∈ over l e.node → c ∈ popS l s.node) →
    Chain (fun c => c ∈ clsL l b) (fun c => (nd l c).host ≠ 0) (popS l s.node) (r.map fun e => ((e.cs, e.cr), clsL l e.node))
  | [], _, _, _ => .nil _
  | e :: r, s, hp, hin => by
    have hmu := pth_mu T (e :: r) s hp
    obtain ⟨h1, h2, h3, h4⟩ := hp
    obtain ⟨h5, h6⟩ := h3 e r rfl
    have hmu2 := pth_mu T r e h4
    have hp4 := h4
    obtain ⟨he, hcr, -, -⟩ := h4
    have hst := cls_step (first := first) (comp := comp) T h1 (by rw [← h5]; exact he)
    rw [← h5, ← h6] at hst
    have hsub : ∀ c ∈ popS l s.node, c ∈ clsL l e.node := fun c hc => by
      rw [hst]
      split
      · exact List.mem_cons_of_mem _ hc
      · exact hc
    refine .cons (T' := popS l e.node) (fun ha => ?_) (fun ha => ?_) (fun ho => ?_) (fun ho => ?_) (chain_fwd T r e hp4 fun e' he' c hc hco => ?_)
    · rw [if_pos ha] at hst
      refine ⟨_, hst, fun hc => ?_, ?_⟩
      · have := hin e (by simp) _ hc (root_over T he)
        have hnd := clsL_once T e.node
        rw [hst, List.nodup_cons] at hnd
        exact hnd.1 this
      · rw [h6] at ha
        unfold csB at ha
        rw [Bool.and_eq_true, decide_eq_true_iff] at ha
        have ho := ha.1
        have hpe : e.node = ofL l s.node := by rw [h5]; unfold parE; rw [if_pos h1, if_pos ho]
        obtain ⟨-, -, hp, -, hq, -, -, hh⟩ := of_what T ho
        rw [hpe, ← hostL_at hq, hh]
        intro e0
        rw [e0, thereB_zero] at hp
        cases hp
    · rw [if_neg (by rw [ha]; decide)] at hst
      exact hst
    · rw [hcr] at ho
      exact ⟨_, popS_yes T he ho⟩
    · rw [hcr] at ho
      exact (popS_no ho).symm
    · have h7 := hsub c (hin e' (by simp [he']) c hc hco)
      cases hcb : crB l e.node with
      | false => rw [← popS_no hcb]; exact h7
      | true =>
        rw [popS_yes T he hcb] at h7
        rcases List.mem_cons.1 h7 with rfl | h7
        · have := mu_over T hco
          have := hmu2 e' he'
          omega
        · exact h7
/-- The stack between an entry and the one ahead of it. -/
def betw (l : List Nd) : List Stp → List Int
  | [] => []
  | x :: _ => popS l x.node
/-- Back from an entry. -/
theorem chain_bwd (T : Tree l) : ∀ (q : List Stp) (y : Stp), thereB l y.node = true → RevOk l first comp y q → (∀ e ∈ q, mu l b < mu l e.node) →
    Chain (fun c => c ∈ clsL l b) (fun c => (nd l c).host ≠ 0) (betw l q) (q.map fun e => ((e.cr, e.cs), clsL l e.node))
  | [], _, _, _, _ => .nil _
  | x :: q, y, hy, hr, hmu => by
    obtain ⟨h1, h2, h3, h4, h5⟩ := hr
    have hx := hmu x (by simp)
    have h0 : y.node ≠ 0 := fun e => by rw [e, thereB_zero] at hy; cases hy
    -- the entry ahead
    obtain ⟨T', h6, h7, h8⟩ : ∃ T', (x.cs = true → ∃ c, clsL l x.node = c :: T') ∧ (x.cs = false → T' = clsL l x.node) ∧ Chain (fun c => c ∈ clsL l b) (fun c => (nd l c).host ≠ 0) T' (q.map fun e => ((e.cr, e.cs), clsL l e.node)) := by
      cases q with
      | nil => exact ⟨clsL l x.node, (fun h => absurd (h.symm.trans (show x.cs = false from h5)) (by decide)), (fun _ => rfl), .nil _⟩
      | cons x' q' =>
        have ih := chain_bwd T (x' :: q') x h1 h5 fun e he => hmu e (by simp [he])
        obtain ⟨k1, -, k3, k4, -⟩ := h5
        have hst := cls_step (first := first) (comp := comp) T k1 (by rw [← k3]; exact h1)
        rw [← k3, ← k4] at hst
        refine ⟨popS l x'.node, (fun h => ⟨_, by rw [if_pos h] at hst; exact hst⟩), (fun h => ?_), ih⟩
        rw [if_neg (by rw [h]; decide)] at hst
        exact hst.symm
    refine .cons (T' := T') (fun ha => ?_) (fun ha => ?_) h6 h7 h8
    · rw [h2] at ha
      refine ⟨x.node, popS_yes T h1 ha, fun hc => ?_, ?_⟩
      · have := mu_over T (cls_over T hc)
        omega
      · obtain ⟨k3, -⟩ := crB_iff.1 ha
        have ho : ofL l x.node = 0 := Decidable.byContradiction fun ho => by
          have := (of_what T ho).2.1
          omega
        intro e0
        apply h0
        rw [h3]
        unfold parE
        rw [if_pos h1, if_neg (fun h => h ho), if_pos k3, e0]
        split <;> rfl
    · rw [h2] at ha
      exact popS_no ha
/-- The walk on, and the walk back, from the entry s, at whatever level. -/
theorem fwd_right (T : Tree l) (hp : PthOk l first comp (s :: post)) (lev : Int) {i : Nat} {f : Bool} (hf : (walkF lev lev (post.map fun e => (e.cs, e.cr)))[i]? = some f) (he : post[i]? = some e) : hidL l e.node s.node = !f := by
  have hch := chain_fwd (b := s.node) T post s hp fun e he c hc hco => by
    have hmu := pth_mu T post s hp e he
    cases hcb : crB l s.node with
    | false => rw [← popS_no hcb]; exact hc
    | true =>
      rw [popS_yes T hp.1 hcb] at hc
      rcases List.mem_cons.1 hc with rfl | hc
      · have := mu_over T hco
        omega
      · exact hc
  refine right_hid T hp.1 (walk_ok _ (popS l s.node) [] (popS l s.node) (lev - (popS l s.node).length) hch rfl (fun c hc => by cases hc) (fun c hc => popS_sub T hp.1 c hc) i f ((e.cs, e.cr), clsL l e.node) ?_ ?_)
  · rw [List.map_map, show lev - ((popS l s.node).length : Int) + ((popS l s.node).length : Int) = lev by omega]
    exact hf
  · rw [List.getElem?_map, he]
    rfl
theorem bwd_right (T : Tree l) (hs : thereB l s.node = true) (hr : RevOk l first comp s q) (lev : Int) {i : Nat} {f : Bool} (hf : (walkF lev lev (q.map fun e => (e.cr, e.cs)))[i]? = some f) (he : q[i]? = some e) : hidL l e.node s.node = !f := by
  have hch := chain_bwd (b := s.node) T q s hs hr (rev_mu T q s hs hr)
  refine right_hid T hs (walk_ok _ (betw l q) [] (betw l q) (lev - (betw l q).length) hch rfl (fun c hc => by cases hc) (fun c hc => ?_) i f ((e.cr, e.cs), clsL l e.node) ?_ ?_)
  · cases q with
    | nil => cases hc
    | cons x q' =>
      obtain ⟨h1, h2, h3, h4, h5⟩ := hr
      have hst := cls_step (first := first) (comp := comp) T h1 (by rw [← h3]; exact hs)
      rw [← h3] at hst
      show c ∈ clsL l s.node
      rw [hst]
      split
      · exact List.mem_cons_of_mem _ hc
      · exact hc
  · rw [List.map_map, show lev - ((betw l q).length : Int) + ((betw l q).length : Int) = lev by omega]
    exact hf
  · rw [List.getElem?_map, he]
    rfl
/-- What Make tells is such a path. -/
theorem mkP_ok (hs : thereB l s.node = true) (hcr : s.cr = crB l s.node) : ∀ (n : Nat) (t : Int), PthOk l first comp (s :: mkP l rel s.node t (upE l first comp n (parE l first comp s.node))) := by
  intro n
  induction n generalizing s with
  | zero => exact fun t => ⟨hs, hcr, (fun s' r' h => by cases h), trivial⟩
  | succ n ih =>
    intro t
    cases ht : thereB l (parE l first comp s.node) with
    | false =>
      rw [upE_no ht]
      exact ⟨hs, hcr, (fun s' r' h => by cases h), trivial⟩
    | true =>
      rw [upE_go ht, mkP]
      have one : ∀ (s1 : Stp) (t' : Int), s1.node = parE l first comp s.node → s1.cr = crB l s1.node → s1.cs = csB l s.node s1.node → PthOk l first comp (s :: s1 :: mkP l rel s1.node t' (upE l first comp n (parE l first comp s1.node))) := fun s1 t' e1 e2 e3 =>
        ⟨hs, hcr, (fun s' r' h => by
          injection h with h _
          subst h
          exact ⟨e1, e3⟩), ih (by rw [e1]; exact ht) e2 t'⟩
      split
      · exact one ⟨parE l first comp s.node, 0, aimL l rel (parE l first comp s.node), crB l (parE l first comp s.node), csB l s.node (parE l first comp s.node)⟩ t rfl rfl rfl
      · split
        · exact ⟨hs, hcr, (fun s' r' h => by cases h), trivial⟩
        · exact one ⟨parE l first comp s.node, parE l first comp s.node, aimL l rel (parE l first comp s.node), crB l (parE l first comp s.node), csB l s.node (parE l first comp s.node)⟩ _ rfl rfl rfl
theorem makeP_ok : PthOk l target comp (makeP l target rel comp) ∧ ∀ h t, makeP l target rel comp = h :: t → h.cs = false := by
  cases ht : thereB l target with
  | false =>
    rw [makeP_no ht]
    exact ⟨trivial, fun h t e => by cases e⟩
  | true =>
    unfold makeP wayE
    rw [upE_go ht]
    simp only
    split
    · exact ⟨trivial, fun h t e => by cases e⟩
    · refine ⟨mkP_ok (s := ⟨target, target, aimL l rel target, crB l target, false⟩) ht rfl l.length target, fun h t e => ?_⟩
      injection e with e _
      subst e
      rfl
end
end Go.Proofs.Ytekmgaigppenlaa

namespace Go.Proofs.Ytekmgaigppenlaa
open Go

/-- The last entry of a node, and the level there. -/
def placeL (v : Int) : List Stp → Option (Nat × Int)
  | [] => none
  | s :: r =>
    match placeL v r with
    | some (k, lev) => some (k + 1, lev)
    | none => if s.node = v then some (0, (if s.cr = true then 1 else 0) + (r.map fun e => (if e.cr = true then (1 : Int) else 0) - (if e.cs = true then 1 else 0)).sum) else none
/-- Which entries are seen from the one at the place k. -/
def flagsP (p : List Stp) (k : Nat) (lev : Int) : List Bool := (walkF lev lev ((p.take k).reverse.map fun s => (s.cr, s.cs))).reverse ++ true :: walkF lev lev ((p.drop (k + 1)).map fun s => (s.cs, s.cr))
/-- The nodes that are seen, in the path's order. -/
def pickF : List Stp → List Bool → List Int
  | s :: r, f :: fs => if f = true then s.node :: pickF r fs else pickF r fs
  | _, _ => []
def seeP (p : List Stp) (v : Int) : List Int :=
  match placeL v p with
  | none => []
  | some (k, lev) => pickF p (flagsP p k lev)
def levelP (p : List Stp) (v : Int) : Int :=
  match placeL v p with
  | none => 0
  | some (_, lev) => lev
section
variable {l : List Nd} {first rel target v : Int} {comp : Bool} {p : List Stp} {i k : Nat} {lev : Int}
theorem flags_len (hk : k < p.length) : (flagsP p k lev).length = p.length := by
  unfold flagsP
  rw [List.length_append, List.length_reverse, List.length_cons, walk_len, walk_len, List.length_map, List.length_map, List.length_reverse, List.length_take, List.length_drop]
  omega
theorem flags_at (hk : k < p.length) : (flagsP p k lev)[k]? = some true := by
  unfold flagsP
  have hl : (walkF lev lev ((p.take k).reverse.map fun s => (s.cr, s.cs))).reverse.length = k := by
    rw [List.length_reverse, walk_len, List.length_map, List.length_reverse, List.length_take]
    omega
  rw [List.getElem?_append_right (by rw [hl]; exact Nat.le_refl _), hl, Nat.sub_self]
  rfl
/-- Of a path of a forest what is seen is what isn't hidden. -/
theorem flags_right (T : Tree l) (hp : PthOk l first comp p) (h0 : ∀ h t, p = h :: t → h.cs = false) (hk : k < p.length) (hi : i < p.length) : (flagsP p k lev)[i]? = some (!hidL l p[i].node p[k].node) := by
  have hsp : p = p.take k ++ p[k] :: p.drop (k + 1) := by rw [← List.drop_eq_getElem_cons hk, List.take_append_drop]
  obtain ⟨hr, hf⟩ := at_ok (pre := p.take k) (s := p[k]) (post := p.drop (k + 1)) (by rw [← hsp]; exact hp) (fun h t e => h0 h t (by rw [hsp]; exact e))
  have hl : (walkF lev lev ((p.take k).reverse.map fun s => (s.cr, s.cs))).reverse.length = k := by
    rw [List.length_reverse, walk_len, List.length_map, List.length_reverse, List.length_take]
    omega
  have hlen := flags_len (lev := lev) hk
  rcases Nat.lt_trichotomy i k with h | h | h
  · have hw : k - 1 - i < (walkF lev lev ((p.take k).reverse.map fun s => (s.cr, s.cs))).length := by
      rw [List.length_reverse] at hl
      omega
    have hw2 := hl
    rw [List.length_reverse] at hw2
    have e1 : (flagsP p k lev)[i]? = some ((walkF lev lev ((p.take k).reverse.map fun s => (s.cr, s.cs)))[k - 1 - i]) := by
      unfold flagsP
      rw [List.getElem?_append_left (by rw [hl]; exact h), List.getElem?_reverse (by rw [hw2]; exact h), hw2, List.getElem?_eq_getElem hw]
    have he : (p.take k).reverse[k - 1 - i]? = some p[i] := by
      have ht : (p.take k).length = k := by rw [List.length_take]; omega
      rw [List.getElem?_reverse (by rw [ht]; omega), ht, show k - 1 - (k - 1 - i) = i by omega, List.getElem?_take, if_pos h, List.getElem?_eq_getElem hi]
    rw [e1, bwd_right T hf.1 hr lev (List.getElem?_eq_getElem hw) he, Bool.not_not]
  · subst h
    rw [flags_at hk, hid_self T]
    rfl
  · have hj : i - (k + 1) < (walkF lev lev ((p.drop (k + 1)).map fun s => (s.cs, s.cr))).length := by
      rw [walk_len, List.length_map, List.length_drop]
      omega
    have e1 : (flagsP p k lev)[i]? = some ((walkF lev lev ((p.drop (k + 1)).map fun s => (s.cs, s.cr)))[i - (k + 1)]) := by
      unfold flagsP
      rw [List.getElem?_append_right (by rw [hl]; omega), hl, show i - k = (i - (k + 1)) + 1 by omega, List.getElem?_cons_succ, List.getElem?_eq_getElem hj]
    have he : (p.drop (k + 1))[i - (k + 1)]? = some p[i] := by
      rw [List.getElem?_drop, show k + 1 + (i - (k + 1)) = i by omega, List.getElem?_eq_getElem hi]
    rw [e1, fwd_right T hf lev (List.getElem?_eq_getElem hj) he, Bool.not_not]
theorem place_last : ∀ (p : List Stp) (k : Nat) (lev : Int), placeL v p = some (k, lev) → ∃ h : k < p.length, p[k].node = v
  | [], _, _, h => by cases h
  | s :: r, k, lev, h => by
    rw [placeL] at h
    cases hr : placeL v r with
    | some a =>
      obtain ⟨k', lev'⟩ := a
      rw [hr] at h
      obtain ⟨rfl, rfl⟩ : k' + 1 = k ∧ lev' = lev := by simpa using h
      obtain ⟨h1, h2⟩ := place_last r k' lev' hr
      exact ⟨by rw [List.length_cons]; omega, h2⟩
    | none =>
      rw [hr] at h
      dsimp only at h
      by_cases hv : s.node = v
      · rw [if_pos hv] at h
        injection h with h
        injection h with h _
        subst h
        exact ⟨by rw [List.length_cons]; omega, hv⟩
      · rw [if_neg hv] at h
        cases h
theorem place_some : ∀ (p : List Stp), (∃ s ∈ p, s.node = v) → ∃ k lev, placeL v p = some (k, lev)
  | [], ⟨s, h, _⟩ => by cases h
  | s :: r, ⟨s', h, hv⟩ => by
    rw [placeL]
    cases hr : placeL v r with
    | some a => exact ⟨a.1 + 1, a.2, rfl⟩
    | none =>
      rcases List.mem_cons.1 h with rfl | h
      · exact ⟨0, _, if_pos hv⟩
      · obtain ⟨k, lev, e⟩ := place_some r ⟨s', h, hv⟩
        rw [hr] at e
        cases e
theorem pick_mem {x : Int} : ∀ (p : List Stp) (fs : List Bool), x ∈ pickF p fs ↔ ∃ (i : Nat) (s : Stp), p[i]? = some s ∧ fs[i]? = some true ∧ s.node = x
  | [], fs => by
    rw [pickF]
    · simp
    · intro s r f fs h
      cases h
  | s :: r, [] => by
    rw [pickF]
    · simp
    · intro s r f fs _ h
      cases h
  | s :: r, f :: fs => by
    rw [pickF]
    have ih := pick_mem (x := x) r fs
    cases f with
    | true =>
      rw [if_pos rfl, List.mem_cons, ih]
      constructor
      · rintro (rfl | ⟨i, s', h1, h2, h3⟩)
        · exact ⟨0, s, rfl, rfl, rfl⟩
        · exact ⟨i + 1, s', h1, h2, h3⟩
      · rintro ⟨i, s', h1, h2, h3⟩
        cases i with
        | zero =>
          obtain rfl : s = s' := by simpa using h1
          exact .inl h3.symm
        | succ i => exact .inr ⟨i, s', h1, h2, h3⟩
    | false =>
      rw [if_neg (by decide), ih]
      constructor
      · rintro ⟨i, s', h1, h2, h3⟩
        exact ⟨i + 1, s', h1, h2, h3⟩
      · rintro ⟨i, s', h1, h2, h3⟩
        cases i with
        | zero => cases h2
        | succ i => exact ⟨i, s', h1, h2, h3⟩
/-- What is seen isn't hidden; what isn't hidden is seen. -/
theorem see_hides (T : Tree l) {x : Int} (h : x ∈ seeP (makeP l target rel comp) v) : hidL l x v = false := by
  obtain ⟨hp, h0⟩ := makeP_ok (l := l) (target := target) (rel := rel) (comp := comp)
  unfold seeP at h
  cases hv : placeL v (makeP l target rel comp) with
  | none => rw [hv] at h; cases h
  | some a =>
    obtain ⟨k, lev⟩ := a
    rw [hv] at h
    obtain ⟨hk, rfl⟩ := place_last _ k lev hv
    obtain ⟨i, s, h1, h2, rfl⟩ := (pick_mem _ _).1 h
    obtain ⟨hi, rfl⟩ := List.getElem?_eq_some_iff.1 h1
    rw [flags_right T hp h0 hk hi] at h2
    simpa using h2
theorem see_nested (T : Tree l) (hk : k < (makeP l target rel comp).length) (hi : i < (makeP l target rel comp).length) (hh : hidL l (makeP l target rel comp)[i].node (makeP l target rel comp)[k].node = false) :
    (makeP l target rel comp)[i].node ∈ seeP (makeP l target rel comp) (makeP l target rel comp)[k].node := by
  obtain ⟨hp, h0⟩ := makeP_ok (l := l) (target := target) (rel := rel) (comp := comp)
  obtain ⟨k', lev, hv⟩ := place_some (v := (makeP l target rel comp)[k].node) _ ⟨_, List.getElem_mem hk, rfl⟩
  obtain ⟨hk', he⟩ := place_last _ k' lev hv
  unfold seeP
  rw [hv]
  refine (pick_mem _ _).2 ⟨i, _, List.getElem?_eq_getElem hi, ?_, rfl⟩
  rw [flags_right T hp h0 hk' hi, he, hh]
  rfl
/-- A path without closed trees: all is seen. -/
theorem walk_open : ∀ (es : List (Bool × Bool)) (lev : Int), (∀ e ∈ es, e = (false, false)) → walkF lev lev es = es.map fun _ => true
  | [], _, _ => rfl
  | e :: r, lev, h => by
    obtain rfl := h e (by simp)
    have e0 : lev + (if (false : Bool) = true then (1 : Int) else 0) = lev := by simp
    rw [walkF, e0, if_neg (by decide), walk_open r lev fun e he => h e (by simp [he])]
    simp
end
end Go.Proofs.Ytekmgaigppenlaa

namespace Go.Proofs.Ytekmgaigppenlaa
open Go

/-- What the entries of a list do to the level. -/
def sumL (p : List Stp) : Int := (p.map fun e => (if e.cr = true then (1 : Int) else 0) - (if e.cs = true then 1 else 0)).sum
section
variable {v : Int} {p : List Stp} {i k : Nat} {lev lim : Int} {done : List Bool}
theorem sum_nil : sumL [] = 0 := rfl
theorem sum_cons (s : Stp) (r : List Stp) : sumL (s :: r) = (if s.cr = true then (1 : Int) else 0) - (if s.cs = true then 1 else 0) + sumL r := rfl
theorem sum_len : ∀ (p : List Stp), -(p.length : Int) ≤ sumL p ∧ sumL p ≤ p.length
  | [] => ⟨by simp [sumL], by simp [sumL]⟩
  | s :: r => by
    have ih := sum_len r
    rw [sum_cons, List.length_cons]
    constructor <;> split <;> split <;> omega
theorem place_shift : ∀ (xs ys : List Stp) (k : Nat) (lev : Int), placeL v ys = some (k, lev) → placeL v (xs ++ ys) = some (xs.length + k, lev)
  | [], ys, k, lev, h => by simpa using h
  | s :: r, ys, k, lev, h => by
    rw [List.cons_append, placeL, place_shift r ys k lev h]
    simp only [List.length_cons]
    rw [show r.length + k + 1 = r.length + 1 + k by omega]
/-- From behind: none of this node yet. -/
theorem place_step (hi : i < p.length) (h : placeL v (p.drop (i + 1)) = none) :
    (p[i].node = v → placeL v p = some (i, (if p[i].cr = true then (1 : Int) else 0) + sumL (p.drop (i + 1)))) ∧ (p[i].node ≠ v → placeL v (p.drop i) = none) ∧ sumL (p.drop i) = (if p[i].cr = true then (1 : Int) else 0) - (if p[i].cs = true then 1 else 0) + sumL (p.drop (i + 1)) := by
  have hd : p.drop i = p[i] :: p.drop (i + 1) := List.drop_eq_getElem_cons hi
  refine ⟨fun hv => ?_, fun hv => ?_, by rw [hd, sum_cons]⟩
  · have h1 : placeL v (p.drop i) = some (0, (if p[i].cr = true then (1 : Int) else 0) + sumL (p.drop (i + 1))) := by
      rw [hd, placeL, h]
      exact if_pos hv
    have h2 := place_shift (p.take i) (p.drop i) _ _ h1
    rw [List.take_append_drop, List.length_take, Nat.min_eq_left (by omega), Nat.add_zero] at h2
    exact h2
  · rw [hd, placeL, h]
    exact if_neg hv
theorem place_none_zero (h : placeL v (p.drop 0) = none) : placeL v p = none := by simpa using h
theorem place_lev : ∀ (p : List Stp) (k : Nat) (lev : Int), placeL v p = some (k, lev) → ∃ h : k < p.length, lev = (if p[k].cr = true then (1 : Int) else 0) + sumL (p.drop (k + 1))
  | [], _, _, h => by cases h
  | s :: r, k, lev, h => by
    rw [placeL] at h
    cases hr : placeL v r with
    | some a =>
      obtain ⟨k', lev'⟩ := a
      rw [hr] at h
      obtain ⟨rfl, rfl⟩ : k' + 1 = k ∧ lev' = lev := by simpa using h
      obtain ⟨h1, h2⟩ := place_lev r k' lev' hr
      exact ⟨by rw [List.length_cons]; omega, h2⟩
    | none =>
      rw [hr] at h
      dsimp only at h
      by_cases hv : s.node = v
      · rw [if_pos hv] at h
        injection h with h
        injection h with h h'
        subst h
        exact ⟨by rw [List.length_cons]; omega, h'.symm⟩
      · rw [if_neg hv] at h
        cases h
/-- A walk's next entry: what it tells, and how it goes on. -/
def nextLev (a o : Bool) (lev : Int) : Int := if o = true then lev + (if a = true then 1 else 0) - 1 else lev + (if a = true then 1 else 0)
def nextLim (a o : Bool) (lev lim : Int) : Int := if o = true then (if lev + (if a = true then 1 else 0) - 1 < lim then lev + (if a = true then 1 else 0) - 1 else lim) else lim
theorem walk_cons (a o : Bool) (lev lim : Int) (r : List (Bool × Bool)) : walkF lev lim ((a, o) :: r) = decide (lev + (if a = true then 1 else 0) ≤ lim) :: walkF (nextLev a o lev) (nextLim a o lev lim) r := by
  unfold nextLev nextLim
  rw [walkF]
  cases o <;> simp
/-- Back: flags of the entries ahead of i. -/
def backF (p : List Stp) (i : Nat) (lev lim : Int) : List Bool := (walkF lev lim ((p.take i).reverse.map fun s => (s.cr, s.cs))).reverse
theorem back_zero : backF p 0 lev lim = [] := rfl
theorem back_step (hi : i < p.length) : backF p (i + 1) lev lim = backF p i (nextLev p[i].cr p[i].cs lev) (nextLim p[i].cr p[i].cs lev lim) ++ [decide (lev + (if p[i].cr = true then 1 else 0) ≤ lim)] := by
  unfold backF
  rw [List.take_add_one, List.getElem?_eq_getElem hi, Option.toList_some, List.reverse_append, List.reverse_singleton, List.singleton_append, List.map_cons, walk_cons, List.reverse_cons]
theorem back_len : (backF p i lev lim).length = min i p.length := by
  unfold backF
  rw [List.length_reverse, walk_len, List.length_map, List.length_reverse, List.length_take]
/-- On: flags of the entries from i on. -/
def onF (p : List Stp) (i : Nat) (lev lim : Int) : List Bool := walkF lev lim ((p.drop i).map fun s => (s.cs, s.cr))
theorem on_end (hi : p.length ≤ i) : onF p i lev lim = [] := by
  unfold onF
  rw [List.drop_eq_nil_of_le hi]
  rfl
theorem on_step (hi : i < p.length) : onF p i lev lim = decide (lev + (if p[i].cs = true then 1 else 0) ≤ lim) :: onF p (i + 1) (nextLev p[i].cs p[i].cr lev) (nextLim p[i].cs p[i].cr lev lim) := by
  unfold onF
  rw [List.drop_eq_getElem_cons hi, List.map_cons, walk_cons]
theorem on_len : (onF p i lev lim).length = p.length - i := by
  unfold onF
  rw [walk_len, List.length_map, List.length_drop]
theorem flags_split : flagsP p k lev = backF p k lev lev ++ true :: onF p (k + 1) lev lev := rfl
/-- Levels are small. -/
theorem next_small {a o : Bool} {n : Int} (h : -n ≤ lev ∧ lev ≤ n) (h' : -n ≤ lim ∧ lim ≤ n) : (-(n + 1) ≤ nextLev a o lev ∧ nextLev a o lev ≤ n + 1) ∧ (-(n + 1) ≤ nextLim a o lev lim ∧ nextLim a o lev lim ≤ n + 1) := by
  unfold nextLev nextLim
  cases a <;> cases o <;> simp <;> (try split) <;> omega
/-- Of flags that stand in a table the nodes, entry by entry. -/
theorem pick_step : ∀ (p : List Stp) (fs : List Bool) (k : Nat) (hk : k < p.length) (hf : k < fs.length), pickF (p.take (k + 1)) (fs.take (k + 1)) = pickF (p.take k) (fs.take k) ++ (if fs[k] = true then [p[k].node] else [])
  | [], _, _, hk, _ => absurd hk (Nat.not_lt_zero _)
  | _ :: _, [], _, _, hf => absurd hf (Nat.not_lt_zero _)
  | s :: r, f :: fs, 0, _, _ => by
    simp only [List.take_succ_cons, List.take_zero, List.getElem_cons_zero]
    rw [pickF]
    cases f <;> simp [pickF]
  | s :: r, f :: fs, k + 1, hk, hf => by
    simp only [List.take_succ_cons, List.getElem_cons_succ]
    rw [pickF, pickF, pick_step r fs k (Nat.lt_of_succ_lt_succ hk) (Nat.lt_of_succ_lt_succ hf)]
    cases f <;> simp
theorem pick_len : ∀ (p : List Stp) (fs : List Bool), (pickF p fs).length ≤ p.length
  | [], fs => by
    rw [pickF]
    · exact Nat.le_refl _
    · intro s r f fs h
      cases h
  | s :: r, [] => by
    rw [pickF]
    · exact Nat.zero_le _
    · intro s r f fs _ h
      cases h
  | s :: r, f :: fs => by
    rw [pickF]
    have := pick_len r fs
    split
    · simp only [List.length_cons]
      omega
    · simp only [List.length_cons]
      omega
end
end Go.Proofs.Ytekmgaigppenlaa

namespace Go.Proofs.Ytekmgaigppenlaa
open Go

/-- A list is eaten along another one: what is left of it. -/
def eatL : List Int → List Int → List Int
  | _, [] => []
  | [], x :: r => x :: r
  | n :: ns, x :: r => if n = x then eatL ns r else eatL ns (x :: r)
section
variable {v x : Int} {p : List Stp} {k : Nat} {lev : Int}
theorem eat_nil (ns : List Int) : eatL ns [] = [] := by cases ns <;> rfl
theorem eat_sub : ∀ (ns l : List Int), l.Sublist ns → eatL ns l = []
  | [], l, h => by
    rw [List.sublist_nil.1 h]
    rfl
  | n :: ns, [], _ => rfl
  | n :: ns, x :: r, h => by
    rw [eatL]
    by_cases e : n = x
    · rw [if_pos e]
      subst e
      exact eat_sub ns r (List.cons_sublist_cons.1 h)
    · rw [if_neg e]
      refine eat_sub ns (x :: r) ?_
      cases h with
      | cons _ h => exact h
      | cons_cons _ h => exact absurd rfl e
/-- What is left is the end of it; so much is eaten as it is shorter. -/
theorem eat_suffix : ∀ (ns l : List Int), eatL ns l <:+ l
  | ns, [] => by rw [eat_nil]; exact List.suffix_refl _
  | [], x :: r => List.suffix_refl _
  | n :: ns, x :: r => by
    rw [eatL]
    split
    · exact (eat_suffix ns r).trans (List.suffix_cons _ _)
    · exact eat_suffix ns (x :: r)
theorem pick_sub : ∀ (p : List Stp) (fs : List Bool), (pickF p fs).Sublist (p.map Stp.node)
  | [], fs => by cases fs <;> exact List.Sublist.refl _
  | s :: r, [] => List.nil_sublist _
  | s :: r, f :: fs => by
    rw [pickF, List.map_cons]
    split
    · exact (pick_sub r fs).cons_cons _
    · exact (pick_sub r fs).cons _
theorem see_sub : (seeP p v).Sublist (p.map Stp.node) := by
  unfold seeP
  split
  · exact List.nil_sublist _
  · exact pick_sub _ _
theorem place_none : ∀ (p : List Stp), (¬ ∃ s ∈ p, s.node = v) → placeL v p = none := fun p h => by
  cases hv : placeL v p with
  | none => rfl
  | some a =>
    obtain ⟨k, lev⟩ := a
    obtain ⟨h1, h2⟩ := place_last p k lev hv
    exact absurd ⟨_, List.getElem_mem h1, h2⟩ h
theorem see_none (h : ¬ ∃ s ∈ p, s.node = v) : seeP p v = [] ∧ levelP p v = 0 := by
  unfold seeP levelP
  rw [place_none p h]
  exact ⟨rfl, rfl⟩
theorem see_has (h : ∃ s ∈ p, s.node = v) : v ∈ seeP p v := by
  obtain ⟨k, lev, hv⟩ := place_some p h
  obtain ⟨h1, h2⟩ := place_last p k lev hv
  unfold seeP
  rw [hv]
  exact (pick_mem _ _).2 ⟨k, _, List.getElem?_eq_getElem h1, flags_at h1, h2⟩
theorem see_empty (p : List Stp) (v : Int) : (∃ s ∈ p, s.node = v) ∨ seeP p v = [] := by
  by_cases h : ∃ s ∈ p, s.node = v
  · exact .inl h
  · exact .inr (see_none h).1
/-- A path without closed trees. -/
def OpenP (p : List Stp) : Prop := ∀ s ∈ p, s.cr = false ∧ s.cs = false
theorem pick_all : ∀ (p : List Stp), pickF p (p.map fun _ => true) = p.map Stp.node
  | [] => rfl
  | s :: r => by
    rw [List.map_cons, pickF, if_pos rfl, pick_all r]
    rfl
theorem flags_open (h : OpenP p) (hk : k < p.length) : flagsP p k lev = p.map fun _ => true := by
  unfold flagsP
  rw [walk_open _ _ (fun e he => ?_), walk_open _ _ (fun e he => ?_)]
  · have hsp : p = p.take k ++ p[k] :: p.drop (k + 1) := by rw [← List.drop_eq_getElem_cons hk, List.take_append_drop]
    have e2 := congrArg (List.map fun _ => true) hsp
    rw [e2, List.map_append, List.map_cons, List.map_map, List.map_map, ← List.map_reverse, List.reverse_reverse]
    rfl
  · obtain ⟨s, hs, rfl⟩ := List.mem_map.1 he
    obtain ⟨h1, h2⟩ := h s (List.mem_of_mem_drop hs)
    rw [h1, h2]
  · obtain ⟨s, hs, rfl⟩ := List.mem_map.1 he
    obtain ⟨h1, h2⟩ := h s (List.mem_of_mem_take (List.mem_reverse.1 hs))
    rw [h1, h2]
theorem sum_zero : ∀ (r : List Stp), OpenP r → (r.map fun e => (if e.cr = true then (1 : Int) else 0) - (if e.cs = true then 1 else 0)).sum = 0
  | [], _ => rfl
  | s :: r, h => by
    obtain ⟨h1, h2⟩ := h s (by simp)
    rw [List.map_cons, List.sum_cons, sum_zero r fun x hx => h x (by simp [hx]), h1, h2]
    rfl
theorem place_open : ∀ (p : List Stp) (k : Nat) (lev : Int), OpenP p → placeL v p = some (k, lev) → lev = 0
  | [], _, _, _, h => by cases h
  | s :: r, k, lev, ho, h => by
    have hr' : OpenP r := fun x hx => ho x (by simp [hx])
    rw [placeL] at h
    cases hr : placeL v r with
    | some a =>
      rw [hr] at h
      injection h with h
      injection h with _ h
      rw [← h]
      exact place_open r a.1 a.2 hr' hr
    | none =>
      rw [hr] at h
      dsimp only at h
      by_cases hv : s.node = v
      · rw [if_pos hv] at h
        injection h with h
        injection h with _ h
        rw [← h, sum_zero r hr', (ho s (by simp)).1]
        rfl
      · rw [if_neg hv] at h
        cases h
theorem see_open (h : OpenP p) (hv : ∃ s ∈ p, s.node = v) : seeP p v = p.map Stp.node ∧ levelP p v = 0 := by
  obtain ⟨k, lev, hp⟩ := place_some p hv
  obtain ⟨h1, -⟩ := place_last p k lev hp
  unfold seeP levelP
  rw [hp]
  refine ⟨?_, place_open p k lev h hp⟩
  show pickF p (flagsP p k lev) = _
  rw [flags_open h h1, pick_all]
end
end Go.Proofs.Ytekmgaigppenlaa

namespace Go.Proofs.Ytekmgaigppenlaa
open Go

/-- Entries with their places; from behind. -/
def fwL : Nat → List Stp → List (Nat × Stp)
  | _, [] => []
  | i, s :: r => (i, s) :: fwL (i + 1) r
def bkL (p : List Stp) : List (Nat × Stp) := (fwL 0 p).reverse
/-- What entries do to the level; the first one's own slot doesn't count. -/
def lvlI (ys : List (Nat × Stp)) : Int := (ys.map fun x => (if x.2.cr = true then (1 : Int) else 0) - (if x.2.cs = true ∧ 0 < x.1 then 1 else 0)).sum
/-- A walk, entry by entry: the level, the limit, what was told. -/
def stepW (fl : Stp → Bool × Bool) (q : Int × Int × List Int) (s : Stp) : Int × Int × List Int :=
  (nextLev (fl s).1 (fl s).2 q.1, nextLim (fl s).1 (fl s).2 q.1 q.2.1, q.2.2 ++ if q.1 + (if (fl s).1 = true then 1 else 0) ≤ q.2.1 then [s.node] else [])
def goW (fl : Stp → Bool × Bool) (q : Int × Int × List Int) (xs : List Stp) : Int × Int × List Int := xs.foldl (stepW fl) q
def flB (s : Stp) : Bool × Bool := (s.cr, s.cs)
def flO (s : Stp) : Bool × Bool := (s.cs, s.cr)
section
variable {v : Int} {p xs : List Stp} {ys zs : List (Nat × Stp)} {x : Nat × Stp} {s : Stp} {i k : Nat} {lev lim : Int} {acc : List Int} {fl : Stp → Bool × Bool}
theorem fw_len : ∀ (xs : List Stp) (i : Nat), (fwL i xs).length = xs.length
  | [], _ => rfl
  | s :: r, i => by rw [fwL, List.length_cons, fw_len r, List.length_cons]
theorem fw_get : ∀ (xs : List Stp) (i k : Nat) (h : k < xs.length), (fwL i xs)[k]? = some (i + k, xs[k])
  | [], _, _, h => absurd h (Nat.not_lt_zero _)
  | s :: r, i, 0, h => by simp [fwL]
  | s :: r, i, k + 1, h => by
    rw [fwL, List.getElem?_cons_succ, fw_get r (i + 1) k (Nat.lt_of_succ_lt_succ h)]
    simp only [List.getElem_cons_succ]
    rw [show i + 1 + k = i + (k + 1) by omega]
theorem fw_snd : ∀ (xs : List Stp) (i : Nat), (fwL i xs).map (·.2) = xs
  | [], _ => rfl
  | s :: r, i => by rw [fwL, List.map_cons, fw_snd r]
theorem bk_len (p : List Stp) : (bkL p).length = p.length := by rw [bkL, List.length_reverse, fw_len]
theorem bk_get (h : k < p.length) : (bkL p)[k]? = some (p.length - 1 - k, p[p.length - 1 - k]) := by
  rw [bkL, List.getElem?_reverse (by rw [fw_len]; exact h), fw_len, fw_get p 0 _ (by omega), Nat.zero_add]
theorem bk_snd : (bkL p).map (·.2) = p.reverse := by rw [bkL, List.map_reverse, fw_snd]
theorem lvlI_append : lvlI (ys ++ zs) = lvlI ys + lvlI zs := by
  unfold lvlI
  rw [List.map_append, List.sum_append]
theorem lvlI_snoc : lvlI (ys ++ [x]) = lvlI ys + ((if x.2.cr = true then (1 : Int) else 0) - (if x.2.cs = true ∧ 0 < x.1 then 1 else 0)) := by
  rw [lvlI_append]
  simp [lvlI]
theorem lvlI_rev : ∀ (ys : List (Nat × Stp)), lvlI ys.reverse = lvlI ys
  | [] => rfl
  | y :: r => by
    have e : lvlI (y :: r) = lvlI [y] + lvlI r := lvlI_append (ys := [y])
    rw [List.reverse_cons, lvlI_append, lvlI_rev r, e]
    omega
theorem lvlI_len : ∀ (ys : List (Nat × Stp)), -(ys.length : Int) ≤ lvlI ys ∧ lvlI ys ≤ ys.length
  | [] => ⟨by simp [lvlI], by simp [lvlI]⟩
  | y :: r => by
    have ih := lvlI_len r
    have e : lvlI (y :: r) = (if y.2.cr = true then (1 : Int) else 0) - (if y.2.cs = true ∧ 0 < y.1 then 1 else 0) + lvlI r := rfl
    rw [e, List.length_cons]
    constructor <;> split <;> split <;> omega
theorem lvlI_fw : ∀ (xs : List Stp) (i : Nat), lvlI (fwL (i + 1) xs) = sumL xs
  | [], _ => rfl
  | s :: r, i => by
    have e : lvlI (fwL (i + 1) (s :: r)) = (if s.cr = true then (1 : Int) else 0) - (if s.cs = true ∧ 0 < i + 1 then 1 else 0) + lvlI (fwL (i + 1 + 1) r) := rfl
    rw [e, lvlI_fw r, sum_cons]
    simp
theorem lvlI_all (s : Stp) (r : List Stp) : lvlI (bkL (s :: r)) = (if s.cr = true then (1 : Int) else 0) + sumL r := by
  have e : lvlI (fwL 0 (s :: r)) = (if s.cr = true then (1 : Int) else 0) - (if s.cs = true ∧ 0 < 0 then 1 else 0) + lvlI (fwL (0 + 1) r) := rfl
  rw [bkL, lvlI_rev, e, lvlI_fw]
  simp
theorem lvlI_level (h : placeL v p = some (k, lev)) : lvlI (bkL (p.drop k)) = lev := by
  obtain ⟨hk, e⟩ := place_lev p k lev h
  rw [List.drop_eq_getElem_cons hk, lvlI_all, e]
/-- The place is the last one. -/
theorem place_max : ∀ (p : List Stp) (k : Nat) (lev : Int), placeL v p = some (k, lev) → ∀ j (h : j < p.length), k < j → p[j].node ≠ v
  | [], _, _, h, _, _, _ => by cases h
  | s :: r, k, lev, h, j, hj, hkj => by
    rw [placeL] at h
    cases j with
    | zero => omega
    | succ j =>
      simp only [List.getElem_cons_succ]
      have hj' : j < r.length := Nat.lt_of_succ_lt_succ hj
      cases hr : placeL v r with
      | some a =>
        obtain ⟨k', lev'⟩ := a
        rw [hr] at h
        obtain ⟨rfl, rfl⟩ : k' + 1 = k ∧ lev' = lev := by simpa using h
        exact place_max r k' lev' hr j hj' (by omega)
      | none =>
        intro e
        obtain ⟨k', lev', e'⟩ := place_some (v := v) r ⟨_, List.getElem_mem hj', e⟩
        rw [hr] at e'
        cases e'
theorem place_no (h : ∀ x ∈ bkL p, x.2.node ≠ v) : placeL v p = none := place_none p fun ⟨s, hs, he⟩ => by
  have : s ∈ (bkL p).map (·.2) := by rw [bk_snd]; exact List.mem_reverse.2 hs
  obtain ⟨x, hx, rfl⟩ := List.mem_map.1 this
  exact h x hx he
theorem place_hit (hk : k < p.length) (h : ∀ x ∈ (bkL p).take k, x.2.node ≠ v) (hv : p[p.length - 1 - k].node = v) : ∃ lev, placeL v p = some (p.length - 1 - k, lev) := by
  obtain ⟨k', lev, e⟩ := place_some (v := v) p ⟨_, List.getElem_mem (by omega), hv⟩
  refine ⟨lev, ?_⟩
  obtain ⟨hk', hn⟩ := place_last p k' lev e
  rcases Nat.lt_trichotomy k' (p.length - 1 - k) with h1 | h1 | h1
  · exact absurd hv (place_max p k' lev e _ (by omega) h1)
  · rw [← h1]
    exact e
  · have hj : p.length - 1 - k' < k := by omega
    have hg := bk_get (p := p) (k := p.length - 1 - k') (by omega)
    have h2 : ((bkL p).take k)[p.length - 1 - k']? = some (p.length - 1 - (p.length - 1 - k'), p[p.length - 1 - (p.length - 1 - k')]) := by
      rw [List.getElem?_take, if_pos hj, hg]
    have h3 := h _ (List.mem_of_getElem? h2)
    simp only [show p.length - 1 - (p.length - 1 - k') = k' by omega] at h3
    exact absurd hn h3
theorem goW_snoc (q : Int × Int × List Int) : goW fl q (xs ++ [s]) = stepW fl (goW fl q xs) s := by
  unfold goW
  rw [List.foldl_append]
  rfl
theorem goW_pick : ∀ (xs : List Stp) (lev lim : Int) (acc : List Int), (goW fl (lev, lim, acc) xs).2.2 = acc ++ pickF xs (walkF lev lim (xs.map fl))
  | [], lev, lim, acc => by
    show acc = acc ++ pickF [] []
    rw [pickF]
    · rw [List.append_nil]
    · intro s r f fs h
      cases h
  | s :: r, lev, lim, acc => by
    have e : goW fl (lev, lim, acc) (s :: r) = goW fl (stepW fl (lev, lim, acc) s) r := rfl
    rw [e, stepW, goW_pick r, List.map_cons, show fl s = ((fl s).1, (fl s).2) from rfl, walk_cons, pickF, List.append_assoc]
    congr 1
    simp only
    by_cases h : lev + (if (fl s).1 = true then 1 else 0) ≤ lim
    · rw [if_pos h, if_pos (decide_eq_true h)]
      rfl
    · rw [if_neg h, if_neg (by rw [decide_eq_true_iff]; exact h)]
      rfl
theorem goW_small (h1 : -1000 ≤ lev ∧ lev ≤ 1000) (h2 : -1000 ≤ lim ∧ lim ≤ 1000) : ∀ (xs : List Stp), (-(1000 + xs.length : Int) ≤ (goW fl (lev, lim, []) xs).1 ∧ (goW fl (lev, lim, []) xs).1 ≤ 1000 + xs.length) ∧ (-(1000 + xs.length : Int) ≤ (goW fl (lev, lim, []) xs).2.1 ∧ (goW fl (lev, lim, []) xs).2.1 ≤ 1000 + xs.length) ∧ (goW fl (lev, lim, []) xs).2.2.length ≤ xs.length := fun xs => by
  induction hn : xs.length generalizing xs with
  | zero =>
    obtain rfl := List.eq_nil_of_length_eq_zero hn
    exact ⟨by simpa [goW] using h1, by simpa [goW] using h2, Nat.le_refl 0⟩
  | succ n ih =>
    obtain ⟨ys, s, rfl⟩ : ∃ ys s, xs = ys ++ [s] := by
      have : xs ≠ [] := fun e => by rw [e] at hn; cases hn
      exact ⟨xs.dropLast, xs.getLast this, (List.dropLast_concat_getLast this).symm⟩
    have hn' : ys.length = n := by simpa using hn
    obtain ⟨g1, g2, g3⟩ := ih ys hn'
    rw [goW_snoc]
    have hs := next_small (a := (fl s).1) (o := (fl s).2) (n := (1000 + n : Int)) g1 g2
    refine ⟨?_, ?_, ?_⟩
    · unfold stepW
      simp only
      have := hs.1
      omega
    · unfold stepW
      simp only
      have := hs.2
      omega
    · unfold stepW
      have h1 : ∀ (c : Prop) [Decidable c], (if c then [s.node] else []).length ≤ 1 := fun c _ => by split <;> simp
      rw [List.length_append]
      have := h1 ((goW fl (lev, lim, []) ys).1 + (if (fl s).1 = true then 1 else 0) ≤ (goW fl (lev, lim, []) ys).2.1)
      omega
theorem pick_app : ∀ (xs ys : List Stp) (fs gs : List Bool), fs.length = xs.length → pickF (xs ++ ys) (fs ++ gs) = pickF xs fs ++ pickF ys gs
  | [], ys, fs, gs, h => by
    obtain rfl := List.eq_nil_of_length_eq_zero h
    rw [List.nil_append, List.nil_append, pickF.eq_2 []]
    · rfl
    · intro s r f fs h
      cases h
  | s :: r, ys, [], gs, h => by cases h
  | s :: r, ys, f :: fs, gs, h => by
    rw [List.cons_append, List.cons_append, pickF, pickF, pick_app r ys fs gs (by simpa using h)]
    split
    · rw [List.cons_append]
    · rfl
theorem pick_one (s : Stp) (f : Bool) : pickF [s] [f] = if f = true then [s.node] else [] := by
  rw [pickF, pickF.eq_2 []]
  intro s r f fs h
  cases h
theorem pick_rev : ∀ (xs : List Stp) (fs : List Bool), fs.length = xs.length → pickF xs.reverse fs.reverse = (pickF xs fs).reverse
  | [], fs, h => by
    obtain rfl := List.eq_nil_of_length_eq_zero h
    rw [List.reverse_nil, List.reverse_nil, pickF.eq_2 []]
    · rfl
    · intro s r f fs h
      cases h
  | s :: r, [], h => by cases h
  | s :: r, f :: fs, h => by
    have h' : fs.length = r.length := by simpa using h
    rw [List.reverse_cons, List.reverse_cons, pick_app _ _ _ _ (by simpa using h'), pick_rev r fs h', pick_one, pickF]
    split
    · rw [List.reverse_cons]
    · rw [List.append_nil]
/-- What both walks tell. -/
theorem from_is (h : placeL v p = some (k, lev)) : ((goW flB (lev, lev, []) (p.take k).reverse).2.2.reverse ++ [v]) ++ (goW flO (lev, lev, []) (p.drop (k + 1))).2.2 = seeP p v := by
  obtain ⟨hk, hv⟩ := place_last p k lev h
  have hp : p = p.take k ++ p[k] :: p.drop (k + 1) := by rw [← List.drop_eq_getElem_cons hk, List.take_append_drop]
  have e1 : seeP p v = pickF p (flagsP p k lev) := by
    unfold seeP
    rw [h]
  have e2 : pickF p (flagsP p k lev) = pickF (p.take k ++ p[k] :: p.drop (k + 1)) (flagsP p k lev) := congrArg (fun z => pickF z (flagsP p k lev)) hp
  rw [e1, e2, flagsP, pick_app _ _ _ _ (by rw [List.length_reverse, walk_len, List.length_map, List.length_reverse]), pickF, if_pos rfl, hv, goW_pick, goW_pick, List.nil_append, List.nil_append]
  have e3 := pick_rev (p.take k).reverse (walkF lev lev ((p.take k).reverse.map flB)) (by rw [walk_len, List.length_map])
  rw [List.reverse_reverse] at e3
  rw [← e3, List.append_assoc]
  rfl
theorem from_no (h : placeL v p = none) : seeP p v = [] ∧ levelP p v = 0 := by
  unfold seeP levelP
  rw [h]
  exact ⟨rfl, rfl⟩
theorem level_is (h : placeL v p = some (k, lev)) : levelP p v = lev := by
  unfold levelP
  rw [h]
theorem place_small (h : placeL v p = some (k, lev)) (hp : p.length ≤ 300) : k < p.length ∧ -1000 ≤ lev ∧ lev ≤ 1000 := by
  obtain ⟨hk, e⟩ := place_lev p k lev h
  have hs := sum_len (p.drop (k + 1))
  rw [List.length_drop] at hs
  refine ⟨hk, ?_, ?_⟩ <;> rw [e] <;> split <;> omega
end
end Go.Proofs.Ytekmgaigppenlaa

namespace Go.Proofs.Ytekmgaigppenlaa
open Go Go.RowKit Go.Shelf
attribute [local go_sem] Oper.semAt_some

/-- What lies below n₀, and the block Bs, lies as it lay. -/
def KpS (n₀ Bs : Nat) (X Y : World) : Prop := Below n₀ X Y ∧ ∀ o, X.heap[Bs]? = some o → Y.heap[Bs]? = some o
section
variable {n₀ Bs : Nat} {w X Y Z W : World} {A : Option Addr} {c : Nat} {xs : List Stp}
theorem KpS.refl (n₀ Bs : Nat) (X : World) : KpS n₀ Bs X X := ⟨Below.refl _ _, fun _ h => h⟩
theorem KpS.trans (h : KpS n₀ Bs X Y) (k : KpS n₀ Bs Y Z) : KpS n₀ Bs X Z := ⟨h.1.trans k.1, fun o ho => k.2 o (h.2 o ho)⟩
theorem KpS.book (hn : n₀ ≤ w.heap.size) (hB : Bs < w.heap.size) (W : World) (l : Nat) (o o' : Obj) (hl : w.heap.size ≤ l) (h : W.heap[l]? = some o) (h1 : o.isCells = false) (h2 : o.isWalk = false) : KpS n₀ Bs W (W.putObj l o') :=
  ⟨belowK_b hn W l o o' hl h h1 h2, fun u hu => (World.putObj_heap_other (by omega)).trans hu⟩
theorem KpS.alloc (hn : n₀ ≤ X.heap.size) (o : Obj) : KpS n₀ Bs X (X.alloc o) := ⟨(Below.refl _ X).alloc hn o, fun _ hu => (Below.heap_alloc X o Bs (Array.getElem?_eq_some_iff.1 hu).1).trans hu⟩
theorem KpS.cell (h : KpS n₀ Bs X Y) {p : Addr} (hp : p.block < n₀) : Y.cell? p = X.cell? p := h.1.cell hp
theorem KpS.box {t : TypeId} {v : Value} (h : KpS n₀ Bs X Y) (hb : Boxed X Bs t v) : Boxed Y Bs t v := h.2 _ hb
theorem rec_kps (hR : RecIn RS X A c xs) (hA : 0 < xs.length → ∀ b off s, A = some ⟨b, off, s⟩ → b < n₀) (h : KpS n₀ Bs X Y) : RecIn RS Y A c xs :=
  hR.kept (F := fun i => n₀ ≤ i) (Keeps.of_below h.1 fun _ _ h => h) fun h0 b off s e _ => Nat.not_le.2 (hA h0 b off s e)

/-- A list of entries, cut. -/
theorem elem_steps : Try.prog.elem 22 = 44 := by kernel_rfl
theorem stepCut_low (A : Option Addr) (N k a : Nat) (ha : a ≤ k) (w : World) : (Instr.slice 22 (.slice A N k) none (some (.int .i64 (a : Int))) none).run Try.prog w = .ok (.slice A a k) w := by
  have hu : Try.prog.underlying 22 = some (.slice (Try.prog.elem 22)) := by rw [elem_steps]; exact Try.underlying22
  have hs : (sizeOf (Try.prog.elem 22)).run Try.prog w = .ok 5 w := by kernel_rfl
  rw [run_slice_h _ _ _ _ _ hu _ _ (by omega) (by omega), hs]
  simp only [Result.andThen, sliced, Int.toNat_natCast, Nat.sub_zero, Nat.zero_mul]
  by_cases h : k = 0
  · rw [if_pos h]
  · rw [if_neg h]
    cases A with
    | none => rfl
    | some x => simp [Addr.add]
theorem stepCut_high (A : Option Addr) (N k a : Nat) (ha : a ≤ N) (w : World) : (Instr.slice 22 (.slice A N k) (some (.int .i64 (a : Int))) none none).run Try.prog w = .ok (.slice (if k = a then A else A.map (·.add (a * 5))) (N - a) (k - a)) w := by
  have hu : Try.prog.underlying 22 = some (.slice (Try.prog.elem 22)) := by rw [elem_steps]; exact Try.underlying22
  have hs : (sizeOf (Try.prog.elem 22)).run Try.prog w = .ok 5 w := by kernel_rfl
  rw [run_slice_l _ _ _ _ _ hu _ _ (by omega) (by omega), hs]
  simp only [Result.andThen, sliced, Int.toNat_natCast]
theorem rec_low {k a : Nat} (h : RecIn RS w A k xs) (ha : a ≤ xs.length) : RecIn RS w A k (xs.take a) := by
  refine ⟨Nat.le_trans (by rw [List.length_take]; omega) h.cap, h.nil, fun i hi => ?_⟩
  rw [List.length_take] at hi
  obtain ⟨b, off, e, hb, hc⟩ := h.at_ i (by omega)
  refine ⟨b, off, e, hb, fun f hf => ?_⟩
  rw [hc f hf, List.getElem_take]
theorem rec_high {k a : Nat} (h : RecIn RS w A k xs) (ha : a ≤ xs.length) : RecIn RS w (if k = a then A else A.map (·.add (a * 5))) (k - a) (xs.drop a) := by
  have hc := h.cap
  refine ⟨by rw [List.length_drop]; omega, fun e => ?_, fun i hi => ?_⟩
  · by_cases hk : k = a
    · omega
    · rw [if_neg hk] at e
      have : A = none := by cases A with
        | none => rfl
        | some x => cases e
      have := h.nil this
      omega
  · rw [List.length_drop] at hi
    obtain ⟨b, off, rfl, hb, hcell⟩ := h.at_ (a + i) (by omega)
    refine ⟨b, off + a * 5, ?_, hb, fun f hf => ?_⟩
    · rw [if_neg (by omega)]
      simp [Addr.add]
    · have h5 : RS.n = 5 := rfl
      have e1 := hcell f hf
      rw [List.getElem_drop]
      rw [h5] at *
      rw [show off + a * 5 + (i * 5 + f) = off + ((a + i) * 5 + f) by omega]
      exact e1
end

section
variable {w : World}
set_option maxHeartbeats 1000000 in
theorem bkA (A : Option Addr) (len cap : Nat) (w : World) : Calls Try.prog 22 #[.slice A len cap] w fun e w' => e = .returned (.func (.func 34) #[] #[.pointer (some ⟨w.heap.size, 0, none⟩)]) ∧ w' = w.alloc (.cells #[.slice A len cap] 22) := by
  go_enter Try.func22, Try.ntmps22
  go_wp2
  go_ret
  exact ⟨rfl, rfl⟩
set_option maxRecDepth 100000 in
set_option maxHeartbeats 2000000 in
theorem bk1_in (n : Nat) (hn : 1 ≤ n) (l Bs n₀ len cap : Nat) (A : Option Addr) (xs : List Stp) (hlen : xs.length = len) (hl : len ≤ 1000000) (hA : 0 < xs.length → ∀ b off s, A = some ⟨b, off, s⟩ → b < n₀) (J Jx : List (Nat × Stp) → World → Prop)
    (hY : ∀ pre x W, J pre W → pre.length < len → YieldAt Fence.wide (n - 1) Try.prog l #[.int .i64 (x.1 : Int), .agg #[.int .i64 x.2.node, .int .i64 x.2.target, .int .i64 x.2.related, .bool x.2.cr, .bool x.2.cs]] W fun e W' =>
      (e = .returned (.bool true) ∧ J (pre ++ [x]) W' ∧ KpS n₀ Bs W W') ∨ (e = .returned (.bool false) ∧ Jx (pre ++ [x]) W'))
    (W : World) (hBs : Boxed W Bs 22 (.slice A len cap)) (hR : RecIn RS W A cap xs) (h0 : J [] W) :
    CallsIn Fence.wide n Try.prog 34 #[.func (.yield l) #[] #[], .pointer (some ⟨Bs, 0, none⟩)] W fun e W' => (∃ v, e = .returned v) ∧
      ((∃ ys, ys = bkL xs ∧ J ys W') ∨ (∃ pre, (∃ k, k ≤ len ∧ pre = (bkL xs).take k) ∧ Jx pre W')) := by
  have HR := Lib.hid hR
  have HY := Lib.hid hY
  have HA := Lib.hid hA
  have HL := Lib.hid hlen
  have HB := Lib.hid hBs
  have q0 := hBs.cell
  have hwl : IntKind.i64.wrap ((len : Int) - 1) = (len : Int) - 1 := wrap_small (by omega) (by omega)
  clear hR hY hA hlen hBs
  refine callsIn_of_wp Try.func34 rfl trivial ?_ rfl
  simp only [Try.ntmps34, List.size_toArray, List.length_cons, List.length_nil, Nat.reduceAdd, Nat.reduceSub, Array.replicate_succ, Array.replicate_zero, List.push_toArray, List.append_toArray, List.nil_append, List.cons_append]
  gi_wp2
  gi_loopw [3] (fun i wr => ∃ m : Nat, m ≤ len ∧ i = .int .i64 ((m : Int) - 1) ∧ J ((bkL xs).take (len - m)) wr ∧ KpS n₀ Bs W wr) (fun i _ => (intOf i + 1).toNat)
  case atStart => exact ⟨len, Nat.le_refl _, rfl, by rw [Nat.sub_self]; exact h0, KpS.refl _ _ _⟩
  case round =>
    obtain ⟨m, hm, rfl, hJs, hk⟩ := hrel
    cases m with
    | zero =>
      rw [Nat.sub_zero, List.take_of_length_le (by rw [bk_len, HL.out]; exact Nat.le_refl _)] at hJs
      have HJ := Lib.hid hJs
      clear hJs
      gi_wp2
      go_end0
      exact ⟨⟨_, rfl⟩, .inl ⟨_, rfl, HJ.out⟩⟩
    | succ k =>
      have hkl : k < xs.length := by rw [HL.out]; omega
      have hR2 := rec_kps HR.out HA.out hk
      obtain ⟨b, off, rfl, c0, c1, c2, c3, c4⟩ := five_of hR2 hkl
      have hnx : (bkL xs)[len - (k + 1)]? = some (k, xs[k]) := by
        have := bk_get (p := xs) (k := len - (k + 1)) (by rw [HL.out]; omega)
        rw [this]
        simp only [show xs.length - 1 - (len - (k + 1)) = k by rw [HL.out]; omega]
      obtain ⟨x, hx⟩ : ∃ x, x = xs[k] := ⟨_, rfl⟩
      rw [← hx] at c0 c1 c2 c3 c4 hnx
      have htk : (bkL xs).take (len - k) = (bkL xs).take (len - (k + 1)) ++ [(k, x)] := by
        rw [show len - k = len - (k + 1) + 1 by omega, List.take_add_one, hnx]
        rfl
      have hle : ((bkL xs).take (len - (k + 1))).length < len := by
        rw [List.length_take, bk_len, HL.out]
        omega
      obtain ⟨x0, x1, x2, x3, x4⟩ := x
      obtain ⟨fn, tmps, assign, body, hy, hRd⟩ := HY.out _ (k, ⟨x0, x1, x2, x3, x4⟩) wr hJs hle
      have hkk : (((k + 1 : Nat) : Int) - 1) = (k : Int) := by omega
      rw [hkk]
      dsimp only at hy c0 c1 c2 c3 c4
      have q1 := (hk.box HB.out).cell
      have hwk : IntKind.i64.wrap ((k : Int) - 1) = (k : Int) - 1 := wrap_small (by omega) (by omega)
      have HK := Lib.hid hk
      have HT := Lib.hid htk
      have HJ := Lib.hid hJs
      have HRd := Lib.hid hRd
      clear hR2 hnx hx hkk hk htk hle hJs hRd q0
      gi_wp2
      refine HRd.out.mono ?_
      rintro e W3 (⟨rfl, hJ3, hk3⟩ | ⟨rfl, hJx3⟩)
      · have HJ3 := Lib.hid hJ3
        have HK3 := Lib.hid hk3
        clear hJ3 hk3 c0 c1 c2 c3 c4 q1 hy
        gi_wp2
        go_roundw
        case rel => exact ⟨k, by omega, rfl, by rw [HT.out]; exact HJ3.out, HK.out.trans HK3.out⟩
        case measure => simp [intOf]
      · have HJ3 := Lib.hid hJx3
        clear hJx3 c0 c1 c2 c3 c4 q1 hy
        gi_wp2
        refine bodyPost_ret (results_none rfl _ _ _) rfl ?_
        exact ⟨⟨_, rfl⟩, .inr ⟨_, ⟨len - k, by omega, HT.out.symm⟩, HJ3.out⟩⟩
theorem bk_stops (n : Nat) (hn : 1 ≤ n) (Bs n₀ len cap : Nat) (A : Option Addr) (xs : List Stp) (hlen : xs.length = len) (hl : len ≤ 1000000) (w : World) (hBs : Bs < w.heap.size) (hA : 0 < xs.length → ∀ b off s, A = some ⟨b, off, s⟩ → b < n₀)
    (hc : Boxed w Bs 22 (.slice A len cap)) (hR : RecIn RS w A cap xs) :
    SeqStopsK Fence.wide n Try.prog 34 #[.pointer (some ⟨Bs, 0, none⟩)] (fun x : Nat × Stp => #[Value.int .i64 (x.1 : Int), .agg #[.int .i64 x.2.node, .int .i64 x.2.target, .int .i64 x.2.related, .bool x.2.cr, .bool x.2.cs]]) (KpS n₀ Bs) (fun ys => ys = bkL xs)
      (fun pre => ∃ k, k ≤ len ∧ pre = (bkL xs).take k) len w := fun l J Jx W hW _ _ hY h0 =>
  bk1_in n hn l Bs n₀ len cap A xs hlen hl hA J Jx hY W ((hW.block Bs hBs).trans hc) (hR.below hW) h0
end
end Go.Proofs.Ytekmgaigppenlaa

namespace Go.Proofs.Ytekmgaigppenlaa
open Go Go.RowKit Go.Shelf
attribute [local go_sem] Oper.semAt_some

/-- 'Block B holds these cells' abides whatever turns no cells. -/
theorem has_own {β : Type} (B : Nat) (f : β → Array Value) (t : TypeId) (fr : Nat × Nat) : Own (fun s W => Has W B (.cells (f s) t fr)) := fun s X Y row hs hg hrow =>
  (hg.block B hs.inside fun e' => by
    obtain ⟨o, ho, hc⟩ := hrow B e'.symm
    rw [show X.heap[B]? = _ from hs] at ho
    cases ho
    cases hc).trans hs
/-- The last place of a node; -1: there is none. -/
def placeI (p : List Stp) (v : Int) : Int := match placeL v p with
  | none => -1
  | some (k, _) => k
theorem place_found {p : List Stp} {v : Int} {n k : Nat} {ini : List (Nat × Stp)} {last : Nat × Stp} (hn : p.length = n) (hk : k ≤ n) (e1 : (bkL p).take k = ini ++ [last]) (e2 : ∀ q ∈ ini, q.2.node ≠ v) (e3 : last.2.node = v) : placeI p v = (last.1 : Int) := by
  obtain ⟨k', rfl⟩ : ∃ k', k = k' + 1 := by
    cases k with
    | zero => simp at e1
    | succ k' => exact ⟨k', rfl⟩
  have hkp : k' < p.length := by omega
  rw [List.take_add_one, bk_get hkp] at e1
  obtain ⟨e4, e5⟩ := List.append_inj' e1 rfl
  have e6 : (p.length - 1 - k', p[p.length - 1 - k']'(by omega)) = last := by simpa using e5
  rw [← e6] at e3
  obtain ⟨lev, h⟩ := place_hit (v := v) hkp (by rw [e4]; exact e2) e3
  unfold placeI
  rw [h, ← e6]
section
variable {w : World} {A : Option Addr} {c n : Nat} {p : List Stp} {v : Int}
end
end Go.Proofs.Ytekmgaigppenlaa

namespace Go.Proofs.Ytekmgaigppenlaa
open Go Go.RowKit

/-- What X doesn't name, and what holds no records of the type T, lies as it lay. -/
def KpX (X : Nat → Prop) (T : TypeId) (W W' : World) : Prop := W.heap.size ≤ W'.heap.size ∧ ∀ b o, ¬ X b → W.heap[b]? = some o → (∀ c f, o ≠ .cells c T f) → W'.heap[b]? = some o
section
variable {X X' : Nat → Prop} {T t : TypeId} {U V W W' : World} {b : Nat} {v : Value} {o : Obj}
theorem KpX.refl (X : Nat → Prop) (T : TypeId) (W : World) : KpX X T W W := ⟨Nat.le_refl _, fun _ _ _ h _ => h⟩
theorem KpX.trans (h : KpX X T U V) (k : KpX X T V W) : KpX X T U W := ⟨Nat.le_trans h.1 k.1, fun b o hX ho hT => k.2 b o hX (h.2 b o hX ho hT) hT⟩
theorem KpX.of_below (h : Below W.heap.size W W') : KpX X T W W' := ⟨h.size, fun b _ _ ho _ => (h.block b (Array.getElem?_eq_some_iff.1 ho).1).trans ho⟩
theorem KpX.alloc (W : World) (o : Obj) : KpX X T W (W.alloc o) := KpX.of_below ((Below.refl _ W).alloc (Nat.le_refl _) o)
theorem KpX.drew (W : World) : KpX X T W W.drew := KpX.of_below (Below.refl _ W).drew
theorem KpX.setCell (hb : X b) (W : World) (k : Nat) (u : Value) : KpX X T W (W.setCell ⟨b, k, none⟩ u) :=
  ⟨by simp [World.setCell], fun j _ hj ho _ => (Below.heap_setCell W ⟨b, k, none⟩ u j (fun e => hj (by rw [show j = b from e]; exact hb))).trans ho⟩
theorem KpX.putObj (hb : X b) (W : World) (o : Obj) : KpX X T W (W.putObj b o) :=
  ⟨by simp, fun j _ hj ho _ => (World.putObj_heap_other (fun e => hj (by rw [e]; exact hb))).trans ho⟩
theorem KpX.grown {row : Option Nat} (hg : W.grownBy W' row) (hr : ∀ j, row = some j → X j ∨ ∃ c f, W.heap[j]? = some (.cells c T f)) : KpX X T W W' :=
  ⟨hg.size, fun j o hj ho hT => (hg.block j (Array.getElem?_eq_some_iff.1 ho).1 (fun e => by
    rcases hr j e.symm with h | ⟨c, f, h⟩
    · exact hj h
    · rw [ho] at h
      cases h
      exact hT c f rfl)).trans ho⟩
theorem KpX.wide (h : KpX X T W W') (hX : ∀ b, X b → X' b) : KpX X' T W W' := ⟨h.1, fun b o hb => h.2 b o (fun e => hb (hX b e))⟩
theorem KpX.same (h : KpX X T W W') (hb : ¬ X b) (ho : W.heap[b]? = some o) (hT : ∀ c f, o ≠ .cells c T f) : W'.heap[b]? = some o := h.2 b o hb ho hT
theorem KpX.box (h : KpX X T W W') (hb : ¬ X b) (ht : t ≠ T) (hv : Boxed W b t v) : Boxed W' b t v := h.2 b _ hb hv (fun c f e => by cases e; exact ht rfl)
theorem KpX.from (h : KpX X T W W') {B : Nat} (hX : ∀ b, X b → b < B) : KeepsFrom B W W' := ⟨h.1, fun k o hk ho hc => h.2 k o (fun e => by have := hX k e; omega) ho (fun c f e => by subst e; cases hc)⟩
end

theorem ownFrom_step {β : Type} {B : Nat} {J : β → World → Prop} {s : β} {U V : World} (h : OwnFrom B J) (hs : J s U) (hb : Below U.heap.size U V) : J s V :=
  h s U V none hs ⟨hb.os, hb.tape, hb.output, hb.size, fun k hk _ => hb.block k hk⟩ (fun r e => by cases e)
theorem ownFrom_kpx {β : Type} {B : Nat} {X : Nat → Prop} {T : TypeId} {U : World} (hB : U.heap.size ≤ B) : OwnFrom B (fun (_ : β) V => KpX X T U V) := fun _ A C row hs hg hr =>
  ⟨Nat.le_trans hs.1 hg.size, fun b o hb ho hT => (hg.block b (Array.getElem?_eq_some_iff.1 (hs.2 b o hb ho hT)).1 (fun e => by
    have h1 := (hr b e.symm).1
    have h2 := (Array.getElem?_eq_some_iff.1 ho).1
    omega)).trans (hs.2 b o hb ho hT)⟩
theorem OwnFrom.more {β : Type} {B B' : Nat} {J : β → World → Prop} (h : OwnFrom B J) (hB : B ≤ B') : OwnFrom B' J := fun s U V row hs hg hr => h s U V row hs hg fun i e => ⟨Nat.le_trans hB (hr i e).1, (hr i e).2⟩

/-- What an iterator owes that leans on the blocks Y: over whatever loop, whose rounds keep all but what they name (X) and records of the type T. -/
def SeqX {α : Type} (P : Program) (g : Nat) (lb : Array Value) (encs : α → Array Value) (Y : Nat → Prop) (T : TypeId) (S Sp : List α → Prop) (N : Nat) (w0 : World) : Prop :=
  ∀ (l : Nat) (X : Nat → Prop) (J Jx : List α → World → Prop) (W : World), Below w0.heap.size w0 W → (∀ b, X b → b < W.heap.size ∧ ¬ Y b) → OwnFrom W.heap.size J → OwnFrom W.heap.size Jx →
    (∀ pre x W1, J pre W1 → pre.length < N → YieldAt Fence.wide 0 P l (encs x) W1 fun e W' => KpX X T W1 W' ∧ ((e = .returned (.bool true) ∧ J (pre ++ [x]) W') ∨ (e = .returned (.bool false) ∧ Jx (pre ++ [x]) W'))) →
    J [] W → Calls P g (#[.func (.yield l) #[] #[]] ++ lb) W fun e W' => (∃ v, e = .returned v) ∧ ((∃ xs, S xs ∧ J xs W') ∨ ∃ pre, Sp pre ∧ Jx pre W')

theorem SeqX.later {α : Type} {P : Program} {g : Nat} {lb : Array Value} {encs : α → Array Value} {Y : Nat → Prop} {T : TypeId} {S Sp : List α → Prop} {N : Nat} {w0 w1 : World} (h : SeqX P g lb encs Y T S Sp N w0) (hb : Below w0.heap.size w0 w1) : SeqX P g lb encs Y T S Sp N w1 :=
  fun l X J Jx W hW => h l X J Jx W (hb.trans (hW.mono hb.size))

/-- At a fence without a depth the figures are all one, and a round's contract goes into a round. -/
theorem round_any {m m' l : Nat} {P : Program} {f : FuncId} {tmps : Array Value} {assign body : Code} {w : World} {R : Ending → World → Prop} (h : RoundIn Fence.wide m P l f tmps assign body w R) : RoundIn Fence.wide m' P l f tmps assign body w R :=
  ⟨h.1, fun c cs _ => h.2 c cs (room_wide _)⟩
theorem round_in {m m' l l' : Nat} {P : Program} {f : FuncId} {tmps : Array Value} {assign body : Code} {w : World} {R : Ending → World → Prop} (h : RoundIn Fence.wide m P l f tmps assign body w R) : RoundIn (Fence.wide.inRound l') m' P l f tmps assign body w R :=
  ⟨h.1, fun c cs _ => h.2 c cs (room_wide _)⟩

/-- A call of yield, in one way: it tells whether to go on. -/
theorem yield_one {l : Nat} {P : Program} {args : Array Value} {W : World} {K : World → World → Prop} {J Jx : World → Prop} (h : YieldAt Fence.wide 0 P l args W fun e W' => K W W' ∧ ((e = .returned (.bool true) ∧ J W') ∨ (e = .returned (.bool false) ∧ Jx W'))) :
    ∃ fn tmps assign body, (Instr.yield l args).run P W = .ok (.round l fn tmps assign body) W ∧ RoundIn Fence.wide 0 P l fn tmps assign body W fun e W' => ∃ v, e = .returned (.bool v) ∧ K W W' ∧ ((v = true ∧ J W') ∨ (v = false ∧ Jx W')) := by
  obtain ⟨fn, tmps, assign, body, hy, hR⟩ := h
  refine ⟨fn, tmps, assign, body, hy, hR.mono ?_⟩
  rintro e W' ⟨hk, ⟨rfl, hj⟩ | ⟨rfl, hj⟩⟩
  · exact ⟨true, rfl, hk, .inl ⟨rfl, hj⟩⟩
  · exact ⟨false, rfl, hk, .inr ⟨rfl, hj⟩⟩

/-- How the body of a round may be left. -/
def postX {α : Type} (X : Nat → Prop) (T : TypeId) (I : List α → World → Prop) (Ix : Code → List α → World → Prop) (xs : List α) (W : World) : Exit → Act → World → Prop
  | .normal, _, W' => KpX X T W W' ∧ I xs W'
  | .ret, _, W' => KpX X T W W' ∧ Ix .ret xs W'
  | .exit id, _, W' => KpX X T W W' ∧ Ix (.exit id) xs W'
  | .goto i, _, W' => KpX X T W W' ∧ Ix (.goto i) xs W'
  | .panic _, _, _ => False
  | .outgrown, _, _ => False

section
variable {n : Nat} {P : Program} {α : Type}
/-- One round, met where the iterator calls its yield: the record is ready; behind it the record is ready again, or done with a jump that waits. -/
theorem round_X {l m : Nat} {r : Loop} {W : World} {args : Array Value} {X : Nat → Prop} {T : TypeId} {I : List α → World → Prop} {Ix : Code → List α → World → Prop} {pre : List α} {Ax : Act → World → Prop}
    (hl : W.heap[l]? = some (.loop r)) (hr : r.state = .ready) (hp : r.pending = none) (hs : args.size = r.params.size) (hX : ¬ X l) (hI : ∀ {s W o}, I s W → W.heap[l]? = some (.loop o) → ∀ o', I s (W.putObj l (.loop o'))) (hIx : ∀ {c s W o}, Ix c s W → W.heap[l]? = some (.loop o) → ∀ o', Ix c s (W.putObj l (.loop o'))) (hAx : ∀ {a W o}, Ax a W → W.heap[l]? = some (.loop o) → ∀ o', Ax a (W.putObj l (.loop o')))
    (x : α)
    (hassign : ∀ K : Act → World → Prop, (∀ a' W', KpX X T W W' → I pre W' → Ax a' W' → K a' W') → r.assign.wpIn (Fence.wide.inRound l) m P (Exit.then K (fun _ _ _ => False)) { tmps := (r.params.zip args).foldl (fun t (p, v) => t.setIfInBounds p v) r.tmps, defers := [] } W)
    (hbody : ∀ a' W', I pre W' → Ax a' W' → r.body.wpIn (Fence.wide.inRound l) m P (postX X T I Ix (pre ++ [x]) W') a' W') :
    YieldAt Fence.wide 0 P l args W fun e W' => KpX (fun b => X b ∨ b = l) T W W' ∧ ((e = .returned (.bool true) ∧ I (pre ++ [x]) W' ∧ W'.heap[l]? = some (.loop r)) ∨
      (e = .returned (.bool false) ∧ ∃ c, Ix c (pre ++ [x]) W' ∧ W'.heap[l]? = some (.loop { r with state := .done, pending := some c }))) := by
  refine ⟨_, _, _, _, run_yield hl hs, round_any (m := m) (roundIn_of_wpIn trivial (hassign _ ?_))⟩
  intro a' Wa hka hia hax
  have hla : Wa.heap[l]? = some (.loop r) := hka.same hX hl (fun _ _ e => by cases e)
  have lt : ∀ {V : World} {q : Obj}, V.heap[l]? = some q → l < V.heap.size := fun h => (Array.getElem?_eq_some_iff.1 h).1
  refine ⟨_, run_beginRound hla hr, wpIn_mono (hbody a' _ (hI hia hla _) (hAx hax hla _)) ?_⟩
  have hlb : (Wa.putObj l (.loop { r with state := .busy })).heap[l]? = some (.loop { r with state := .busy }) := World.putObj_heap_same (lt hla)
  have ends : ∀ (j : Option Code) (V : World), KpX X T (Wa.putObj l (.loop { r with state := .busy })) V →
      ∃ r', V.heap[l]? = some (.loop r') ∧ (Instr.endRound l j).run P V = .ok (.bool j.isNone) (V.putObj l (.loop { r with state := if j.isNone then .ready else .done, pending := j })) ∧
      KpX (fun b => X b ∨ b = l) T W (V.putObj l (.loop { r with state := if j.isNone then .ready else .done, pending := j })) ∧
      (V.putObj l (.loop { r with state := if j.isNone then .ready else .done, pending := j })).heap[l]? = some (.loop { r with state := if j.isNone then .ready else .done, pending := j }) := fun j V hV => by
    have hv := hV.same hX hlb (fun _ _ e => by cases e)
    have hend := run_endRound (P := P) j hv
    exact ⟨_, hv, hend, (((hka.wide fun _ => .inl).trans (KpX.putObj (.inr rfl) _ _)).trans (hV.wide fun _ => .inl)).trans (KpX.putObj (.inr rfl) _ _), World.putObj_heap_same (lt hv)⟩
  rintro e a3 V hq
  cases e with
  | normal =>
    obtain ⟨r', hv, hrun, hk, hl'⟩ := ends none V hq.1
    refine ⟨_, _, hrun, hk, .inl ⟨rfl, hI hq.2 hv _, hl'.trans ?_⟩⟩
    obtain ⟨st, pe, _⟩ := r
    cases hr
    cases hp
    rfl
  | ret =>
    obtain ⟨r', hv, hrun, hk, hl'⟩ := ends (some .ret) V hq.1
    exact ⟨_, _, hrun, hk, .inr ⟨rfl, _, hIx hq.2 hv _, hl'⟩⟩
  | exit id =>
    obtain ⟨r', hv, hrun, hk, hl'⟩ := ends (some (.exit id)) V hq.1
    exact ⟨_, _, hrun, hk, .inr ⟨rfl, _, hIx hq.2 hv _, hl'⟩⟩
  | goto i =>
    obtain ⟨r', hv, hrun, hk, hl'⟩ := ends (some (.goto i)) V hq.1
    exact ⟨_, _, hrun, hk, .inr ⟨rfl, _, hIx hq.2 hv _, hl'⟩⟩
  | panic _ => exact hq.elim
  | outgrown => exact hq.elim

/-- The statement, where it lies in no round. -/
theorem wpIn_range_X {g : Operand} {ps : Array Tmp} {assign body : Code} {Q : Exit → Act → World → Prop} {a : Act} {w : World} (h1 : 1 ≤ n) {gf : Nat} {lb : Array Value} (hg : a.eval g = .func (.func gf) #[] lb) (eg : ∀ args w, (callFunc gf args).run P w = .ok (.enter gf args) w)
    {encs : α → Array Value} {Y : Nat → Prop} {T : TypeId} {S Sp : List α → Prop} {N : Nat} {w0 : World} (hseq : SeqX P gf lb encs Y T S Sp N w0) (hb0 : Below w0.heap.size w0 w) (hps : ∀ x, (encs x).size = ps.size)
    (X : Nat → Prop) (hY : ∀ b, Y b → b < w.heap.size) (hX : ∀ b, X b → b < w.heap.size ∧ ¬ Y b)
    (I : List α → World → Prop) (Ix : Code → List α → World → Prop) (hI : OwnFrom w.heap.size I) (hIx : ∀ c, OwnFrom w.heap.size (Ix c)) (h0 : I [] w) (Ax : α → Act → World → Prop) (hAx : ∀ x a', OwnFrom w.heap.size (fun (_ : Unit) W => Ax x a' W))
    (hassign : ∀ (l : Nat) (pre : List α) (x : α) (W : World) (K : Act → World → Prop), I pre W → (∀ a' W', KpX X T W W' → I pre W' → Ax x a' W' → K a' W') →
      assign.wpIn (Fence.wide.inRound l) (n - 1 - 1) P (Exit.then K (fun _ _ _ => False)) { tmps := (ps.zip (encs x)).foldl (fun t (p, v) => t.setIfInBounds p v) a.tmps, defers := [] } W)
    (hbody : ∀ (l : Nat) (pre : List α) (x : α) (a' : Act) (W : World), I pre W → Ax x a' W → pre.length < N → body.wpIn (Fence.wide.inRound l) (n - 1 - 1) P (postX X T I Ix (pre ++ [x]) W) a' W)
    (hdone : ∀ (D : Nat) (xs : List α) (W : World), w.heap.size ≤ D → S xs → I xs W → W.heap[D]? = some (.deferred (some [])) → Q .normal { a with defers := { target := .collected D, args := #[] } :: a.defers } W)
    (hstop : ∀ (D : Nat) (c : Code) (pre : List α) (W : World), w.heap.size ≤ D → Sp pre → Ix c pre W → W.heap[D]? = some (.deferred (some [])) → c.wpIn Fence.wide n P Q { a with defers := { target := .collected D, args := #[] } :: a.defers } W) :
    (Code.rangeFunc g ps assign body).wpIn Fence.wide n P Q a w := by
  refine wpIn_rangeFunc fun fn _ => ?_
  obtain ⟨r, er⟩ : ∃ r : Loop, r = { state := .ready, pending := none, fn, tmps := a.tmps, params := ps, assign, body, defers := w.heap.size } := ⟨_, rfl⟩
  have hlast : ((w.alloc (.deferred (some []))).alloc (.loop r)).heap[w.heap.size + 1]? = some (.loop r) := by
    have := World.alloc_heap_new (w.alloc (.deferred (some []))) (.loop r)
    rwa [World.size_alloc] at this
  have hfirst : ((w.alloc (.deferred (some []))).alloc (.loop r)).heap[w.heap.size]? = some (.deferred (some [])) := (Below.heap_alloc _ _ _ (by simp)).trans (World.alloc_heap_new w _)
  have hsz : ((w.alloc (.deferred (some []))).alloc (.loop r)).heap.size = w.heap.size + 1 + 1 := by simp
  have hI0 : I [] ((w.alloc (.deferred (some []))).alloc (.loop r)) := hI.alloc _ (hI.alloc _ h0)
  have hbw : Below w0.heap.size w0 ((w.alloc (.deferred (some []))).alloc (.loop r)) := (hb0.alloc hb0.size _).alloc (by rw [World.size_alloc]; have := hb0.size; omega) _
  have enter := run_enterLoop_outer (P := P) (w := w) fn a.tmps ps assign body
  rw [← er] at enter
  obtain ⟨V, eV⟩ : ∃ V, V = (w.alloc (.deferred (some []))).alloc (.loop r) := ⟨_, rfl⟩
  rw [← eV] at hlast hfirst hsz hI0 hbw enter
  have late : ∀ {A B : World} {row : Option Nat}, (∀ i, row = some i → V.heap.size ≤ i ∧ ∃ o : Obj, A.heap[i]? = some o ∧ o.isCells = false) → A.grownBy B row → ∀ {k : Nat} {o : Obj}, k < w.heap.size + 1 + 1 → A.heap[k]? = some o → B.heap[k]? = some o := fun hr hgr k o hk ho =>
    (hgr.block k (Array.getElem?_eq_some_iff.1 ho).1 (fun e => by have := (hr k e.symm).1; omega)).trans ho
  have own : ∀ {β : Type} {H : β → World → Prop}, OwnFrom w.heap.size H → OwnFrom V.heap.size H := fun hH s A B row hs hgr hr => hH s A B row hs hgr fun i e => ⟨by have := (hr i e).1; omega, (hr i e).2⟩
  refine ⟨w.heap.size + 1, [{ target := .collected w.heap.size, args := #[] }], V, { target := .fn (.func gf) lb, args := #[.func (.yield (w.heap.size + 1)) #[] #[]] }, V, gf, #[.func (.yield (w.heap.size + 1)) #[] #[]] ++ lb, V, enter, ?_, fun _ _ => trivial, by simp [invoke, go_sem, eg], fun _ => h1, ?_⟩
  · simp only [resolve, hg]
    simp [go_sem]
  · refine callsIn_wide.2 ((hseq (w.heap.size + 1) (fun b => X b ∨ b = w.heap.size + 1)
      (fun pre W => I pre W ∧ W.heap[w.heap.size + 1]? = some (.loop r) ∧ W.heap[w.heap.size]? = some (.deferred (some [])))
      (fun pre W => ∃ c, Ix c pre W ∧ W.heap[w.heap.size + 1]? = some (.loop { r with state := .done, pending := some c }) ∧ W.heap[w.heap.size]? = some (.deferred (some []))) V hbw ?_
      (fun s A B row hs hgr hr => ⟨own hI s A B row hs.1 hgr hr, late hr hgr (by omega) hs.2.1, late hr hgr (by omega) hs.2.2⟩)
      (fun s A B row hs hgr hr => by
        obtain ⟨c, h2, h3, h4⟩ := hs
        exact ⟨c, own (hIx c) s A B row h2 hgr hr, late hr hgr (by omega) h3, late hr hgr (by omega) h4⟩) ?_ ⟨hI0, hlast, hfirst⟩).mono ?_)
    · rintro b (hb | rfl)
      · exact ⟨by have := (hX b hb).1; omega, (hX b hb).2⟩
      · exact ⟨by omega, fun e => by have := hY _ e; omega⟩
    · rintro pre x W ⟨hi, hl, hd⟩ hlen
      have hXl : ¬ X (w.heap.size + 1) := fun e => by have := (hX _ e).1; omega
      have hXd : ¬ (X w.heap.size ∨ w.heap.size = w.heap.size + 1) := fun e => by
        rcases e with e | e
        · have := (hX _ e).1
          omega
        · omega
      have step := round_X (P := P) (m := n - 1 - 1) (X := X) (T := T) (I := I) (Ix := Ix) (Ax := Ax x) (args := encs x) hl (by rw [er]) (by rw [er]) (by rw [er]; exact hps x) hXl
        (fun hs ho o' => hI.putObj _ hs (by omega) ho rfl) (fun hs ho o' => (hIx _).putObj _ hs (by omega) ho rfl) (fun hs ho o' => (hAx x _).putObj (s := ()) _ hs (by omega) ho rfl) x
        (by rw [er]; exact fun K hK => hassign _ pre x W K hi hK) (by rw [er]; exact fun a' W' hi' hax => hbody _ pre x a' W' hi' hax hlen)
      refine step.mono ?_
      rintro e W' ⟨hk, ⟨rfl, hi', hl'⟩ | ⟨rfl, c, hi', hl'⟩⟩
      · exact ⟨hk, .inl ⟨rfl, hi', hl', hk.same hXd hd (fun _ _ e => by cases e)⟩⟩
      · exact ⟨hk, .inr ⟨rfl, c, hi', hl', hk.same hXd hd (fun _ _ e => by cases e)⟩⟩
    · rintro e W2 ⟨⟨v, rfl⟩, ⟨xs, hS, hi, hl, hd⟩ | ⟨pre, hSp, c, hi, hl, hd⟩⟩
      · have hend := run_endLoop (P := P) hl (by rw [er]; simp)
        have hp : r.pending = none := by rw [er]
        rw [hp] at hend
        exact ⟨none, _, hend, hdone _ xs _ (Nat.le_refl _) hS (hI.putObj _ hi (by omega) hl rfl) ((World.putObj_heap_other (by omega)).trans hd)⟩
      · exact ⟨some c, _, run_endLoop (P := P) hl (by simp), hstop _ c pre _ (Nat.le_refl _) hSp ((hIx c).putObj _ hi (by omega) hl rfl) ((World.putObj_heap_other (by omega)).trans hd)⟩
end
end Go.Proofs.Ytekmgaigppenlaa

namespace Go.Proofs.Ytekmgaigppenlaa
open Go Go.RowKit Go.Shelf
attribute [local go_sem] Oper.semAt_some

/-- Cells in the blocks Y lie as they lay. -/
def KpC (Y : Nat → Prop) (W W' : World) : Prop := ∀ b o, Y b → W.heap[b]? = some o → o.isCells = true → W'.heap[b]? = some o
section
variable {Y : Nat → Prop} {U V W W' : World} {A : Option Addr} {c : Nat} {xs : List Stp} {b : Nat} {t : TypeId} {v : Value}
theorem KpC.refl (Y : Nat → Prop) (W : World) : KpC Y W W := fun _ _ _ h _ => h
theorem KpC.trans (h : KpC Y U V) (k : KpC Y V W) : KpC Y U W := fun b o hb ho hc => k b o hb (h b o hb ho hc) hc
theorem KpC.book (W : World) (l : Nat) (o o' : Obj) (h : W.heap[l]? = some o) (h1 : o.isCells = false) : KpC Y W (W.putObj l o') := fun b u _ hu hc =>
  (World.putObj_heap_other (fun e => by subst e; rw [h] at hu; cases hu; rw [h1] at hc; cases hc)).trans hu
theorem KpC.of_below (h : Below W.heap.size W W') : KpC Y W W' := fun b _ _ ho _ => (h.block b (Array.getElem?_eq_some_iff.1 ho).1).trans ho
theorem KpC.box (h : KpC Y W W') (hb : Y b) (hv : Boxed W b t v) : Boxed W' b t v := h b _ hb hv rfl
theorem KpC.rec (h : KpC Y W W') (hA : 0 < xs.length → ∀ b off s, A = some ⟨b, off, s⟩ → Y b) (hR : RecIn RS W A c xs) : RecIn RS W' A c xs := by
  refine ⟨hR.cap, hR.nil, fun i hi => ?_⟩
  obtain ⟨b, off, e, hb, hc⟩ := hR.at_ i hi
  have h0 : W.cell? ⟨b, off + (i * RS.n + 0), none⟩ = some (.int .i64 xs[i].node) := hc 0 (by decide)
  obtain ⟨o, ho, hcell⟩ := cells_of_cell h0
  have ho' := h b o (hA (by omega) b off none e) ho hcell
  refine ⟨b, off, e, (Array.getElem?_eq_some_iff.1 ho').1, fun f hf => (World.cell?_of_block (a := ⟨b, off + (i * RS.n + f), none⟩) (ho'.trans ho.symm)).trans (hc f hf)⟩
end
section
set_option maxRecDepth 100000 in
set_option maxHeartbeats 2000000 in
theorem bkG_in (n : Nat) (hn : 1 ≤ n) (Kp : World → World → Prop) (l Bs len cap : Nat) (A : Option Addr) (xs : List Stp) (hlen : xs.length = len) (hl : len ≤ 1000000) (hKB : ∀ X Y, Kp X Y → Boxed X Bs 22 (.slice A len cap) → Boxed Y Bs 22 (.slice A len cap)) (hKR : ∀ X Y, Kp X Y → RecIn RS X A cap xs → RecIn RS Y A cap xs) (J Jx : List (Nat × Stp) → World → Prop)
    (hY : ∀ pre x W, J pre W → pre.length < len → YieldAt Fence.wide (n - 1) Try.prog l #[.int .i64 (x.1 : Int), .agg #[.int .i64 x.2.node, .int .i64 x.2.target, .int .i64 x.2.related, .bool x.2.cr, .bool x.2.cs]] W fun e W' =>
      (e = .returned (.bool true) ∧ J (pre ++ [x]) W' ∧ Kp W W') ∨ (e = .returned (.bool false) ∧ Jx (pre ++ [x]) W'))
    (W : World) (hBs : Boxed W Bs 22 (.slice A len cap)) (hR : RecIn RS W A cap xs) (h0 : J [] W) :
    CallsIn Fence.wide n Try.prog 34 #[.func (.yield l) #[] #[], .pointer (some ⟨Bs, 0, none⟩)] W fun e W' => (∃ v, e = .returned v) ∧
      ((∃ ys, ys = bkL xs ∧ J ys W') ∨ (∃ pre, (∃ k, k ≤ len ∧ pre = (bkL xs).take k) ∧ Jx pre W')) := by
  have HR := Lib.hid hR
  have HY := Lib.hid hY
  have HKB := Lib.hid hKB
  have HKR := Lib.hid hKR
  have HL := Lib.hid hlen
  have HB := Lib.hid hBs
  have q0 := hBs.cell
  have hwl : IntKind.i64.wrap ((len : Int) - 1) = (len : Int) - 1 := wrap_small (by omega) (by omega)
  clear hR hY hKB hKR hlen hBs
  refine callsIn_of_wp Try.func34 rfl trivial ?_ rfl
  simp only [Try.ntmps34, List.size_toArray, List.length_cons, List.length_nil, Nat.reduceAdd, Nat.reduceSub, Array.replicate_succ, Array.replicate_zero, List.push_toArray, List.append_toArray, List.nil_append, List.cons_append]
  gi_wp2
  gi_loopw [3] (fun i wr => ∃ m : Nat, m ≤ len ∧ i = .int .i64 ((m : Int) - 1) ∧ J ((bkL xs).take (len - m)) wr ∧ Boxed wr Bs 22 (.slice A len cap) ∧ RecIn RS wr A cap xs) (fun i _ => (intOf i + 1).toNat)
  case atStart => exact ⟨len, Nat.le_refl _, rfl, by rw [Nat.sub_self]; exact h0, HB.out, HR.out⟩
  case round =>
    obtain ⟨m, hm, rfl, hJs, hkb, hkr⟩ := hrel
    cases m with
    | zero =>
      rw [Nat.sub_zero, List.take_of_length_le (by rw [bk_len, HL.out]; exact Nat.le_refl _)] at hJs
      have HJ := Lib.hid hJs
      clear hJs
      gi_wp2
      go_end0
      exact ⟨⟨_, rfl⟩, .inl ⟨_, rfl, HJ.out⟩⟩
    | succ k =>
      have hkl : k < xs.length := by rw [HL.out]; omega
      obtain ⟨b, off, rfl, c0, c1, c2, c3, c4⟩ := five_of hkr hkl
      have hnx : (bkL xs)[len - (k + 1)]? = some (k, xs[k]) := by
        have := bk_get (p := xs) (k := len - (k + 1)) (by rw [HL.out]; omega)
        rw [this]
        simp only [show xs.length - 1 - (len - (k + 1)) = k by rw [HL.out]; omega]
      obtain ⟨x, hx⟩ : ∃ x, x = xs[k] := ⟨_, rfl⟩
      rw [← hx] at c0 c1 c2 c3 c4 hnx
      have htk : (bkL xs).take (len - k) = (bkL xs).take (len - (k + 1)) ++ [(k, x)] := by
        rw [show len - k = len - (k + 1) + 1 by omega, List.take_add_one, hnx]
        rfl
      have hle : ((bkL xs).take (len - (k + 1))).length < len := by
        rw [List.length_take, bk_len, HL.out]
        omega
      obtain ⟨x0, x1, x2, x3, x4⟩ := x
      obtain ⟨fn, tmps, assign, body, hy, hRd⟩ := HY.out _ (k, ⟨x0, x1, x2, x3, x4⟩) wr hJs hle
      have hkk : (((k + 1 : Nat) : Int) - 1) = (k : Int) := by omega
      rw [hkk]
      dsimp only at hy c0 c1 c2 c3 c4
      have q1 := hkb.cell
      have hwk : IntKind.i64.wrap ((k : Int) - 1) = (k : Int) - 1 := wrap_small (by omega) (by omega)
      have HK := Lib.hid hkb
      have HK2 := Lib.hid hkr
      have HT := Lib.hid htk
      have HJ := Lib.hid hJs
      have HRd := Lib.hid hRd
      clear hnx hx hkk hkb hkr htk hle hJs hRd q0
      gi_wp2
      refine HRd.out.mono ?_
      rintro e W3 (⟨rfl, hJ3, hk3⟩ | ⟨rfl, hJx3⟩)
      · have HJ3 := Lib.hid hJ3
        have HK3 := Lib.hid hk3
        clear hJ3 hk3 c0 c1 c2 c3 c4 q1 hy
        gi_wp2
        go_roundw
        case rel => exact ⟨k, by omega, rfl, by rw [HT.out]; exact HJ3.out, HKB.out _ _ HK3.out HK.out, HKR.out _ _ HK3.out HK2.out⟩
        case measure => simp [intOf]
      · have HJ3 := Lib.hid hJx3
        clear hJx3 c0 c1 c2 c3 c4 q1 hy
        gi_wp2
        refine bodyPost_ret (results_none rfl _ _ _) rfl ?_
        exact ⟨⟨_, rfl⟩, .inr ⟨_, ⟨len - k, by omega, HT.out.symm⟩, HJ3.out⟩⟩
theorem bkC_stops (n : Nat) (hn : 1 ≤ n) (Y : Nat → Prop) (Bs len cap : Nat) (A : Option Addr) (xs : List Stp) (hlen : xs.length = len) (hl : len ≤ 1000000) (w : World) (hBs : Y Bs) (hA : 0 < xs.length → ∀ b off s, A = some ⟨b, off, s⟩ → Y b)
    (hc : Boxed w Bs 22 (.slice A len cap)) (hR : RecIn RS w A cap xs) :
    SeqStopsK Fence.wide n Try.prog 34 #[.pointer (some ⟨Bs, 0, none⟩)] (fun x : Nat × Stp => #[Value.int .i64 (x.1 : Int), .agg #[.int .i64 x.2.node, .int .i64 x.2.target, .int .i64 x.2.related, .bool x.2.cr, .bool x.2.cs]]) (KpC Y) (fun ys => ys = bkL xs)
      (fun pre => ∃ k, k ≤ len ∧ pre = (bkL xs).take k) len w := fun l J Jx W hW _ _ hY h0 =>
  bkG_in n hn (KpC Y) l Bs len cap A xs hlen hl (fun _ _ h => h.box hBs) (fun _ _ h => h.rec hA) J Jx hY W ((hW.block Bs hc.lt).trans hc) (hR.below hW) h0
end
end Go.Proofs.Ytekmgaigppenlaa

namespace Go.Proofs.Ytekmgaigppenlaa
open Go

/-- A turn: a place, the phase, whether it is on the capturing way. -/
structure Trn where
  at_ : Int
  phase : Int
  cap : Bool
def Trn.cells (t : Trn) : List Value := [.int .i64 t.at_, .int .i64 t.phase, .bool t.cap]
def RT : Rec Trn := ⟨Trn.cells, 3, fun _ => rfl, fun a u hu => by
  simp only [Trn.cells, List.mem_cons, List.not_mem_nil, or_false] at hu
  rcases hu with rfl | rfl | rfl <;> rfl, by decide⟩
/-- The capturing way of a path whose first entry is at the place n; the other way. -/
def capT : Nat → List Stp → List Trn
  | _, [] => []
  | n, s :: r => capT (n + 1) r ++ [⟨n, if s.target ≠ 0 then 2 else 1, true⟩]
def bub1 (bub : Bool) (n : Nat) (s : Stp) : List Trn := if s.target ≠ 0 then [⟨n, 2, false⟩] else if bub = true then [⟨n, 3, false⟩] else []
def bubT (bub : Bool) : Nat → List Stp → List Trn
  | _, [] => []
  | n, s :: r => bub1 bub n s ++ bubT bub (n + 1) r
def turnsL (p : List Stp) (bub : Bool) : List Trn := capT 0 p ++ bubT bub 0 p
/-- The target that is told at a place: that of the last entry up to it that has one. -/
def toldT : List Stp → Int → Int
  | [], t => t
  | s :: r, t => toldT r (if s.target ≠ 0 then s.target else t)
def targetL (p : List Stp) (i : Int) : Int := if 0 ≤ i ∧ i < p.length then toldT (p.take (i.toNat + 1)) 0 else 0
section
variable {bub : Bool} {n i : Nat} {p : List Stp} {s : Stp} {t : Trn}
theorem cap_len : ∀ (p : List Stp) (n : Nat), (capT n p).length = p.length
  | [], _ => rfl
  | s :: r, n => by rw [capT, List.length_append, cap_len r, List.length_cons]; rfl
theorem cap_snoc : ∀ (p : List Stp) (n : Nat), capT n (p ++ [s]) = ⟨((n + p.length : Nat) : Int), if s.target ≠ 0 then 2 else 1, true⟩ :: capT n p
  | [], n => by simp [capT]
  | x :: r, n => by
    rw [List.cons_append, capT, cap_snoc r (n + 1), capT, List.length_cons, show n + 1 + r.length = n + (r.length + 1) by omega]
    rfl
/-- The i-th turn of the capturing way is at the i-th place from the end. -/
theorem cap_at : ∀ (p : List Stp) (n i : Nat) (t : Trn), (capT n p)[i]? = some t → t.cap = true ∧ t.at_ = ((n + p.length : Nat) : Int) - 1 - (i : Int)
  | [], _, _, _, h => by simp [capT] at h
  | s :: r, n, i, t, h => by
    rw [capT] at h
    by_cases hi : i < (capT (n + 1) r).length
    · rw [List.getElem?_append_left hi] at h
      obtain ⟨h1, h2⟩ := cap_at r (n + 1) i t h
      refine ⟨h1, ?_⟩
      rw [h2, List.length_cons]
      omega
    · rw [List.getElem?_append_right (by omega), cap_len] at h
      rw [cap_len] at hi
      have hi2 : i - r.length = 0 := by
        have := (List.getElem?_eq_some_iff.1 h).1
        simpa using this
      rw [hi2] at h
      obtain rfl : (⟨n, if s.target ≠ 0 then 2 else 1, true⟩ : Trn) = t := by simpa using h
      refine ⟨rfl, ?_⟩
      rw [List.length_cons]
      show (n : Int) = _
      omega
theorem bub1_at (h : t ∈ bub1 bub n s) : t.cap = false ∧ t.at_ = n := by
  unfold bub1 at h
  split at h
  · obtain rfl := List.mem_singleton.1 h
    exact ⟨rfl, rfl⟩
  · split at h
    · obtain rfl := List.mem_singleton.1 h
      exact ⟨rfl, rfl⟩
    · cases h
theorem bub_in : ∀ (p : List Stp) (n : Nat), ∀ t ∈ bubT bub n p, t.cap = false ∧ (n : Int) ≤ t.at_ ∧ t.at_ < ((n + p.length : Nat) : Int)
  | [], _, t, h => by cases h
  | s :: r, n, t, h => by
    rw [bubT] at h
    rcases List.mem_append.1 h with h | h
    · obtain ⟨h1, h2⟩ := bub1_at h
      rw [List.length_cons]
      exact ⟨h1, by omega, by omega⟩
    · obtain ⟨h1, h2, h3⟩ := bub_in r (n + 1) t h
      rw [List.length_cons]
      exact ⟨h1, by omega, by omega⟩
theorem bub_rise : ∀ (p : List Stp) (n : Nat), (bubT bub n p).Pairwise fun a b => a.at_ < b.at_
  | [], _ => List.Pairwise.nil
  | s :: r, n => by
    rw [bubT, List.pairwise_append]
    refine ⟨?_, bub_rise r (n + 1), fun a ha b hb => ?_⟩
    · unfold bub1
      split
      · exact List.pairwise_singleton _ _
      · split
        · exact List.pairwise_singleton _ _
        · exact List.Pairwise.nil
    · obtain ⟨-, h1⟩ := bub1_at ha
      obtain ⟨-, h2, -⟩ := bub_in r (n + 1) b hb
      omega
theorem bub_all : ∀ (p : List Stp) (n : Nat), (bubT true n p).length = p.length
  | [], _ => rfl
  | s :: r, n => by
    rw [bubT, List.length_append, bub_all r, List.length_cons]
    have : (bub1 true n s).length = 1 := by
      unfold bub1
      split <;> rfl
    omega
theorem bub_some : ∀ (p : List Stp) (n : Nat), (bubT false n p).length = (p.filter fun s => decide (s.target ≠ 0)).length
  | [], _ => rfl
  | s :: r, n => by
    rw [bubT, List.length_append, bub_some r]
    by_cases h : s.target ≠ 0
    · rw [List.filter_cons_of_pos (by simpa using h), List.length_cons]
      have : (bub1 false n s).length = 1 := by
        unfold bub1
        rw [if_pos h]
        rfl
      omega
    · rw [List.filter_cons_of_neg (by simpa using h)]
      have : (bub1 false n s).length = 0 := by
        unfold bub1
        rw [if_neg h]
        rfl
      omega
theorem told_snoc : ∀ (p : List Stp) (t : Int), toldT (p ++ [s]) t = if s.target ≠ 0 then s.target else toldT p t
  | [], _ => rfl
  | _ :: r, _ => told_snoc r _
end
end Go.Proofs.Ytekmgaigppenlaa

namespace Go.Proofs.Ytekmgaigppenlaa
open Go Go.RowKit

/-- The phase that is told of an entry, on a way whose other entries have that one. -/
def phs (s : Stp) (o : Int) : Int := if s.target ≠ 0 then 2 else o
def capO (x : Nat × Stp) : Trn := ⟨x.1, phs x.2 1, true⟩
theorem cap_map : ∀ (p : List Stp) (n : Nat), (fwL n p).reverse.map capO = capT n p
  | [], _ => rfl
  | s :: r, n => by
    rw [fwL, List.reverse_cons, List.map_append, cap_map r, capT]
    rfl
theorem bk_cap (p : List Stp) : (bkL p).map capO = capT 0 p := cap_map p 0
theorem bub_snoc (b : Bool) (s : Stp) : ∀ (p : List Stp) (n : Nat), bubT b n (p ++ [s]) = bubT b n p ++ bub1 b (n + p.length) s
  | [], n => by simp [bubT]
  | x :: r, n => by
    rw [List.cons_append, bubT, bub_snoc b s r (n + 1), bubT, List.append_assoc, List.length_cons, show n + 1 + r.length = n + (r.length + 1) by omega]
theorem bub_app (b : Bool) (ys : List Stp) : ∀ (xs : List Stp) (n : Nat), bubT b n (xs ++ ys) = bubT b n xs ++ bubT b (n + xs.length) ys
  | [], n => by simp [bubT]
  | x :: r, n => by
    rw [List.cons_append, bubT, bub_app b ys r (n + 1), bubT, List.append_assoc, List.length_cons, show n + 1 + r.length = n + (r.length + 1) by omega]
theorem turns_pre {b : Bool} {p : List Stp} {k : Nat} {t : Trn} (hk : k < p.length) (h : bub1 b k p[k] = [t]) : (capT 0 p ++ bubT b 0 (p.take k)) ++ [t] <+: turnsL p b := by
  have e : bubT b 0 p = bubT b 0 (p.take k) ++ ([t] ++ bubT b (k + 1) (p.drop (k + 1))) := by
    have e1 : p = p.take k ++ p[k] :: p.drop (k + 1) := by rw [List.getElem_cons_drop, List.take_append_drop]
    have e2 : (p.take k).length = k := by
      rw [List.length_take]
      omega
    have e3 : bubT b 0 p = bubT b 0 (p.take k ++ p[k] :: p.drop (k + 1)) := congrArg _ e1
    rw [e3, bub_app, e2, bubT, Nat.zero_add, h]
  refine ⟨bubT b (k + 1) (p.drop (k + 1)), ?_⟩
  rw [turnsL, e]
  simp only [List.append_assoc]
theorem bub1_yes {b : Bool} {s : Stp} (n : Nat) (h : s.target ≠ 0 ∨ b = true) : bub1 b n s = [⟨n, phs s 3, false⟩] := by
  unfold bub1 phs
  by_cases h1 : s.target ≠ 0
  · rw [if_pos h1, if_pos h1]
  · rw [if_neg h1, if_neg h1, if_pos (h.resolve_left h1)]
theorem bub1_no {b : Bool} {s : Stp} (n : Nat) (h : s.target = 0) (hb : b = false) : bub1 b n s = [] := by
  unfold bub1
  rw [if_neg (fun k => k h), if_neg (by rw [hb]; decide)]

theorem Try.infoU : (Try.prog.info? 32).map (fun i => (i.zero, i.size, i.bytes)) = some (some (.agg #[.int .i64 0, .int .i64 0, .bool false]), 3, 24) := by kernel_rfl

section
set_option maxHeartbeats 1000000 in
theorem wkHas (s : Stp) (w : World) : Calls Try.prog 24 #[.agg #[.int .i64 s.node, .int .i64 s.target, .int .i64 s.related, .bool s.cr, .bool s.cs]] w fun e w' => e = .returned (.bool (s.target != 0)) ∧ Below w.heap.size w w' := by
  obtain ⟨x0, x1, x2, cr, cs⟩ := s
  have hX : Has (w.alloc (.cells #[.int .i64 x0, .int .i64 x1, .int .i64 x2, .bool cr, .bool cs] 44)) w.heap.size _ := Has.fresh w (.cells #[.int .i64 x0, .int .i64 x1, .int .i64 x2, .bool cr, .bool cs] 44)
  have c1 := hX.cell 1
  clear hX
  go_enter Try.func24, Try.ntmps24
  go_wp2
  go_ret
  exact ⟨rfl, (Below.refl _ w).alloc (Nat.le_refl _) _⟩
set_option maxHeartbeats 1000000 in
theorem wkPhase (s : Stp) (o : Int) (w : World) : Calls Try.prog 23 #[.agg #[.int .i64 s.node, .int .i64 s.target, .int .i64 s.related, .bool s.cr, .bool s.cs], .int .i64 o] w fun e w' => e = .returned (.int .i64 (phs s o)) ∧ Below w.heap.size w w' := by
  obtain ⟨x0, x1, x2, cr, cs⟩ := s
  have hX : Has (w.alloc (.cells #[.int .i64 x0, .int .i64 x1, .int .i64 x2, .bool cr, .bool cs] 44)) w.heap.size _ := Has.fresh w (.cells #[.int .i64 x0, .int .i64 x1, .int .i64 x2, .bool cr, .bool cs] 44)
  have c0 := hX.cell 0
  have c1 := hX.cell 1
  have c2 := hX.cell 2
  have c3 := hX.cell 3
  have c4 := hX.cell 4
  obtain ⟨R, hR⟩ : ∃ R : Int, R = phs ⟨x0, x1, x2, cr, cs⟩ o := ⟨_, rfl⟩
  rw [← hR]
  have HR := Lib.hid hR
  clear hR
  have HW := Lib.hid ((Below.refl _ w).alloc (Nat.le_refl _) (.cells #[.int .i64 x0, .int .i64 x1, .int .i64 x2, .bool cr, .bool cs] 44))
  clear hX
  go_enter Try.func23, Try.ntmps23
  go_wp2_with fail
  refine (wkHas ⟨x0, x1, x2, cr, cs⟩ _).mono ?_
  rintro e w2 ⟨rfl, hb⟩
  have HB := Lib.hid (HW.out.trans (hb.mono (by simp)))
  clear hb c0 c1 c2 c3 c4
  by_cases h : x1 = 0
  · have z : (x1 != 0) = false := by simp [h]
    have e1 : (if x1 ≠ 0 then (2 : Int) else o) = o := if_neg (fun k => k h)
    have E1 := Lib.hid e1
    clear h e1
    go_wp2
    go_ret
    exact ⟨by rw [HR.out]; unfold phs; rw [E1.out]; rfl, HB.out⟩
  · have z : (x1 != 0) = true := by simp [h]
    have e1 : (if x1 ≠ 0 then (2 : Int) else o) = 2 := if_pos h
    have E1 := Lib.hid e1
    clear h e1
    go_wp2
    go_ret
    exact ⟨by rw [HR.out]; unfold phs; rw [E1.out]; rfl, HB.out⟩
set_option maxRecDepth 100000 in
set_option maxHeartbeats 2000000 in
theorem stClone (A : Option Addr) (n c : Nat) (p : List Stp) (w : World) (hn : p.length = n) (hl : n ≤ 1000) (hR : RecIn RS w A c p) :
    Calls Try.prog 20 #[.slice A n c] w fun e w' => ∃ v, e = .returned v ∧ Recs RS 44 w.heap.size w' v p ∧ Below w.heap.size w w' := by
  cases A with
  | none =>
    have hc := hR.nil rfl
    have hcap := hR.cap
    have h0 : p = [] := List.eq_nil_of_length_eq_zero (by omega)
    subst h0
    obtain rfl : 0 = n := hn
    obtain rfl : c = 0 := hc
    clear hcap hR
    have q0 : ∀ (w : World) (a : Option Addr) (n c n' c' : Nat), (binOp .eql 22 (.slice a n c) (.slice none n' c')).run Try.prog w = .ok (.bool a.isNone) w := fun w a n c n' c' => Lib.run_eql_slice_nil w _ _ a n c n' c' Try.underlying22
    go_enter Try.func20, Try.ntmps20
    go_wp2
    go_ret
    exact ⟨_, rfl, Recs.nil _ _ _ _, Below.refl _ _⟩
  | some a =>
    have HN := Lib.hid hn
    have HB0 := Lib.hid (Below.refl w.heap.size w)
    obtain ⟨j0, qi, qz0, qz1, qz2⟩ := info_parts Try.infoS
    have Qi := Lib.hid qi
    have Qz0 := Lib.hid qz0
    have Qz1 := Lib.hid qz1
    have Qz2 := Lib.hid qz2
    have HE := Lib.hid (rec_empty w)
    have HGv := Lib.hid ((hR.below ((Below.refl _ w).alloc (Nat.le_refl _) (.cells #[] 44))).gives hn.symm)
    have HS : Hid (w.heap.size ≤ (w.alloc (.cells #[] 44)).heap.size) := Lib.hid (by simp)
    clear qi qz0 qz1 qz2 hn hR
    have q0 : ∀ (w : World) (a : Option Addr) (n c n' c' : Nat), (binOp .eql 22 (.slice a n c) (.slice none n' c')).run Try.prog w = .ok (.bool a.isNone) w := fun w a n c n' c' => Lib.run_eql_slice_nil w _ _ a n c n' c' Try.underlying22
    go_enter Try.func20, Try.ntmps20
    go_wp2_with (at_builtin; refine wpList_joinR (R := RS) (xs := []) (ys := p) (v := .slice (some ⟨w.heap.size, 0, none⟩) 0 0) (X := .slice (some a) n c) (m := n) (base := w.heap.size) rfl (.tmp 5) (.tmp 6) 22 rfl j0 _ 32 Try.underlying22 Qi.out Qz0.out Qz1.out Qz2.out rfl rfl rfl HE.out HGv.out HN.out.symm (by rw [HN.out]; simp; omega) (by omega) HS.out ?_; intro v1 w1 hR1 hk1 hat1; rw [List.nil_append] at hR1; have HR1 := Lib.hid hR1; have HB1 := Lib.hid (below_then (HB0.out.alloc HB0.out.size (.cells #[] 44)) hk1 (by rw [World.size_alloc]; have := HB0.out.size; omega) fun i hi e => by have := HB0.out.size; have e2 : w.heap.size = i := (by simpa [Value.ownBlock] using e); omega); obtain ⟨A1, c1, rfl, -⟩ := hR1.form; clear hR1 hk1 hat1)
    go_ret
    exact ⟨_, rfl, HR1.out, HB1.out⟩
end
end Go.Proofs.Ytekmgaigppenlaa

namespace Go.Proofs.Ytekmgaigppenlaa
open Go Go.RowKit

theorem Pile.of_own {base : Nat} {w : World} {v : Value} {xs : List Int} (h : w.ownsRow base 3 1 v xs.length (xs.map (Value.int .i64))) : Pile base w v xs :=
  Pile.of_kids (G := fun g => base ≤ g) ⟨own_base h (Nat.zero_le _), fun g hg => (h.lt g hg).1⟩ fun _ hg _ => hg
theorem own_below {w w' : World} {base n size : Nat} {e : TypeId} {v : Value} {us : List Value} (h : w.ownsRow base e size v n us) (k : Below w.heap.size w w') : w'.ownsRow base e size v n us :=
  own_kept h (Keeps.of_below (F := fun i => w.heap.size ≤ i) k fun _ _ h => h) fun g hg => Nat.not_le.2 (own_in h g hg)
section
variable {w : World}
/-- What a cut gives. -/
theorem elem_ints : Try.prog.elem 55 = 3 := by kernel_rfl
theorem cut_low (A : Option Addr) (N k a : Nat) (ha : a ≤ k) (w : World) : (Instr.slice 55 (.slice A N k) none (some (.int .i64 (a : Int))) none).run Try.prog w = .ok (.slice A a k) w := by
  have hu : Try.prog.underlying 55 = some (.slice (Try.prog.elem 55)) := by rw [elem_ints]; exact Try.underlying55
  have hs : (sizeOf (Try.prog.elem 55)).run Try.prog w = .ok 1 w := by kernel_rfl
  rw [run_slice_h _ _ _ _ _ hu _ _ (by omega) (by omega), hs]
  simp only [Result.andThen, sliced, Int.toNat_natCast, Nat.sub_zero, Nat.zero_mul]
  by_cases h : k = 0
  · rw [if_pos h]
  · rw [if_neg h]
    cases A with
    | none => rfl
    | some x => simp [Addr.add]
theorem cut_high (A : Option Addr) (N k a : Nat) (ha : a ≤ N) (w : World) : (Instr.slice 55 (.slice A N k) (some (.int .i64 (a : Int))) none none).run Try.prog w = .ok (.slice (if k = a then A else A.map (·.add a)) (N - a) (k - a)) w := by
  have hu : Try.prog.underlying 55 = some (.slice (Try.prog.elem 55)) := by rw [elem_ints]; exact Try.underlying55
  have hs : (sizeOf (Try.prog.elem 55)).run Try.prog w = .ok 1 w := by kernel_rfl
  rw [run_slice_l _ _ _ _ _ hu _ _ (by omega) (by omega), hs]
  simp only [Result.andThen, sliced, Int.toNat_natCast, Nat.mul_one]
theorem ListIn.low {A : Option Addr} {k : Nat} {xa xb : List Int} (h : ListIn w A k (xa ++ xb)) : ListIn w A k xa := by
  refine ⟨Nat.le_trans (by simp) h.cap, h.nil, fun i hi => ?_⟩
  have := h.nums i (by rw [List.length_append]; omega)
  rwa [List.getElem_append_left hi] at this
theorem ListIn.high {A : Option Addr} {k : Nat} {xa xb : List Int} (h : ListIn w A k (xa ++ xb)) : ListIn w (if k = xa.length then A else A.map (·.add xa.length)) (k - xa.length) xb := by
  have hc := h.cap
  rw [List.length_append] at hc
  refine ⟨by omega, fun e => ?_, fun i hi => ?_⟩
  · by_cases hk : k = xa.length
    · omega
    · rw [if_neg hk] at e
      have : A = none := by cases A with
        | none => rfl
        | some x => cases e
      have := h.nil this
      omega
  · obtain ⟨g, off, rfl, hg, hcell⟩ := h.nums (xa.length + i) (by rw [List.length_append]; omega)
    rw [List.getElem_append_right (by omega)] at hcell
    simp only [Nat.add_sub_cancel_left] at hcell
    refine ⟨g, off + xa.length, ?_, hg, by rw [Nat.add_assoc]; exact hcell⟩
    rw [if_neg (by omega)]
    simp [Addr.add]
end
theorem own_aside2 {X : World} {base n size b o : Nat} {e : TypeId} {v u : Value} {us : List Value} (h : X.ownsRow base e size v n us) (hb : b < base) : (X.setCell ⟨b, o, none⟩ u).ownsRow base e size v n us :=
  own_kept h (Keeps.store (F := fun i => i = b) (p := ⟨b, o, none⟩) (Keeps.refl _ _) (.inl rfl) u) fun g hg e => by
    have := (h.lt g hg).1
    omega
end Go.Proofs.Ytekmgaigppenlaa
