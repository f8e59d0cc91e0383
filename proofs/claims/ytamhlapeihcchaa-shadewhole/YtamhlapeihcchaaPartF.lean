/-
  What package shade's Attach does with an arena that keeps its promises.
  What towncrierlaw08.awake does: it answers true.
  What towncrierref08.Attach does.
  What towncrierlaw08.ShadeAttaches does with an arena that keeps its promises: it answers true.
  What towncrierref08.Host, Whole, Holds, Hidden and Closed do.
  What towncrierlaw08.ShadeTells does with an arena that keeps its promises: it answers true.
  What towncrierlaw08.ShadeWhole does with an arena that keeps its promises: it answers true.
  What towncrierlaw08.ShadeHidden does with an arena that keeps its promises: it answers true.
  What stage 8's laws do with this arena.
  Arguments that came in, opened: lists of texts and of numbers. Facts of the program that every row's proof wants.
  Proved: the law answers true for every input, and each argument reads afterwards as it read before. No condition.
-/
import Derived.Test.YtamhlapeihcchaaPartE
import Derived.Test.YtamhlapeihcchaaProg
import Derived.Test.YtamhlapeihcchaaChecked
import Derived.ProofKit
import Derived.OpenShut
import Derived.Test.YtamhlapeihcchaaRows
import Derived.ChangeOld

namespace Go.Proofs.Ytamhlapeihcchaa
open Go Go.RowKit

section
variable {l : List Nd} {h m : Int}
theorem att_arg (e : thereB l h = false ∨ (m ≠ 1 ∧ m ≠ 2)) : attNo l h m = 0 ∧ attErr l h m = 1 ∧ attL l h m = l := ⟨if_pos e, if_pos e, if_pos e⟩
theorem att_not (e : ¬ (thereB l h = false ∨ (m ≠ 1 ∧ m ≠ 2))) (e2 : (nd l h).kind ≠ 2 ∨ (nd l h).shadow ≠ 0) : attNo l h m = 0 ∧ attErr l h m = 5 ∧ attL l h m = l := by
  unfold attNo attErr attL
  rw [if_neg e, if_neg e, if_neg e, if_pos e2, if_pos e2, if_pos e2]
  exact ⟨rfl, rfl, rfl⟩
theorem att_full (e : ¬ (thereB l h = false ∨ (m ≠ 1 ∧ m ≠ 2))) (e2 : ¬ ((nd l h).kind ≠ 2 ∨ (nd l h).shadow ≠ 0)) (e3 : mkErr l.length (shadeNd m) ≠ 0) : attNo l h m = 0 ∧ attErr l h m = mkErr l.length (shadeNd m) ∧ attL l h m = l := by
  unfold attNo attErr attL mkNo
  rw [if_neg e, if_neg e, if_neg e, if_neg e2, if_neg e2, if_neg e2, if_neg e3, if_neg e3, if_neg e3]
  exact ⟨rfl, rfl, rfl⟩
theorem att_go (e : ¬ (thereB l h = false ∨ (m ≠ 1 ∧ m ≠ 2))) (e2 : ¬ ((nd l h).kind ≠ 2 ∨ (nd l h).shadow ≠ 0)) (e3 : mkErr l.length (shadeNd m) = 0) : attNo l h m = mkNo l (shadeNd m) ∧ attErr l h m = tieErr (mkL l (shadeNd m)) h (mkNo l (shadeNd m)) ∧ attL l h m = tieL (mkL l (shadeNd m)) h (mkNo l (shadeNd m)) := by
  unfold attNo attErr attL
  rw [if_neg e, if_neg e, if_neg e, if_neg e2, if_neg e2, if_neg e2, if_pos e3, if_pos e3]
  exact ⟨rfl, rfl, rfl⟩
theorem mkL_full {d : Nd} (e : mkErr l.length d ≠ 0) : mkL l d = l := if_neg e
end
theorem good_tie {l : List Nd} {h r : Int} (hg : Good l) : Good (tieL l h r) := good_act (x := ⟨2, h, r, ⟨#[]⟩, Nd.zero, []⟩) hg (by simp)
theorem good_att {l : List Nd} {h m : Int} (hg : Good l) : Good (attL l h m) := by
  unfold attL
  split
  · exact hg
  · split
    · exact hg
    · split
      · exact good_tie (good_make hg)
      · exact hg

section
variable {Rep : (Nat → Prop) → World → Nat → List Nd → Prop} {S : Nat → Prop} {w : World} {b : Nat} {l : List Nd}
set_option maxHeartbeats 4000000 in
set_option maxRecDepth 100000 in
theorem shAttach (O : ForestOk Rep) (M : ForestMore Rep) (h m : Int) (hR : Rep S w b l) (hg : Good l) (hS : Fut S w.heap.size) :
    Calls Try.prog 12 #[at_ b, .int .i64 h, .int .i64 m] w fun e w' => e = .returned (.tuple #[.int .i64 (attNo l h m), .int .i64 (attErr l h m)]) ∧ Rep S w' b (attL l h m) ∧ Keeps S w w' := by
  have hnot : ∀ (x : Bool) (w : World), (Op.unary .not (.bool x)).run Try.prog w = .ok (.bool (!x)) w := fun _ _ => rfl
  have H := Lib.hid hR
  have Hg := Lib.hid hg
  have HS := Lib.hid hS
  obtain ⟨no, hno⟩ : ∃ no, no = attNo l h m := ⟨_, rfl⟩
  obtain ⟨er, her⟩ : ∃ er, er = attErr l h m := ⟨_, rfl⟩
  obtain ⟨l', hl'⟩ : ∃ l', l' = attL l h m := ⟨_, rfl⟩
  rw [← hno, ← her, ← hl']
  have HA : Hid ((no, er, l') = (attNo l h m, attErr l h m, attL l h m)) := Lib.hid (by rw [hno, her, hl'])
  clear hR hg hS hno her hl'
  cases ht : thereB l h with
  | false =>
    obtain ⟨e1, e2, e3⟩ := att_arg (m := m) (.inl ht)
    have q := HA.out
    rw [e1, e2, e3] at q
    injection q with q1 q
    injection q with q2 q3
    subst q1
    subst q2
    obtain rfl := q3.symm
    have Ht := Lib.hid ht
    clear ht HA e1 e2 e3
    go_enter Try.func12, Try.ntmps12
    go_wp2_with fail
    refine (nodeNo M H.out Hg.out Ht.out).mono ?_
    rintro e w1 ⟨A1, c1, rfl, -, hb1⟩
    have hb2 : Below w.heap.size w (w1.alloc (.cells #[.int .i64 0, .int .i64 0, .int .i64 0, .int .i64 0, .int .i64 0, .bool false, .string ⟨#[]⟩, .string ⟨#[]⟩, .slice A1 0 c1] 46)) := hb1.alloc hb1.size _
    have HF := Lib.hid (And.intro (O.since H.out hb2) (Keeps.of_below (F := S) hb2 fun i _ hi => HS.out i hi))
    clear hb1 hb2
    go_wp2
    go_ret2
    exact ⟨rfl, HF.out.1, HF.out.2⟩
  | true =>
    have Ht := Lib.hid ht
    by_cases hm : m ≠ 1 ∧ m ≠ 2
    · obtain ⟨e1, e2, e3⟩ := att_arg (l := l) (h := h) (.inr hm)
      have q := HA.out
      rw [e1, e2, e3] at q
      injection q with q1 q
      injection q with q2 q3
      subst q1
      subst q2
      obtain rfl := q3.symm
      have z1 : (m != 1) = true := by simpa using hm.1
      have z2 : (m != 2) = true := by simpa using hm.2
      clear ht HA e1 e2 e3 hm
      go_enter Try.func12, Try.ntmps12
      go_wp2_with fail
      refine (nodeYes M H.out Hg.out Ht.out).mono ?_
      rintro e w1 ⟨A1, c1, rfl, -, hb1⟩
      obtain ⟨d, hd⟩ : ∃ d, d = nd l h := ⟨_, rfl⟩
      rw [← hd]
      have hb2 : Below w.heap.size w (w1.alloc (.cells #[.int .i64 d.kind, .int .i64 d.parent, .int .i64 d.host, .int .i64 d.shadow, .int .i64 d.mode, .bool d.slot, .string d.name, .string d.want, .slice A1 d.kids.length c1] 46)) := hb1.alloc hb1.size _
      have HF := Lib.hid (And.intro (O.since H.out hb2) (Keeps.of_below (F := S) hb2 fun i _ hi => HS.out i hi))
      clear hb1 hb2 hd
      go_wp2
      go_ret2
      exact ⟨rfl, HF.out.1, HF.out.2⟩
    · have hA : ¬ (thereB l h = false ∨ (m ≠ 1 ∧ m ≠ 2)) := fun e => by
        rcases e with e | e
        · rw [ht] at e; cases e
        · exact hm e
      have HN := Lib.hid hA
      have hmm : m = 1 ∨ m = 2 := by omega
      clear ht hA hm
      go_enter Try.func12, Try.ntmps12
      go_wp2_with fail
      refine (nodeYes M H.out Hg.out Ht.out).mono ?_
      rintro e w1 ⟨A1, c1, rfl, -, hb1⟩
      have a1 := att_not HN.out
      have a2 := att_full HN.out
      have a3 := att_go HN.out
      obtain ⟨d, hd⟩ : ∃ d, d = nd l h := ⟨_, rfl⟩
      rw [← hd] at a1 a2 a3
      rw [← hd]
      have hb2 : Below w.heap.size w (w1.alloc (.cells #[.int .i64 d.kind, .int .i64 d.parent, .int .i64 d.host, .int .i64 d.shadow, .int .i64 d.mode, .bool d.slot, .string d.name, .string d.want, .slice A1 d.kids.length c1] 46)) := hb1.alloc hb1.size _
      have HR2 := Lib.hid (O.since H.out hb2)
      have HK2 := Lib.hid (Keeps.of_below (F := S) hb2 fun i _ hi => HS.out i hi)
      have HS2 := Lib.hid (HS.out.mono hb2.size)
      have x0 : (w1.alloc (.cells #[.int .i64 d.kind, .int .i64 d.parent, .int .i64 d.host, .int .i64 d.shadow, .int .i64 d.mode, .bool d.slot, .string d.name, .string d.want, .slice A1 d.kids.length c1] 46)).cell? ⟨w1.heap.size, 0, none⟩ = some (.int .i64 d.kind) := (Has.fresh w1 (.cells #[.int .i64 d.kind, .int .i64 d.parent, .int .i64 d.host, .int .i64 d.shadow, .int .i64 d.mode, .bool d.slot, .string d.name, .string d.want, .slice A1 d.kids.length c1] 46)).cell 0
      have x3 : (w1.alloc (.cells #[.int .i64 d.kind, .int .i64 d.parent, .int .i64 d.host, .int .i64 d.shadow, .int .i64 d.mode, .bool d.slot, .string d.name, .string d.want, .slice A1 d.kids.length c1] 46)).cell? ⟨w1.heap.size, 3, none⟩ = some (.int .i64 d.shadow) := (Has.fresh w1 (.cells #[.int .i64 d.kind, .int .i64 d.parent, .int .i64 d.host, .int .i64 d.shadow, .int .i64 d.mode, .bool d.slot, .string d.name, .string d.want, .slice A1 d.kids.length c1] 46)).cell 3
      have A1' := Lib.hid a1
      have A2' := Lib.hid a2
      have A3' := Lib.hid a3
      have hz : ((m != 1) = false) ∨ ((m != 1) = true ∧ (m != 2) = false) := by
        rcases hmm with e | e
        · exact .inl (by simpa using e)
        · exact .inr ⟨by rw [e]; rfl, by simpa using e⟩
      clear hb1 hb2 hd a1 a2 a3 hmm
      by_cases hk : d.kind ≠ 2 ∨ d.shadow ≠ 0
      · obtain ⟨e1, e2, e3⟩ := A1'.out hk
        have q := HA.out
        rw [e1, e2, e3] at q
        injection q with q1 q
        injection q with q2 q3
        subst q1
        subst q2
        obtain rfl := q3.symm
        clear HA e1 e2 e3 A1' A2' A3'
        have hzk : ((d.kind != 2) = true) ∨ ((d.kind != 2) = false ∧ (d.shadow != 0) = true) := by
          by_cases hk2 : d.kind = 2
          · exact .inr ⟨by simpa using hk2, by simpa using hk.resolve_left (fun h => h hk2)⟩
          · exact .inl (by simpa using hk2)
        clear hk
        rcases hz with z1 | ⟨z1, z2⟩
        · rcases hzk with k1 | ⟨k1, k2⟩
          · go_wp2
            go_ret2
            exact ⟨rfl, HR2.out, HK2.out⟩
          · go_wp2
            go_ret2
            exact ⟨rfl, HR2.out, HK2.out⟩
        · rcases hzk with k1 | ⟨k1, k2⟩
          · go_wp2
            go_ret2
            exact ⟨rfl, HR2.out, HK2.out⟩
          · go_wp2
            go_ret2
            exact ⟨rfl, HR2.out, HK2.out⟩
      · have k1 : (d.kind != 2) = false := by
          have : d.kind = 2 := Decidable.byContradiction fun e => hk (.inl e)
          simpa using this
        have k2 : (d.shadow != 0) = false := by
          have : d.shadow = 0 := Decidable.byContradiction fun e => hk (.inr e)
          simpa using this
        have B2 := Lib.hid (A2'.out hk)
        have B3 := Lib.hid (A3'.out hk)
        clear hk A1' A2' A3'
        have step : ∀ (W : World), W = w1.alloc (.cells #[.int .i64 d.kind, .int .i64 d.parent, .int .i64 d.host, .int .i64 d.shadow, .int .i64 d.mode, .bool d.slot, .string d.name, .string d.want, .slice A1 d.kids.length c1] 46) → Calls Try.prog 28 #[at_ b, .agg #[.int .i64 3, .int .i64 0, .int .i64 0, .int .i64 0, .int .i64 m, .bool false, .string ⟨#[]⟩, .string ⟨#[]⟩, .slice none 0 0]] W fun e w' =>
            e = .returned (.tuple #[.int .i64 (mkNo l (shadeNd m)), .int .i64 (mkErr l.length (shadeNd m))]) ∧ Rep S w' b (mkL l (shadeNd m)) ∧ Keeps S W w' := fun W e => by
          subst e
          exact O.make S _ b l 3 0 0 0 m false ⟨#[]⟩ ⟨#[]⟩ [] none 0 HR2.out Hg.out HS2.out (Nat.zero_le _) (Nat.zero_le _) ⟨Nat.le_refl 0, fun _ => rfl, fun i hi => absurd hi (Nat.not_lt_zero i)⟩
        have St := Lib.hid step
        clear step
        rcases hz with z1 | ⟨z1, z2⟩
        all_goals
          go_wp2_with fail
          refine (St.out _ rfl).mono ?_
          rintro e w2 ⟨rfl, hR3, hk3⟩
          have HK3 := Lib.hid (HK2.out.also hk3)
          have HS3 := Lib.hid (HS2.out.mono hk3.grows)
          have HR3 := Lib.hid hR3
          clear hR3 hk3 St x0 x3
          by_cases he : mkErr l.length (shadeNd m) = 0
          · obtain ⟨e1, e2, e3⟩ := B3.out he
            have q := HA.out
            rw [e1, e2, e3] at q
            injection q with q1 q
            injection q with q2 q3
            rw [he]
            have C := Lib.hid (O.tie S w2 b _ h (mkNo l (shadeNd m)) HR3.out (good_make Hg.out) HS3.out)
            rw [← q1] at C q2 q3
            rw [← q1]
            rw [← q2, ← q3] at C
            clear HA e1 e2 e3 B2 B3 he q1 q2 q3
            go_wp2_with fail
            refine C.out.mono ?_
            rintro e w3 ⟨rfl, hR4, hk4⟩
            have HF := Lib.hid (And.intro hR4 (HK3.out.also hk4))
            clear hR4 hk4
            go_wp2
            go_ret2
            exact ⟨rfl, HF.out.1, HF.out.2⟩
          · obtain ⟨e1, e2, e3⟩ := B2.out he
            have q := HA.out
            rw [e1, e2, e3] at q
            injection q with q1 q
            injection q with q2 q3
            rw [mkL_full he] at HR3
            rw [← q2] at he
            rw [← q2]
            have ze : (er != 0) = true := by simpa using he
            subst q1
            obtain rfl := q3.symm
            clear HA e1 e2 e3 B2 B3 he q2
            go_wp2
            go_ret2
            exact ⟨rfl, HR3.out, HK3.out⟩
end
end Go.Proofs.Ytamhlapeihcchaa

namespace Go.Proofs.Ytamhlapeihcchaa
open Go Go.RowKit

theorem shade_err (n : Nat) (m : Int) (h : n < 128) (hm : m = 1 ∨ m = 2) : mkErr n (shadeNd m) = 0 := by
  have := mkErr_rest (n := n) (k := 3) (pa := 0) (ho := 0) (sh := 0) (m := m) (sl := false) (na := ⟨#[]⟩) (wa := ⟨#[]⟩) (ks := []) (by omega) (by omega) (by omega) (by
    rw [okName_empty empty_is, empty_is]
    simp)
  rw [if_neg (by omega)] at this
  exact this
section
variable {Rep : (Nat → Prop) → World → Nat → List Nd → Prop}
section
variable {w v v' : World} {S : Nat → Prop} {b : Nat} {l : List Nd}
theorem liveAttach (O : ForestOk Rep) (M : ForestMore Rep) (h m : Int) (hL : Live Rep w S b l v) (hg : Good l) :
    Calls Try.prog 12 #[at_ b, .int .i64 h, .int .i64 m] v fun e v' => e = .returned (.tuple #[.int .i64 (attNo l h m), .int .i64 (attErr l h m)]) ∧ (∃ S', Live Rep w S' b (attL l h m) v' ∧ ∀ i, i < v.heap.size → ¬ S i → ¬ S' i) ∧ Keeps S v v' :=
  (shAttach O M h m (O.wide hL.rep fun _ hi _ => .inl hi) hg (S := fun i => S i ∨ v.heap.size ≤ i) fun _ hi => .inr hi).mono fun _ _ ⟨he, hR, hk⟩ => ⟨he, hL.turned O hR hk⟩
end
/-- The calls of the document's example. -/
def actE8 : Ac := ⟨0, 0, 0, ⟨#[]⟩, elem, []⟩
def acts8 : List Ac := [actE8, actE8]
theorem acts8_small : Small acts8 := by
  unfold Small
  decide
theorem acts8_forest : forest acts8 = [elem, elem] := two_elems
theorem att8 : attNo [elem, elem] 1 2 = 3 ∧ attErr [elem, elem] 1 2 = 0 ∧ attL [elem, elem] 1 2 = tieL [elem, elem, shadeNd 2] 1 3 := by
  have e0 : mkErr [elem, elem].length (shadeNd 2) = 0 := shade_err 2 2 (by omega) (.inr rfl)
  have e1 : mkL [elem, elem] (shadeNd 2) = [elem, elem, shadeNd 2] := by
    unfold mkL
    rw [if_pos e0]
    rfl
  have e2 : mkNo [elem, elem] (shadeNd 2) = 3 := by
    unfold mkNo
    rw [if_pos e0]
    rfl
  obtain ⟨h1, h2, h3⟩ := att_go (l := [elem, elem]) (h := 1) (m := 2) (by decide) (by decide) e0
  rw [e1, e2] at h2 h3
  rw [e2] at h1
  refine ⟨h1, ?_, h3⟩
  rw [h2]
  decide +kernel
theorem acts8_put : putErr (tieL [elem, elem, shadeNd 2] 1 3) 3 [2] = 0 := by decide +kernel
theorem acts8_hid : hidL (putL (tieL [elem, elem, shadeNd 2] 1 3) 3 [2]) 2 1 = true := by decide +kernel
theorem acts8_not : hidL (putL (tieL [elem, elem, shadeNd 2] 1 3) 3 [2]) 1 2 = false := by decide +kernel
theorem good_put8 {l : List Nd} {p : Int} {ks : List Int} (hg : Good l) (hk : ks.length ≤ 200) : Good (putL l p ks) := good_act (x := ⟨1, p, 0, ⟨#[]⟩, Nd.zero, ks⟩) hg hk
theorem acts8_in (w : World) : Acts (w.alloc (.cells #[.int .i64 0, .int .i64 0, .int .i64 0, .string ⟨#[]⟩, .int .i64 2, .int .i64 0, .int .i64 0, .int .i64 0, .int .i64 0, .bool false, .string ⟨#[]⟩, .string ⟨#[]⟩, .slice none 0 0, .slice none 0 0, .int .i64 0, .int .i64 0, .int .i64 0, .string ⟨#[]⟩, .int .i64 2, .int .i64 0, .int .i64 0, .int .i64 0, .int .i64 0, .bool false, .string ⟨#[]⟩, .string ⟨#[]⟩, .slice none 0 0, .slice none 0 0] 51)) (some ⟨w.heap.size, 0, none⟩) acts8 := by
  have h2 : Has (w.alloc (.cells #[.int .i64 0, .int .i64 0, .int .i64 0, .string ⟨#[]⟩, .int .i64 2, .int .i64 0, .int .i64 0, .int .i64 0, .int .i64 0, .bool false, .string ⟨#[]⟩, .string ⟨#[]⟩, .slice none 0 0, .slice none 0 0, .int .i64 0, .int .i64 0, .int .i64 0, .string ⟨#[]⟩, .int .i64 2, .int .i64 0, .int .i64 0, .int .i64 0, .int .i64 0, .bool false, .string ⟨#[]⟩, .string ⟨#[]⟩, .slice none 0 0, .slice none 0 0] 51)) w.heap.size (.cells #[.int .i64 0, .int .i64 0, .int .i64 0, .string ⟨#[]⟩, .int .i64 2, .int .i64 0, .int .i64 0, .int .i64 0, .int .i64 0, .bool false, .string ⟨#[]⟩, .string ⟨#[]⟩, .slice none 0 0, .slice none 0 0, .int .i64 0, .int .i64 0, .int .i64 0, .string ⟨#[]⟩, .int .i64 2, .int .i64 0, .int .i64 0, .int .i64 0, .int .i64 0, .bool false, .string ⟨#[]⟩, .string ⟨#[]⟩, .slice none 0 0, .slice none 0 0] 51 (0, 0)) := Has.fresh _ _
  exact acts_lit (rows := [(actE8, (none, 0), none, 0), (actE8, (none, 0), none, 0)]) h2 (by
    intro r hr
    have eE : ListIn (w.alloc (.cells #[.int .i64 0, .int .i64 0, .int .i64 0, .string ⟨#[]⟩, .int .i64 2, .int .i64 0, .int .i64 0, .int .i64 0, .int .i64 0, .bool false, .string ⟨#[]⟩, .string ⟨#[]⟩, .slice none 0 0, .slice none 0 0, .int .i64 0, .int .i64 0, .int .i64 0, .string ⟨#[]⟩, .int .i64 2, .int .i64 0, .int .i64 0, .int .i64 0, .int .i64 0, .bool false, .string ⟨#[]⟩, .string ⟨#[]⟩, .slice none 0 0, .slice none 0 0] 51)) none 0 actE8.n.kids ∧ ActIn (w.alloc (.cells #[.int .i64 0, .int .i64 0, .int .i64 0, .string ⟨#[]⟩, .int .i64 2, .int .i64 0, .int .i64 0, .int .i64 0, .int .i64 0, .bool false, .string ⟨#[]⟩, .string ⟨#[]⟩, .slice none 0 0, .slice none 0 0, .int .i64 0, .int .i64 0, .int .i64 0, .string ⟨#[]⟩, .int .i64 2, .int .i64 0, .int .i64 0, .int .i64 0, .int .i64 0, .bool false, .string ⟨#[]⟩, .string ⟨#[]⟩, .slice none 0 0, .slice none 0 0] 51)) actE8 none 0 := ⟨listNone _, Nat.zero_le _, Nat.zero_le _, Nat.zero_le _, Nat.le_refl _, fun _ => rfl, (listNone _).nums⟩
    simp only [List.mem_cons, List.not_mem_nil, or_false] at hr
    rcases hr with rfl | rfl
    · exact eE
    · exact eE)

set_option maxHeartbeats 4000000 in
set_option maxRecDepth 100000 in
theorem awake8_any (O : ForestOk Rep) (M : ForestMore Rep) (w : World) : Calls Try.prog 7 #[] w fun e w' => e = .returned (.bool true) ∧ Below w.heap.size w w' := by
  have hnot : ∀ (x : Bool) (w : World), (Op.unary .not (.bool x)).run Try.prog w = .ok (.bool (!x)) w := fun _ _ => rfl
  have HA := Lib.hid (acts8_in w)
  have HB : Hid (Below w.heap.size w (w.alloc (.cells #[.int .i64 0, .int .i64 0, .int .i64 0, .string ⟨#[]⟩, .int .i64 2, .int .i64 0, .int .i64 0, .int .i64 0, .int .i64 0, .bool false, .string ⟨#[]⟩, .string ⟨#[]⟩, .slice none 0 0, .slice none 0 0, .int .i64 0, .int .i64 0, .int .i64 0, .string ⟨#[]⟩, .int .i64 2, .int .i64 0, .int .i64 0, .int .i64 0, .int .i64 0, .bool false, .string ⟨#[]⟩, .string ⟨#[]⟩, .slice none 0 0, .slice none 0 0] 51))) := Lib.hid ((Below.refl _ w).alloc (Nat.le_refl _) _)
  have Hg := Lib.hid (good_forest acts8_small)
  have H1 := Lib.hid att8
  have H2 := Lib.hid acts8_put
  have H3 := Lib.hid acts8_hid
  have H4 := Lib.hid acts8_not
  have hq := acts8_forest
  obtain ⟨l, hl⟩ : ∃ l, l = [elem, elem] := ⟨_, rfl⟩
  rw [← hl] at H1 hq
  have HL := Lib.hid hq
  rw [hq] at Hg
  obtain ⟨l1, hl1⟩ : ∃ l1, l1 = tieL [elem, elem, shadeNd 2] 1 3 := ⟨_, rfl⟩
  rw [← hl1] at H1 H2 H3 H4
  clear hl hl1 hq
  go_enter Try.func7, Try.ntmps7
  go_wp2_with fail
  refine (built_any O _ 2 2 acts8 _ rfl HA.out acts8_small).mono ?_
  rintro e w1 ⟨b, rfl, hR, hb1⟩
  rw [HL.out] at hR
  obtain ⟨S, hLv⟩ := live_new O hR HB.out hb1
  have LV := Lib.hid hLv
  clear hR hb1 HB HA HL hLv
  go_wp2_with fail
  refine (liveAttach O M 1 2 LV.out Hg.out).mono ?_
  rintro e w2 ⟨rfl, ⟨S2, hL2, -⟩, -⟩
  rw [H1.out.2.2] at hL2
  rw [H1.out.1, H1.out.2.1]
  have Hg1 : Hid (Good l1) := Lib.hid (by have := good_att (h := 1) (m := 2) Hg.out; rw [H1.out.2.2] at this; exact this)
  have L2 := Lib.hid hL2
  clear hL2 LV
  go_wp2_with fail
  have hb3 : Below w2.heap.size w2 (w2.alloc (.cells #[.int .i64 2] 3)) := (Below.refl _ w2).alloc (Nat.le_refl _) _
  have hl3 : ListIn (w2.alloc (.cells #[.int .i64 2] 3)) (some ⟨w2.heap.size, 0, none⟩) 1 [2] := listLit (xs := [2]) (Has.fresh w2 _)
  have hap : ∀ b' off s, (some ⟨w2.heap.size, 0, none⟩ : Option Addr) = some ⟨b', off, s⟩ → ¬ S2 b' := fun b' off s e hS => by
    cases e
    have := (L2.out.low _ hS).2
    omega
  refine (livePut O 3 [2] _ 1 (L2.out.next O hb3) Hg1.out (by decide) hl3 hap).mono ?_
  rintro e w4 ⟨rfl, ⟨S4, hL4, -⟩, -⟩
  rw [H2.out]
  have L4 := Lib.hid hL4
  clear hb3 hl3 hap hL4 L2
  go_wp2_with fail
  refine (shHidden O M 2 1 L4.out.rep (good_put8 Hg1.out (by decide))).mono ?_
  rintro e w5 ⟨rfl, hb5⟩
  rw [H3.out]
  have L5 := Lib.hid (L4.out.next O hb5)
  clear hb5 L4
  go_wp2_with fail
  refine (shHidden O M 1 2 L5.out.rep (good_put8 Hg1.out (by decide))).mono ?_
  rintro e w6 ⟨rfl, hb6⟩
  rw [H4.out]
  have L6 := Lib.hid (L5.out.next O hb6)
  clear hb6 L5
  go_wp2
  go_ret
  exact ⟨rfl, L6.out.below⟩
end
end Go.Proofs.Ytamhlapeihcchaa

namespace Go.Proofs.Ytamhlapeihcchaa
open Go Go.RowKit

section
variable {G : Nat → Prop} {w : World} {A : Option Addr} {c : Nat} {l : List Nd}
theorem good_len {l : List Nd} (hg : Good l) : l.length ≤ 1000 ∧ ∀ d ∈ l, d.kids.length ≤ 100000 := ⟨Nat.le_trans hg.len (by decide), fun d hd => Nat.le_trans (hg.few d hd) (by decide)⟩
set_option maxHeartbeats 8000000 in
set_option maxRecDepth 100000 in
theorem rsAttach (h m : Int) (hg : Good l) (hG : Fut G w.heap.size) (hN : Nodes G w 0 A c l) :
    Calls Try.prog 10 #[.slice A l.length c, .int .i64 h, .int .i64 m] w (Gave3 G w (attL l h m) (attNo l h m) (attErr l h m)) := by
  have hnot : ∀ (x : Bool) (w : World), (Op.unary .not (.bool x)).run Try.prog w = .ok (.bool (!x)) w := fun _ _ => rfl
  have H := Lib.hid hN
  have Hg := Lib.hid hg
  have HG := Lib.hid hG
  have hll := hg.len
  obtain ⟨no, hno⟩ : ∃ no, no = attNo l h m := ⟨_, rfl⟩
  obtain ⟨er, her⟩ : ∃ er, er = attErr l h m := ⟨_, rfl⟩
  obtain ⟨l', hl'⟩ : ∃ l', l' = attL l h m := ⟨_, rfl⟩
  rw [← hno, ← her, ← hl']
  have HA : Hid ((no, er, l') = (attNo l h m, attErr l h m, attL l h m)) := Lib.hid (by rw [hno, her, hl'])
  clear hN hg hG hno her hl'
  go_enter Try.func10, Try.ntmps10
  go_wp2_with fail
  refine (there_any l A c h w).mono ?_
  rintro e w0 ⟨rfl, rfl⟩
  cases ht : thereB l h with
  | false =>
    obtain ⟨e1, e2, e3⟩ := att_arg (m := m) (.inl ht)
    have q := HA.out
    rw [e1, e2, e3] at q
    injection q with q1 q
    injection q with q2 q3
    subst q1
    subst q2
    obtain rfl := q3.symm
    clear ht HA e1 e2 e3
    go_wp2
    go_ret3
    exact ⟨_, _, rfl, H.out, Below.refl _ _⟩
  | true =>
    have Ht := Lib.hid ht
    by_cases hm : m ≠ 1 ∧ m ≠ 2
    · obtain ⟨e1, e2, e3⟩ := att_arg (l := l) (h := h) (.inr hm)
      have q := HA.out
      rw [e1, e2, e3] at q
      injection q with q1 q
      injection q with q2 q3
      subst q1
      subst q2
      obtain rfl := q3.symm
      have z1 : (m != 1) = true := by simpa using hm.1
      have z2 : (m != 2) = true := by simpa using hm.2
      clear ht HA e1 e2 e3 hm
      go_wp2
      go_ret3
      exact ⟨_, _, rfl, H.out, Below.refl _ _⟩
    · have hA : ¬ (thereB l h = false ∨ (m ≠ 1 ∧ m ≠ 2)) := fun e => by
        rcases e with e | e
        · rw [ht] at e; cases e
        · exact hm e
      have a1 := att_not hA
      have a2 := att_full hA
      have a3 := att_go hA
      have hz : ((m != 1) = false) ∨ ((m != 1) = true ∧ (m != 2) = false) := by
        by_cases e : m = 1
        · exact .inl (by simpa using e)
        · exact .inr ⟨by simpa using e, by have : m = 2 := by omega
                                           simpa using this⟩
      clear hA hm
      obtain ⟨k, rfl, hk⟩ := there_at ht
      obtain ⟨g, kv, rfl, -, hgw, -, -, c0, -, -, c3, -⟩ := H.out.nine hk
      obtain ⟨d, hd⟩ : ∃ d, d = nd l ((k : Int) + 1) := ⟨_, rfl⟩
      rw [← hd] at c0 c3 a1 a2 a3
      have A1' := Lib.hid a1
      have A2' := Lib.hid a2
      have A3' := Lib.hid a3
      clear ht a1 a2 a3 hd
      by_cases hq : d.kind ≠ 2 ∨ d.shadow ≠ 0
      · obtain ⟨e1, e2, e3⟩ := A1'.out hq
        have q := HA.out
        rw [e1, e2, e3] at q
        injection q with q1 q
        injection q with q2 q3
        subst q1
        subst q2
        obtain rfl := q3.symm
        clear HA e1 e2 e3 A1' A2' A3'
        have hzk : ((d.kind != 2) = true) ∨ ((d.kind != 2) = false ∧ (d.shadow != 0) = true) := by
          by_cases hk2 : d.kind = 2
          · exact .inr ⟨by simpa using hk2, by simpa using hq.resolve_left (fun h => h hk2)⟩
          · exact .inl (by simpa using hk2)
        clear hq
        rcases hz with z1 | ⟨z1, z2⟩ <;> rcases hzk with k1 | ⟨k1, k2⟩
        all_goals
          go_wp2
          go_ret3
          exact ⟨_, _, rfl, H.out, Below.refl _ _⟩
      · have k1 : (d.kind != 2) = false := by
          have : d.kind = 2 := Decidable.byContradiction fun e => hq (.inl e)
          simpa using this
        have k2 : (d.shadow != 0) = false := by
          have : d.shadow = 0 := Decidable.byContradiction fun e => hq (.inr e)
          simpa using this
        have B2 := Lib.hid (A2'.out hq)
        have B3 := Lib.hid (A3'.out hq)
        clear hq A1' A2' A3'
        have St : Hid (Calls Try.prog 33 #[.slice (some ⟨g, 0, none⟩) l.length c, .agg #[.int .i64 3, .int .i64 0, .int .i64 0, .int .i64 0, .int .i64 m, .bool false, .string ⟨#[]⟩, .string ⟨#[]⟩, .slice none 0 0]] w (Gave3 G w (mkL l (shadeNd m)) (mkNo l (shadeNd m)) (mkErr l.length (shadeNd m)))) :=
          Lib.hid (make_any l (some ⟨g, 0, none⟩) c 3 0 0 0 m false ⟨#[]⟩ ⟨#[]⟩ [] (.slice none 0 0) w (Nat.zero_le _) (Nat.zero_le _) (good_len Hg.out).1 (good_len Hg.out).2 HG.out H.out)
        rcases hz with z1 | ⟨z1, z2⟩
        all_goals
          go_wp2_with fail
          refine St.out.mono ?_
          rintro e w2 ⟨A2, c2, rfl, hN2, hb2⟩
          have HN2 := Lib.hid hN2
          have HB2 := Lib.hid hb2
          clear hN2 hb2 St c0 c3
          by_cases he : mkErr l.length (shadeNd m) = 0
          · obtain ⟨e1, e2, e3⟩ := B3.out he
            have q := HA.out
            rw [e1, e2, e3] at q
            injection q with q1 q
            injection q with q2 q3
            rw [he]
            have hgm : Good (mkL l (shadeNd m)) := good_make Hg.out
            have C := Lib.hid (tie_any (mkL l (shadeNd m)) A2 c2 ((k : Int) + 1) (mkNo l (shadeNd m)) w2 (good_len hgm).1 (good_len hgm).2 (HG.out.mono HB2.out.size) HN2.out)
            rw [← q1] at C q2 q3
            rw [← q1]
            rw [← q2, ← q3] at C
            clear HA e1 e2 e3 B2 B3 he q1 q2 q3 hgm
            go_wp2_with fail
            refine C.out.mono ?_
            rintro e w3 ⟨A3, c3, rfl, hN3, hb3⟩
            have HF := Lib.hid (And.intro hN3 (HB2.out.trans (hb3.mono HB2.out.size)))
            clear hN3 hb3
            go_wp2
            go_ret3
            exact ⟨_, _, rfl, HF.out.1, HF.out.2⟩
          · obtain ⟨e1, e2, e3⟩ := B2.out he
            have q := HA.out
            rw [e1, e2, e3] at q
            injection q with q1 q
            injection q with q2 q3
            rw [← q2] at he
            rw [← q2]
            have ze : (er != 0) = true := by simpa using he
            subst q1
            obtain rfl := q3.symm
            have HF := Lib.hid (H.out.below HB2.out)
            clear HA e1 e2 e3 B2 B3 he q2
            go_wp2
            go_ret3
            exact ⟨_, _, rfl, HF.out, HB2.out⟩
end
end Go.Proofs.Ytamhlapeihcchaa

namespace Go.Proofs.Ytamhlapeihcchaa
open Go Go.RowKit

section
variable {Rep : (Nat → Prop) → World → Nat → List Nd → Prop}
set_option maxHeartbeats 8000000 in
set_option maxRecDepth 100000 in
theorem shadeAttaches_any (O : ForestOk Rep) (M : ForestMore Rep) (A : Option Addr) (n c : Nat) (xs : List Ac) (ho mo : Int) (w : World) (hn : xs.length = n) (hm : n ≤ maxLen) (h : Acts w A xs) :
    Calls Try.prog 3 #[.slice A n c, .int .i64 ho, .int .i64 mo] w fun e w' => e = .returned (.bool true) ∧ Below w.heap.size w w' := by
  have hnot : ∀ (x : Bool) (w : World), (Op.unary .not (.bool x)).run Try.prog w = .ok (.bool (!x)) w := fun _ _ => rfl
  have H := Lib.hid h
  have Hn := Lib.hid hn
  have Hm := Lib.hid hm
  clear h hn hm
  go_enter Try.func3, Try.ntmps3
  go_wp2_with fail
  refine (awake8_any O M w).mono ?_
  rintro e w0 ⟨rfl, hb0⟩
  go_wp2_with fail
  refine (great_any A n c xs w0 Hn.out Hm.out (H.out.below hb0)).mono ?_
  rintro e w1 ⟨⟨gr, rfl, hgr⟩, rfl⟩
  cases gr with
  | true =>
    go_wp2
    go_ret
    exact ⟨rfl, hb0⟩
  | false =>
    have Hs := Lib.hid (hgr rfl)
    have Hb0 := Lib.hid hb0
    clear hgr hb0
    go_wp2_with fail
    refine (built_any O A n c xs w0 Hn.out (H.out.below Hb0.out) Hs.out).mono ?_
    rintro e w1 ⟨b, rfl, hR, hb1⟩
    obtain ⟨S, hLv⟩ := live_new O hR Hb0.out hb1
    have hlow : ∀ i, S i → i < w1.heap.size := fun i hi => (hLv.low i hi).2
    have Hg := Lib.hid (good_forest Hs.out)
    have HB1 := Lib.hid (Hb0.out.trans (hb1.mono Hb0.out.size))
    have LV := Lib.hid hLv
    have Hlow := Lib.hid hlow
    clear hR hb1 hLv hlow Hb0
    go_wp2_with fail
    refine (refNodes A n c xs w1 Hn.out (H.out.below HB1.out) Hs.out).mono ?_
    rintro e w2 ⟨A2, c2, rfl, hN, hb2⟩
    obtain ⟨l, hl⟩ : ∃ l, l = forest xs := ⟨_, rfl⟩
    rw [← hl] at hN LV Hg
    rw [← hl]
    have HG2 : Hid (Fut (fun i => w1.heap.size ≤ i) w2.heap.size) := Lib.hid fun i hi => Nat.le_trans hb2.size hi
    have L2 := Lib.hid (LV.out.next O hb2)
    have HN := Lib.hid hN
    clear hN hb2 LV Hs H Hn hl HB1
    go_wp2_with fail
    refine (rsAttach ho mo Hg.out HG2.out HN.out).mono ?_
    rintro e w3 ⟨A3, c3, rfl, hN3, hb3⟩
    have L3 := Lib.hid (L2.out.next O hb3)
    have N3 := Lib.hid hN3
    clear hN3 hb3 L2 HN HG2
    have C := Lib.hid (liveAttach O M ho mo L3.out Hg.out)
    have Hg' := Lib.hid (good_att (h := ho) (m := mo) Hg.out)
    obtain ⟨no, hno⟩ : ∃ no, no = attNo l ho mo := ⟨_, rfl⟩
    obtain ⟨er, her⟩ : ∃ er, er = attErr l ho mo := ⟨_, rfl⟩
    obtain ⟨l', hl'⟩ : ∃ l', l' = attL l ho mo := ⟨_, rfl⟩
    rw [← hno, ← her, ← hl'] at C
    rw [← hl'] at N3 Hg'
    rw [← hno, ← her, ← hl']
    clear hno her hl'
    go_wp2_with fail
    refine C.out.mono ?_
    rintro e w4 ⟨rfl, ⟨S4, hL4, -⟩, hk4⟩
    have L4 := Lib.hid hL4
    have N4 := Lib.hid (N3.out.keptG hk4 fun i hi _ hS => absurd (Hlow.out i hS) (Nat.not_lt.2 hi))
    clear hL4 hk4 N3 L3 C Hlow
    go_wp2_with fail
    refine (O.all _ w4 b l' L4.out.rep Hg'.out).mono ?_
    rintro e w5 ⟨A5, c5, rfl, hN5, hb5⟩
    have L5 := Lib.hid (L4.out.next O hb5)
    have N5 := Lib.hid (hN5.wide (G' := fun _ => True) fun _ _ _ => trivial)
    have M5 := Lib.hid ((N4.out.below hb5).wide (G' := fun _ => True) fun _ _ _ => trivial)
    clear hb5 hN5 L4 N4
    go_wp2_with fail
    refine (same_any l' l' A5 A3 c5 c3 _ 0 w5 (Nat.le_trans Hg'.out.len (by decide)) (fun d hd => Nat.le_trans (Hg'.out.few d hd) (by decide)) N5.out M5.out).mono ?_
    rintro e w6 ⟨rfl, hb6⟩
    rw [sameL_refl]
    have L6 := Lib.hid (L5.out.next O hb6)
    clear hb6 L5
    go_wp2
    go_ret
    exact ⟨rfl, L6.out.below⟩
end
end Go.Proofs.Ytamhlapeihcchaa

namespace Go.Proofs.Ytamhlapeihcchaa
open Go Go.RowKit

section
variable {l : List Nd} {i : Int}
theorem whole_at (T : Tree l) (h : hostL l i = 0) : wholeL l i = rootL l i := by
  cases ht : thereB l i with
  | false => rw [whole_no ht, rootL_no ht]
  | true => exact whole_end T ht h
theorem hostL_kind (T : Tree l) (h : thereB l i = true) (hk : (nd l (rootL l i)).kind ≠ 3) : hostL l i = 0 := by
  rw [hostL_at h]
  exact Decidable.byContradiction fun h0 => hk (T.host _ (rootL_there T h) h0).1
theorem hostL_from (h : hostL l i ≠ 0) : thereB l i = true := by
  cases ht : thereB l i with
  | true => rfl
  | false => exact absurd (hostL_no ht) h
end
section
variable {G : Nat → Prop} {w : World} {A : Option Addr} {c : Nat} {l : List Nd}
set_option maxHeartbeats 2000000 in
set_option maxRecDepth 100000 in
theorem rsHost (id : Int) (hg : Good l) (h : Nodes G w 0 A c l) :
    Calls Try.prog 39 #[.slice A l.length c, .int .i64 id] w fun e w' => e = .returned (.int .i64 (hostL l id)) ∧ Below w.heap.size w w' := by
  have H := Lib.hid h
  have Hg := Lib.hid hg
  have hll := hg.len
  obtain ⟨R, hR⟩ : ∃ R, R = hostL l id := ⟨_, rfl⟩
  rw [← hR]
  have HR := Lib.hid hR
  clear h hg hR
  go_enter Try.func39, Try.ntmps39
  go_wp2_with fail
  refine (refRoot l A c id w Hg.out H.out).mono ?_
  rintro e w1 ⟨rfl, hb1⟩
  cases ht : thereB l id with
  | false =>
    have e0 := rootL_no ht
    have e1 : R = 0 := by rw [HR.out, hostL_no ht]
    subst e1
    rw [e0]
    clear e0 ht HR
    go_wp2
    go_ret
    exact ⟨rfl, hb1⟩
  | true =>
    have hrt := rootL_there Hg.out.tree ht
    have e1 := hostL_at ht
    have e2 := hostL_kind Hg.out.tree ht
    obtain ⟨m, hr, hm⟩ := there_at hrt
    rw [hr] at e1 e2
    rw [hr]
    have hN := H.out.below hb1
    obtain ⟨g, k, rfl, -, hgw, -, -, c0, -, c2, -⟩ := hN.nine hm
    obtain ⟨d, hd⟩ : ∃ d, d = nd l ((m : Int) + 1) := ⟨_, rfl⟩
    rw [← hd] at c0 c2 e1 e2
    have z1 : (((m : Int) + 1) == 0) = false := by rw [beq_eq_false_iff_ne]; omega
    by_cases hk : d.kind = 3
    · have e3 : R = d.host := by rw [HR.out, e1]
      have z3 : (d.kind != 3) = false := by simpa using hk
      subst e3
      clear hr hrt e1 e2 ht hd HR hN hk
      go_wp2
      go_ret
      exact ⟨rfl, hb1⟩
    · have e3 : R = 0 := by rw [HR.out, e2 hk]
      have z3 : (d.kind != 3) = true := by simpa using hk
      subst e3
      clear hr hrt e1 e2 ht hd HR hN hk
      go_wp2
      go_ret
      exact ⟨rfl, hb1⟩
set_option maxHeartbeats 4000000 in
set_option maxRecDepth 100000 in
theorem rsWhole (id : Int) (hg : Good l) (h : Nodes G w 0 A c l) :
    Calls Try.prog 16 #[.slice A l.length c, .int .i64 id] w fun e w' => e = .returned (.int .i64 (wholeL l id)) ∧ Below w.heap.size w w' := by
  have H := Lib.hid h
  have Hg := Lib.hid hg
  have hll := hg.len
  obtain ⟨R, hR⟩ : ∃ R, R = wholeL l id := ⟨_, rfl⟩
  rw [← hR]
  have HR := Lib.hid hR.symm
  have H0 := Lib.hid (over_short hg.tree id)
  clear h hg hR
  go_enter Try.func16, Try.ntmps16
  go_wp2_with fail
  go_loopw [1, 5] (fun a k wr => ∃ (i : Int) (j : Nat), a = .int .i64 i ∧ k = .int .i64 j ∧ wholeL l i = R ∧ j + (over l i).length ≤ l.length ∧ Below w.heap.size w wr) (fun _ k _ => l.length + 1 - (intOf k).toNat)
  case atStart => exact ⟨id, 0, rfl, rfl, HR.out, by have := H0.out; omega, Below.refl _ _⟩
  case round =>
    obtain ⟨i, j, rfl, rfl, hi, hj, hb⟩ := hrel
    have Hi := Lib.hid hi
    have Hj := Lib.hid hj
    have Hb := Lib.hid hb
    have Hn := Lib.hid (H.out.kept (Keeps.of_below (F := fun i => w.heap.size ≤ i) hb fun _ _ h => h) fun _ hi => Nat.not_le.2 hi)
    have hjl : (j : Int) ≤ l.length := by omega
    clear hi hj hb HR H0
    go_wp2_with fail
    refine (rsHost i Hg.out Hn.out).mono ?_
    rintro e w1 ⟨rfl, hb1⟩
    have Hb1 := Lib.hid (Hb.out.trans (hb1.mono Hb.out.size))
    have Hn1 := Lib.hid (Hn.out.below hb1)
    clear hb1
    have e1 := whole_at (i := i) Hg.out.tree
    have e2 := whole_go (i := i) Hg.out.tree
    have e3 : hostL l i ≠ 0 → (over l (hostL l i)).length + 1 ≤ (over l i).length := fun h => host_less Hg.out.tree (hostL_from h)
    obtain ⟨ho, hho⟩ : ∃ ho, ho = hostL l i := ⟨_, rfl⟩
    rw [← hho] at e1 e2 e3
    rw [← hho]
    have Hho := Lib.hid hho
    clear hho
    by_cases h0 : ho = 0
    · have e4 : R = rootL l i := by rw [← Hi.out, e1 h0]
      subst e4
      subst h0
      clear e1 e2 e3
      go_wp2_with fail
      refine (refRoot l A c i w1 Hg.out Hn1.out).mono ?_
      rintro e w2 ⟨rfl, hb2⟩
      have HF := Lib.hid (Hb1.out.trans (hb2.mono Hb1.out.size))
      clear hb2
      go_wp2
      go_ret
      exact ⟨rfl, HF.out⟩
    · have z0 : (ho != 0) = true := by simpa using h0
      have E2 := Lib.hid ((e2 h0).symm.trans Hi.out)
      have E3 := Lib.hid (e3 h0)
      clear e1 e2 e3 h0
      go_wp2_with fail
      refine (rsHost i Hg.out Hn1.out).mono ?_
      rintro e w2 ⟨rfl, hb2⟩
      rw [← Hho.out]
      have HF := Lib.hid (Hb1.out.trans (hb2.mono Hb1.out.size))
      clear hb2
      go_wp2
      go_roundw
      case rel => exact ⟨_, j + 1, rfl, by go_num, E2.out, by have := E3.out; have := Hj.out; omega, HF.out⟩
      case measure => simp [intOf]; omega
set_option maxHeartbeats 4000000 in
set_option maxRecDepth 100000 in
theorem rsHolds (x id : Int) (hg : Good l) (h : Nodes G w 0 A c l) :
    Calls Try.prog 18 #[.slice A l.length c, .int .i64 x, .int .i64 id] w fun e w' => e = .returned (.bool (hasB (over l id) x)) ∧ Below w.heap.size w w' := by
  have H := Lib.hid h
  have Hg := Lib.hid hg
  have hll := hg.len
  obtain ⟨R, hR⟩ : ∃ R, R = hasB (over l id) x := ⟨_, rfl⟩
  rw [← hR]
  have HR := Lib.hid hR.symm
  have H0 := Lib.hid (over_short hg.tree id)
  clear h hg hR
  go_enter Try.func18, Try.ntmps18
  go_wp2_with fail
  go_loopw [2, 7] (fun a k wr => ∃ (i : Int) (j : Nat), a = .int .i64 i ∧ k = .int .i64 j ∧ hasB (over l i) x = R ∧ j ≤ l.length + 1 ∧ (i ≠ 0 → j + (over l i).length ≤ l.length) ∧ Below w.heap.size w wr) (fun _ k _ => l.length + 2 - (intOf k).toNat)
  case atStart => exact ⟨id, 0, rfl, rfl, HR.out, Nat.zero_le _, fun _ => by have := H0.out; omega, Below.refl _ _⟩
  case round =>
    obtain ⟨i, j, rfl, rfl, hi, hj1, hj, hb⟩ := hrel
    have Hi := Lib.hid hi
    have Hb := Lib.hid hb
    have Hn := Lib.hid (H.out.kept (Keeps.of_below (F := fun i => w.heap.size ≤ i) hb fun _ _ h => h) fun _ hi => Nat.not_le.2 hi)
    clear hi hb HR H0
    by_cases h0 : i = 0
    · subst h0
      have e0 : R = false := by
        rw [← Hi.out, over_zero]
        rfl
      subst e0
      clear hj
      by_cases hjl : (j : Int) ≤ l.length
      · go_wp2
        go_ret
        exact ⟨rfl, Hb.out⟩
      · go_wp2
        go_ret
        exact ⟨rfl, Hb.out⟩
    · have Hj := Lib.hid (hj h0)
      have hjl : (j : Int) ≤ l.length := by have := Hj.out; omega
      have z0 : (i != 0) = true := by simpa using h0
      clear hj h0
      go_wp2_with fail
      refine (refAbove l A c x i wr Hg.out Hn.out).mono ?_
      rintro e w1 ⟨rfl, hb1⟩
      have Hb1 := Lib.hid (Hb.out.trans (hb1.mono Hb.out.size))
      have Hn1 := Lib.hid (Hn.out.below hb1)
      clear hb1
      cases ha : hasB (parL l i) x with
      | true =>
        have e0 : R = true := by
          rw [← Hi.out]
          exact over_hit Hg.out.tree ha
        subst e0
        clear ha
        go_wp2
        go_ret
        exact ⟨rfl, Hb1.out⟩
      | false =>
        have Ha := Lib.hid ha
        clear ha
        go_wp2_with fail
        refine (rsHost i Hg.out Hn1.out).mono ?_
        rintro e w2 ⟨rfl, hb2⟩
        have Hb2 := Lib.hid (Hb1.out.trans (hb2.mono Hb1.out.size))
        clear hb2
        have e1 : hasB (over l (hostL l i)) x = R := by
          cases ht : thereB l i with
          | true => rw [hostL_at ht, ← over_miss Hg.out.tree ht Ha.out]; exact Hi.out
          | false => rw [hostL_no ht, over_zero, ← Hi.out, over_none ht]
        have e2 : hostL l i ≠ 0 → j + 1 + (over l (hostL l i)).length ≤ l.length := fun h => by
          have h1 := host_less Hg.out.tree (hostL_from h)
          have h2 := Hj.out
          omega
        have E1 := Lib.hid e1
        have E2 := Lib.hid e2
        clear e1 e2
        go_wp2
        go_roundw
        case rel => exact ⟨_, j + 1, rfl, by go_num, E1.out, by omega, E2.out, Hb2.out⟩
        case measure => simp [intOf]; omega
set_option maxHeartbeats 8000000 in
set_option maxRecDepth 100000 in
theorem rsHidden (a b : Int) (hg : Good l) (h : Nodes G w 0 A c l) :
    Calls Try.prog 20 #[.slice A l.length c, .int .i64 a, .int .i64 b] w fun e w' => e = .returned (.bool (hidL l a b)) ∧ Below w.heap.size w w' := by
  have hnot : ∀ (x : Bool) (w : World), (Op.unary .not (.bool x)).run Try.prog w = .ok (.bool (!x)) w := fun _ _ => rfl
  have H := Lib.hid h
  have Hg := Lib.hid hg
  have hll := hg.len
  obtain ⟨R, hR⟩ : ∃ R, R = hidL l a b := ⟨_, rfl⟩
  rw [← hR]
  have HR := Lib.hid hR.symm
  have H0 := Lib.hid (over_short hg.tree a)
  clear h hg hR
  go_enter Try.func20, Try.ntmps20
  go_wp2_with fail
  refine (there_any l A c b w).mono ?_
  rintro e w0 ⟨rfl, rfl⟩
  cases hbt : thereB l b with
  | false =>
    have e0 : R = false := by rw [← HR.out, hid_noB hbt]
    subst e0
    clear hbt
    go_wp2
    go_ret
    exact ⟨rfl, Below.refl _ _⟩
  | true =>
    have Hbt := Lib.hid hbt
    clear hbt
    go_wp2_with fail
    go_loopw [1, 7] (fun v k wr => ∃ (i : Int) (j : Nat), v = .int .i64 i ∧ k = .int .i64 j ∧ hidL l i b = R ∧ j + (over l i).length ≤ l.length ∧ Below w.heap.size w wr) (fun _ k _ => l.length + 1 - (intOf k).toNat)
    case atStart => exact ⟨a, 0, rfl, rfl, HR.out, by have := H0.out; omega, Below.refl _ _⟩
    case round =>
      obtain ⟨i, j, rfl, rfl, hi, hj, hb⟩ := hrel
      have Hi := Lib.hid hi
      have Hj := Lib.hid hj
      have Hb := Lib.hid hb
      have Hn := Lib.hid (H.out.kept (Keeps.of_below (F := fun i => w.heap.size ≤ i) hb fun _ _ h => h) fun _ hi => Nat.not_le.2 hi)
      have hjl : (j : Int) ≤ l.length := by omega
      clear hi hj hb HR H0
      go_wp2_with fail
      refine (refRoot l A c i wr Hg.out Hn.out).mono ?_
      rintro e w1 ⟨rfl, hb1⟩
      have Hb1 := Lib.hid (Hb.out.trans (hb1.mono Hb.out.size))
      have Hn1 := Lib.hid (Hn.out.below hb1)
      clear hb1 Hb Hn
      go_wp2_with fail
      refine (rsHost i Hg.out Hn1.out).mono ?_
      rintro e w2 ⟨rfl, hb2⟩
      have Hb2 := Lib.hid (Hb1.out.trans (hb2.mono Hb1.out.size))
      have Hn2 := Lib.hid (Hn1.out.below hb2)
      clear hb2 Hb1 Hn1
      by_cases h0 : hostL l i = 0
      · have e0 : R = false := by rw [← Hi.out, hid_end Hg.out.tree h0]
        subst e0
        rw [h0]
        clear h0
        go_wp2
        go_ret
        exact ⟨rfl, Hb2.out⟩
      · have ht := hostL_from h0
        have hrt := rootL_there Hg.out.tree ht
        have e1 := hid_held (a := i) (b := b) Hg.out.tree
        have e2 := hid_shut (a := i) Hg.out.tree Hbt.out h0
        have e3 := hid_next (a := i) (b := b) Hg.out.tree h0
        have e4 := host_less Hg.out.tree ht
        obtain ⟨m, hr, hm⟩ := there_at hrt
        rw [hr] at e1 e2 e3
        rw [hr]
        obtain ⟨ho, hho⟩ : ∃ ho, ho = hostL l i := ⟨_, rfl⟩
        rw [← hho] at h0 e3 e4
        rw [← hho]
        have Hho := Lib.hid hho
        have E1 := Lib.hid e1
        have E2 := Lib.hid e2
        have E3 := Lib.hid e3
        have E4 := Lib.hid e4
        have z0 : (ho == 0) = false := by simpa using h0
        clear h0 ht hrt e1 e2 e3 e4 hr hho
        go_wp2_with fail
        refine (rsHolds ((m : Int) + 1) b Hg.out Hn2.out).mono ?_
        rintro e w3 ⟨rfl, hb3⟩
        have Hb3 := Lib.hid (Hb2.out.trans (hb3.mono Hb2.out.size))
        have Hn3 := Lib.hid (Hn2.out.below hb3)
        clear hb3 Hb2 Hn2
        cases hh : hasB (over l b) ((m : Int) + 1) with
        | true =>
          have e0 : R = false := by rw [← Hi.out, E1.out (hasB_mem hh)]
          subst e0
          clear hh
          go_wp2
          go_ret
          exact ⟨rfl, Hb3.out⟩
        | false =>
          obtain ⟨g, k, rfl, -, hgw, -, -, -, -, -, -, c4, -⟩ := Hn3.out.nine hm
          have F2 := Lib.hid (E2.out (hasB_not hh))
          obtain ⟨d, hd⟩ : ∃ d, d = nd l ((m : Int) + 1) := ⟨_, rfl⟩
          rw [← hd] at c4 F2 E3
          clear hh hd E2 E1
          by_cases h2 : d.mode = 2
          · have e0 : R = true := by rw [← Hi.out, F2.out h2]
            subst e0
            have z2 : (d.mode == 2) = true := by simpa using h2
            clear h2
            go_wp2
            go_ret
            exact ⟨rfl, Hb3.out⟩
          · have z2 : (d.mode == 2) = false := by simpa using h2
            have F3 := Lib.hid ((E3.out h2).symm.trans Hi.out)
            clear h2
            go_wp2_with fail
            refine (rsHost i Hg.out Hn3.out).mono ?_
            rintro e w4 ⟨rfl, hb4⟩
            rw [← Hho.out]
            have Hb4 := Lib.hid (Hb3.out.trans (hb4.mono Hb3.out.size))
            clear hb4 c4
            go_wp2
            go_roundw
            case rel => exact ⟨_, j + 1, rfl, by go_num, F3.out, by have := E4.out; have := Hj.out; omega, Hb4.out⟩
            case measure => simp [intOf]; omega
set_option maxHeartbeats 8000000 in
set_option maxRecDepth 100000 in
theorem rsClosed (id : Int) (hg : Good l) (hmo : Moded l) (h : Nodes G w 0 A c l) :
    Calls Try.prog 23 #[.slice A l.length c, .int .i64 id] w fun e w' => ∃ v, e = .returned v ∧ Pile w.heap.size w' v (clsL l id) ∧ Below w.heap.size w w' := by
  have H := Lib.hid h
  have Hg := Lib.hid hg
  have Hmo := Lib.hid hmo
  have hll := hg.len
  obtain ⟨R, hR⟩ : ∃ R, R = clsL l id := ⟨_, rfl⟩
  have hRl : R.length ≤ 128 := by rw [hR]; exact Nat.le_trans (clsL_len l id) hg.len
  rw [← hR]
  have hR0 : ([] : List Int) ++ clsOf l (arN l (l.length - 0) id) = R := by rw [hR]; rfl
  have HR := Lib.hid hR0
  clear h hg hmo hR hR0
  go_enter Try.func23, Try.ntmps23
  go_wp2_with fail
  go_loopw [1, 5, 6] (fun v o k wr => ∃ (i : Int) (j : Nat) (xs : List Int), v = .int .i64 i ∧ k = .int .i64 j ∧ j ≤ l.length ∧ xs ++ clsOf l (arN l (l.length - j) i) = R ∧ Pile w.heap.size wr o xs ∧ Below w.heap.size w wr) (fun _ _ k _ => l.length - (intOf k).toNat)
  case atStart => exact ⟨id, 0, [], rfl, rfl, Nat.zero_le _, HR.out, Pile.nil _ _, Below.refl _ _⟩
  case round =>
    obtain ⟨i, j, xs, rfl, rfl, hj, hxs, hP, hb⟩ := hrel
    obtain ⟨Ao, co, rfl, -⟩ := hP.form
    have hxl : xs.length ≤ 1000000 := by have := app_len hxs; omega
    have Hxs := Lib.hid hxs
    clear HR hxs
    by_cases hjl : (j : Int) < l.length
    · by_cases h0 : i = 0
      · subst h0
        have e0 : xs = R := by
          have := Hxs.out
          rw [ar_no (there_zero l)] at this
          simpa [clsOf] using this
        subst e0
        clear Hxs
        go_wp2
        go_ret
        exact ⟨_, rfl, hP, hb⟩
      · have z0 : (i != 0) = true := by simpa using h0
        have HP := Lib.hid hP
        have Hb := Lib.hid hb
        have Hn := Lib.hid (H.out.kept (Keeps.of_below (F := fun i => w.heap.size ≤ i) hb fun _ _ h => h) fun _ hi => Nat.not_le.2 hi)
        clear h0 hP hb
        go_wp2_with fail
        refine (refRoot l A c i wr Hg.out Hn.out).mono ?_
        rintro e w1 ⟨rfl, hb1⟩
        have Hb1 := Lib.hid (Hb.out.trans (hb1.mono Hb.out.size))
        have Hn1 := Lib.hid (Hn.out.below hb1)
        have HP1 := Lib.hid (HP.out.below hb1)
        clear hb1 Hb Hn HP
        cases ht : thereB l i with
        | false =>
          have e1 := rootL_no ht
          have e2 := hostL_no ht
          have e3 : xs ++ clsOf l (arN l (l.length - (j + 1)) 0) = R := by
            have := Hxs.out
            rw [ar_no ht] at this
            rw [ar_no (there_zero l)]
            exact this
          rw [e1]
          have E2 := Lib.hid e2
          have E3 := Lib.hid e3
          clear e1 e2 e3 ht Hxs
          go_wp2_with fail
          refine (rsHost i Hg.out Hn1.out).mono ?_
          rintro e w2 ⟨rfl, hb2⟩
          rw [E2.out]
          have HF := Lib.hid (And.intro (HP1.out.below hb2) (Hb1.out.trans (hb2.mono Hb1.out.size)))
          clear hb2
          go_wp2
          go_roundw
          case rel => exact ⟨0, j + 1, xs, rfl, by go_num, by omega, E3.out, HF.out.1, HF.out.2⟩
          case measure => simp [intOf]; omega
        | true =>
          have hrt := rootL_there Hg.out.tree ht
          have e1 : arN l (l.length - j) i = i :: arN l (l.length - (j + 1)) (hostL l i) := by
            rw [show l.length - j = l.length - (j + 1) + 1 by omega]
            exact ar_go ht
          have e2 := cls_yes (l := l) (i := i) (xs := arN l (l.length - (j + 1)) (hostL l i))
          have e3 := cls_not (l := l) (i := i) (xs := arN l (l.length - (j + 1)) (hostL l i))
          have e4 := moded_nd (i := rootL l i) Hmo.out
          have e5 := Hxs.out
          rw [e1] at e5
          obtain ⟨m, hr, hm⟩ := there_at hrt
          rw [hr] at e2 e3 e4
          rw [hr]
          obtain ⟨g, k, rfl, -, hgw, -, -, c0, -, -, -, c4, -⟩ := Hn1.out.nine hm
          obtain ⟨d, hd⟩ : ∃ d, d = nd l ((m : Int) + 1) := ⟨_, rfl⟩
          rw [← hd] at c0 c4 e2 e3 e4
          have z1 : (((m : Int) + 1) != 0) = true := by rw [bne_iff_ne]; omega
          have E2 := Lib.hid e2
          have E3 := Lib.hid e3
          have E4 := Lib.hid e4
          have E5 := Lib.hid e5
          clear ht hrt e1 e2 e3 e4 e5 hr hd Hxs
          by_cases h2 : d.mode = 2
          · have z3 : (d.kind == 3) = true := by simpa using E4.out h2
            have z2 : (d.mode == 2) = true := by simpa using h2
            have hfin : (xs ++ [(m : Int) + 1]) ++ clsOf l (arN l (l.length - (j + 1)) (hostL l i)) = R := by
              rw [List.append_assoc, List.singleton_append, ← E2.out h2]
              exact E5.out
            have Hfin := Lib.hid hfin
            have hP1 := HP1.out
            have hB1 := Hb1.out
            have hown := hP1.lt
            have HP2 : Hid (Pile w.heap.size (w1.alloc (.cells #[.int .i64 ((m : Int) + 1)] 3)) (.slice Ao xs.length co) xs) := Lib.hid (hP1.alloc _)
            have HB2 : Hid (Has (w1.alloc (.cells #[.int .i64 ((m : Int) + 1)] 3)) w1.heap.size (.cells #[.int .i64 ((m : Int) + 1)] 3 (0, 0))) := Lib.hid (Has.fresh _ _)
            have HS2 : Hid (w.heap.size ≤ (w1.alloc (.cells #[.int .i64 ((m : Int) + 1)] 3)).heap.size) := Lib.hid (by have := hB1.size; simp; omega)
            have HN2 : Hid (∀ w2, Keeps (fun i => (Value.slice Ao xs.length co).ownBlock = some i) (w1.alloc (.cells #[.int .i64 ((m : Int) + 1)] 3)) w2 → Nodes G w2 0 (some ⟨g, 0, none⟩) c l ∧ Below w.heap.size w w2) := Lib.hid fun w2 hk2 => by
              have hb2 : Below w.heap.size w w2 := below_then (hB1.alloc hB1.size _) hk2 (by have := hB1.size; simp; omega) fun i hi e => by have := (hown _ e).1; omega
              exact ⟨H.out.kept (Keeps.of_below (F := fun i => w.heap.size ≤ i) hb2 fun _ _ h => h) fun _ hi => Nat.not_le.2 hi, hb2⟩
            clear h2 hfin E2 E3 E4 E5 hP1 hB1 hown
            go_wp2_with (at_builtin; refine wpList_push rfl (.tmp 41) (.tmp 43) rfl rfl HP2.out rfl HB2.out hxl HS2.out ?_; intro g2 cap w2 hp2 hk2 _ _)
            have HN3 := Lib.hid (HN2.out w2 hk2)
            have HP3 := Lib.hid hp2
            clear hp2 hk2 HN2 HP2 HB2 HS2
            refine (rsHost i Hg.out HN3.out.1).mono ?_
            rintro e w3 ⟨rfl, hb3⟩
            have HF := Lib.hid (And.intro (HP3.out.below hb3) (HN3.out.2.trans (hb3.mono HN3.out.2.size)))
            clear hb3
            go_wp2
            go_roundw
            case rel => exact ⟨_, j + 1, xs ++ [(m : Int) + 1], rfl, by go_num, by omega, Hfin.out, by simpa using HF.out.1, HF.out.2⟩
            case measure => simp [intOf]; omega
          · have z2 : (d.mode == 2) = false := by simpa using h2
            have hfin : xs ++ clsOf l (arN l (l.length - (j + 1)) (hostL l i)) = R := by
              rw [← E3.out h2]
              exact E5.out
            have Hfin := Lib.hid hfin
            clear h2 hfin E2 E3 E4 E5
            cases z3 : (d.kind == 3) with
            | true =>
              go_wp2_with fail
              refine (rsHost i Hg.out Hn1.out).mono ?_
              rintro e w2 ⟨rfl, hb2⟩
              have HF := Lib.hid (And.intro (HP1.out.below hb2) (Hb1.out.trans (hb2.mono Hb1.out.size)))
              clear hb2
              go_wp2
              go_roundw
              case rel => exact ⟨_, j + 1, xs, rfl, by go_num, by omega, Hfin.out, HF.out.1, HF.out.2⟩
              case measure => simp [intOf]; omega
            | false =>
              go_wp2_with fail
              refine (rsHost i Hg.out Hn1.out).mono ?_
              rintro e w2 ⟨rfl, hb2⟩
              have HF := Lib.hid (And.intro (HP1.out.below hb2) (Hb1.out.trans (hb2.mono Hb1.out.size)))
              clear hb2
              go_wp2
              go_roundw
              case rel => exact ⟨_, j + 1, xs, rfl, by go_num, by omega, Hfin.out, HF.out.1, HF.out.2⟩
              case measure => simp [intOf]; omega
    · have e0 : xs = R := by
        have := Hxs.out
        rw [show l.length - j = 0 by omega] at this
        simpa [clsOf, arN] using this
      subst e0
      clear Hxs
      go_wp2
      go_ret
      exact ⟨_, rfl, hP, hb⟩
end
end Go.Proofs.Ytamhlapeihcchaa

namespace Go.Proofs.Ytamhlapeihcchaa
open Go Go.RowKit

section
variable {Rep : (Nat → Prop) → World → Nat → List Nd → Prop}
set_option maxHeartbeats 8000000 in
set_option maxRecDepth 100000 in
theorem shadeTells_any (O : ForestOk Rep) (M : ForestMore Rep) (A : Option Addr) (n c : Nat) (xs : List Ac) (a a2 : Int) (w : World) (hn : xs.length = n) (hm : n ≤ maxLen) (h : Acts w A xs) :
    Calls Try.prog 4 #[.slice A n c, .int .i64 a, .int .i64 a2] w fun e w' => e = .returned (.bool true) ∧ Below w.heap.size w w' := by
  have hnot : ∀ (x : Bool) (w : World), (Op.unary .not (.bool x)).run Try.prog w = .ok (.bool (!x)) w := fun _ _ => rfl
  have H := Lib.hid h
  have Hn := Lib.hid hn
  have Hm := Lib.hid hm
  clear h hn hm
  go_enter Try.func4, Try.ntmps4
  go_wp2_with fail
  refine (awake8_any O M w).mono ?_
  rintro e w0 ⟨rfl, hb0⟩
  go_wp2_with fail
  refine (great_any A n c xs w0 Hn.out Hm.out (H.out.below hb0)).mono ?_
  rintro e w1 ⟨⟨gr, rfl, hgr⟩, rfl⟩
  cases gr with
  | true =>
    go_wp2
    go_ret
    exact ⟨rfl, hb0⟩
  | false =>
    have Hs := Lib.hid (hgr rfl)
    have Hb0 := Lib.hid hb0
    clear hgr hb0
    go_wp2_with fail
    refine (built_any O A n c xs w0 Hn.out (H.out.below Hb0.out) Hs.out).mono ?_
    rintro e w1 ⟨b, rfl, hR, hb1⟩
    have hB1 := Hb0.out.trans (hb1.mono Hb0.out.size)
    have HB1 := Lib.hid hB1
    have HR := Lib.hid (O.wide hR (S' := fun _ => True) fun _ _ _ => trivial)
    clear hR hb1 hB1 Hb0
    go_wp2_with fail
    refine (refNodes A n c xs w1 Hn.out (H.out.below HB1.out) Hs.out).mono ?_
    rintro e w2 ⟨A2, c2, rfl, hN, hb2⟩
    have Hg := Lib.hid (good_forest Hs.out)
    have Hmo := Lib.hid (moded_forest xs)
    obtain ⟨l, hl⟩ : ∃ l, l = forest xs := ⟨_, rfl⟩
    rw [← hl] at hN HR Hg Hmo
    rw [← hl]
    have hT2 : Two Rep w b A2 c2 l w2 := ⟨O.since HR.out hb2, hN.wide fun _ _ _ => trivial, HB1.out.trans (hb2.mono HB1.out.size)⟩
    have T2 := Lib.hid hT2
    clear hN hb2 HR HB1 Hs H Hn hl hT2
    go_wp2_with fail
    refine (shWhole O M a T2.out.rep Hg.out).mono ?_
    rintro e w3 ⟨rfl, hb3⟩
    have T3 := Lib.hid (T2.out.next O hb3)
    clear hb3 T2
    go_wp2_with fail
    refine (rsWhole a Hg.out T3.out.nodes).mono ?_
    rintro e w4 ⟨rfl, hb4⟩
    have T4 := Lib.hid (T3.out.next O hb4)
    clear hb4 T3
    go_wp2_with fail
    refine (shHolds O M a a2 T4.out.rep Hg.out).mono ?_
    rintro e w5 ⟨rfl, hb5⟩
    have T5 := Lib.hid (T4.out.next O hb5)
    clear hb5 T4
    go_wp2_with fail
    refine (rsHolds a a2 Hg.out T5.out.nodes).mono ?_
    rintro e w6 ⟨rfl, hb6⟩
    have T6 := Lib.hid (T5.out.next O hb6)
    clear hb6 T5
    go_wp2_with fail
    refine (shHidden O M a a2 T6.out.rep Hg.out).mono ?_
    rintro e w7 ⟨rfl, hb7⟩
    have T7 := Lib.hid (T6.out.next O hb7)
    clear hb7 T6
    go_wp2_with fail
    refine (rsHidden a a2 Hg.out T7.out.nodes).mono ?_
    rintro e w8 ⟨rfl, hb8⟩
    have T8 := Lib.hid (T7.out.next O hb8)
    clear hb8 T7
    go_wp2_with fail
    refine (shClosed O M a T8.out.rep Hg.out).mono ?_
    rintro e w9 ⟨v9, rfl, hP9, hb9⟩
    have T9 := Lib.hid (T8.out.next O hb9)
    have P9 := Lib.hid hP9
    obtain ⟨A9, c9, rfl, -⟩ := hP9.form
    clear hb9 T8 hP9
    go_wp2_with fail
    refine (rsClosed a Hg.out Hmo.out T9.out.nodes).mono ?_
    rintro e w10 ⟨v10, rfl, hP10, hb10⟩
    have T10 := Lib.hid (T9.out.next O hb10)
    have Q9 := P9.out.below hb10
    obtain ⟨A9', c9', e9, hL9⟩ := Q9.form
    obtain ⟨rfl, rfl⟩ : A9 = A9' ∧ c9 = c9' := by injection e9 with e1 _ e3; exact ⟨e1, e3⟩
    obtain ⟨A10, c10, rfl, hL10⟩ := hP10.form
    have HL9 := Lib.hid hL9
    have HL10 := Lib.hid hL10
    have hcl : (clsL l a).length ≤ 1000000 := Nat.le_trans (Nat.le_trans (clsL_len l a) Hg.out.len) (by decide)
    clear hb10 T9 P9 Q9 e9 hL9 hL10 hP10
    go_wp2_with fail
    refine (ints_any (clsL l a) (clsL l a) A9 A10 _ _ c9 c10 w10 rfl rfl hcl HL9.out.nums HL10.out.nums).mono ?_
    rintro e w11 ⟨rfl, hb11⟩
    rw [sameInts_self]
    have T11 := Lib.hid (T10.out.next O hb11)
    clear hb11 T10
    go_wp2
    go_ret
    exact ⟨rfl, T11.out.below⟩
end
end Go.Proofs.Ytamhlapeihcchaa

namespace Go.Proofs.Ytamhlapeihcchaa
open Go Go.RowKit

section
variable {Rep : (Nat → Prop) → World → Nat → List Nd → Prop}
set_option maxHeartbeats 8000000 in
set_option maxRecDepth 100000 in
theorem shadeWhole_any (O : ForestOk Rep) (M : ForestMore Rep) (A : Option Addr) (n c : Nat) (xs : List Ac) (a a2 a3 : Int) (w : World) (hn : xs.length = n) (hm : n ≤ maxLen) (h : Acts w A xs) :
    Calls Try.prog 6 #[.slice A n c, .int .i64 a, .int .i64 a2, .int .i64 a3] w fun e w' => e = .returned (.bool true) ∧ Below w.heap.size w w' := by
  have hnot : ∀ (x : Bool) (w : World), (Op.unary .not (.bool x)).run Try.prog w = .ok (.bool (!x)) w := fun _ _ => rfl
  have H := Lib.hid h
  have Hn := Lib.hid hn
  have Hm := Lib.hid hm
  clear h hn hm
  go_enter Try.func6, Try.ntmps6
  go_wp2_with fail
  refine (awake8_any O M w).mono ?_
  rintro e w0 ⟨rfl, hb0⟩
  go_wp2_with fail
  refine (great_any A n c xs w0 Hn.out Hm.out (H.out.below hb0)).mono ?_
  rintro e w1 ⟨⟨gr, rfl, hgr⟩, rfl⟩
  cases gr with
  | true =>
    go_wp2
    go_ret
    exact ⟨rfl, hb0⟩
  | false =>
    have Hs := Lib.hid (hgr rfl)
    have Hb0 := Lib.hid hb0
    clear hgr hb0
    go_wp2_with fail
    refine (built_any O A n c xs w0 Hn.out (H.out.below Hb0.out) Hs.out).mono ?_
    rintro e w1 ⟨b, rfl, hR, hb1⟩
    have Hg := Lib.hid (good_forest Hs.out)
    obtain ⟨l, hl⟩ : ∃ l, l = forest xs := ⟨_, rfl⟩
    rw [← hl] at hR Hg
    have hO1 : One Rep w b l w1 := ⟨O.wide hR (S' := fun _ => True) fun _ _ _ => trivial, Hb0.out.trans (hb1.mono Hb0.out.size)⟩
    have T1 := Lib.hid hO1
    clear hR hb1 hO1 Hb0 hl Hs H Hn
    cases ht : thereB l a with
    | false =>
      have E1 := Lib.hid (whole_no ht)
      have e2 : hasB (over l a2) a = false := hasB_no fun hx => by rw [over_in hx] at ht; cases ht
      have e3 : hasB (over l a) a2 = false := by rw [over_none ht]; rfl
      have E2 := Lib.hid e2
      have E3 := Lib.hid e3
      have Ht := Lib.hid ht
      clear ht e2 e3
      go_wp2_with fail
      refine (nodeNo M T1.out.rep Hg.out Ht.out).mono ?_
      rintro e w2 ⟨A2, c2, rfl, -, hb2⟩
      have T2 := Lib.hid (T1.out.next O (hb2.alloc hb2.size (.cells #[.int .i64 0, .int .i64 0, .int .i64 0, .int .i64 0, .int .i64 0, .bool false, .string ⟨#[]⟩, .string ⟨#[]⟩, .slice A2 0 c2] 46)))
      clear hb2 T1
      go_wp2_with fail
      refine (shWhole O M a T2.out.rep Hg.out).mono ?_
      rintro e w3 ⟨rfl, hb3⟩
      rw [E1.out]
      have T3 := Lib.hid (T2.out.next O hb3)
      clear hb3 T2
      go_wp2_with fail
      refine (shHolds O M a a2 T3.out.rep Hg.out).mono ?_
      rintro e w4 ⟨rfl, hb4⟩
      rw [E2.out]
      have T4 := Lib.hid (T3.out.next O hb4)
      clear hb4 T3
      go_wp2_with fail
      refine (shHolds O M a2 a T4.out.rep Hg.out).mono ?_
      rintro e w5 ⟨rfl, hb5⟩
      rw [E3.out]
      have T5 := Lib.hid (T4.out.next O hb5)
      clear hb5 T4
      go_wp2
      go_ret
      exact ⟨rfl, T5.out.below⟩
    | true =>
      have hm := whole_mem Hg.out.tree ht
      have E1 := Lib.hid (whole_own Hg.out.tree ht)
      have E2 := Lib.hid (hasB_yes hm)
      have E3 := Lib.hid (hasB_yes (over_self Hg.out.tree ht))
      have e4 : wholeL l a ≠ 0 := there_pos (over_in hm)
      have e5 : hasB (over l a2) a = true → hasB (over l a3) a2 = true → hasB (over l a3) a = true := fun h1 h2 => hasB_yes (over_trans Hg.out.tree (hasB_mem h2) (hasB_mem h1))
      have e6 : hasB (over l a2) a = true → hasB (over l a) a2 = true → a = a2 := fun h1 h2 => over_both Hg.out.tree (hasB_mem h1) (hasB_mem h2)
      have E5 := Lib.hid e5
      have E6 := Lib.hid e6
      have Ht := Lib.hid ht
      clear ht hm e5 e6
      go_wp2_with fail
      refine (nodeYes M T1.out.rep Hg.out Ht.out).mono ?_
      rintro e w2 ⟨A2, c2, rfl, -, hb2⟩
      obtain ⟨d2, hd2⟩ : ∃ d, d = nd l a := ⟨_, rfl⟩
      rw [← hd2]
      have T2 := Lib.hid (T1.out.next O (hb2.alloc hb2.size (.cells #[.int .i64 d2.kind, .int .i64 d2.parent, .int .i64 d2.host, .int .i64 d2.shadow, .int .i64 d2.mode, .bool d2.slot, .string d2.name, .string d2.want, .slice A2 d2.kids.length c2] 46)))
      clear hb2 T1 hd2
      go_wp2_with fail
      refine (shWhole O M a T2.out.rep Hg.out).mono ?_
      rintro e w3 ⟨rfl, hb3⟩
      have T3 := Lib.hid (T2.out.next O hb3)
      clear hb3 T2
      obtain ⟨u, hu⟩ : ∃ u, u = wholeL l a := ⟨_, rfl⟩
      rw [← hu] at E1 E2 e4
      rw [← hu]
      have z0 : (u != 0) = true := by simpa using e4
      clear hu e4
      go_wp2_with fail
      refine (shWhole O M u T3.out.rep Hg.out).mono ?_
      rintro e w4 ⟨rfl, hb4⟩
      rw [E1.out]
      have T4 := Lib.hid (T3.out.next O hb4)
      clear hb4 T3
      go_wp2_with fail
      refine (shHolds O M u a T4.out.rep Hg.out).mono ?_
      rintro e w5 ⟨rfl, hb5⟩
      rw [E2.out]
      have T5 := Lib.hid (T4.out.next O hb5)
      clear hb5 T4
      go_wp2_with fail
      refine (shHolds O M a a T5.out.rep Hg.out).mono ?_
      rintro e w6 ⟨rfl, hb6⟩
      rw [E3.out]
      have T6 := Lib.hid (T5.out.next O hb6)
      clear hb6 T5
      go_wp2_with fail
      refine (shHolds O M a a2 T6.out.rep Hg.out).mono ?_
      rintro e w7 ⟨rfl, hb7⟩
      have T7 := Lib.hid (T6.out.next O hb7)
      clear hb7 T6
      cases hp : hasB (over l a2) a with
      | false =>
        have Hp := Lib.hid hp
        clear hp
        go_wp2_with fail
        refine (shHolds O M a a2 T7.out.rep Hg.out).mono ?_
        rintro e w8 ⟨rfl, hb8⟩
        rw [Hp.out]
        have T8 := Lib.hid (T7.out.next O hb8)
        clear hb8 T7
        go_wp2
        go_ret
        exact ⟨rfl, T8.out.below⟩
      | true =>
        have Hp := Lib.hid hp
        have F5 := Lib.hid (E5.out hp)
        have F6 := Lib.hid (E6.out hp)
        clear hp E5 E6
        go_wp2_with fail
        refine (shHolds O M a2 a3 T7.out.rep Hg.out).mono ?_
        rintro e w8 ⟨rfl, hb8⟩
        have T8 := Lib.hid (T7.out.next O hb8)
        clear hb8 T7
        cases hq : hasB (over l a3) a2 with
        | false =>
          clear hq
          go_wp2_with fail
          refine (shHolds O M a a2 T8.out.rep Hg.out).mono ?_
          rintro e w9 ⟨rfl, hb9⟩
          rw [Hp.out]
          have T9 := Lib.hid (T8.out.next O hb9)
          clear hb9 T8
          go_wp2_with fail
          refine (shHolds O M a2 a T9.out.rep Hg.out).mono ?_
          rintro e w10 ⟨rfl, hb10⟩
          have T10 := Lib.hid (T9.out.next O hb10)
          clear hb10 T9
          cases hr : hasB (over l a) a2 with
          | false =>
            clear hr
            go_wp2
            go_ret
            exact ⟨rfl, T10.out.below⟩
          | true =>
            have he := F6.out hr
            clear hr
            have ze : (a == a2) = true := by simpa using he
            clear he
            go_wp2
            go_ret
            exact ⟨rfl, T10.out.below⟩
        | true =>
          have F7 := Lib.hid (F5.out hq)
          clear hq
          go_wp2_with fail
          refine (shHolds O M a a3 T8.out.rep Hg.out).mono ?_
          rintro e w9 ⟨rfl, hb9⟩
          rw [F7.out]
          have T9 := Lib.hid (T8.out.next O hb9)
          clear hb9 T8
          go_wp2_with fail
          refine (shHolds O M a a2 T9.out.rep Hg.out).mono ?_
          rintro e w10 ⟨rfl, hb10⟩
          rw [Hp.out]
          have T10 := Lib.hid (T9.out.next O hb10)
          clear hb10 T9
          go_wp2_with fail
          refine (shHolds O M a2 a T10.out.rep Hg.out).mono ?_
          rintro e w11 ⟨rfl, hb11⟩
          have T11 := Lib.hid (T10.out.next O hb11)
          clear hb11 T10
          cases hr : hasB (over l a) a2 with
          | false =>
            clear hr
            go_wp2
            go_ret
            exact ⟨rfl, T11.out.below⟩
          | true =>
            have he := F6.out hr
            clear hr
            have ze : (a == a2) = true := by simpa using he
            clear he
            go_wp2
            go_ret
            exact ⟨rfl, T11.out.below⟩
end
end Go.Proofs.Ytamhlapeihcchaa

namespace Go.Proofs.Ytamhlapeihcchaa
open Go Go.RowKit

section
variable {Rep : (Nat → Prop) → World → Nat → List Nd → Prop}
set_option maxHeartbeats 8000000 in
set_option maxRecDepth 100000 in
theorem shadeHidden_any (O : ForestOk Rep) (M : ForestMore Rep) (A : Option Addr) (n c : Nat) (xs : List Ac) (a a2 : Int) (w : World) (hn : xs.length = n) (hm : n ≤ maxLen) (h : Acts w A xs) :
    Calls Try.prog 5 #[.slice A n c, .int .i64 a, .int .i64 a2] w fun e w' => e = .returned (.bool true) ∧ Below w.heap.size w w' := by
  have hnot : ∀ (x : Bool) (w : World), (Op.unary .not (.bool x)).run Try.prog w = .ok (.bool (!x)) w := fun _ _ => rfl
  have H := Lib.hid h
  have Hn := Lib.hid hn
  have Hm := Lib.hid hm
  clear h hn hm
  go_enter Try.func5, Try.ntmps5
  go_wp2_with fail
  refine (awake8_any O M w).mono ?_
  rintro e w0 ⟨rfl, hb0⟩
  go_wp2_with fail
  refine (great_any A n c xs w0 Hn.out Hm.out (H.out.below hb0)).mono ?_
  rintro e w1 ⟨⟨gr, rfl, hgr⟩, rfl⟩
  cases gr with
  | true =>
    go_wp2
    go_ret
    exact ⟨rfl, hb0⟩
  | false =>
    have Hs := Lib.hid (hgr rfl)
    have Hb0 := Lib.hid hb0
    clear hgr hb0
    go_wp2_with fail
    refine (built_any O A n c xs w0 Hn.out (H.out.below Hb0.out) Hs.out).mono ?_
    rintro e w1 ⟨b, rfl, hR, hb1⟩
    have Hg := Lib.hid (good_forest Hs.out)
    obtain ⟨l, hl⟩ : ∃ l, l = forest xs := ⟨_, rfl⟩
    rw [← hl] at hR Hg
    have hO1 : One Rep w b l w1 := ⟨O.wide hR (S' := fun _ => True) fun _ _ _ => trivial, Hb0.out.trans (hb1.mono Hb0.out.size)⟩
    have T1 := Lib.hid hO1
    clear hR hb1 hO1 Hb0 hl Hs H Hn
    cases ht : thereB l a with
    | false =>
      have E1 := Lib.hid (hid_noA (b := a2) ht)
      have Ht := Lib.hid ht
      clear ht
      go_wp2_with fail
      refine (nodeNo M T1.out.rep Hg.out Ht.out).mono ?_
      rintro e w2 ⟨A2, c2, rfl, -, hb2⟩
      have T2 := Lib.hid (T1.out.next O (hb2.alloc hb2.size (.cells #[.int .i64 0, .int .i64 0, .int .i64 0, .int .i64 0, .int .i64 0, .bool false, .string ⟨#[]⟩, .string ⟨#[]⟩, .slice A2 0 c2] 46)))
      clear hb2 T1
      go_wp2_with fail
      refine (shHidden O M a a2 T2.out.rep Hg.out).mono ?_
      rintro e w3 ⟨rfl, hb3⟩
      rw [E1.out]
      have T3 := Lib.hid (T2.out.next O hb3)
      clear hb3 T2
      go_wp2
      go_ret
      exact ⟨rfl, T3.out.below⟩
    | true =>
      have Ht := Lib.hid ht
      clear ht
      go_wp2_with fail
      refine (nodeYes M T1.out.rep Hg.out Ht.out).mono ?_
      rintro e w2 ⟨A2, c2, rfl, -, hb2⟩
      obtain ⟨d2, hd2⟩ : ∃ d, d = nd l a := ⟨_, rfl⟩
      rw [← hd2]
      have T2 := Lib.hid (T1.out.next O (hb2.alloc hb2.size (.cells #[.int .i64 d2.kind, .int .i64 d2.parent, .int .i64 d2.host, .int .i64 d2.shadow, .int .i64 d2.mode, .bool d2.slot, .string d2.name, .string d2.want, .slice A2 d2.kids.length c2] 46)))
      clear hb2 T1 hd2
      cases ht2 : thereB l a2 with
      | false =>
        have E1 := Lib.hid (hid_noB (a := a) ht2)
        have Ht2 := Lib.hid ht2
        clear ht2
        go_wp2_with fail
        refine (nodeNo M T2.out.rep Hg.out Ht2.out).mono ?_
        rintro e w3 ⟨A3, c3, rfl, -, hb3⟩
        have T3 := Lib.hid (T2.out.next O (hb3.alloc hb3.size (.cells #[.int .i64 0, .int .i64 0, .int .i64 0, .int .i64 0, .int .i64 0, .bool false, .string ⟨#[]⟩, .string ⟨#[]⟩, .slice A3 0 c3] 46)))
        clear hb3 T2
        go_wp2_with fail
        refine (shHidden O M a a2 T3.out.rep Hg.out).mono ?_
        rintro e w4 ⟨rfl, hb4⟩
        rw [E1.out]
        have T4 := Lib.hid (T3.out.next O hb4)
        clear hb4 T3
        go_wp2
        go_ret
        exact ⟨rfl, T4.out.below⟩
      | true =>
        have Ht2 := Lib.hid ht2
        clear ht2
        go_wp2_with fail
        refine (nodeYes M T2.out.rep Hg.out Ht2.out).mono ?_
        rintro e w3 ⟨A3, c3, rfl, -, hb3⟩
        obtain ⟨d3, hd3⟩ : ∃ d, d = nd l a2 := ⟨_, rfl⟩
        rw [← hd3]
        have T3 := Lib.hid (T2.out.next O (hb3.alloc hb3.size (.cells #[.int .i64 d3.kind, .int .i64 d3.parent, .int .i64 d3.host, .int .i64 d3.shadow, .int .i64 d3.mode, .bool d3.slot, .string d3.name, .string d3.want, .slice A3 d3.kids.length c3] 46)))
        clear hb3 T2 hd3
        go_wp2_with fail
        refine (shClosed O M a T3.out.rep Hg.out).mono ?_
        rintro e w4 ⟨v4, rfl, hP4, hb4⟩
        obtain ⟨A4, c4, rfl, hL4⟩ := hP4.form
        have T4 := Lib.hid (T3.out.next O hb4)
        have HL := Lib.hid hL4
        have hcl : (clsL l a).length ≤ 128 := Nat.le_trans (clsL_len l a) Hg.out.len
        have e1 : hidL l a a2 = true → someOut l a2 (clsL l a) = true := hid_some
        have e2 : hasB (over l a2) (rootL l a) = true → hidL l a a2 = false := fun h => hid_held Hg.out.tree (hasB_mem h)
        have E1 := Lib.hid e1
        have E2 := Lib.hid e2
        have E3 := Lib.hid (hid_self (a := a) Hg.out.tree)
        obtain ⟨cs, hcs⟩ : ∃ cs, cs = clsL l a := ⟨_, rfl⟩
        rw [← hcs] at HL hcl E1
        rw [← hcs]
        obtain ⟨k, hk⟩ : ∃ k, k = cs.length := ⟨_, rfl⟩
        rw [← hk] at hcl
        rw [← hk]
        have Hk := Lib.hid hk
        clear hP4 hb4 hL4 T3 e1 e2 hcs hk
        go_wp2_with fail
        go_loopw [12, 14] (fun s i wr => ∃ j : Nat, i = .int .i64 j ∧ j ≤ k ∧ s = .bool (someOut l a2 (cs.take j)) ∧ Below w4.heap.size w4 wr) (fun _ i _ => k - (intOf i).toNat)
        case atStart => exact ⟨0, rfl, Nat.zero_le _, rfl, Below.refl _ _⟩
        case round =>
          obtain ⟨j, rfl, hj, rfl, hb⟩ := hrel
          by_cases hjk : (j : Int) < k
          · have hjl : j < cs.length := by rw [← Hk.out]; omega
            obtain ⟨b', off, rfl, hB, hc0⟩ := HL.out.nums j hjl
            have hc : wr.cell? ⟨b', off + j, none⟩ = some (.int .i64 cs[j]) := (hb.cell (p := ⟨b', off + j, none⟩) hB).trans hc0
            have hst := someOut_step (l := l) (b := a2) hjl
            obtain ⟨y, hy⟩ : ∃ y, y = cs[j] := ⟨_, rfl⟩
            rw [← hy] at hc hst
            obtain ⟨q, hq⟩ : ∃ q, q = someOut l a2 (cs.take j) := ⟨_, rfl⟩
            rw [← hq] at hst
            rw [← hq]
            have Hst := Lib.hid hst
            have Hb := Lib.hid hb
            clear hst hq hy hc0 hB hjl hb
            cases q with
            | true =>
              have e5 : someOut l a2 (cs.take (j + 1)) = true := by rw [Hst.out]; rfl
              have E5 := Lib.hid e5
              clear e5 Hst
              go_wp2
              go_roundw
              case rel => exact ⟨j + 1, by go_num, by omega, by rw [E5.out], Hb.out⟩
              case measure => simp [intOf]; omega
            | false =>
              have Trr := Lib.hid (T4.out.next O Hb.out)
              go_wp2_with fail
              refine (shHolds O M y a2 Trr.out.rep Hg.out).mono ?_
              rintro e w5 ⟨rfl, hb5⟩
              have e5 : someOut l a2 (cs.take (j + 1)) = !hasB (over l a2) y := by rw [Hst.out]; rfl
              have E5 := Lib.hid e5
              have HB5 := Lib.hid (Hb.out.trans (hb5.mono Hb.out.size))
              clear e5 Hst hb5 Trr
              go_wp2
              go_roundw
              case rel => exact ⟨j + 1, by go_num, by omega, by rw [E5.out], HB5.out⟩
              case measure => simp [intOf]; omega
          · have he : someOut l a2 (cs.take j) = someOut l a2 cs := by rw [List.take_of_length_le (by rw [← Hk.out]; omega)]
            rw [he]
            obtain ⟨q, hq⟩ : ∃ q, q = someOut l a2 cs := ⟨_, rfl⟩
            rw [← hq] at E1
            rw [← hq]
            have T5 := Lib.hid (T4.out.next O hb)
            clear he hq hb T4 HL
            go_wp2_with fail
            refine (shHidden O M a a2 T5.out.rep Hg.out).mono ?_
            rintro e w6 ⟨rfl, hb6⟩
            have T6 := Lib.hid (T5.out.next O hb6)
            clear hb6 T5
            cases hx : hidL l a a2 with
            | true =>
              have HX := Lib.hid hx
              obtain rfl : q = true := E1.out hx
              clear hx E1
              go_wp2_with fail
              refine (shHidden O M a a T6.out.rep Hg.out).mono ?_
              rintro e w7 ⟨rfl, hb7⟩
              rw [E3.out]
              have T7 := Lib.hid (T6.out.next O hb7)
              clear hb7 T6
              go_wp2_with fail
              refine (kinRoot O M a T7.out.rep Hg.out).mono ?_
              rintro e w8 ⟨rfl, hb8⟩
              have T8 := Lib.hid (T7.out.next O hb8)
              clear hb8 T7
              go_wp2_with fail
              refine (shHolds O M (rootL l a) a2 T8.out.rep Hg.out).mono ?_
              rintro e w9 ⟨rfl, hb9⟩
              have T9 := Lib.hid (T8.out.next O hb9)
              clear hb9 T8
              cases hz : hasB (over l a2) (rootL l a) with
              | false =>
                clear hz
                go_wp2
                go_ret
                exact ⟨rfl, T9.out.below⟩
              | true =>
                have := E2.out hz
                rw [HX.out] at this
                cases this
            | false =>
              have HX := Lib.hid hx
              clear hx E1
              cases q with
              | false =>
                go_wp2_with fail
                refine (shHidden O M a a T6.out.rep Hg.out).mono ?_
                rintro e w7 ⟨rfl, hb7⟩
                rw [E3.out]
                have T7 := Lib.hid (T6.out.next O hb7)
                clear hb7 T6
                go_wp2_with fail
                refine (kinRoot O M a T7.out.rep Hg.out).mono ?_
                rintro e w8 ⟨rfl, hb8⟩
                have T8 := Lib.hid (T7.out.next O hb8)
                clear hb8 T7
                go_wp2_with fail
                refine (shHolds O M (rootL l a) a2 T8.out.rep Hg.out).mono ?_
                rintro e w9 ⟨rfl, hb9⟩
                have T9 := Lib.hid (T8.out.next O hb9)
                clear hb9 T8
                cases hz : hasB (over l a2) (rootL l a) with
                | false =>
                  clear hz
                  go_wp2
                  go_ret
                  exact ⟨rfl, T9.out.below⟩
                | true =>
                  clear hz
                  go_wp2_with fail
                  refine (shHidden O M a a2 T9.out.rep Hg.out).mono ?_
                  rintro e w10 ⟨rfl, hb10⟩
                  rw [HX.out]
                  have T10 := Lib.hid (T9.out.next O hb10)
                  clear hb10 T9
                  go_wp2
                  go_ret
                  exact ⟨rfl, T10.out.below⟩
              | true =>
                go_wp2_with fail
                refine (shHidden O M a a2 T6.out.rep Hg.out).mono ?_
                rintro e w7 ⟨rfl, hb7⟩
                rw [HX.out]
                have T7 := Lib.hid (T6.out.next O hb7)
                clear hb7 T6
                go_wp2_with fail
                refine (shHidden O M a a T7.out.rep Hg.out).mono ?_
                rintro e w8 ⟨rfl, hb8⟩
                rw [E3.out]
                have T8 := Lib.hid (T7.out.next O hb8)
                clear hb8 T7
                go_wp2_with fail
                refine (kinRoot O M a T8.out.rep Hg.out).mono ?_
                rintro e w9 ⟨rfl, hb9⟩
                have T9 := Lib.hid (T8.out.next O hb9)
                clear hb9 T8
                go_wp2_with fail
                refine (shHolds O M (rootL l a) a2 T9.out.rep Hg.out).mono ?_
                rintro e w10 ⟨rfl, hb10⟩
                have T10 := Lib.hid (T9.out.next O hb10)
                clear hb10 T9
                cases hz : hasB (over l a2) (rootL l a) with
                | false =>
                  clear hz
                  go_wp2
                  go_ret
                  exact ⟨rfl, T10.out.below⟩
                | true =>
                  clear hz
                  go_wp2_with fail
                  refine (shHidden O M a a2 T10.out.rep Hg.out).mono ?_
                  rintro e w11 ⟨rfl, hb11⟩
                  rw [HX.out]
                  have T11 := Lib.hid (T10.out.next O hb11)
                  clear hb11 T10
                  go_wp2
                  go_ret
                  exact ⟨rfl, T11.out.below⟩
end
end Go.Proofs.Ytamhlapeihcchaa

namespace Go.Proofs.Ytamhlapeihcchaa
open Go Go.RowKit
theorem shadeAttaches_here (A : Option Addr) (n c : Nat) (xs : List Ac) (a1 a2 : Int) (w : World) (hn : xs.length = n) (hm : n ≤ maxLen) (h : Acts w A xs) :
    Calls Try.prog 3 #[.slice A n c, .int .i64 a1, .int .i64 a2] w fun e w' => e = .returned (.bool true) ∧ Below w.heap.size w w' := shadeAttaches_any arOk arMore A n c xs a1 a2 w hn hm h
theorem shadeTells_here (A : Option Addr) (n c : Nat) (xs : List Ac) (a1 a2 : Int) (w : World) (hn : xs.length = n) (hm : n ≤ maxLen) (h : Acts w A xs) :
    Calls Try.prog 4 #[.slice A n c, .int .i64 a1, .int .i64 a2] w fun e w' => e = .returned (.bool true) ∧ Below w.heap.size w w' := shadeTells_any arOk arMore A n c xs a1 a2 w hn hm h
theorem shadeHidden_here (A : Option Addr) (n c : Nat) (xs : List Ac) (a1 a2 : Int) (w : World) (hn : xs.length = n) (hm : n ≤ maxLen) (h : Acts w A xs) :
    Calls Try.prog 5 #[.slice A n c, .int .i64 a1, .int .i64 a2] w fun e w' => e = .returned (.bool true) ∧ Below w.heap.size w w' := shadeHidden_any arOk arMore A n c xs a1 a2 w hn hm h
theorem shadeWhole_here (A : Option Addr) (n c : Nat) (xs : List Ac) (a1 a2 a3 : Int) (w : World) (hn : xs.length = n) (hm : n ≤ maxLen) (h : Acts w A xs) :
    Calls Try.prog 6 #[.slice A n c, .int .i64 a1, .int .i64 a2, .int .i64 a3] w fun e w' => e = .returned (.bool true) ∧ Below w.heap.size w w' := shadeWhole_any arOk arMore A n c xs a1 a2 a3 w hn hm h
end Go.Proofs.Ytamhlapeihcchaa

namespace Go.Proofs.Ytamhlapeihcchaa
open Go.ChangeShapes Go.WideShapes Go.ChangeAt Go.RowKit

theorem own : ownKnob Try.prog.godebug = none := by kernel_rfl
theorem laidOut : laidOutB Try.prog = true := by kernel_rfl
theorem ib {a : Int} (h : (Lit.int .i64 a).wf = true) : -9223372036854775808 ≤ a ∧ a ≤ 9223372036854775807 := by
  have h1 : IntKind.i64.min = -9223372036854775808 := rfl
  have h2 : IntKind.i64.max = 9223372036854775807 := rfl
  simp only [Lit.wf, Bool.and_eq_true, decide_eq_true_eq, h1, h2] at h
  exact h
theorem ib8 {a : Int} (h : (Lit.int .u8 a).wf = true) : 0 ≤ a ∧ a ≤ 255 := by
  have h1 : IntKind.u8.min = 0 := rfl
  have h2 : IntKind.u8.max = 255 := rfl
  simp only [Lit.wf, Bool.and_eq_true, decide_eq_true_eq, h1, h2] at h
  exact h
theorem ib16 {a : Int} (h : (Lit.int .u16 a).wf = true) : 0 ≤ a ∧ a ≤ 65535 := by
  have h1 : IntKind.u16.min = 0 := rfl
  have h2 : IntKind.u16.max = 65535 := rfl
  simp only [Lit.wf, Bool.and_eq_true, decide_eq_true_eq, h1, h2] at h
  exact h
end Go.Proofs.Ytamhlapeihcchaa

namespace Go.Proofs.Ytamhlapeihcchaa
open Go.ChangeShapes Go.WideShapes Go.ChangeAt Go.RowKit
open Go.ChangeMaps (open_string shut_string)

set_option maxRecDepth 100000 in
theorem shadeWhole_lifted (os : Os) (started : os.Started) (H : Type) (enc : TypeId × Value → H) :
    ReturnsInHanded {} Try.checked os 6 .any (Rows.shadeWholeSpec.pre6 enc Try.prog Try.f6 Rows.shadeWholeRow.domain false) (Rows.shadeWholeSpec.post enc Try.prog Try.f6 false true false false) := by
  refine returnsInHanded_of_change (C := Try.checked) own started (by kernel_rfl) Try.func6
    (ChangeSpec.witness6 (enc := enc) (C := Try.checked) false ⟨#[], #[.slice none 0 0, .int .i64 0, .int .i64 0, .int .i64 0], []⟩ 8 (by kernel_rfl) (by kernel_rfl) (by kernel_rfl) (by kernel_rfl)) ?_
  intro W base args ds gs before hval0 hW hcnd _
  have hval : ∀ (j : Nat) t v, Try.f6.params[j]? = some t → args[j]? = some v → Value.okWide Try.prog W .any base t v := hval0
  clear hval0 hcnd
  have hW' := hW
  obtain ⟨p, q, hA0, hV, rfl, hfz, hnd⟩ := hW
  have hA : DataW.TrodAll enc Try.prog W 0 (fun _ => true) true Try.f6.params.toList args.toList ds p := hA0
  rw [Try.params6] at hA hval
  obtain ⟨v0, vs0, d0, ds0, p0, q0, hargs, rfl, rfl, h0, r0⟩ := trodAll_cons hA
  obtain ⟨v1, vs1, d1, ds1, p1, q1, rfl, rfl, rfl, h1, r1⟩ := trodAll_cons r0
  obtain ⟨v2, vs2, d2, ds2, p2, q2, rfl, rfl, rfl, h2, r2⟩ := trodAll_cons r1
  obtain ⟨v3, vs3, d3, ds3, p3, q3, rfl, rfl, rfl, h3, r3⟩ := trodAll_cons r2
  obtain ⟨rfl, rfl, rfl⟩ := trodAll_nil r3
  obtain rfl : args = #[v0, v1, v2, v3] := by cases args; simp_all
  obtain ⟨rfl, rfl⟩ := trodVars_none hV
  obtain ⟨A0, n0, c0, rfl⟩ := okWide_slice Try.underlying22 (hval 0 22 v0 rfl rfl)
  have k0 := h0
  have lt0 : ∀ x ∈ p0, x.block < W.heap.size := by obtain ⟨m, hm⟩ := k0; exact DataW.trod_lt m _ _ _ hm
  obtain ⟨x0, l0, y0, z0, q0x⟩ : ∃ xs : List Ac, xs.length = n0 ∧ Acts W A0 xs ∧ n0 ≤ c0 ∧ n0 ≤ maxLen := by
    obtain ⟨fuel, hf⟩ := h0
    exact acts_in hf
  obtain ⟨a1, rfl, rfl, rfl, w1⟩ := open_int Try.underlying3 (hval 1 3 v1 rfl rfl) h1
  obtain ⟨a2, rfl, rfl, rfl, w2⟩ := open_int Try.underlying3 (hval 2 3 v2 rfl rfl) h2
  obtain ⟨a3, rfl, rfl, rfl, w3⟩ := open_int Try.underlying3 (hval 3 3 v3 rfl rfl) h3
  clear hA0
  refine (shadeWhole_here A0 n0 c0 x0 a1 a2 a3 W l0 q0x y0).mono fun e W' ⟨he, bel⟩ => ?_
  subst he
  exact ⟨_, rfl, _, _, _, [], _, [], hW', trodAll_mk1 (shut_bool Try.underlying4 _), (trodAll_cons_mk (Below.trod laidOut (by kernel_rfl) (of_decide_eq_true (by kernel_rfl)) k0 bel lt0) (trodAll_cons_mk (shut_int Try.underlying3 w1) (trodAll_cons_mk (shut_int Try.underlying3 w2) (trodAll_cons_mk (shut_int Try.underlying3 w3) trodAll_mk0)))), rfl, bel.frame _, fun h => by cases h⟩

theorem shadeWhole_holds : Rows.ShadeWholeSaid :=
  OpenClaim.holds_of_wide 6 Try.f6 rfl rfl rfl rfl rfl rfl rfl ⟨rfl, rfl, rfl, rfl, rfl⟩ rfl rfl rfl rfl rfl (by kernel_rfl) Try.func6 (by kernel_rfl)
    (of_decide_eq_true (by kernel_rfl)) (by unfold Func.isWrapper; rw [if_neg (by decide +kernel)]; exact ⟨rfl, rfl⟩)
    (fun os started H enc _ => shadeWhole_lifted os started H enc)
end Go.Proofs.Ytamhlapeihcchaa
