/-
  What hasEachOnce and mayPut of package arena do.
-/
import Derived.Test.YtkafaceanlkjjaaArf
namespace Go.Proofs.Ytkafaceanlkjjaa
open Go Go.RowKit

/-- All kids are there, each once. -/
def eachB (l : List Nd) (kids : List Int) : Bool := decide (∀ i, i < kids.length → kidIn l kids i = true)
/-- The numbers that were seen. -/
def Seen (w : World) (g : Nat) (xs : List Int) : Prop := ∃ cs : Array Value, Has w g (.cells cs 75 (0, 0)) ∧ ∀ k : Nat, k < 129 → cs[k]? = some (.bool (hasB xs (k : Int)))

section
variable {S : Nat → Prop} {w w' : World} {b g : Nat} {l : List Nd} {kids xs : List Int}
theorem Seen.cell_ (h : Seen w g xs) {k : Nat} (hk : k < 129) : w.cell? ⟨g, k, none⟩ = some (.bool (hasB xs (k : Int))) ∧ w.frozen? ⟨g, k, none⟩ = false := by
  obtain ⟨cs, hh, hc⟩ := h
  exact ⟨(hh.cell k).trans (hc k hk), hh.free k⟩
theorem Seen.below (h : Seen w g xs) (hb : Below w.heap.size w w') : Seen w' g xs := by
  obtain ⟨cs, hh, hc⟩ := h
  exact ⟨cs, hh.below hb hh.inside, hc⟩
theorem Seen.mark (h : Seen w g xs) {k : Nat} : Seen (w.setCell ⟨g, k, none⟩ (.bool true)) g (xs ++ [(k : Int)]) := by
  obtain ⟨cs, hh, hc⟩ := h
  refine ⟨_, hh.stored k (.bool true), fun i hi => ?_⟩
  have hci := hc i hi
  obtain ⟨hlt, -⟩ := Array.getElem?_eq_some_iff.1 hci
  rw [Array.getElem?_setIfInBounds]
  by_cases e : k = i
  · subst e
    rw [if_pos rfl, if_pos hlt]
    simp [hasB]
  · rw [if_neg e, hci]
    have : ¬ ((i : Int) = (k : Int)) := fun h => e (by omega)
    simp [hasB, this]
end

def no129 : Array Value := Array.replicate 129 (.bool false)
theorem zero129 (w : World) : (zeroValue 75).run Try.prog w = .ok (.agg no129) w := by kernel_rfl
theorem seen_new (w : World) : Seen (w.alloc (.cells no129 75)) w.heap.size [] := by
  refine ⟨no129, Has.fresh _ _, fun k hk => ?_⟩
  rw [no129, Array.getElem?_replicate, if_pos hk]
  rfl

section
variable {S : Nat → Prop} {w : World} {b : Nat} {l : List Nd} {kids : List Int}
set_option maxHeartbeats 4000000 in
set_option maxRecDepth 100000 in
theorem arEach (h : Frst S w b l) (hl : l.length ≤ 128) (A : Option Addr) (c : Nat) (hL : ListIn w A c kids) (hk : kids.length ≤ 200) {x : Bool} (hx : eachB l kids = x) :
    Calls Try.prog 43 #[.pointer (some ⟨b, 0, none⟩), .slice A kids.length c] w fun e w' => e = .returned (.bool x) ∧ Below w.heap.size w w' := by
  have H := Lib.hid h
  have HL := Lib.hid hL
  have Hx := Lib.hid hx
  obtain ⟨n, hn⟩ : ∃ n, n = kids.length := ⟨_, rfl⟩
  have Hn := Lib.hid hn
  rw [← hn]
  rw [← hn] at hk
  clear h hL hx hn
  go_enter Try.func43, Try.ntmps43
  go_wp2_with fail
  simp only [zero129, Result.andThen]
  rw [Oper.upon_value]
  have hs1 := seen_new w
  have hb1 : Below w.heap.size w (w.alloc (.cells no129 75)) := (Below.refl _ w).alloc (Nat.le_refl _) _
  obtain ⟨w1, hw1⟩ : ∃ w1, w1 = w.alloc (.cells no129 75) := ⟨_, rfl⟩
  rw [← hw1] at hs1 hb1
  rw [← hw1]
  have Hs1 := Lib.hid hs1
  clear hs1 hw1
  go_wp2_with fail
  go_loopw [10] (fun i wr => ∃ j : Nat, i = .int .i64 j ∧ j ≤ n ∧ (∀ i, i < j → kidIn l kids i = true) ∧ Seen wr w.heap.size (kids.take j) ∧ Below w.heap.size w wr) (fun i _ => n - (intOf i).toNat)
  case atStart => exact ⟨0, rfl, Nat.zero_le _, fun i hi => absurd hi (Nat.not_lt_zero i), Hs1.out, hb1⟩
  case round =>
    obtain ⟨j, rfl, hj, hall, hsn, hb⟩ := hrel
    have Hall := Lib.hid hall
    have Hsn := Lib.hid hsn
    clear hall hsn Hs1 hb1
    by_cases hjn : (j : Int) < n
    · have hjk : j < kids.length := by rw [← Hn.out]; omega
      obtain ⟨b', off, rfl, hB, hc⟩ := (HL.out.below hb).nums j hjk
      obtain ⟨y, hy⟩ : ∃ y, y = kids[j] := ⟨_, rfl⟩
      rw [← hy] at hc
      have hgy : kids.getD j 0 = y := by rw [List.getD_eq_getElem?_getD, List.getElem?_eq_getElem hjk, hy]; rfl
      have hin : kidIn l kids j = (thereB l y && !hasB (kids.take j) y) := by unfold kidIn; rw [hgy]
      have htk : kids.take (j + 1) = kids.take j ++ [y] := by rw [List.take_add_one, List.getElem?_eq_getElem hjk, ← hy]; rfl
      have hR := H.out.below hb
      have Hin := Lib.hid hin
      have Htk := Lib.hid htk
      have hbad : kidIn l kids j = false → x = false := fun hf => by
        rw [← Hx.out]
        unfold eachB
        rw [decide_eq_false_iff_not]
        intro h
        rw [h j hjk] at hf
        cases hf
      have Hbad := Lib.hid hbad
      clear hy hgy hin htk hbad
      cases hth : thereB l y with
      | false =>
        have hx0 := Hbad.out (by rw [Hin.out, hth]; rfl)
        subst hx0
        have Hth := Lib.hid hth
        clear hth
        go_wp2_with fail
        refine (arHas_is hR Hth.out).mono ?_
        rintro e w2 ⟨rfl, rfl⟩
        go_wp2
        go_ret
        exact ⟨rfl, hb⟩
      | true =>
        obtain ⟨m, rfl, hm⟩ := there_at hth
        have hm9 : m + 1 < 129 := by omega
        obtain ⟨q1, q2⟩ := Hsn.out.cell_ hm9
        have ecast : ((m + 1 : Nat) : Int) = (m : Int) + 1 := by omega
        have hmk := Hsn.out.mark (k := m + 1)
        rw [ecast] at q1 hmk
        have Hth := Lib.hid hth
        cases hs : hasB (kids.take j) ((m : Int) + 1) with
        | true =>
          have hx0 := Hbad.out (by rw [Hin.out, hth, hs]; rfl)
          subst hx0
          rw [hs] at q1
          clear hth hs hmk
          go_wp2_with fail
          refine (arHas_is hR Hth.out).mono ?_
          rintro e w2 ⟨rfl, rfl⟩
          go_wp2
          go_ret
          exact ⟨rfl, hb⟩
        | false =>
          have hok := Hin.out
          rw [hth, hs] at hok
          rw [hs] at q1
          have Hok := Lib.hid hok
          have Hmk := Lib.hid hmk
          have hb2 : Below w.heap.size w (wr.setCell ⟨w.heap.size, m + 1, none⟩ (.bool true)) := hb.setCell (p := ⟨w.heap.size, m + 1, none⟩) (Nat.le_refl _) _
          clear hth hs hok hmk
          go_wp2_with fail
          refine (arHas_is hR Hth.out).mono ?_
          rintro e w2 ⟨rfl, rfl⟩
          go_wp2
          go_roundw
          case rel =>
            refine ⟨j + 1, by go_num, by omega, fun i hi => ?_, by rw [Htk.out]; exact Hmk.out, hb2⟩
            rcases Nat.lt_or_ge i j with hij | hij
            · exact Hall.out i hij
            · obtain rfl : i = j := by omega
              exact Hok.out
          case measure => simp [intOf]; omega
    · have hx1 : x = true := by
        rw [← Hx.out]
        unfold eachB
        rw [decide_eq_true_iff]
        exact fun i hi => Hall.out i (by rw [← Hn.out] at hi; omega)
      subst hx1
      go_wp2
      go_ret
      exact ⟨rfl, hb⟩

set_option maxHeartbeats 4000000 in
set_option maxRecDepth 100000 in
theorem arMay (h : Frst S w b l) (hl : l.length ≤ 128) (T : Tree l) {p k : Int} (hp : thereB l p = true) (hk : thereB l k = true) {x : Bool} (hx : kidOk l (over l p) p k = x) :
    Calls Try.prog 44 #[.pointer (some ⟨b, 0, none⟩), .int .i64 p, .int .i64 k] w fun e w' => e = .returned (.bool x) ∧ Below w.heap.size w w' := by
  have H := Lib.hid h
  have HT := Lib.hid T
  have Hp := Lib.hid hp
  obtain ⟨m, rfl, hm⟩ := there_at hk
  obtain ⟨g, c, hR⟩ := h.at_ hm
  have q0 := hR.there_
  obtain ⟨_, kv, e', -, -, hkv, -, c0, c1, c2, c3, c4, c5, c6, c7, c8⟩ := hR.nodes.nine hm
  cases e'
  obtain ⟨A1, n1, rfl, -⟩ := hkv.list
  unfold kidOk at hx
  rw [has_over_step T hp] at hx
  obtain ⟨d, hd⟩ : ∃ d, d = nd l ((m : Int) + 1) := ⟨_, rfl⟩
  rw [← hd] at c0 c1 c2 c3 c4 c5 c6 c7 c8 hx
  obtain ⟨kd, pa, ho, sh, mo, sl, na, wa, ks⟩ := d
  simp only at c0 c1 c2 c3 c4 c5 c6 c7 c8 hx
  have hb1 : Below w.heap.size w (w.alloc (.cells #[.int .i64 kd, .int .i64 pa, .int .i64 ho, .int .i64 sh, .int .i64 mo, .bool sl, .string na, .string wa, .slice A1 ks.length n1] 41)) := (Below.refl _ w).alloc (Nat.le_refl _) _
  have hbox : Has (w.alloc (.cells #[.int .i64 kd, .int .i64 pa, .int .i64 ho, .int .i64 sh, .int .i64 mo, .bool sl, .string na, .string wa, .slice A1 ks.length n1] 41)) w.heap.size (.cells #[.int .i64 kd, .int .i64 pa, .int .i64 ho, .int .i64 sh, .int .i64 mo, .bool sl, .string na, .string wa, .slice A1 ks.length n1] 41 (0, 0)) := Has.fresh _ _
  have HB1 := Lib.hid hb1
  have Hbox := Lib.hid hbox
  have Hx := Lib.hid hx
  clear h T hp hk hR hkv hd hb1 hbox hx
  by_cases k1 : kd = 1
  · subst k1
    have hx0 : x = false := by rw [← Hx.out]; simp
    subst hx0
    go_enter Try.func44, Try.ntmps44
    go_wp2
    go_ret
    exact ⟨rfl, HB1.out⟩
  have k1' : (kd == 1) = false := by simpa using k1
  by_cases k3 : kd = 3
  · subst k3
    have hx0 : x = false := by rw [← Hx.out]; simp
    subst hx0
    clear k1' k1
    go_enter Try.func44, Try.ntmps44
    go_wp2
    go_ret
    exact ⟨rfl, HB1.out⟩
  have k3' : (kd == 3) = false := by simpa using k3
  by_cases hkp : (m : Int) + 1 = p
  · have hx0 : x = false := by rw [← Hx.out]; simp [hkp]
    subst hx0
    subst hkp
    go_enter Try.func44, Try.ntmps44
    go_wp2
    go_ret
    exact ⟨rfl, HB1.out⟩
  have hkp' : ((m : Int) + 1 == p) = false := by simpa using hkp
  have hR1 := H.out.below HB1.out
  cases hab : hasB (over l (upOf l p)) ((m : Int) + 1) with
  | true =>
    have hx0 : x = false := by rw [← Hx.out, hab]; simp
    subst hx0
    have Hab := Lib.hid hab
    clear hab
    go_enter Try.func44, Try.ntmps44
    go_wp2_with fail
    refine (arAbove hR1 hl HT.out _ Hp.out Hab.out).mono ?_
    rintro e w2 ⟨rfl, hb2⟩
    go_wp2
    go_ret
    exact ⟨rfl, HB1.out.trans (hb2.mono HB1.out.size)⟩
  | false =>
    have hx1 := Hx.out
    rw [hab, decide_eq_false k1, decide_eq_false k3, decide_eq_false hkp] at hx1
    have Hab := Lib.hid hab
    clear hab
    go_enter Try.func44, Try.ntmps44
    go_wp2_with fail
    refine (arAbove hR1 hl HT.out _ Hp.out Hab.out).mono ?_
    rintro e w2 ⟨rfl, hb2⟩
    have hB2 := HB1.out.trans (hb2.mono HB1.out.size)
    have y1 : w2.cell? ⟨w.heap.size, 1, none⟩ = some (.int .i64 pa) := (Hbox.out.below hb2 Hbox.out.inside).cell 1
    clear hb2
    by_cases p0 : pa = 0
    · subst p0
      have hx2 : x = true := by rw [← hx1]; simp
      subst hx2
      clear hx1
      go_wp2
      go_ret
      exact ⟨rfl, hB2⟩
    · have p0' : (pa == 0) = false := by simpa using p0
      by_cases pp : pa = p
      · subst pp
        have hx2 : x = true := by rw [← hx1]; simp
        subst hx2
        clear hx1
        go_wp2
        go_ret
        exact ⟨rfl, hB2⟩
      · have pp' : (pa == p) = false := by simpa using pp
        have hx2 : x = false := by rw [← hx1]; simp [p0, pp]
        subst hx2
        clear hx1
        go_wp2
        go_ret
        exact ⟨rfl, hB2⟩
end
end Go.Proofs.Ytkafaceanlkjjaa
