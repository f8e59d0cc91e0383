/-
  What All of package arena does.
-/
import Derived.Test.YtlbaahfadfmffaaArg
import Derived.Test.YtlbaahfadfmffaaFk
namespace Go.Proofs.Ytlbaahfadfmffaa
open Go Go.RowKit

section
variable {rows : List (Nd × Value)} {p : Nd × Value}
theorem set_behind {X Y : List Value} (hX : X.length = 9) (n : Nat) (u : Value) : (X ++ Y).set (9 + n) u = X ++ Y.set n u := by
  rw [List.set_append_right _ _ (by omega), hX, Nat.add_sub_cancel_left]
/-- A whole node is written. -/
def put9 (us : List Value) (j : Nat) (d : Nd) (k : Value) : List Value :=
  ((((((((us.set (j * 9) (.int .i64 d.kind)).set (j * 9 + 1) (.int .i64 d.parent)).set (j * 9 + 2) (.int .i64 d.host)).set (j * 9 + 3) (.int .i64 d.shadow)).set (j * 9 + 4) (.int .i64 d.mode)).set (j * 9 + 5) (.bool d.slot)).set (j * 9 + 6) (.string d.name)).set (j * 9 + 7) (.string d.want)).set (j * 9 + 8) k
theorem flat_put (d : Nd) (k : Value) : ∀ {rows : List (Nd × Value)} {i : Nat}, i < rows.length → flat (rows.set i (d, k)) = put9 (flat rows) i d k
  | [], i, h => by simp at h
  | q :: r, 0, _ => by
    rw [List.set_cons_zero, flat_cons, flat_cons]
    simp [put9, Nd.cells]
  | q :: r, i + 1, h => by
    rw [List.set_cons_succ, flat_cons, flat_cons, flat_put d k (by simpa using h)]
    unfold put9
    have e0 : (i + 1) * 9 = 9 + i * 9 := by omega
    have e : ∀ f, (i + 1) * 9 + f = 9 + (i * 9 + f) := fun f => by omega
    simp only [e]
    rw [e0]
    simp only [set_behind (Nd.cells_length q.1 q.2)]
theorem flat_zeros (n : Nat) : (madeCells (Value.agg #[.int .i64 0, .int .i64 0, .int .i64 0, .int .i64 0, .int .i64 0, .bool false, .string ⟨#[]⟩, .string ⟨#[]⟩, .slice none 0 0]).cells (n * 9)).toList = flat (List.replicate n (Nd.zero, Value.slice none 0 0)) := by
  apply List.ext_getElem?
  intro j
  by_cases hj : j < n * 9
  · have hd : j = j / 9 * 9 + j % 9 := by omega
    have hr : (List.replicate n (Nd.zero, Value.slice none 0 0))[j / 9]? = some (Nd.zero, .slice none 0 0) := by
      rw [List.getElem?_replicate, if_pos (by omega)]
    have h2 := flat_get hr (show j % 9 < 9 by omega)
    rw [← hd] at h2
    rw [h2]
    have h3 : j % 9 < 9 := by omega
    have hs : (madeCells (Value.agg #[.int .i64 0, .int .i64 0, .int .i64 0, .int .i64 0, .int .i64 0, .bool false, .string ⟨#[]⟩, .string ⟨#[]⟩, .slice none 0 0]).cells (n * 9)).toList[j]? = some ((#[.int .i64 0, .int .i64 0, .int .i64 0, .int .i64 0, .int .i64 0, .bool false, .string ⟨#[]⟩, .string ⟨#[]⟩, .slice none 0 0] : Array Value)[j % 9]!) := by
      simp [madeCells, hj, Value.cells]
    rw [hs]
    generalize j % 9 = f at h3
    match f, h3 with
    | 0, _ => rfl
    | 1, _ => rfl
    | 2, _ => rfl
    | 3, _ => rfl
    | 4, _ => rfl
    | 5, _ => rfl
    | 6, _ => rfl
    | 7, _ => rfl
    | 8, _ => rfl
  · rw [List.getElem?_eq_none (by simp [madeCells]; omega), List.getElem?_eq_none (by rw [flat_length, List.length_replicate]; omega)]
end

section
variable {G : Nat → Prop} {w : World} {B c g i : Nat} {l : List Nd}
/-- Nine cells are written, one behind the other. -/
def store9 (w : World) (g j : Nat) (d : Nd) (k : Value) : World :=
  ((((((((w.setCell ⟨g, j * 9, none⟩ (.int .i64 d.kind)).setCell ⟨g, j * 9 + 1, none⟩ (.int .i64 d.parent)).setCell ⟨g, j * 9 + 2, none⟩ (.int .i64 d.host)).setCell ⟨g, j * 9 + 3, none⟩ (.int .i64 d.shadow)).setCell ⟨g, j * 9 + 4, none⟩ (.int .i64 d.mode)).setCell ⟨g, j * 9 + 5, none⟩ (.bool d.slot)).setCell ⟨g, j * 9 + 6, none⟩ (.string d.name)).setCell ⟨g, j * 9 + 7, none⟩ (.string d.want)).setCell ⟨g, j * 9 + 8, none⟩ k
theorem keeps9 (w : World) (g j : Nat) (d : Nd) (k : Value) : Keeps (fun i => i = g) w (store9 w g j d k) :=
  (((((((((Keeps.refl (fun i => i = g) w).store (p := ⟨g, j * 9, none⟩) (.inl rfl) _).store (p := ⟨g, j * 9 + 1, none⟩) (.inl rfl) _).store (p := ⟨g, j * 9 + 2, none⟩) (.inl rfl) _).store (p := ⟨g, j * 9 + 3, none⟩) (.inl rfl) _).store (p := ⟨g, j * 9 + 4, none⟩) (.inl rfl) _).store (p := ⟨g, j * 9 + 5, none⟩) (.inl rfl) _).store (p := ⟨g, j * 9 + 6, none⟩) (.inl rfl) _).store (p := ⟨g, j * 9 + 7, none⟩) (.inl rfl) _).store (p := ⟨g, j * 9 + 8, none⟩) (.inl rfl) _
theorem own9 {n : Nat} {us : List Value} (h : w.ownsRow B 33 9 (.slice (some ⟨g, 0, none⟩) n c) n us) (j : Nat) (d : Nd) (k : Value) : (store9 w g j d k).ownsRow B 33 9 (.slice (some ⟨g, 0, none⟩) n c) n (put9 us j d k) := by
  have h0 := (h.stored (j * 9) (.int .i64 d.kind)).1
  have h1 := (h0.stored (j * 9 + 1) (.int .i64 d.parent)).1
  have h2 := (h1.stored (j * 9 + 2) (.int .i64 d.host)).1
  have h3 := (h2.stored (j * 9 + 3) (.int .i64 d.shadow)).1
  have h4 := (h3.stored (j * 9 + 4) (.int .i64 d.mode)).1
  have h5 := (h4.stored (j * 9 + 5) (.bool d.slot)).1
  have h6 := (h5.stored (j * 9 + 6) (.string d.name)).1
  have h7 := (h6.stored (j * 9 + 7) (.string d.want)).1
  exact (h7.stored (j * 9 + 8) k).1
theorem Nodes.put (h : Nodes G w B (some ⟨g, 0, none⟩) c l) (hi : i < l.length) {d : Nd} {k : Value} (hk : Kids G w k d.kids) : Nodes G (store9 w g i d k) B (some ⟨g, 0, none⟩) c (l.set i d) := by
  obtain ⟨rows, rfl, h2, h3, h4⟩ := h
  have hi' : i < rows.length := by simpa using hi
  have far : ∀ (v : Value) (xs : List Int), Kids G w v xs → Kids G (store9 w g i d k) v xs := fun v xs hv =>
    ⟨own_kept hv.1 (keeps9 w g i d k) fun g' hg' e => kids_apart hv h2 (by decide) hg' (by rw [e]; rfl), hv.2⟩
  refine ⟨rows.set i (d, k), by rw [List.map_set], ?_, fun p hp => ?_, h4⟩
  · rw [List.length_set, flat_put d k hi']
    exact own9 h2 i d k
  · rcases List.mem_or_eq_of_mem_set hp with hp | rfl
    · exact far _ _ (h3 p hp)
    · exact far _ _ hk

theorem upto_zero (l : List Nd) : l.take 0 ++ List.replicate (l.length - 0) Nd.zero = List.replicate l.length Nd.zero := by simp
theorem upto_length {l : List Nd} {j : Nat} (hj : j ≤ l.length) : (l.take j ++ List.replicate (l.length - j) Nd.zero).length = l.length := by simp; omega
theorem upto_step {l : List Nd} {j : Nat} (hj : j < l.length) : (l.take j ++ List.replicate (l.length - j) Nd.zero).set j l[j] = l.take (j + 1) ++ List.replicate (l.length - (j + 1)) Nd.zero := by
  have hl : (l.take j).length = j := by rw [List.length_take]; omega
  rw [List.set_append_right _ _ (by omega), hl, Nat.sub_self, show l.length - j = (l.length - (j + 1)) + 1 by omega, List.replicate_succ, List.set_cons_zero, List.take_add_one, List.getElem?_eq_getElem hj, List.append_assoc]
  rfl

variable {S : Nat → Prop} {b : Nat}
set_option maxHeartbeats 4000000 in
set_option maxRecDepth 100000 in
theorem arAll (h : Frst S w b l) (hl : l.length ≤ 128) (hf : Few 200 l) :
    Calls Try.prog 15 #[.pointer (some ⟨b, 0, none⟩)] w fun e w' => ∃ A c, e = .returned (.slice A l.length c) ∧ Nodes (fun i => w.heap.size ≤ i) w' w.heap.size A c l ∧ Below w.heap.size w w' := by
  have H := Lib.hid h
  have Hf := Lib.hid hf
  obtain ⟨j0, qi, qz0, qz1, qz2⟩ := info_parts Try.infoNode
  have hbyt : j0.bytes * l.length ≤ 281474976710656 := by rw [qz2]; omega
  have hmax : l.length ≤ maxLen := by unfold maxLen; omega
  have Qi := Lib.hid qi
  have Qz0 := Lib.hid qz0
  have Qz1 := Lib.hid qz1
  have Hbyt := Lib.hid hbyt
  have Hmax := Lib.hid hmax
  clear h hf qi qz0 qz1 qz2 hbyt hmax
  go_enter Try.func15, Try.ntmps15
  go_wp2_with fail
  refine (arLen H.out).mono ?_
  rintro e w1 ⟨rfl, rfl⟩
  go_wp2_with (with_reducible refine wpList_make_full w rfl (.tmp 6) (.tmp 6) 27 rfl w.heap.size 33 j0 _ 9 Try.underlying27 Qi.out Qz0.out Qz1.out .i64 .i64 _ _ l.length rfl rfl rfl rfl Hbyt.out Hmax.out (Nat.le_refl _) ?_; intro w1 ho1 hg1)
  have hb1 : Below w.heap.size w w1 := (Below.refl _ w).grown hg1 (Nat.le_refl _) (fun k hk => absurd hk (by simp))
  have hN1 : Nodes (fun i => w.heap.size ≤ i) w1 w.heap.size (some ⟨w.heap.size, 0, none⟩) l.length (List.replicate l.length Nd.zero) := by
    rw [flat_zeros] at ho1
    refine ⟨List.replicate l.length (Nd.zero, .slice none 0 0), by simp, by simpa using ho1, fun p hp => ?_, fun b' off s e => by cases e; exact Nat.le_refl _⟩
    obtain rfl := List.eq_of_mem_replicate hp
    exact kids_none _ _
  clear ho1 hg1
  go_loopw [10] (fun i wr => ∃ j : Nat, i = .int .i64 j ∧ j ≤ l.length ∧ Nodes (fun i => w.heap.size ≤ i) wr w.heap.size (some ⟨w.heap.size, 0, none⟩) l.length (l.take j ++ List.replicate (l.length - j) Nd.zero) ∧ Below w.heap.size w wr) (fun i _ => l.length - (intOf i).toNat)
  case atStart => exact ⟨0, rfl, Nat.zero_le _, by rw [upto_zero]; exact hN1, hb1⟩
  case round =>
    obtain ⟨j, rfl, hj, hNj, hbj⟩ := hrel
    clear hN1 hb1
    by_cases hjl : (j : Int) < l.length
    · have hjl' : j < l.length := by omega
      have hth : thereB l ((j : Int) + 1) = true := thereB_iff.2 ⟨by omega, by omega⟩
      have Hth := Lib.hid hth
      have HNj := Lib.hid hNj
      clear hth hNj
      have hst := upto_step hjl'
      rw [← nd_at hjl'] at hst
      have Hst := Lib.hid hst
      clear hst
      go_wp2_with fail
      refine (arNode_is (G := fun i => w.heap.size ≤ i) (H.out.below hbj) hl Hf.out (fun i hi => Nat.le_trans hbj.size hi) Hth.out).mono ?_
      rintro e w2 ⟨A2, c2, rfl, hK2, hb2⟩
      have hjn : j < (l.take j ++ List.replicate (l.length - j) Nd.zero).length := by rw [upto_length hj]; exact hjl'
      obtain ⟨_, k, e', -, -, -, hz, y0, y1, y2, y3, y4, y5, y6, y7, y8⟩ := (HNj.out.below hb2).nine hjn
      cases e'
      have x0 := hz (j * 9)
      have x1 := hz (j * 9 + 1)
      have x2 := hz (j * 9 + 2)
      have x3 := hz (j * 9 + 3)
      have x4 := hz (j * 9 + 4)
      have x5 := hz (j * 9 + 5)
      have x6 := hz (j * 9 + 6)
      have x7 := hz (j * 9 + 7)
      have x8 := hz (j * 9 + 8)
      have hN2 := (HNj.out.below hb2).put hjn hK2
      have hb3 : Below w.heap.size w (store9 w2 w.heap.size j (nd l ((j : Int) + 1)) (.slice A2 (nd l ((j : Int) + 1)).kids.length c2)) := below_then (hbj.trans (hb2.mono hbj.size)) (keeps9 _ _ _ _ _) (Nat.le_trans hbj.size hb2.size) fun i hi e => by omega
      rw [Hst.out] at hN2
      unfold store9 at hN2 hb3
      obtain ⟨d, hd⟩ : ∃ d, d = nd l ((j : Int) + 1) := ⟨_, rfl⟩
      rw [← hd] at hN2 hb3 hK2
      rw [← hd]
      have HN2 := Lib.hid hN2
      have HB3 := Lib.hid hb3
      clear hN2 hb3 hK2 hd hz hjn hb2 HNj hbj
      go_wp2
      go_roundw
      case rel => exact ⟨j + 1, by go_num, by omega, HN2.out, HB3.out⟩
      case measure => simp [intOf]; omega
    · obtain rfl : j = l.length := by omega
      rw [Nat.sub_self, List.take_length, List.replicate_zero, List.append_nil] at hNj
      go_wp2
      go_ret
      exact ⟨_, _, rfl, hNj, hbj⟩
end
end Go.Proofs.Ytlbaahfadfmffaa
