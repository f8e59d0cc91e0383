/-
  What an append of a whole list does, and towncrierref04.Copy.
  What towncrierref04.Over does.
  What towncrierref04.Name, Want and Tie do.
  What towncrierref04.Tie does.
  A region that leaves its order open, walked once, in an order that is typed out: what yields its value in every world that meets S comes up when it is named; a pinned operation comes up when nothing else can. S may be made narrower on the way. No program is named here.
  A region that leaves its order open and writes what it has read: 'x = append(x, ..)'. As Ord, but of the operations named 'late' (each waits for all that was taken first) nothing is asked behind them: what was read may be written by them. No program is named here.
  A region that leaves its order open, walked by a way that is typed out: what is taken first, what comes up alone, and where two may come up, both ways. As Late, but with forks. No program is named here.
-/
import Derived.Test.YtekmgaigppenlaaPartA
import Derived.Deep.RegionHeld3

namespace Go.Proofs.Ytekmgaigppenlaa
open Go Go.RowKit
variable {G : Nat → Prop}

theorem Try.infoNode : (Try.prog.info? 57).map (fun i => (i.zero, i.size, i.bytes)) = some (some (.agg #[.int .i64 0, .int .i64 0, .int .i64 0, .int .i64 0, .int .i64 0, .bool false, .string ⟨#[]⟩, .string ⟨#[]⟩, .slice none 0 0]), 9, 104) := by kernel_rfl

/-- A node's children stand elsewhere. -/
theorem Nodes.kidsTo {w : World} {B g c j : Nat} {l : List Nd} {v : Value} (h : Nodes G w B (some ⟨g, 0, none⟩) c l) (hj : j < l.length) (hk : Kids G w v l[j].kids) : (∃ x, w.cell? ⟨g, j * 9 + 8, none⟩ = some x) ∧ w.frozen? ⟨g, j * 9 + 8, none⟩ = false ∧ Nodes G (w.setCell ⟨g, j * 9 + 8, none⟩ v) B (some ⟨g, 0, none⟩) c l := by
  obtain ⟨g', k', e, _, _, hf, hc⟩ := h.at_ hj
  obtain rfl : g = g' := by simpa using e
  refine ⟨⟨k', hc 8 (by omega)⟩, hf _, ?_⟩
  have := h.store hj (f := 8) (by omega) (u := v) (d := l[j]) (fun k' => ⟨v, rfl, fun _ => hk⟩)
  rw [List.set_getElem_self] at this
  exact this

set_option maxHeartbeats 4000000 in
set_option maxRecDepth 100000 in
theorem copy_any (l : List Nd) (A : Option Addr) (c : Nat) (w : World) (hl : l.length ≤ 1000) (hk : ∀ d ∈ l, d.kids.length ≤ 100000) (hG : Fut G w.heap.size) (h : Nodes G w 0 A c l) :
    Calls Try.prog 57 #[.slice A l.length c] w fun e w' => ∃ A' c', e = .returned (.slice A' l.length c') ∧ Nodes G w' w.heap.size A' c' l ∧ Below w.heap.size w w' := by
  obtain ⟨i0, hi, hz0, hz1, hz2⟩ := info_parts Try.infoInt
  obtain ⟨j0, qi, qz0, qz1, qz2⟩ := info_parts Try.infoNode
  have Hi := Lib.hid hi
  have Hz0 := Lib.hid hz0
  have Hz1 := Lib.hid hz1
  have Hz2 := Lib.hid hz2
  have Qi := Lib.hid qi
  have Qz0 := Lib.hid qz0
  have Qz1 := Lib.hid qz1
  have Qz2 := Lib.hid qz2
  have Hk := Lib.hid hk
  have H := Lib.hid h
  clear hi hz0 hz1 hz2 qi qz0 qz1 qz2 hk h
  go_enter Try.func57, Try.ntmps57
  obtain ⟨rows, hr1, hr2, hr3, -⟩ := H.out
  have hrl : rows.length = l.length := by rw [← hr1, List.length_map]
  have hown0 : (w.alloc (.cells #[] 57)).ownsRow w.heap.size 57 9 (.slice (some ⟨w.heap.size, 0, none⟩) 0 0) 0 [] := World.ownsRow_lit w #[] 0 (Nat.le_refl _) (Nat.zero_le _) rfl
  have hgv : Gives (w.alloc (.cells #[] 57)) 9 (.slice A l.length c) l.length (flat rows) := own_gives (hr2.alloc _)
  have hone := flat_one (fun p hp => (hr3 p hp).one)
  have Hown0 := Lib.hid hown0
  have Hgv := Lib.hid hgv
  have Hone := Lib.hid hone
  have Hr1 := Lib.hid hr1
  have Hr3 := Lib.hid hr3
  have Hrl := Lib.hid hrl
  clear hown0 hgv hone hr1 hr2 hr3 hrl
  go_wp2_with (at_builtin; refine wpList_append_gives rfl (.tmp 5) (.tmp 6) 40 rfl w.heap.size 57 j0 _ 9 104 Try.underlying40 Qi.out Qz0.out Qz1.out Qz2.out rfl (by decide) (.slice (some ⟨w.heap.size, 0, none⟩) 0 0) 0 [] rfl Hown0.out _ l.length (flat rows) rfl Hgv.out Hone.out (by unfold maxLen; omega) (by omega) (by simp) ?_; intro v1 w1 ho hg; obtain ⟨A1, c1, rfl, hc1⟩ := own_form (by rw [Nat.zero_add] at ho; exact ho))
  have hN1 : Nodes G w1 w.heap.size A1 c1 l := by
    rw [Nat.zero_add, List.nil_append] at ho
    refine ⟨rows, Hr1.out, ho, fun p hp => ?_, fun b off s e => by subst e; exact hG b (ho.lt b rfl).1⟩
    have k1 : Kids G (w.alloc (.cells #[] 57)) p.2 p.1.kids := (Hr3.out p hp).kept (F := fun _ => False) ((Keeps.refl _ _).alloc _) fun _ _ h => h
    refine ⟨own_kept k1.1 (Keeps.of_grown hg) fun g hg' e => ?_, k1.2⟩
    have := own_in (Hr3.out p hp).1 g hg'
    have : w.heap.size = g := by simpa [Value.ownBlock] using e
    omega
  have hb1 : Below w.heap.size w w1 := by
    refine ((Below.refl _ w).alloc (Nat.le_refl _) _).grown hg (by simp) fun k hk => ?_
    have : w.heap.size = k := by simpa [Value.ownBlock] using hk
    omega
  clear ho hg Hown0 Hgv Hone Hr1 Hr3 Hrl
  go_loopw [4] (fun i wr => ∃ j : Nat, i = .int .i64 j ∧ j ≤ l.length ∧ Nodes G wr w.heap.size A1 c1 l ∧ Below w.heap.size w wr) (fun i _ => l.length - (intOf i).toNat)
  case atStart => exact ⟨0, rfl, Nat.zero_le _, hN1, hb1⟩
  case round =>
    obtain ⟨j, rfl, hj, hN, hb⟩ := hrel
    clear hN1 hb1
    by_cases hjl : (j : Int) < l.length
    · have hj' : j < l.length := by omega
      obtain ⟨g, k, rfl, -, hk1, hf1, hcell⟩ := (H.out.below hb).at_ hj'
      obtain ⟨g', k', rfl, hg', -, hf2, hcell2⟩ := hN.at_ hj'
      have c8 : (wr.alloc (.cells #[] 3)).cell? ⟨g, j * 9 + 8, none⟩ = some k := by
        rw [World.cell?_alloc_past _ _ _ ((H.out.below hb).inside _ _ _ rfl)]
        exact hcell 8 (by omega)
      have hkl : l[j].kids.length ≤ 100000 := Hk.out _ (List.getElem_mem hj')
      obtain ⟨kd, hkd⟩ : ∃ kd, kd = l[j].kids := ⟨_, rfl⟩
      rw [← hkd] at hk1 hkl
      have Hkd := Lib.hid hkd
      have Hc2 := Lib.hid hcell2
      have Hf2 := Lib.hid hf2
      clear hcell hcell2 hkd hf1 hf2
      have hown : (wr.alloc (.cells #[] 3)).ownsRow wr.heap.size 3 1 (.slice (some ⟨wr.heap.size, 0, none⟩) 0 0) 0 [] := World.ownsRow_lit wr #[] 0 (Nat.le_refl _) (Nat.zero_le _) rfl
      have hgv : Gives (wr.alloc (.cells #[] 3)) 1 k kd.length (kd.map (Value.int .i64)) := own_gives (hk1.1.alloc _)
      have Hown := Lib.hid hown
      have Hgv := Lib.hid hgv
      clear hown hgv
      obtain ⟨Ak, ck, rfl, _⟩ := own_form hk1.1
      go_wp2_with (at_builtin; refine wpList_append_gives rfl (.tmp 16) (.tmp 21) 55 rfl wr.heap.size 3 i0 _ 1 8 Try.underlying55 Hi.out Hz0.out Hz1.out Hz2.out rfl (by decide) (.slice (some ⟨wr.heap.size, 0, none⟩) 0 0) 0 [] rfl Hown.out _ kd.length (kd.map (Value.int .i64)) rfl Hgv.out (kids_one kd) (by unfold maxLen; omega) (by omega) (by simp) ?_; intro v2 w2 ho2 hg2; obtain ⟨A2, c2, rfl, hc2⟩ := own_form (by rw [Nat.zero_add] at ho2; exact ho2); obtain ⟨hk2, hb2, hs2⟩ := kids_new (G := G) ho2 hg2 (hG.mono hb.size); rw [Hkd.out] at hk2; obtain ⟨⟨x8, hx8⟩, hz8, hN3⟩ := (hN.below hb2).kidsTo hj' hk2)
      go_roundw
      case rel => exact ⟨j + 1, by go_num, by omega, by rw [← Hkd.out] at hN3; exact hN3, (hb.trans (hb2.mono hb.size)).setCell hg' _⟩
      case measure => simp [intOf]; omega
    · go_wp2
      go_ret
      exact ⟨_, _, rfl, hN, hb⟩
end Go.Proofs.Ytekmgaigppenlaa

namespace Go.Proofs.Ytekmgaigppenlaa
open Go Go.RowKit
variable {G : Nat → Prop}

theorem upOf_there {l : List Nd} {id : Int} (h : thereB l id = true) : nd l id = l[(id - 1).toNat]'(there_lt h) := by
  have := nd_get h
  rw [List.getElem?_eq_getElem (there_lt h)] at this
  exact (Option.some.inj this).symm
theorem over_go {l : List Nd} {n : Nat} {id : Int} (h : thereB l id = true) : overN l (n + 1) id = id :: overN l n (upOf l id) := by rw [overN, if_pos h]
theorem over_end {l : List Nd} {n : Nat} {id : Int} (h : thereB l id = false) : overN l n id = [] := by
  cases n with
  | zero => rfl
  | succ n => rw [overN, if_neg (by rw [h]; decide)]
theorem over_len (l : List Nd) : ∀ (n : Nat) (id : Int), (overN l n id).length ≤ n
  | 0, _ => Nat.le_refl 0
  | n + 1, id => by
    rw [overN]
    split
    · have := over_len l n (upOf l id)
      simp
      omega
    · simp

/-- An element more. -/
theorem kids_more {w2 : World} {base : Nat} {v2 : Value} {xs : List Int} {x : Int} (ho : w2.ownsRow base 3 1 v2 (xs.length + 1) (xs.map (Value.int .i64) ++ [.int .i64 x])) :
    w2.ownsRow base 3 1 v2 (xs ++ [x]).length ((xs ++ [x]).map (Value.int .i64)) := by
  rw [List.map_append, List.length_append]
  exact ho

set_option maxHeartbeats 4000000 in
set_option maxRecDepth 100000 in
theorem over_any (l : List Nd) (A : Option Addr) (c : Nat) (id : Int) (w : World) (hl : l.length ≤ 1000) (h : Nodes G w 0 A c l) :
    Calls Try.prog 60 #[.slice A l.length c, .int .i64 id] w fun e w' => ∃ v, e = .returned v ∧ Kids (fun _ => True) w' v (over l id) ∧ Below w.heap.size w w' := by
  obtain ⟨i0, hi, hz0, hz1, hz2⟩ := info_parts Try.infoInt
  have Hi := Lib.hid hi
  have Hz0 := Lib.hid hz0
  have Hz1 := Lib.hid hz1
  have Hz2 := Lib.hid hz2
  have H := Lib.hid h
  clear hi hz0 hz1 hz2 h
  obtain ⟨R, hR⟩ : ∃ R, R = over l id := ⟨_, rfl⟩
  rw [← hR]
  have hR0 : ([] : List Int) ++ overN l (l.length + 1 - 0) id = R := by rw [hR]; rfl
  have HR0 := Lib.hid hR0
  clear hR hR0
  go_enter Try.func60, Try.ntmps60
  go_wp2_with fail
  go_loopw [1, 5, 6] (fun a o i wr => ∃ (j : Nat) (id : Int) (xs : List Int), a = .int .i64 id ∧ i = .int .i64 j ∧ j ≤ l.length + 1 ∧ xs.length = j ∧ xs ++ overN l (l.length + 1 - j) id = R ∧ wr.ownsRow w.heap.size 3 1 o xs.length (xs.map (Value.int .i64)) ∧ Below w.heap.size w wr) (fun _ _ i _ => l.length + 1 - (intOf i).toNat)
  case atStart => exact ⟨0, id, [], rfl, rfl, Nat.zero_le _, rfl, HR0.out, World.ownsRow_nil _ _ _ _, Below.refl _ _⟩
  case round =>
    obtain ⟨j, id, xs, rfl, rfl, hj, hxl, hxs, hown, hb⟩ := hrel
    have Hxs := Lib.hid hxs
    have Hxl := Lib.hid hxl
    clear HR0 hxs hxl
    obtain ⟨Ao, co, rfl, hco⟩ := own_form hown
    by_cases hjl : (j : Int) ≤ l.length
    · cases hth : thereB l id with
      | true =>
        have hup := upOf_there hth
        have hgo : overN l (l.length + 1 - j) id = id :: overN l (l.length + 1 - (j + 1)) (upOf l id) := by
          rw [show l.length + 1 - j = (l.length + 1 - (j + 1)) + 1 by omega]
          exact over_go hth
        have Hgo := Lib.hid hgo
        have hid := thereB_iff.1 hth
        obtain ⟨h1, h2⟩ := hid
        obtain ⟨m, hm⟩ : ∃ m : Nat, id = (m : Int) + 1 := ⟨(id - 1).toNat, by omega⟩
        subst hm
        have hml : m < l.length := by omega
        have hmn : ((m : Int) + 1 - 1).toNat = m := by omega
        obtain ⟨g, k, rfl, -, -, -, hcell⟩ := H.out.at_ hml
        have hgw : g < w.heap.size := H.out.inside _ _ _ rfl
        have hndm : nd l ((m : Int) + 1) = l[m] := by
          rw [hup]
          congr 1
        have c1 : w.cell? ⟨g, m * 9 + 1, none⟩ = some (.int .i64 (nd l ((m : Int) + 1)).parent) := by rw [hndm]; exact hcell 1 (by omega)
        have c2 : w.cell? ⟨g, m * 9 + 2, none⟩ = some (.int .i64 (nd l ((m : Int) + 1)).host) := by rw [hndm]; exact hcell 2 (by omega)
        have hfin : (xs ++ [(m : Int) + 1]) ++ overN l (l.length + 1 - (j + 1)) (upOf l ((m : Int) + 1)) = R := by
          rw [List.append_assoc, List.singleton_append, ← Hgo.out]
          exact Hxs.out
        have hupo : upOf l ((m : Int) + 1) = if (nd l ((m : Int) + 1)).parent = 0 then (nd l ((m : Int) + 1)).host else (nd l ((m : Int) + 1)).parent := rfl
        obtain ⟨pa, hpa⟩ : ∃ pa, pa = (nd l ((m : Int) + 1)).parent := ⟨_, rfl⟩
        obtain ⟨ho, hho⟩ : ∃ ho, ho = (nd l ((m : Int) + 1)).host := ⟨_, rfl⟩
        obtain ⟨up, hupu⟩ : ∃ up, up = upOf l ((m : Int) + 1) := ⟨_, rfl⟩
        rw [← hpa] at c1 hupo
        rw [← hho] at c2 hupo
        rw [← hupu] at hfin hupo
        have C1 := Lib.hid c1
        have C2 := Lib.hid c2
        have Hfin := Lib.hid hfin
        have hgv : Gives (wr.alloc (.cells #[.int .i64 ((m : Int) + 1)] 3)) 1 (.slice (some ⟨wr.heap.size, 0, none⟩) 1 1) 1 [.int .i64 ((m : Int) + 1)] := .inr ⟨_, 1, rfl, rfl, World.news_of_block (Has.fresh _ _)⟩
        have Hgv := Lib.hid hgv
        have hxb : xs.length ≤ 1001 := by rw [Hxl.out]; omega
        have Hth := Lib.hid hth
        have hbw := hb.size
        clear hcell hgo hup hndm hth hpa hho hupu c1 c2 hfin Hgo hgv Hxs
        by_cases hp0 : pa = 0
        · have hu2 : up = ho := by rw [hupo, if_pos hp0]
          subst hp0
          subst hu2
          clear hupo
          go_wp2_with fail
          refine (there_any l _ c _ wr).mono ?_
          rintro e w1 ⟨rfl, rfl⟩
          rw [Hth.out]
          go_wp2_with (at_builtin; refine wpList_append_gives rfl (.tmp 19) (.tmp 21) 55 rfl w.heap.size 3 i0 _ 1 8 Try.underlying55 Hi.out Hz0.out Hz1.out Hz2.out rfl (by decide) (.slice Ao xs.length co) xs.length (xs.map (Value.int .i64)) rfl (hown.alloc _) _ 1 [.int .i64 ((m : Int) + 1)] rfl Hgv.out (by intro u hu; obtain rfl := List.mem_singleton.1 hu; rfl) (by unfold maxLen; omega) (by omega) (by simp; omega) ?_; intro v2 w2 ho2 hg2; obtain ⟨A2, c2, rfl, hc2⟩ := own_form ho2; have hb2 : Below w.heap.size w w2 := (hb.alloc hbw _).grown hg2 (by simp; omega) (fun k hk => (hown.lt k hk).1); have d1 := (hb2.cell (p := ⟨g, m * 9 + 1, none⟩) hgw).trans C1.out; have d2 := (hb2.cell (p := ⟨g, m * 9 + 2, none⟩) hgw).trans C2.out)
          go_roundw
          case rel => exact ⟨j + 1, _, xs ++ [(m : Int) + 1], rfl, by go_num, by omega, by simp [Hxl.out], Hfin.out, by have := kids_more ho2; simpa using this, hb2⟩
          case measure => simp [intOf]; omega
        · have hu2 : up = pa := by rw [hupo, if_neg hp0]
          subst hu2
          clear hupo
          have hp0' : (up == 0) = false := by simpa using hp0
          go_wp2_with fail
          refine (there_any l _ c _ wr).mono ?_
          rintro e w1 ⟨rfl, rfl⟩
          rw [Hth.out]
          go_wp2_with (at_builtin; refine wpList_append_gives rfl (.tmp 19) (.tmp 21) 55 rfl w.heap.size 3 i0 _ 1 8 Try.underlying55 Hi.out Hz0.out Hz1.out Hz2.out rfl (by decide) (.slice Ao xs.length co) xs.length (xs.map (Value.int .i64)) rfl (hown.alloc _) _ 1 [.int .i64 ((m : Int) + 1)] rfl Hgv.out (by intro u hu; obtain rfl := List.mem_singleton.1 hu; rfl) (by unfold maxLen; omega) (by omega) (by simp; omega) ?_; intro v2 w2 ho2 hg2; obtain ⟨A2, c2, rfl, hc2⟩ := own_form ho2; have hb2 : Below w.heap.size w w2 := (hb.alloc hbw _).grown hg2 (by simp; omega) (fun k hk => (hown.lt k hk).1); have d1 := (hb2.cell (p := ⟨g, m * 9 + 1, none⟩) hgw).trans C1.out; have d2 := (hb2.cell (p := ⟨g, m * 9 + 2, none⟩) hgw).trans C2.out)
          go_roundw
          case rel => exact ⟨j + 1, _, xs ++ [(m : Int) + 1], rfl, by go_num, by omega, by simp [Hxl.out], Hfin.out, by have := kids_more ho2; simpa using this, hb2⟩
          case measure => simp [intOf]; omega
      | false =>
        go_wp2_with fail
        refine (there_any l A c id wr).mono ?_
        rintro e w1 ⟨rfl, rfl⟩
        rw [hth]
        go_wp2
        go_ret
        refine ⟨_, rfl, ?_, hb⟩
        have := Hxs.out
        rw [over_end hth, List.append_nil] at this
        rw [← this]
        exact ⟨own_base hown (Nat.zero_le _), fun _ _ => trivial⟩
    · go_wp2
      go_ret
      refine ⟨_, rfl, ?_, hb⟩
      have := Hxs.out
      rw [show l.length + 1 - j = 0 by omega] at this
      rw [← this, overN, List.append_nil]
      exact ⟨own_base hown (Nat.zero_le _), fun _ _ => trivial⟩
end Go.Proofs.Ytekmgaigppenlaa

namespace Go.Proofs.Ytekmgaigppenlaa
open Go Go.RowKit
variable {G : Nat → Prop}

section
variable {w : World} {B g c m f : Nat} {l : List Nd} {u : Value} {F : Nd → Nd}
theorem nd_at {l : List Nd} {m : Nat} (hm : m < l.length) : nd l ((m : Int) + 1) = l[m] := by
  rw [nd, show ((m : Int) + 1 - 1).toNat = m by omega, List.getD_eq_getElem?_getD, List.getElem?_eq_getElem hm]
  rfl
theorem modN_at {l : List Nd} {m : Nat} (hm : m < l.length) (F : Nd → Nd) : modN l ((m : Int) + 1) F = l.set m (F l[m]) := by
  rw [modN, nd_at hm, show ((m : Int) + 1 - 1).toNat = m by omega]
theorem there_at {l : List Nd} {id : Int} (h : thereB l id = true) : ∃ m : Nat, id = (m : Int) + 1 ∧ m < l.length := by
  have := thereB_iff.1 h
  exact ⟨(id - 1).toNat, by omega, by omega⟩
/-- One field of one node is written. -/
theorem Nodes.turn (h : Nodes G w B (some ⟨g, 0, none⟩) c l) (hm : m < l.length) (hf : f < 9) (hF : ∀ d k, (F d).cells k = (d.cells k).set f u) (hk : ∀ d, (F d).kids = d.kids) :
    (∃ x, w.cell? ⟨g, m * 9 + f, none⟩ = some x) ∧ w.frozen? ⟨g, m * 9 + f, none⟩ = false ∧ Nodes G (w.setCell ⟨g, m * 9 + f, none⟩ u) B (some ⟨g, 0, none⟩) c (modN l ((m : Int) + 1) F) := by
  obtain ⟨g', k', e, _, _, hz, hc⟩ := h.at_ hm
  obtain rfl : g = g' := by simpa using e
  refine ⟨⟨(l[m].cells k')[f]'(by rw [Nd.cells_length]; exact hf), by rw [hc f hf, List.getElem?_eq_getElem]⟩, hz _, ?_⟩
  rw [modN_at hm]
  exact h.store hm hf fun k => ⟨k, hF _ k, fun h => by rw [hk]; exact h⟩
theorem Nodes.some_ {A : Option Addr} (h : Nodes G w B A c l) (hm : m < l.length) : ∃ g, A = some ⟨g, 0, none⟩ ∧ B ≤ g := by
  obtain ⟨g, k, e, hg, _⟩ := h.at_ hm
  exact ⟨g, e, hg⟩
end

/-- The nodes then, and an error's number. -/
def Gave (G : Nat → Prop) (w : World) (l' : List Nd) (err : Int) (e : Ending) (w' : World) : Prop := ∃ A' c', e = .returned (.tuple #[.slice A' l'.length c', .int .i64 err]) ∧ Nodes G w' 0 A' c' l' ∧ Below w.heap.size w w'

set_option maxHeartbeats 2000000 in
theorem name_any (l : List Nd) (A : Option Addr) (c : Nat) (id : Int) (s : ByteArray) (w : World) (hs : s.size ≤ 9223372036854775807) (hl : l.length ≤ 1000) (hk : ∀ d ∈ l, d.kids.length ≤ 100000) (hG : Fut G w.heap.size) (h : Nodes G w 0 A c l) :
    Calls Try.prog 49 #[.slice A l.length c, .int .i64 id, .string s] w (Gave G w (nameL l id s) (nameErr l id s)) := by
  have H := Lib.hid h
  have Hk := Lib.hid hk
  clear h hk
  have hnot : ∀ (x : Bool) (w : World), (Op.unary .not (.bool x)).run Try.prog w = .ok (.bool (!x)) w := fun _ _ => rfl
  cases hth : thereB l id with
  | false =>
    have e1 : nameErr l id s = 1 := by unfold nameErr; rw [if_pos (.inl hth)]
    have e2 : nameL l id s = l := by unfold nameL; rw [e1]; rfl
    rw [e1, e2]
    have Hth := Lib.hid hth
    clear hth e1 e2
    go_enter Try.func49, Try.ntmps49
    go_wp2_with fail
    refine (there_any l A c id w).mono ?_
    rintro e w1 ⟨rfl, rfl⟩
    rw [Hth.out]
    go_wp2
    go_ret2
    exact ⟨_, _, rfl, H.out, Below.refl _ _⟩
  | true =>
    have Hth := Lib.hid hth
    cases hok : okName s with
    | false =>
      have e1 : nameErr l id s = 1 := by unfold nameErr; rw [if_pos (.inr hok)]
      have e2 : nameL l id s = l := by unfold nameL; rw [e1]; rfl
      rw [e1, e2]
      have Hok := Lib.hid hok
      clear hth hok e1 e2
      go_enter Try.func49, Try.ntmps49
      go_wp2_with fail
      refine (there_any l A c id w).mono ?_
      rintro e w1 ⟨rfl, rfl⟩
      rw [Hth.out]
      go_wp2_with fail
      refine (named_any s w hs).mono ?_
      rintro e w1 ⟨rfl, rfl⟩
      rw [Hok.out]
      go_wp2
      go_ret2
      exact ⟨_, _, rfl, H.out, Below.refl _ _⟩
    | true =>
      obtain ⟨m, rfl, hm⟩ := there_at hth
      obtain ⟨g, k, rfl, -, -, -, hcell⟩ := H.out.at_ hm
      have c5 : w.cell? ⟨g, m * 9 + 5, none⟩ = some (.bool (nd l ((m : Int) + 1)).slot) := by rw [nd_at hm]; exact hcell 5 (by omega)
      have Hok := Lib.hid hok
      have he : nameErr l ((m : Int) + 1) s = if (nd l ((m : Int) + 1)).slot = false then 2 else 0 := by unfold nameErr; rw [if_neg (by rw [hth, hok]; simp)]
      have hL : nameL l ((m : Int) + 1) s = if nameErr l ((m : Int) + 1) s = 0 then modN l ((m : Int) + 1) (fun d => { d with name := s }) else l := rfl
      clear hcell hth hok
      cases hsl : (nd l ((m : Int) + 1)).slot with
      | false =>
        rw [hsl, if_pos rfl] at he
        rw [he, if_neg (by decide)] at hL
        rw [hsl] at c5
        rw [he, hL]
        clear he hL hsl
        go_enter Try.func49, Try.ntmps49
        go_wp2_with fail
        refine (there_any l _ c _ w).mono ?_
        rintro e w1 ⟨rfl, rfl⟩
        rw [Hth.out]
        go_wp2_with fail
        refine (named_any s w hs).mono ?_
        rintro e w1 ⟨rfl, rfl⟩
        rw [Hok.out]
        go_wp2
        go_ret2
        exact ⟨_, _, rfl, H.out, Below.refl _ _⟩
      | true =>
        rw [hsl, if_neg (by decide)] at he
        rw [he, if_pos rfl] at hL
        rw [hsl] at c5
        rw [he, hL]
        clear he hL hsl
        go_enter Try.func49, Try.ntmps49
        go_wp2_with fail
        refine (there_any l _ c _ w).mono ?_
        rintro e w1 ⟨rfl, rfl⟩
        rw [Hth.out]
        go_wp2_with fail
        refine (named_any s w hs).mono ?_
        rintro e w1 ⟨rfl, rfl⟩
        rw [Hok.out]
        go_wp2_with fail
        refine (copy_any l _ c w hl Hk.out hG H.out).mono ?_
        rintro e w1 ⟨A', c', rfl, hN, hb⟩
        obtain ⟨g', rfl, hg'⟩ := hN.some_ hm
        obtain ⟨⟨x, hx⟩, hz, hN2⟩ := hN.turn (F := fun d => { d with name := s }) (u := .string s) (f := 6) hm (by omega) (fun _ _ => rfl) (fun _ => rfl)
        have HN2 := Lib.hid hN2
        have hlen := modN_length l ((m : Int) + 1) (fun d => { d with name := s })
        have Hlen := Lib.hid hlen
        clear hN2 hlen
        go_wp2
        go_ret2
        refine ⟨_, _, ?_, HN2.out.from_ (Nat.zero_le _), hb.setCell hg' _⟩
        rw [Hlen.out]
        rfl
set_option maxHeartbeats 2000000 in
theorem want_any (l : List Nd) (A : Option Addr) (c : Nat) (id : Int) (s : ByteArray) (w : World) (hs : s.size ≤ 9223372036854775807) (hl : l.length ≤ 1000) (hk : ∀ d ∈ l, d.kids.length ≤ 100000) (hG : Fut G w.heap.size) (h : Nodes G w 0 A c l) :
    Calls Try.prog 50 #[.slice A l.length c, .int .i64 id, .string s] w (Gave G w (wantL l id s) (wantErr l id s)) := by
  have H := Lib.hid h
  have Hk := Lib.hid hk
  clear h hk
  have hnot : ∀ (x : Bool) (w : World), (Op.unary .not (.bool x)).run Try.prog w = .ok (.bool (!x)) w := fun _ _ => rfl
  cases hth : thereB l id with
  | false =>
    have e1 : wantErr l id s = 1 := by unfold wantErr; rw [if_pos (.inl hth)]
    have e2 : wantL l id s = l := by unfold wantL; rw [e1]; rfl
    rw [e1, e2]
    have Hth := Lib.hid hth
    clear hth e1 e2
    go_enter Try.func50, Try.ntmps50
    go_wp2_with fail
    refine (there_any l A c id w).mono ?_
    rintro e w1 ⟨rfl, rfl⟩
    rw [Hth.out]
    go_wp2
    go_ret2
    exact ⟨_, _, rfl, H.out, Below.refl _ _⟩
  | true =>
    have Hth := Lib.hid hth
    cases hok : okName s with
    | false =>
      have e1 : wantErr l id s = 1 := by unfold wantErr; rw [if_pos (.inr hok)]
      have e2 : wantL l id s = l := by unfold wantL; rw [e1]; rfl
      rw [e1, e2]
      have Hok := Lib.hid hok
      clear hth hok e1 e2
      go_enter Try.func50, Try.ntmps50
      go_wp2_with fail
      refine (there_any l A c id w).mono ?_
      rintro e w1 ⟨rfl, rfl⟩
      rw [Hth.out]
      go_wp2_with fail
      refine (named_any s w hs).mono ?_
      rintro e w1 ⟨rfl, rfl⟩
      rw [Hok.out]
      go_wp2
      go_ret2
      exact ⟨_, _, rfl, H.out, Below.refl _ _⟩
    | true =>
      obtain ⟨m, rfl, hm⟩ := there_at hth
      obtain ⟨g, k, rfl, -, -, -, hcell⟩ := H.out.at_ hm
      have c5 : w.cell? ⟨g, m * 9, none⟩ = some (.int .i64 (nd l ((m : Int) + 1)).kind) := by rw [nd_at hm]; exact hcell 0 (by omega)
      have Hok := Lib.hid hok
      have he : wantErr l ((m : Int) + 1) s = if (nd l ((m : Int) + 1)).kind ≠ 2 then 2 else 0 := by unfold wantErr; rw [if_neg (by rw [hth, hok]; simp)]
      have hL : wantL l ((m : Int) + 1) s = if wantErr l ((m : Int) + 1) s = 0 then modN l ((m : Int) + 1) (fun d => { d with want := s }) else l := rfl
      clear hcell hth hok
      obtain ⟨kk, hkk⟩ : ∃ kk, kk = (nd l ((m : Int) + 1)).kind := ⟨_, rfl⟩
      rw [← hkk] at he c5
      clear hkk
      by_cases hsl : kk ≠ 2
      · rw [if_pos hsl] at he
        rw [he, if_neg (by decide)] at hL
        rw [he, hL]
        clear he hL
        have hb2 : (kk == 2) = false := by simpa using hsl
        go_enter Try.func50, Try.ntmps50
        go_wp2_with fail
        refine (there_any l _ c _ w).mono ?_
        rintro e w1 ⟨rfl, rfl⟩
        rw [Hth.out]
        go_wp2_with fail
        refine (named_any s w hs).mono ?_
        rintro e w1 ⟨rfl, rfl⟩
        rw [Hok.out]
        go_wp2
        go_ret2
        exact ⟨_, _, rfl, H.out, Below.refl _ _⟩
      · rw [if_neg hsl] at he
        rw [he, if_pos rfl] at hL
        rw [he, hL]
        clear he hL
        obtain rfl : kk = 2 := by omega
        go_enter Try.func50, Try.ntmps50
        go_wp2_with fail
        refine (there_any l _ c _ w).mono ?_
        rintro e w1 ⟨rfl, rfl⟩
        rw [Hth.out]
        go_wp2_with fail
        refine (named_any s w hs).mono ?_
        rintro e w1 ⟨rfl, rfl⟩
        rw [Hok.out]
        go_wp2_with fail
        refine (copy_any l _ c w hl Hk.out hG H.out).mono ?_
        rintro e w1 ⟨A', c', rfl, hN, hb⟩
        obtain ⟨g', rfl, hg'⟩ := hN.some_ hm
        obtain ⟨⟨x, hx⟩, hz, hN2⟩ := hN.turn (F := fun d => { d with want := s }) (u := .string s) (f := 7) hm (by omega) (fun _ _ => rfl) (fun _ => rfl)
        have HN2 := Lib.hid hN2
        have hlen := modN_length l ((m : Int) + 1) (fun d => { d with want := s })
        have Hlen := Lib.hid hlen
        clear hN2 hlen
        go_wp2
        go_ret2
        refine ⟨_, _, ?_, HN2.out.from_ (Nat.zero_le _), hb.setCell hg' _⟩
        rw [Hlen.out]
        rfl
end Go.Proofs.Ytekmgaigppenlaa

namespace Go.Proofs.Ytekmgaigppenlaa
open Go Go.RowKit
variable {G : Nat → Prop}

theorem tie_same {l : List Nd} {h r e : Int} (he : tieErr l h r = e) (h0 : e ≠ 0) : tieL l h r = l := by unfold tieL; rw [he, if_neg h0]
theorem Gave.same {w : World} {l l' : List Nd} {A : Option Addr} {c : Nat} {err e : Int} (he : err = e) (hl : l' = l) (h : Nodes G w 0 A c l) : Gave G w l' err (.returned (.tuple #[.slice A l.length c, .int .i64 e])) w := by
  subst he
  subst hl
  exact ⟨_, _, rfl, h, Below.refl _ _⟩
theorem Gave.later {w w' : World} {l l' : List Nd} {A : Option Addr} {c : Nat} {err e : Int} (he : err = e) (hl : l' = l) (h : Nodes G w 0 A c l) (hb : Below w.heap.size w w') : Gave G w l' err (.returned (.tuple #[.slice A l.length c, .int .i64 e])) w' := by
  subst he
  subst hl
  exact ⟨_, _, rfl, h.below hb, hb⟩

set_option maxHeartbeats 4000000 in
theorem tie_any (l : List Nd) (A : Option Addr) (c : Nat) (h r : Int) (w : World) (hl : l.length ≤ 1000) (hk : ∀ d ∈ l, d.kids.length ≤ 100000) (hG : Fut G w.heap.size) (hN : Nodes G w 0 A c l) :
    Calls Try.prog 48 #[.slice A l.length c, .int .i64 h, .int .i64 r] w (Gave G w (tieL l h r) (tieErr l h r)) := by
  have H := Lib.hid hN
  have Hk := Lib.hid hk
  clear hN hk
  have hnot : ∀ (x : Bool) (w : World), (Op.unary .not (.bool x)).run Try.prog w = .ok (.bool (!x)) w := fun _ _ => rfl
  go_enter Try.func48, Try.ntmps48
  go_wp2_with fail
  refine (there_any l A c h w).mono ?_
  rintro e w1 ⟨rfl, rfl⟩
  cases hth : thereB l h with
  | false =>
    have e1 : tieErr l h r = 1 := by unfold tieErr; rw [if_pos (.inl hth)]
    have E1 := Lib.hid e1
    clear e1 hth
    go_wp2
    go_ret2
    exact Gave.same E1.out (tie_same E1.out (by decide)) H.out
  | true =>
    go_wp2_with fail
    refine (there_any l A c r w).mono ?_
    rintro e w1 ⟨rfl, rfl⟩
    cases htr : thereB l r with
    | false =>
      have e1 : tieErr l h r = 1 := by unfold tieErr; rw [if_pos (.inr htr)]
      have E1 := Lib.hid e1
      clear e1 hth htr
      go_wp2
      go_ret2
      exact Gave.same E1.out (tie_same E1.out (by decide)) H.out
    | true =>
      obtain ⟨m, rfl, hm⟩ := there_at hth
      obtain ⟨q, rfl, hq⟩ := there_at htr
      obtain ⟨g, k, rfl, -, -, -, hcm⟩ := H.out.at_ hm
      obtain ⟨g', k', e', -, -, -, hcq⟩ := H.out.at_ hq
      obtain rfl : g = g' := by simpa using e'
      have e0 : tieErr l ((m : Int) + 1) ((q : Int) + 1) = if (nd l ((m : Int) + 1)).kind ≠ 2 ∨ (nd l ((q : Int) + 1)).kind ≠ 3 then 2 else if (nd l ((m : Int) + 1)).shadow ≠ 0 ∨ (nd l ((q : Int) + 1)).host ≠ 0 then 6 else if hasB (over l ((m : Int) + 1)) ((q : Int) + 1) = true then 3 else 0 := by
        unfold tieErr
        rw [if_neg (by rw [hth, htr]; simp)]
      have c1 : w.cell? ⟨g, m * 9, none⟩ = some (.int .i64 (nd l ((m : Int) + 1)).kind) := by rw [nd_at hm]; exact hcm 0 (by omega)
      have c2 : w.cell? ⟨g, m * 9 + 3, none⟩ = some (.int .i64 (nd l ((m : Int) + 1)).shadow) := by rw [nd_at hm]; exact hcm 3 (by omega)
      have c3 : w.cell? ⟨g, q * 9, none⟩ = some (.int .i64 (nd l ((q : Int) + 1)).kind) := by rw [nd_at hq]; exact hcq 0 (by omega)
      have c4 : w.cell? ⟨g, q * 9 + 2, none⟩ = some (.int .i64 (nd l ((q : Int) + 1)).host) := by rw [nd_at hq]; exact hcq 2 (by omega)
      obtain ⟨k1, hk1⟩ : ∃ x, x = (nd l ((m : Int) + 1)).kind := ⟨_, rfl⟩
      obtain ⟨k2, hk2⟩ : ∃ x, x = (nd l ((m : Int) + 1)).shadow := ⟨_, rfl⟩
      obtain ⟨k3, hk3⟩ : ∃ x, x = (nd l ((q : Int) + 1)).kind := ⟨_, rfl⟩
      obtain ⟨k4, hk4⟩ : ∃ x, x = (nd l ((q : Int) + 1)).host := ⟨_, rfl⟩
      rw [← hk1] at c1 e0
      rw [← hk2] at c2 e0
      rw [← hk3] at c3 e0
      rw [← hk4] at c4 e0
      have E0 := Lib.hid e0
      clear hcm hcq e0 hk1 hk2 hk3 hk4 hth htr e'
      by_cases h1 : k1 = 2
      · subst h1
        by_cases h3 : k3 = 3
        · subst h3
          by_cases h2 : k2 = 0
          · subst h2
            by_cases h4 : k4 = 0
            · subst h4
              go_wp2_with fail
              refine (over_any l _ c _ w hl H.out).mono ?_
              rintro e w1 ⟨v, rfl, hK, hb⟩
              obtain ⟨Av, cv, rfl, hcv, hnum⟩ := hK.form
              go_wp2_with fail
              refine (has_any (over l ((m : Int) + 1)) Av _ cv _ w1 rfl (Nat.le_trans (over_len l (l.length + 1) _) (by omega)) hnum).mono ?_
              rintro e w2 ⟨rfl, rfl⟩
              cases hh : hasB (over l ((m : Int) + 1)) ((q : Int) + 1) with
              | true =>
                have e1 : tieErr l ((m : Int) + 1) ((q : Int) + 1) = 3 := by rw [E0.out, if_neg (by simp), if_neg (by simp), if_pos hh]
                have E1 := Lib.hid e1
                clear e1 hh
                go_wp2
                go_ret2
                exact Gave.later E1.out (tie_same E1.out (by decide)) H.out hb
              | false =>
                have e1 : tieErr l ((m : Int) + 1) ((q : Int) + 1) = 0 := by rw [E0.out, if_neg (by simp), if_neg (by simp), if_neg (by rw [hh]; decide)]
                have e2 : tieL l ((m : Int) + 1) ((q : Int) + 1) = modN (modN l ((m : Int) + 1) fun d => { d with shadow := (q : Int) + 1 }) ((q : Int) + 1) fun d => { d with host := (m : Int) + 1 } := by unfold tieL; rw [if_pos e1]
                have E1 := Lib.hid e1
                have E2 := Lib.hid e2
                have hN1 := H.out.below hb
                clear e1 e2 hh hnum hK
                go_wp2_with fail
                refine (copy_any l _ c w1 hl Hk.out (hG.mono hb.size) hN1).mono ?_
                rintro e w2 ⟨A', c', rfl, hN2, hb2⟩
                obtain ⟨g', rfl, hg'⟩ := hN2.some_ hm
                obtain ⟨⟨x, hx⟩, hz, hN3⟩ := hN2.turn (F := fun d => { d with shadow := (q : Int) + 1 }) (u := .int .i64 ((q : Int) + 1)) (f := 3) hm (by omega) (fun _ _ => rfl) (fun _ => rfl)
                have hq' : q < (modN l ((m : Int) + 1) fun d => { d with shadow := (q : Int) + 1 }).length := by rw [modN_length]; exact hq
                obtain ⟨⟨y, hy⟩, hz', hN4⟩ := hN3.turn (F := fun d => { d with host := (m : Int) + 1 }) (u := .int .i64 ((m : Int) + 1)) (f := 2) hq' (by omega) (fun _ _ => rfl) (fun _ => rfl)
                have hB2 : Below w.heap.size w w2 := hb.trans (hb2.mono hb.size)
                have hgw : w.heap.size ≤ g' := Nat.le_trans hb.size hg'
                have HN4 := Lib.hid hN4
                have hlen : (modN (modN l ((m : Int) + 1) fun d => { d with shadow := (q : Int) + 1 }) ((q : Int) + 1) fun d => { d with host := (m : Int) + 1 }).length = l.length := by rw [modN_length, modN_length]
                have Hlen := Lib.hid hlen
                clear hN4 hN3 hlen hN2 hN1
                go_wp2
                go_ret2
                rw [Gave, E1.out, E2.out]
                refine ⟨_, _, ?_, HN4.out.from_ (Nat.zero_le _), (hB2.setCell hgw _).setCell hgw _⟩
                rw [Hlen.out]
                rfl
            · have h4' : (k4 == 0) = false := by simpa using h4
              have e1 : tieErr l ((m : Int) + 1) ((q : Int) + 1) = 6 := by rw [E0.out, if_neg (by simp), if_pos (.inr h4)]
              have E1 := Lib.hid e1
              clear e1
              go_wp2
              go_ret2
              exact Gave.same E1.out (tie_same E1.out (by decide)) H.out
          · have h2' : (k2 == 0) = false := by simpa using h2
            have e1 : tieErr l ((m : Int) + 1) ((q : Int) + 1) = 6 := by rw [E0.out, if_neg (by simp), if_pos (.inl h2)]
            have E1 := Lib.hid e1
            clear e1
            go_wp2
            go_ret2
            exact Gave.same E1.out (tie_same E1.out (by decide)) H.out
        · have h3' : (k3 == 3) = false := by simpa using h3
          have e1 : tieErr l ((m : Int) + 1) ((q : Int) + 1) = 2 := by rw [E0.out, if_pos (.inr h3)]
          have E1 := Lib.hid e1
          clear e1
          go_wp2
          go_ret2
          exact Gave.same E1.out (tie_same E1.out (by decide)) H.out
      · have h1' : (k1 == 2) = false := by simpa using h1
        have e1 : tieErr l ((m : Int) + 1) ((q : Int) + 1) = 2 := by rw [E0.out, if_pos (.inl h1)]
        have E1 := Lib.hid e1
        clear e1
        go_wp2
        go_ret2
        exact Gave.same E1.out (tie_same E1.out (by decide)) H.out
end Go.Proofs.Ytekmgaigppenlaa

namespace Go.Proofs.Ytekmgaigppenlaa
open Go

section
variable {P : Program} {ops : Array Oper} {Q : Exit → Act → World → Prop} {pin : List Nat}

/-- May the operations come up in this order, each pinned one alone? -/
def ordOk (md : Region.Mode) (ops : Array Oper) (pin : List Nat) : List Nat → Array Bool → Bool
  | [], listed => Region.ready md ops listed == []
  | i :: r, listed => (if pin.contains i then Region.ready md ops listed == [i] else (Region.free md ops listed i && (Region.ready md ops listed).contains i)) && (ops[i]?).isSome && ordOk md ops pin r (listed.setIfInBounds i true)

/-- The operations in that order. -/
def picked (l : List Oper) : List Nat → List (Nat × Oper)
  | [] => []
  | i :: r => match l[i]? with
    | some o => (i, o) :: picked l r
    | none => picked l r

def wpOrd (P : Program) (ops : Array Oper) (Q : Exit → Act → World → Prop) (pin : List Nat) : (World → Prop) → List (Nat × Oper) → Act → World → Prop
  | _, [], a, w => Q .normal a w
  | S, (i, o) :: r, a, w => ∃ S' : World → Prop, (∀ w, S' w → S w) ∧
      if pin.contains i = true then wpOp P ops Q i (fun a' w' => S' w' ∧ wpOrd P ops Q pin S' r a' w') a w
      else ∃ v, YieldsIf P ops S' o v a ∧ S' w ∧ wpOrd P ops Q pin S' r (a.put o.dst v) w

theorem wpAnyH_wide {md : Region.Mode} {S S' : World → Prop} (hS : ∀ w, S' w → S w) : ∀ (fuel : Nat) (listed : Array Bool) (a : Act) (w : World), wpAnyH P md ops Q S' fuel listed a w → wpAnyH P md ops Q S fuel listed a w
  | 0, _, _, _, h => h
  | fuel + 1, _, _, _, h => ⟨h.1, fun i hi => wpOp_mono (fun a' w' h' => ⟨hS _ h'.1, wpAnyH_wide hS fuel _ a' w' h'.2⟩) (h.2 i hi)⟩

theorem wpAnyH_of_ord {md : Region.Mode} (hs : Region.noSelect ops = true) (hQ : ∀ c a d v w, Q (.panic c) (Act.put a d v) w → Q (.panic c) a w) :
    ∀ (l : List Nat) (S : World → Prop) (fuel : Nat) (listed : Array Bool) (a : Act) (w : World), l.length ≤ fuel → ordOk md ops pin l listed = true → wpOrd P ops Q pin S (picked ops.toList l) a w → wpAnyH P md ops Q S fuel listed a w
  | [], S, fuel, listed, a, w, _, hk, h => wpAnyH_done (by simpa [ordOk] using hk) h fuel
  | i :: r, _, 0, _, _, _, hl, _, _ => by simp at hl
  | i :: r, S, fuel + 1, listed, a, w, hl, hk, h => by
    simp only [ordOk, Bool.and_eq_true] at hk
    obtain ⟨⟨hk1, hk3⟩, hk2⟩ := hk
    obtain ⟨o, ho⟩ := Option.isSome_iff_exists.1 hk3
    have ho' : ops.toList[i]? = some o := by simpa using ho
    simp only [picked, ho', wpOrd] at h
    obtain ⟨S', hSS, h⟩ := h
    refine wpAnyH_wide hSS _ _ _ _ ?_
    have hl' : r.length ≤ fuel := by simpa using hl
    by_cases hp : pin.contains i = true
    · rw [if_pos hp] at h hk1
      have hr : Region.ready md ops listed = [i] := by simpa using hk1
      refine wpAnyH_all hr (by simp) fun j hj => ?_
      have : j = i := by simpa using hj
      subst this
      exact wpOp_mono (fun a' w' h' => ⟨h'.1, wpAnyH_of_ord hs hQ r _ fuel _ a' w' hl' hk2 h'.2⟩) h
    · rw [if_neg hp] at h hk1
      obtain ⟨v, hy, hS, h⟩ := h
      simp only [Bool.and_eq_true] at hk1
      exact wpAnyH_take ho hs hk1.1 hk1.2 (fun c a w => hQ c a _ v w) hy hS (wpAnyH_of_ord hs hQ r _ fuel _ _ _ hl' hk2 h)

/-- The beginning. -/
theorem wp_region_ord {S : World → Prop} {ol : List Oper} {id : Nat} {a : Act} {w : World} {l : List Nat} (hm : P.follows .mixedOrders = true) (hs : Region.noSelect ol.toArray = true) (hl : (l.length == ol.length) = true)
    (hk : ordOk .any ol.toArray pin l (Array.replicate ol.length false) = true) (hS : S w.drew)
    (h : S w.drew → wpOrd P ol.toArray (NoPanic Q) pin S (picked ol l) a w.drew) : (Code.region id ol.toArray true).wp P Q a w :=
  wp_region_noPanic (wp_region_held hm (wpAnyH_of_ord hs (fun _ _ _ _ _ h => h) l S ol.toArray.size _ a _ (by
    have : l.length = ol.length := by simpa using hl
    simp; omega) (by simpa using hk) (h hS)))

variable {i : Nat} {r : List (Nat × Oper)} {o : Oper} {a : Act} {w : World} {v : Value} {S : World → Prop}
/-- From here on S' holds. -/
theorem ord_tight (S' : World → Prop) (hS : ∀ w, S' w → S w) (hw : S' w) (h : S' w → wpOrd P ops Q pin S' r a w) : wpOrd P ops Q pin S r a w := by
  match r, h hw with
  | [], h => exact h
  | (_, _) :: _, ⟨S'', h1, h2⟩ => exact ⟨S'', fun w hw => hS w (h1 w hw), h2⟩
theorem ord_skip (hp : pin.contains i = false) (hw : Region.wanted o (yielded ops a.tmps) = false) (hS : S w) (h : wpOrd P ops Q pin S r (a.put o.dst undef) w) : wpOrd P ops Q pin S ((i, o) :: r) a w := by
  unfold wpOrd
  refine ⟨S, fun _ h => h, ?_⟩
  rw [if_neg (by rw [hp]; decide)]
  exact ⟨undef, .inr ⟨hw, rfl⟩, hS, h⟩
theorem ord_take (hp : pin.contains i = false) (hw : Region.wanted o (yielded ops a.tmps) = true) (hy : ∀ w, S w → (execOp a.eval o).run P w = .ok (.value v) w) (hS : S w)
    (h : wpOrd P ops Q pin S r (a.put o.dst v) w) : wpOrd P ops Q pin S ((i, o) :: r) a w := by
  unfold wpOrd
  refine ⟨S, fun _ h => h, ?_⟩
  rw [if_neg (by rw [hp]; decide)]
  exact ⟨v, .inl ⟨hw, hy⟩, hS, h⟩
theorem ord_run (hp : pin.contains i = true) (ho : ops[i]? = some o) (hw : Region.wanted o (yielded ops a.tmps) = true)
    (h : ∀ K' : Act → World → Prop, Shut (∀ a w, S w → (S w → wpOrd P ops Q pin S r a w) → K' a w) → Oper.wp P o a w K' Q) : wpOrd P ops Q pin S ((i, o) :: r) a w := by
  unfold wpOrd
  refine ⟨S, fun _ h => h, ?_⟩
  rw [if_pos hp]
  exact wpOp_step ho fun K' hK => by rw [if_pos hw]; exact h K' fun a w hS hW => hK a w ⟨hS, hW hS⟩
theorem ord_pass (hp : pin.contains i = true) (ho : ops[i]? = some o) (hw : Region.wanted o (yielded ops a.tmps) = false) (hS : S w) (h : wpOrd P ops Q pin S r (a.put o.dst undef) w) : wpOrd P ops Q pin S ((i, o) :: r) a w := by
  unfold wpOrd
  refine ⟨S, fun _ h => h, ?_⟩
  rw [if_pos hp]
  exact wpOp_step ho fun K' hK => by rw [if_neg (by rw [hw]; decide)]; exact hK _ _ ⟨hS, h⟩
theorem ord_done (h : Q .normal a w) : wpOrd P ops (NoPanic Q) pin S [] a w := h
end
end Go.Proofs.Ytekmgaigppenlaa

namespace Go.Proofs.Ytekmgaigppenlaa
open Go

section
variable {P : Program} {ops : Array Oper} {Q : Exit → Act → World → Prop} {md : Region.Mode} {late pin : List Nat}

/-- Does each late operation wait for i? -/
def waits (md : Region.Mode) (ops : Array Oper) (late : List Nat) (i : Nat) : Bool :=
  late.all fun z => match ops[z]? with
    | some o => o.after.any fun e => Region.binds md e && e.on == i
    | none => true

/-- Whatever order is picked; S holds behind every operation that is not late. -/
def wpAnyZ (P : Program) (md : Region.Mode) (ops : Array Oper) (Q : Exit → Act → World → Prop) (late : List Nat) (S : World → Prop) : Nat → Array Bool → Act → World → Prop
  | 0, listed, a, w => Region.ready md ops listed = [] ∧ Q .normal a w
  | n + 1, listed, a, w => (Region.ready md ops listed = [] → Q .normal a w) ∧
      ∀ i ∈ Region.ready md ops listed, wpOp P ops Q i (fun a' w' => (late.contains i = false → S w') ∧ wpAnyZ P md ops Q late S n (listed.setIfInBounds i true) a' w') a w

theorem wpAny_of_Z {S : World → Prop} : ∀ (n : Nat) (listed : Array Bool) (a : Act) (w : World), wpAnyZ P md ops Q late S n listed a w → wpAny P md ops Q n listed a w
  | 0, _, _, _, h => h
  | n + 1, _, _, _, h => ⟨h.1, fun i hi => wpOp_mono (fun a' w' h' => wpAny_of_Z n _ a' w' h'.2) (h.2 i hi)⟩

theorem wpAnyZ_wide {S S' : World → Prop} (hS : ∀ w, S' w → S w) : ∀ (n : Nat) (listed : Array Bool) (a : Act) (w : World), wpAnyZ P md ops Q late S' n listed a w → wpAnyZ P md ops Q late S n listed a w
  | 0, _, _, _, h => h
  | n + 1, _, _, _, h => ⟨h.1, fun i hi => wpOp_mono (fun a' w' h' => ⟨fun hl => hS _ (h'.1 hl), wpAnyZ_wide hS n _ a' w' h'.2⟩) (h.2 i hi)⟩

theorem wpAnyZ_done {S : World → Prop} {listed : Array Bool} {a : Act} {w : World} (hr : Region.ready md ops listed = []) (h : Q .normal a w) : ∀ n, wpAnyZ P md ops Q late S n listed a w
  | 0 => ⟨hr, h⟩
  | _ + 1 => ⟨fun _ => h, fun _ hi => absurd (hr ▸ hi) (List.not_mem_nil)⟩

/-- What is not listed is waited for. -/
theorem not_waiting {listed : Array Bool} {i : Nat} {oj : Oper} (hi : listed.getD i true = false) (hall : ∀ e ∈ oj.after, Region.binds md e = true → listed.getD e.on false = true) : ∀ e ∈ oj.after, Region.binds md e = true → e.on ≠ i := by
  rintro e he hb rfl
  have h := hall e he hb
  simp only [Array.getD] at hi h
  split at hi
  · rename_i hlt
    rw [dif_pos hlt] at h
    exact absurd (h.symm.trans hi) (by decide)
  · cases hi

theorem not_late {i j : Nat} {oj : Oper} (hw : waits md ops late i = true) (hj : ops[j]? = some oj) (hno : ∀ e ∈ oj.after, Region.binds md e = true → e.on ≠ i) : late.contains j = false := by
  cases hl : late.contains j with
  | false => rfl
  | true =>
    have h := List.all_eq_true.1 hw j (List.contains_iff_mem.1 hl)
    rw [hj] at h
    obtain ⟨e, he, hb⟩ := Array.any_eq_true'.1 h
    simp only [Bool.and_eq_true, beq_iff_eq] at hb
    exact absurd hb.2 (hno e he hb.1)

/-- Operation i may be taken first: it yields v in every world that meets S, and whoever could come ahead of it leaves S standing. -/
theorem wpAnyZ_take {S : World → Prop} {i : Nat} {oi : Oper} {v : Value} (hi : ops[i]? = some oi) (hs : Region.noSelect ops = true) (hw : waits md ops late i = true)
    (hQ : ∀ c a w, Q (.panic c) (Act.put a oi.dst v) w → Q (.panic c) a w) :
    ∀ (n : Nat) (listed : Array Bool) (a : Act) (w : World), Region.free md ops listed i = true → i ∈ Region.ready md ops listed → YieldsIf P ops S oi v a → S w →
      wpAnyZ P md ops Q late S n (listed.setIfInBounds i true) (a.put oi.dst v) w → wpAnyZ P md ops Q late S (n + 1) listed a w := by
  intro n
  induction n with
  | zero =>
    intro listed a w _ hr hy hS H
    refine ⟨fun h => absurd (h ▸ hr) List.not_mem_nil, fun j hj => ?_⟩
    by_cases hji : j = i
    · subst hji
      exact hy.wpOp hi hS ⟨fun _ => hS, H⟩
    · exact absurd (H.1 ▸ ready_mono hj hji) List.not_mem_nil
  | succ n ih =>
    intro listed a w hf hr hy hS H
    refine ⟨fun h => absurd (h ▸ hr) List.not_mem_nil, fun j hj => ?_⟩
    by_cases hji : j = i
    · subst hji
      exact hy.wpOp hi hS ⟨fun _ => hS, H⟩
    · obtain ⟨hun, oj, hoj, hall⟩ := mem_ready.1 hj
      have hno := not_waiting (mem_ready.1 hr).1 hall
      have hnl := not_late hw hoj hno
      have step := wpOp_putIf hoj (Region.free_spec hi hf j oj hoj hji hun hno) (fun cs b => Region.noSelect_spec hs i oi cs b hi) (fun cs b => Region.noSelect_spec hs j oj cs b hoj) hQ hy (H.2 j (ready_mono hj hji))
      have hf' : Region.free md ops (listed.setIfInBounds j true) i = true := by
        simp only [Region.free, hi, List.all_eq_true, List.mem_range] at hf ⊢
        intro k hk
        have := hf k hk
        by_cases hjk : j = k
        · subst hjk
          have hlt : j < listed.size := by
            rcases Nat.lt_or_ge j listed.size with h | h
            · exact h
            · simp [Array.getD, Nat.not_lt.2 h] at hun
          simp [Array.getD, hlt]
        · rw [getD_set_ne true hjk]
          exact this
      refine wpOp_mono (fun a' w' h' => ⟨fun _ => h'.2.1 hnl, ih _ a' w' hf' (ready_mono hr (Ne.symm hji)) h'.1 (h'.2.1 hnl) ?_⟩) step
      rw [Array.setIfInBounds_comm _ _ hji]
      exact h'.2.2

/-- May the operations come up in this order, each pinned one alone, each late one behind what was taken first? -/
def lateOk (md : Region.Mode) (ops : Array Oper) (late pin : List Nat) : List Nat → Array Bool → Bool
  | [], listed => Region.ready md ops listed == []
  | i :: r, listed => (if pin.contains i then Region.ready md ops listed == [i] else (Region.free md ops listed i && (Region.ready md ops listed).contains i && waits md ops late i)) && (ops[i]?).isSome && lateOk md ops late pin r (listed.setIfInBounds i true)

def wpLate (P : Program) (ops : Array Oper) (Q : Exit → Act → World → Prop) (late pin : List Nat) : (World → Prop) → List (Nat × Oper) → Act → World → Prop
  | _, [], a, w => Q .normal a w
  | S, (i, o) :: r, a, w => ∃ S' : World → Prop, (∀ w, S' w → S w) ∧
      if pin.contains i = true then wpOp P ops Q i (fun a' w' => (late.contains i = false → S' w') ∧ wpLate P ops Q late pin S' r a' w') a w
      else ∃ v, YieldsIf P ops S' o v a ∧ S' w ∧ wpLate P ops Q late pin S' r (a.put o.dst v) w

theorem wpAnyZ_of_late (hs : Region.noSelect ops = true) (hQ : ∀ c a d v w, Q (.panic c) (Act.put a d v) w → Q (.panic c) a w) :
    ∀ (l : List Nat) (S : World → Prop) (n : Nat) (listed : Array Bool) (a : Act) (w : World), l.length ≤ n → lateOk md ops late pin l listed = true → wpLate P ops Q late pin S (picked ops.toList l) a w → wpAnyZ P md ops Q late S n listed a w
  | [], S, n, listed, a, w, _, hk, h => wpAnyZ_done (by simpa [lateOk] using hk) h n
  | i :: r, _, 0, _, _, _, hl, _, _ => by simp at hl
  | i :: r, S, n + 1, listed, a, w, hl, hk, h => by
    simp only [lateOk, Bool.and_eq_true] at hk
    obtain ⟨⟨hk1, hk3⟩, hk2⟩ := hk
    obtain ⟨o, ho⟩ := Option.isSome_iff_exists.1 hk3
    have ho' : ops.toList[i]? = some o := by simpa using ho
    simp only [picked, ho', wpLate] at h
    obtain ⟨S', hSS, h⟩ := h
    refine wpAnyZ_wide hSS _ _ _ _ ?_
    have hl' : r.length ≤ n := by simpa using hl
    by_cases hp : pin.contains i = true
    · rw [if_pos hp] at h hk1
      have hr : Region.ready md ops listed = [i] := by simpa using hk1
      refine ⟨fun h0 => absurd (h0.symm.trans hr) (by simp), fun j hj => ?_⟩
      rw [hr] at hj
      obtain rfl := List.mem_singleton.1 hj
      exact wpOp_mono (fun a' w' h' => ⟨h'.1, wpAnyZ_of_late hs hQ r _ n _ a' w' hl' hk2 h'.2⟩) h
    · rw [if_neg hp] at h hk1
      obtain ⟨v, hy, hS, h⟩ := h
      simp only [Bool.and_eq_true] at hk1
      exact wpAnyZ_take ho hs hk1.2 (fun c a w => hQ c a _ v w) n listed a w hk1.1.1 (by simpa using hk1.1.2) hy hS (wpAnyZ_of_late hs hQ r _ n _ _ _ hl' hk2 h)

/-- The beginning. -/
theorem wp_region_late {S : World → Prop} {ol : List Oper} {id : Nat} {a : Act} {w : World} {l : List Nat} (hm : P.follows .mixedOrders = true) (hs : Region.noSelect ol.toArray = true) (hl : (l.length == ol.length) = true)
    (hk : lateOk .any ol.toArray late pin l (Array.replicate ol.length false) = true) (hS : S w.drew)
    (h : S w.drew → wpLate P ol.toArray (NoPanic Q) late pin S (picked ol l) a w.drew) : (Code.region id ol.toArray true).wp P Q a w :=
  wp_region_noPanic (wp_region_any hm (wpAny_of_Z _ _ _ _ (wpAnyZ_of_late hs (fun _ _ _ _ _ h => h) l S ol.toArray.size _ a _ (by
    have : l.length = ol.length := by simpa using hl
    simp; omega) (by simpa using hk) (h hS))))

variable {i : Nat} {r : List (Nat × Oper)} {o : Oper} {a : Act} {w : World} {v : Value} {S : World → Prop}
theorem late_tight (S' : World → Prop) (hS : ∀ w, S' w → S w) (hw : S' w) (h : S' w → wpLate P ops Q late pin S' r a w) : wpLate P ops Q late pin S r a w := by
  match r, h hw with
  | [], h => exact h
  | (_, _) :: _, ⟨S'', h1, h2⟩ => exact ⟨S'', fun w hw => hS w (h1 w hw), h2⟩
theorem late_skip (hp : pin.contains i = false) (hw : Region.wanted o (yielded ops a.tmps) = false) (hS : S w) (h : wpLate P ops Q late pin S r (a.put o.dst undef) w) : wpLate P ops Q late pin S ((i, o) :: r) a w := by
  unfold wpLate
  refine ⟨S, fun _ h => h, ?_⟩
  rw [if_neg (by rw [hp]; decide)]
  exact ⟨undef, .inr ⟨hw, rfl⟩, hS, h⟩
theorem late_take (hp : pin.contains i = false) (hw : Region.wanted o (yielded ops a.tmps) = true) (hy : ∀ w, S w → (execOp a.eval o).run P w = .ok (.value v) w) (hS : S w)
    (h : wpLate P ops Q late pin S r (a.put o.dst v) w) : wpLate P ops Q late pin S ((i, o) :: r) a w := by
  unfold wpLate
  refine ⟨S, fun _ h => h, ?_⟩
  rw [if_neg (by rw [hp]; decide)]
  exact ⟨v, .inl ⟨hw, hy⟩, hS, h⟩
/-- A pinned operation that is not late. -/
theorem late_run (hp : pin.contains i = true) (ho : ops[i]? = some o) (hw : Region.wanted o (yielded ops a.tmps) = true)
    (h : ∀ K' : Act → World → Prop, Shut (∀ a w, S w → (S w → wpLate P ops Q late pin S r a w) → K' a w) → Oper.wp P o a w K' Q) : wpLate P ops Q late pin S ((i, o) :: r) a w := by
  unfold wpLate
  refine ⟨S, fun _ h => h, ?_⟩
  rw [if_pos hp]
  exact wpOp_step ho fun K' hK => by rw [if_pos hw]; exact h K' fun a w hS hW => hK a w ⟨fun _ => hS, hW hS⟩
theorem late_pass (hp : pin.contains i = true) (ho : ops[i]? = some o) (hw : Region.wanted o (yielded ops a.tmps) = false) (hS : S w) (h : wpLate P ops Q late pin S r (a.put o.dst undef) w) : wpLate P ops Q late pin S ((i, o) :: r) a w := by
  unfold wpLate
  refine ⟨S, fun _ h => h, ?_⟩
  rw [if_pos hp]
  exact wpOp_step ho fun K' hK => by rw [if_neg (by rw [hw]; decide)]; exact hK _ _ ⟨fun _ => hS, h⟩
/-- A late one. -/
theorem late_last (hp : pin.contains i = true) (hl : late.contains i = true) (ho : ops[i]? = some o) (hw : Region.wanted o (yielded ops a.tmps) = true)
    (h : ∀ K' : Act → World → Prop, Shut (∀ a w, wpLate P ops Q late pin S r a w → K' a w) → Oper.wp P o a w K' Q) : wpLate P ops Q late pin S ((i, o) :: r) a w := by
  unfold wpLate
  refine ⟨S, fun _ h => h, ?_⟩
  rw [if_pos hp]
  exact wpOp_step ho fun K' hK => by rw [if_pos hw]; exact h K' fun a w hW => hK a w ⟨fun hf => absurd (hl.symm.trans hf) (by decide), hW⟩
theorem late_done (h : Q .normal a w) : wpLate P ops (NoPanic Q) late pin S [] a w := h
end
end Go.Proofs.Ytekmgaigppenlaa

namespace Go.Proofs.Ytekmgaigppenlaa
open Go

/-- A way through a region: take i first; i comes up alone; i or j comes up. -/
inductive Way where
  | fin : Way
  | take : Nat → Way → Way
  | run : Nat → Way → Way
  | fork : Nat → Way → Nat → Way → Way
def Way.takes : List Nat → Way → Way
  | [], p => p
  | i :: r, p => .take i (Way.takes r p)
def Way.length : Way → Nat
  | .fin => 0
  | .take _ p => p.length + 1
  | .run _ p => p.length + 1
  | .fork _ p _ q => max p.length q.length + 1

section
variable {P : Program} {ops : Array Oper} {Q : Exit → Act → World → Prop} {md : Region.Mode} {late : List Nat}

def wayOk (md : Region.Mode) (ops : Array Oper) (late : List Nat) : Way → Array Bool → Bool
  | .fin, listed => Region.ready md ops listed == []
  | .take i p, listed => Region.free md ops listed i && (Region.ready md ops listed).contains i && waits md ops late i && wayOk md ops late p (listed.setIfInBounds i true)
  | .run i p, listed => Region.ready md ops listed == [i] && wayOk md ops late p (listed.setIfInBounds i true)
  | .fork i p j q, listed => Region.ready md ops listed == [i, j] && wayOk md ops late p (listed.setIfInBounds i true) && wayOk md ops late q (listed.setIfInBounds j true)

def wpWay (P : Program) (ops : Array Oper) (Q : Exit → Act → World → Prop) (late : List Nat) : (World → Prop) → Way → Act → World → Prop
  | _, .fin, a, w => Q .normal a w
  | S, .take i p, a, w => ∃ S' : World → Prop, (∀ w, S' w → S w) ∧ ∃ o, ops[i]? = some o ∧ ∃ v, YieldsIf P ops S' o v a ∧ S' w ∧ wpWay P ops Q late S' p (a.put o.dst v) w
  | S, .run i p, a, w => ∃ S' : World → Prop, (∀ w, S' w → S w) ∧ wpOp P ops Q i (fun a' w' => (late.contains i = false → S' w') ∧ wpWay P ops Q late S' p a' w') a w
  | S, .fork i p j q, a, w => (∃ S' : World → Prop, (∀ w, S' w → S w) ∧ wpOp P ops Q i (fun a' w' => (late.contains i = false → S' w') ∧ wpWay P ops Q late S' p a' w') a w) ∧
      ∃ S' : World → Prop, (∀ w, S' w → S w) ∧ wpOp P ops Q j (fun a' w' => (late.contains j = false → S' w') ∧ wpWay P ops Q late S' q a' w') a w

theorem wpAnyZ_of_way (hs : Region.noSelect ops = true) (hQ : ∀ c a d v w, Q (.panic c) (Act.put a d v) w → Q (.panic c) a w) :
    ∀ (y : Way) (S : World → Prop) (n : Nat) (listed : Array Bool) (a : Act) (w : World), y.length ≤ n → wayOk md ops late y listed = true → wpWay P ops Q late S y a w → wpAnyZ P md ops Q late S n listed a w
  | .fin, S, n, listed, a, w, _, hk, h => wpAnyZ_done (by simpa [wayOk] using hk) h n
  | .take _ _, _, 0, _, _, _, hl, _, _ => by simp [Way.length] at hl
  | .run _ _, _, 0, _, _, _, hl, _, _ => by simp [Way.length] at hl
  | .fork _ _ _ _, _, 0, _, _, _, hl, _, _ => by simp [Way.length] at hl
  | .take i p, S, n + 1, listed, a, w, hl, hk, h => by
    simp only [wayOk, Bool.and_eq_true] at hk
    obtain ⟨⟨⟨k1, k2⟩, k3⟩, k4⟩ := hk
    obtain ⟨S', hSS, o, ho, v, hy, hS, h⟩ := h
    refine wpAnyZ_wide hSS _ _ _ _ ?_
    exact wpAnyZ_take ho hs k3 (fun c a w => hQ c a _ v w) n listed a w k1 (by simpa using k2) hy hS (wpAnyZ_of_way hs hQ p _ n _ _ _ (by simpa [Way.length] using hl) k4 h)
  | .run i p, S, n + 1, listed, a, w, hl, hk, h => by
    simp only [wayOk, Bool.and_eq_true] at hk
    obtain ⟨k1, k2⟩ := hk
    obtain ⟨S', hSS, h⟩ := h
    refine wpAnyZ_wide hSS _ _ _ _ ?_
    have hr : Region.ready md ops listed = [i] := by simpa using k1
    refine ⟨fun h0 => absurd (h0.symm.trans hr) (by simp), fun j hj => ?_⟩
    rw [hr] at hj
    obtain rfl := List.mem_singleton.1 hj
    exact wpOp_mono (fun a' w' h' => ⟨h'.1, wpAnyZ_of_way hs hQ p _ n _ a' w' (by simpa [Way.length] using hl) k2 h'.2⟩) h
  | .fork i p j q, S, n + 1, listed, a, w, hl, hk, h => by
    simp only [wayOk, Bool.and_eq_true] at hk
    obtain ⟨⟨k1, k2⟩, k3⟩ := hk
    obtain ⟨⟨S1, hS1, h1⟩, S2, hS2, h2⟩ := h
    have hl1 : p.length ≤ n := by simp [Way.length] at hl; omega
    have hl2 : q.length ≤ n := by simp [Way.length] at hl; omega
    have hr : Region.ready md ops listed = [i, j] := by simpa using k1
    refine ⟨fun h0 => absurd (h0.symm.trans hr) (by simp), fun x hx => ?_⟩
    rw [hr] at hx
    rcases List.mem_cons.1 hx with rfl | hx
    · exact wpOp_mono (fun a' w' h' => ⟨fun hf => hS1 _ (h'.1 hf), wpAnyZ_wide hS1 _ _ _ _ (wpAnyZ_of_way hs hQ p _ n _ a' w' hl1 k2 h'.2)⟩) h1
    · obtain rfl := List.mem_singleton.1 hx
      exact wpOp_mono (fun a' w' h' => ⟨fun hf => hS2 _ (h'.1 hf), wpAnyZ_wide hS2 _ _ _ _ (wpAnyZ_of_way hs hQ q _ n _ a' w' hl2 k3 h'.2)⟩) h2

/-- The beginning. -/
theorem wp_region_way {S : World → Prop} {ol : List Oper} {id : Nat} {a : Act} {w : World} {y : Way} (hm : P.follows .mixedOrders = true) (hs : Region.noSelect ol.toArray = true) (hl : y.length = ol.length)
    (hk : wayOk .any ol.toArray late y (Array.replicate ol.length false) = true) (hS : S w.drew)
    (h : S w.drew → wpWay P ol.toArray (NoPanic Q) late S y a w.drew) : (Code.region id ol.toArray true).wp P Q a w :=
  wp_region_noPanic (wp_region_any hm (wpAny_of_Z _ _ _ _ (wpAnyZ_of_way hs (fun _ _ _ _ _ h => h) y S ol.toArray.size _ a _ (by simp; omega) (by simpa using hk) (h hS))))

variable {i j : Nat} {p q : Way} {o : Oper} {a : Act} {w : World} {v : Value} {S : World → Prop}
theorem way_tight (S' : World → Prop) (hS : ∀ w, S' w → S w) (hw : S' w) (h : S' w → wpWay P ops Q late S' p a w) : wpWay P ops Q late S p a w := by
  have h := h hw
  match p, h with
  | .fin, h => exact h
  | .take _ _, ⟨S'', h1, h2⟩ => exact ⟨S'', fun w hw => hS w (h1 w hw), h2⟩
  | .run _ _, ⟨S'', h1, h2⟩ => exact ⟨S'', fun w hw => hS w (h1 w hw), h2⟩
  | .fork _ _ _ _, ⟨⟨S1, h1, h2⟩, S2, h3, h4⟩ => exact ⟨⟨S1, fun w hw => hS w (h1 w hw), h2⟩, S2, fun w hw => hS w (h3 w hw), h4⟩
theorem way_skip (ho : ops[i]? = some o) (hw : Region.wanted o (yielded ops a.tmps) = false) (hS : S w) (h : wpWay P ops Q late S p (a.put o.dst undef) w) : wpWay P ops Q late S (.take i p) a w :=
  ⟨S, fun _ h => h, o, ho, undef, .inr ⟨hw, rfl⟩, hS, h⟩
theorem way_take (ho : ops[i]? = some o) (hw : Region.wanted o (yielded ops a.tmps) = true) (hy : ∀ w, S w → (execOp a.eval o).run P w = .ok (.value v) w) (hS : S w)
    (h : wpWay P ops Q late S p (a.put o.dst v) w) : wpWay P ops Q late S (.take i p) a w :=
  ⟨S, fun _ h => h, o, ho, v, .inl ⟨hw, hy⟩, hS, h⟩
theorem way_run (ho : ops[i]? = some o) (hw : Region.wanted o (yielded ops a.tmps) = true)
    (h : ∀ K' : Act → World → Prop, Shut (∀ a w, S w → (S w → wpWay P ops Q late S p a w) → K' a w) → Oper.wp P o a w K' Q) : wpWay P ops Q late S (.run i p) a w :=
  ⟨S, fun _ h => h, wpOp_step ho fun K' hK => by rw [if_pos hw]; exact h K' fun a w hS hW => hK a w ⟨fun _ => hS, hW hS⟩⟩
theorem way_pass (ho : ops[i]? = some o) (hw : Region.wanted o (yielded ops a.tmps) = false) (hS : S w) (h : wpWay P ops Q late S p (a.put o.dst undef) w) : wpWay P ops Q late S (.run i p) a w :=
  ⟨S, fun _ h => h, wpOp_step ho fun K' hK => by rw [if_neg (by rw [hw]; decide)]; exact hK _ _ ⟨fun _ => hS, h⟩⟩
theorem way_last (hl : late.contains i = true) (ho : ops[i]? = some o) (hw : Region.wanted o (yielded ops a.tmps) = true)
    (h : ∀ K' : Act → World → Prop, Shut (∀ a w, wpWay P ops Q late S p a w → K' a w) → Oper.wp P o a w K' Q) : wpWay P ops Q late S (.run i p) a w :=
  ⟨S, fun _ h => h, wpOp_step ho fun K' hK => by rw [if_pos hw]; exact h K' fun a w hW => hK a w ⟨fun hf => absurd (hl.symm.trans hf) (by decide), hW⟩⟩
theorem way_fork (h1 : wpWay P ops Q late S (.run i p) a w) (h2 : wpWay P ops Q late S (.run j q) a w) : wpWay P ops Q late S (.fork i p j q) a w := ⟨h1, h2⟩
theorem way_done (h : Q .normal a w) : wpWay P ops (NoPanic Q) late S .fin a w := h
end
end Go.Proofs.Ytekmgaigppenlaa
