/-
  What towncrierref04.Over does.
-/
import Derived.Test.YtkafaceanlkjjaaFc
namespace Go.Proofs.Ytkafaceanlkjjaa
open Go Go.RowKit
variable {G : Nat → Prop}

theorem upOf_there {l : List Nd} {id : Int} (h : thereB l id = true) : nd l id = l[(id - 1).toNat]'(there_lt h) := by
  have := nd_get h
  rw [List.getElem?_eq_getElem (there_lt h)] at this
  exact (Option.some.inj this).symm
theorem over_go {l : List Nd} {n : Nat} {id : Int} (h : thereB l id = true) : overN l (n + 1) id = id :: overN l n (upOf l id) := by rw [overN, if_pos h]
theorem over_end {l : List Nd} {n : Nat} {id : Int} (h : thereB l id = false) : overN l n id = [] := by
  cases n with
  | zero => rfl
  | succ n => rw [overN, if_neg (by rw [h]; decide)]
theorem over_len (l : List Nd) : ∀ (n : Nat) (id : Int), (overN l n id).length ≤ n
  | 0, _ => Nat.le_refl 0
  | n + 1, id => by
    rw [overN]
    split
    · have := over_len l n (upOf l id)
      simp
      omega
    · simp

/-- An element more. -/
theorem kids_more {w2 : World} {base : Nat} {v2 : Value} {xs : List Int} {x : Int} (ho : w2.ownsRow base 3 1 v2 (xs.length + 1) (xs.map (Value.int .i64) ++ [.int .i64 x])) :
    w2.ownsRow base 3 1 v2 (xs ++ [x]).length ((xs ++ [x]).map (Value.int .i64)) := by
  rw [List.map_append, List.length_append]
  exact ho

set_option maxHeartbeats 4000000 in
set_option maxRecDepth 100000 in
theorem over_any (l : List Nd) (A : Option Addr) (c : Nat) (id : Int) (w : World) (hl : l.length ≤ 1000) (h : Nodes G w 0 A c l) :
    Calls Try.prog 57 #[.slice A l.length c, .int .i64 id] w fun e w' => ∃ v, e = .returned v ∧ Kids (fun _ => True) w' v (over l id) ∧ Below w.heap.size w w' := by
  obtain ⟨i0, hi, hz0, hz1, hz2⟩ := info_parts Try.infoInt
  have Hi := Lib.hid hi
  have Hz0 := Lib.hid hz0
  have Hz1 := Lib.hid hz1
  have Hz2 := Lib.hid hz2
  have H := Lib.hid h
  clear hi hz0 hz1 hz2 h
  obtain ⟨R, hR⟩ : ∃ R, R = over l id := ⟨_, rfl⟩
  rw [← hR]
  have hR0 : ([] : List Int) ++ overN l (l.length + 1 - 0) id = R := by rw [hR]; rfl
  have HR0 := Lib.hid hR0
  clear hR hR0
  go_enter Try.func57, Try.ntmps57
  go_wp2_with fail
  go_loopw [1, 5, 6] (fun a o i wr => ∃ (j : Nat) (id : Int) (xs : List Int), a = .int .i64 id ∧ i = .int .i64 j ∧ j ≤ l.length + 1 ∧ xs.length = j ∧ xs ++ overN l (l.length + 1 - j) id = R ∧ wr.ownsRow w.heap.size 3 1 o xs.length (xs.map (Value.int .i64)) ∧ Below w.heap.size w wr) (fun _ _ i _ => l.length + 1 - (intOf i).toNat)
  case atStart => exact ⟨0, id, [], rfl, rfl, Nat.zero_le _, rfl, HR0.out, World.ownsRow_nil _ _ _ _, Below.refl _ _⟩
  case round =>
    obtain ⟨j, id, xs, rfl, rfl, hj, hxl, hxs, hown, hb⟩ := hrel
    have Hxs := Lib.hid hxs
    have Hxl := Lib.hid hxl
    clear HR0 hxs hxl
    obtain ⟨Ao, co, rfl, hco⟩ := own_form hown
    by_cases hjl : (j : Int) ≤ l.length
    · cases hth : thereB l id with
      | true =>
        have hup := upOf_there hth
        have hgo : overN l (l.length + 1 - j) id = id :: overN l (l.length + 1 - (j + 1)) (upOf l id) := by
          rw [show l.length + 1 - j = (l.length + 1 - (j + 1)) + 1 by omega]
          exact over_go hth
        have Hgo := Lib.hid hgo
        have hid := thereB_iff.1 hth
        obtain ⟨h1, h2⟩ := hid
        obtain ⟨m, hm⟩ : ∃ m : Nat, id = (m : Int) + 1 := ⟨(id - 1).toNat, by omega⟩
        subst hm
        have hml : m < l.length := by omega
        have hmn : ((m : Int) + 1 - 1).toNat = m := by omega
        obtain ⟨g, k, rfl, -, -, -, hcell⟩ := H.out.at_ hml
        have hgw : g < w.heap.size := H.out.inside _ _ _ rfl
        have hndm : nd l ((m : Int) + 1) = l[m] := by
          rw [hup]
          congr 1
        have c1 : w.cell? ⟨g, m * 9 + 1, none⟩ = some (.int .i64 (nd l ((m : Int) + 1)).parent) := by rw [hndm]; exact hcell 1 (by omega)
        have c2 : w.cell? ⟨g, m * 9 + 2, none⟩ = some (.int .i64 (nd l ((m : Int) + 1)).host) := by rw [hndm]; exact hcell 2 (by omega)
        have hfin : (xs ++ [(m : Int) + 1]) ++ overN l (l.length + 1 - (j + 1)) (upOf l ((m : Int) + 1)) = R := by
          rw [List.append_assoc, List.singleton_append, ← Hgo.out]
          exact Hxs.out
        have hupo : upOf l ((m : Int) + 1) = if (nd l ((m : Int) + 1)).parent = 0 then (nd l ((m : Int) + 1)).host else (nd l ((m : Int) + 1)).parent := rfl
        obtain ⟨pa, hpa⟩ : ∃ pa, pa = (nd l ((m : Int) + 1)).parent := ⟨_, rfl⟩
        obtain ⟨ho, hho⟩ : ∃ ho, ho = (nd l ((m : Int) + 1)).host := ⟨_, rfl⟩
        obtain ⟨up, hupu⟩ : ∃ up, up = upOf l ((m : Int) + 1) := ⟨_, rfl⟩
        rw [← hpa] at c1 hupo
        rw [← hho] at c2 hupo
        rw [← hupu] at hfin hupo
        have C1 := Lib.hid c1
        have C2 := Lib.hid c2
        have Hfin := Lib.hid hfin
        have hgv : Gives (wr.alloc (.cells #[.int .i64 ((m : Int) + 1)] 3)) 1 (.slice (some ⟨wr.heap.size, 0, none⟩) 1 1) 1 [.int .i64 ((m : Int) + 1)] := .inr ⟨_, 1, rfl, rfl, World.news_of_block (Has.fresh _ _)⟩
        have Hgv := Lib.hid hgv
        have hxb : xs.length ≤ 1001 := by rw [Hxl.out]; omega
        have Hth := Lib.hid hth
        have hbw := hb.size
        clear hcell hgo hup hndm hth hpa hho hupu c1 c2 hfin Hgo hgv Hxs
        by_cases hp0 : pa = 0
        · have hu2 : up = ho := by rw [hupo, if_pos hp0]
          subst hp0
          subst hu2
          clear hupo
          go_wp2_with fail
          refine (there_any l _ c _ wr).mono ?_
          rintro e w1 ⟨rfl, rfl⟩
          rw [Hth.out]
          go_wp2_with (at_builtin; refine wpList_append_gives rfl (.tmp 19) (.tmp 21) 32 rfl w.heap.size 3 i0 _ 1 8 Try.underlying32 Hi.out Hz0.out Hz1.out Hz2.out rfl (by decide) (.slice Ao xs.length co) xs.length (xs.map (Value.int .i64)) rfl (hown.alloc _) _ 1 [.int .i64 ((m : Int) + 1)] rfl Hgv.out (by intro u hu; obtain rfl := List.mem_singleton.1 hu; rfl) (by unfold maxLen; omega) (by omega) (by simp; omega) ?_; intro v2 w2 ho2 hg2; obtain ⟨A2, c2, rfl, hc2⟩ := own_form ho2; have hb2 : Below w.heap.size w w2 := (hb.alloc hbw _).grown hg2 (by simp; omega) (fun k hk => (hown.lt k hk).1); have d1 := (hb2.cell (p := ⟨g, m * 9 + 1, none⟩) hgw).trans C1.out; have d2 := (hb2.cell (p := ⟨g, m * 9 + 2, none⟩) hgw).trans C2.out)
          go_roundw
          case rel => exact ⟨j + 1, _, xs ++ [(m : Int) + 1], rfl, by go_num, by omega, by simp [Hxl.out], Hfin.out, by have := kids_more ho2; simpa using this, hb2⟩
          case measure => simp [intOf]; omega
        · have hu2 : up = pa := by rw [hupo, if_neg hp0]
          subst hu2
          clear hupo
          have hp0' : (up == 0) = false := by simpa using hp0
          go_wp2_with fail
          refine (there_any l _ c _ wr).mono ?_
          rintro e w1 ⟨rfl, rfl⟩
          rw [Hth.out]
          go_wp2_with (at_builtin; refine wpList_append_gives rfl (.tmp 19) (.tmp 21) 32 rfl w.heap.size 3 i0 _ 1 8 Try.underlying32 Hi.out Hz0.out Hz1.out Hz2.out rfl (by decide) (.slice Ao xs.length co) xs.length (xs.map (Value.int .i64)) rfl (hown.alloc _) _ 1 [.int .i64 ((m : Int) + 1)] rfl Hgv.out (by intro u hu; obtain rfl := List.mem_singleton.1 hu; rfl) (by unfold maxLen; omega) (by omega) (by simp; omega) ?_; intro v2 w2 ho2 hg2; obtain ⟨A2, c2, rfl, hc2⟩ := own_form ho2; have hb2 : Below w.heap.size w w2 := (hb.alloc hbw _).grown hg2 (by simp; omega) (fun k hk => (hown.lt k hk).1); have d1 := (hb2.cell (p := ⟨g, m * 9 + 1, none⟩) hgw).trans C1.out; have d2 := (hb2.cell (p := ⟨g, m * 9 + 2, none⟩) hgw).trans C2.out)
          go_roundw
          case rel => exact ⟨j + 1, _, xs ++ [(m : Int) + 1], rfl, by go_num, by omega, by simp [Hxl.out], Hfin.out, by have := kids_more ho2; simpa using this, hb2⟩
          case measure => simp [intOf]; omega
      | false =>
        go_wp2_with fail
        refine (there_any l A c id wr).mono ?_
        rintro e w1 ⟨rfl, rfl⟩
        rw [hth]
        go_wp2
        go_ret
        refine ⟨_, rfl, ?_, hb⟩
        have := Hxs.out
        rw [over_end hth, List.append_nil] at this
        rw [← this]
        exact ⟨own_base hown (Nat.zero_le _), fun _ _ => trivial⟩
    · go_wp2
      go_ret
      refine ⟨_, rfl, ?_, hb⟩
      have := Hxs.out
      rw [show l.length + 1 - j = 0 by omega] at this
      rw [← this, overN, List.append_nil]
      exact ⟨own_base hown (Nat.zero_le _), fun _ _ => trivial⟩
end Go.Proofs.Ytkafaceanlkjjaa
