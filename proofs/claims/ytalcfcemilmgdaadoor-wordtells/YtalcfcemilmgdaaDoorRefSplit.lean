/-
  What towncrierref01.Split does: the same list as word.Split's.
-/
import Derived.Test.YtalcfcemilmgdaaDoorWord
namespace Go.Proofs.YtalcfcemilmgdaaDoor
open Go Go.RowKit

def RefRel (s : ByteArray) (w : World) (v cw i : Value) (wr : World) : Prop :=
  ∃ (k : Nat) (cur : List UInt8) (done : List (List UInt8)), i = .int .i64 k ∧ cw = .string (ba cur) ∧ wr.ownsRow w.heap.size 9 1 v done.length (strs done) ∧
    Below w.heap.size w wr ∧ k ≤ s.size ∧ done.length ≤ k ∧ cur.length ≤ k ∧ (k = s.size → cur = []) ∧
    done ++ splitGo cur (s.data.toList.drop k) = splitL s.data.toList

set_option maxHeartbeats 1000000 in
set_option maxRecDepth 100000 in
theorem refSplit_any (s : ByteArray) (w : World) (hs : s.size ≤ 1099511627775) : Calls Tryd.prog 12 #[.string s] w (GivesStrs w (splitL s.data.toList)) := by
  obtain ⟨i0, hi, hz0, hz1, hz2⟩ := info_parts Tryd.infoStr
  go_enter Tryd.func12, Tryd.ntmps12
  go_wp2
  go_loopw [3, 4, 5] (fun v cw i wr => RefRel s w v cw i wr) (fun _ _ i _ => s.size - (intOf i).toNat)
  case atStart =>
    exact ⟨0, [], [], rfl, rfl, (World.ownsRow_nil _ _ _ _), Below.refl _ w, Nat.zero_le _, Nat.le_refl _, Nat.le_refl _, fun _ => rfl, by simp [splitL]⟩
  case round =>
    obtain ⟨k, cur, done, rfl, rfl, hown, hbw, hk, hdl, hcl, hend, hinv⟩ := hrel
    have HI := Lib.hid hinv
    have He := Lib.hid hend
    clear hinv hend
    by_cases hlt : k < s.size
    · by_cases h32 : s[k]'hlt = 32
      · have h1 : (((s[k]'hlt).toNat : Int) != 32) = false := by rw [h32]; decide
        have h2 : (((s[k]'hlt).toNat : Int) == 32) = true := by rw [h32]; decide
        have H32 := Lib.hid h32
        clear h32
        have hb := byte_at s k hlt
        rw [H32.out] at hb
        have Hb := Lib.hid hb
        clear hb
        by_cases hcur : cur = []
        · subst hcur
          have g1 : (ba []).toList.isEmpty = true := by rw [ba_toList]; rfl
          go_wp2
          go_roundw
          case rel =>
            have e1 := ref_blank s k [] done Hb.out HI.out
            rw [filled_nil, List.append_nil] at e1
            exact ⟨k + 1, [], done, by go_num, rfl, hown, hbw, by omega, by omega, by simp, fun _ => rfl, e1⟩
          case measure => simp [intOf]; omega
        · have g1 : (ba cur).toList.isEmpty = false := ba_ne hcur
          have Hc := Lib.hid hcur
          clear hcur
          go_wp2_with (at_builtin; refine wpList_append_own _ rfl _ _ 27 rfl w.heap.size 9 i0 (.string ⟨#[]⟩) 1 16 Tryd.underlying27 hi hz0 hz1 hz2 rfl (by decide) _ _ _ rfl (hown.alloc _) ⟨wr.heap.size, 0, none⟩ 1 1 [.string (ba cur)] rfl rfl ?c1 ?c2 ?c3 ?c4 ?c5 ?_)
          case c1 => exact cell_one_new _ _ _
          case c2 => intro u hu; simp at hu; subst hu; rfl
          case c3 => unfold maxLen; omega
          case c4 => omega
          case c5 => have := hbw.size; simp; omega
          intro v' w1 hown' hgrow _
          have hb1 : Below w.heap.size w w1 := (hbw.alloc hbw.size _).grown hgrow (by have := hbw.size; simp; omega) (fun k hk => (hown.lt _ hk).1)
          clear hgrow
          go_wp2
          go_roundw
          case rel =>
            have e1 := ref_blank s k cur done Hb.out HI.out
            rw [filled_of_ne Hc.out] at e1
            exact ⟨k + 1, [], done ++ [cur], by go_num, rfl, own_snoc hown', hb1, by omega, by simp; omega, by simp, fun _ => rfl, e1⟩
          case measure => simp [intOf]; omega
      · have h1 : (((s[k]'hlt).toNat : Int) != 32) = true := by rw [bne_iff_ne]; exact byte_ne h32
        have h2 : (((s[k]'hlt).toNat : Int) == 32) = false := by rw [beq_eq_false_iff_ne]; exact byte_ne h32
        have hb := byte_at s k hlt
        have Hb := Lib.hid hb
        have H32 := Lib.hid h32
        clear h32 hb
        obtain ⟨nc, hnc⟩ : ∃ nc, nc = cur ++ [s[k]'hlt] := ⟨_, rfl⟩
        have hcat := ba_snoc s k hlt cur
        rw [← hnc] at hcat
        have hncl : nc.length ≤ k + 1 := by rw [hnc]; simp; omega
        have hnce : nc ≠ [] := by rw [hnc]; simp
        have g1 : (ba nc).toList.isEmpty = false := ba_ne hnce
        have g2 : ¬ (ba nc).toList = [] := by rw [ba_toList]; exact hnce
        have hbs : (ba cur).size ≤ k := hcl
        have Hr := Lib.hid (ref_other s k cur _ done Hb.out H32.out HI.out)
        rw [← hnc] at Hr
        have Hn := Lib.hid hnce
        clear hnc hnce
        by_cases hl : s.size ≤ k + 1
        · have g3 : ((k : Int) == (s.size : Int) - 1) = true := by rw [beq_iff_eq]; omega
          go_wp2_with (at_builtin; refine wpList_append_own _ rfl _ _ 27 rfl w.heap.size 9 i0 (.string ⟨#[]⟩) 1 16 Tryd.underlying27 hi hz0 hz1 hz2 rfl (by decide) _ _ _ rfl (hown.alloc _) ⟨wr.heap.size, 0, none⟩ 1 1 [.string (ba nc)] rfl rfl ?c1 ?c2 ?c3 ?c4 ?c5 ?_)
          case c1 => exact cell_one_new _ _ _
          case c2 => intro u hu; simp at hu; subst hu; rfl
          case c3 => unfold maxLen; omega
          case c4 => omega
          case c5 => have := hbw.size; simp; omega
          intro v' w1 hown' hgrow _
          have hb1 : Below w.heap.size w w1 := (hbw.alloc hbw.size _).grown hgrow (by have := hbw.size; simp; omega) (fun k hk => (hown.lt _ hk).1)
          clear hgrow
          go_wp2
          go_roundw
          case rel =>
            have e1 := Hr.out
            rw [List.drop_eq_nil_of_le (by rw [← Lib.size_eq]; omega), splitGo_nil, filled_of_ne Hn.out] at e1
            refine ⟨k + 1, [], done ++ [nc], by go_num, rfl, own_snoc hown', hb1, by omega, by simp; omega, by simp, fun _ => rfl, ?_⟩
            rw [List.drop_eq_nil_of_le (by rw [← Lib.size_eq]; omega), splitGo_nil, filled_nil, List.append_nil]
            exact e1
          case measure => simp [intOf]; omega
        · have g3 : ((k : Int) == (s.size : Int) - 1) = false := by rw [beq_eq_false_iff_ne]; omega
          go_wp2
          go_roundw
          case rel => exact ⟨k + 1, nc, done, by go_num, rfl, hown, hbw, by omega, by omega, hncl, fun _ => by omega, Hr.out⟩
          case measure => simp [intOf]; omega
    · go_wp2
      go_ret
      have e1 := HI.out
      rw [He.out (by omega), List.drop_eq_nil_of_le (by rw [← Lib.size_eq]; omega), splitGo_nil, filled_nil, List.append_nil] at e1
      subst e1
      exact ⟨_, rfl, hown, hbw⟩

/-- It returns a slice of texts; what was there stays. -/
def GivesSlice (w : World) (ls : List (List UInt8)) (e : Ending) (w' : World) : Prop :=
  ∃ A c, e = .returned (.slice A ls.length c) ∧ Reads w' w'.heap.size A ls.length (strs ls) ∧ ls.length ≤ c ∧ Below w.heap.size w w'
theorem slice_of_strs {w : World} {ls : List (List UInt8)} {e : Ending} {w' : World} (h : GivesStrs w ls e w') : GivesSlice w ls e w' := by
  obtain ⟨v, rfl, hown, hb⟩ := h
  obtain ⟨A, c, rfl, hc⟩ := Own.form hown
  exact ⟨A, c, rfl, Reads.of_own hown, hc, hb⟩
theorem refSplit_slice (s : ByteArray) (w : World) (hs : s.size ≤ 1099511627775) : Calls Tryd.prog 12 #[.string s] w (GivesSlice w (splitL s.data.toList)) :=
  (refSplit_any s w hs).mono fun _ _ h => slice_of_strs h
theorem split_slice (s : ByteArray) (w : World) (hs : s.size ≤ 1099511627775) : Calls Tryd.prog 11 #[.string s] w (GivesSlice w (splitL s.data.toList)) :=
  (split_any s w hs).mono fun _ _ h => slice_of_strs h
end Go.Proofs.YtalcfcemilmgdaaDoor
