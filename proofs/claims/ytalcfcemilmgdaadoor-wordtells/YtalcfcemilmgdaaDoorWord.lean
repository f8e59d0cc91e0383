/-
  What word.appendFilled and word.Split do.
-/
import Derived.Test.YtalcfcemilmgdaaDoorMem
namespace Go.Proofs.YtalcfcemilmgdaaDoor
open Go Go.RowKit

set_option maxHeartbeats 400000 in
theorem appendFilled_none (v : Value) (w : World) : Calls Tryd.prog 18 #[v, .string ⟨#[]⟩] w fun e w' => e = .returned v ∧ w = w' := by
  go_enter Tryd.func18, Tryd.ntmps18
  go_wp2
  go_ret
  exact ⟨rfl, rfl⟩

set_option maxHeartbeats 400000 in
theorem appendFilled_some (v : Value) (xs : List Value) (n base : Nat) (p : ByteArray) (w : World) (hown : w.ownsRow base 9 1 v n xs) (hn : n ≤ 1099511627776) (hbase : base ≤ w.heap.size) (hp : 0 < p.size) :
    Calls Tryd.prog 18 #[v, .string p] w fun e w' => ∃ v', e = .returned v' ∧ w'.ownsRow base 9 1 v' (n + 1) (xs ++ [.string p]) ∧ w.grownBy w' v.ownBlock := by
  obtain ⟨i0, hi, hz0, hz1, hz2⟩ := info_parts Tryd.infoStr
  have hpe : p.toList.isEmpty = false := by
    rw [Lib.toList_data]
    cases h : p.data.toList with
    | nil => rw [Lib.size_eq, h] at hp; simp at hp
    | cons a r => rfl
  go_enter Tryd.func18, Tryd.ntmps18
  go_wp2_with (at_builtin; refine wpList_append_own _ rfl _ _ 27 rfl base 9 i0 (.string ⟨#[]⟩) 1 16 Tryd.underlying27 hi hz0 hz1 hz2 rfl (by decide) _ _ _ rfl (hown.alloc _) ⟨w.heap.size, 0, none⟩ 1 1 [.string p] rfl rfl ?c1 ?c2 ?c3 ?c4 ?c5 ?_)
  case c1 => exact cell_one_new _ _ _
  case c2 => intro u hu; simp at hu; subst hu; rfl
  case c3 => unfold maxLen; omega
  case c4 => omega
  case c5 => simp; omega
  intro v' w1 hown' hgrow _
  go_wp2
  go_ret
  exact ⟨v', rfl, hown', only_trans (World.grownBy_alloc w _ _) hgrow⟩

/-- What appendFilled appends. -/
theorem appendFilled_any (v : Value) (ls : List (List UInt8)) (base : Nat) (p : ByteArray) (w : World) (hown : w.ownsRow base 9 1 v ls.length (strs ls)) (hn : ls.length ≤ 1099511627776) (hbase : base ≤ w.heap.size) :
    Calls Tryd.prog 18 #[v, .string p] w fun e w' => ∃ v', e = .returned v' ∧ w'.ownsRow base 9 1 v' (ls ++ filled p.data.toList).length (strs (ls ++ filled p.data.toList)) ∧ w.grownBy w' v.ownBlock := by
  by_cases hp : 0 < p.size
  · refine (appendFilled_some v (strs ls) ls.length base p w hown hn hbase hp).mono fun e w' ⟨v', he, ho, hg⟩ => ⟨v', he, ?_, hg⟩
    have : filled p.data.toList = [p.data.toList] := filled_of_ne (by intro h; rw [Lib.size_eq, h] at hp; simp at hp)
    rw [this, strs_append, List.length_append]
    have e2 : strs [p.data.toList] = [.string p] := by simp [strs, ba]
    rw [e2]
    exact ho
  · have h0 : p.data.toList = [] := List.eq_nil_of_length_eq_zero (by rw [← Lib.size_eq]; omega)
    have : p = ⟨#[]⟩ := by rw [← Lib.mk_data p, h0]
    subst this
    refine (appendFilled_none v w).mono fun e w' ⟨he, hw⟩ => ?_
    subst hw
    refine ⟨v, he, ?_, ⟨rfl, rfl, rfl, Nat.le_refl _, fun _ _ _ => rfl⟩⟩
    rw [h0, filled_nil, List.append_nil]
    exact hown

/-- It returns a new list of texts; what was there stays. -/
def GivesStrs (w : World) (ls : List (List UInt8)) (e : Ending) (w' : World) : Prop :=
  ∃ v, e = .returned v ∧ w'.ownsRow w.heap.size 9 1 v ls.length (strs ls) ∧ Below w.heap.size w w'

def SplitRel (s : ByteArray) (w : World) (v st : Value) (wr : World) : Prop :=
  ∃ (pos stn : Nat) (done : List (List UInt8)), wr.heap[w.heap.size]? = some (.stringIter s pos) ∧ wr.ownsRow (w.heap.size + 1) 9 1 v done.length (strs done) ∧
    Below w.heap.size w wr ∧ st = .int .i64 stn ∧ stn ≤ pos ∧ pos ≤ s.size ∧ done.length ≤ pos ∧
    done ++ splitGo ((s.data.toList.drop stn).take (pos - stn)) (s.data.toList.drop pos) = splitL s.data.toList

theorem own_iterAt {w : World} {base n k pos pos' : Nat} {e : TypeId} {v : Value} {xs : List Value} {s : ByteArray} (h : w.ownsRow base e 1 v n xs) (hk : w.heap[k]? = some (.stringIter s pos)) :
    (w.iterAt k s pos').ownsRow base e 1 v n xs := by
  refine ⟨h.1, ?_⟩
  rcases h.2 with hn | ⟨g, cap, cur, hv, hb, hg, rest⟩
  · exact .inl hn
  · refine .inr ⟨g, cap, cur, hv, hb, ?_, rest⟩
    rw [Lib.iterAt_other w k g s pos' (by rintro rfl; rw [hk] at hg; cases hg)]
    exact hg

set_option maxHeartbeats 1000000 in
set_option maxRecDepth 100000 in
theorem split_any (s : ByteArray) (w : World) (hs : s.size ≤ 1099511627775) : Calls Tryd.prog 11 #[.string s] w (GivesStrs w (splitL s.data.toList)) := by
  go_enter Tryd.func11, Tryd.ntmps11
  go_wp2
  go_loopw [3, 4] (fun v st wr => SplitRel s w v st wr) (fun _ _ wr => s.size - wr.iterPos w.heap.size)
  case atStart =>
    exact ⟨0, 0, [], World.iter_heap w s 0, (World.ownsRow_nil _ _ _ _), (Below.refl _ w).alloc (Nat.le_refl _) _, rfl, Nat.le_refl _, Nat.zero_le _, Nat.le_refl _, by simp [splitL]⟩
  case round =>
    obtain ⟨pos, stn, done, hit, hown, hbw, rfl, hst, hpos, hdl, hinv⟩ := hrel
    have hsz : w.heap.size < wr.heap.size := (Array.getElem?_eq_some_iff.1 hit).1
    have HI := Lib.hid hinv
    clear hinv
    have Hit := Lib.hid hit
    by_cases hp : pos < s.size
    · have hnx : ∀ ty, (Instr.next (.pointer (some ⟨w.heap.size, 0, none⟩)) true ty).run Tryd.prog wr = _ := fun ty => Lib.run_next_any_at wr w.heap.size s pos ty hit hp
      clear hit
      by_cases hb : s.data.toList[pos]? = some 32
      · have hd := decode_blank s pos hp hb
        rw [hd] at hnx
        have Hb := Lib.hid hb
        clear hd hb
        go_wp2_with fail
        refine (appendFilled_any _ done (w.heap.size + 1) _ _ (own_iterAt hown Hit.out) (by omega) (by rw [Lib.iterAt_size]; omega)).mono ?_
        rintro e w1 ⟨v', rfl, ho1, hg1⟩
        have hit1 : w1.heap[w.heap.size]? = some (.stringIter s (pos + 1)) :=
          (hg1.block _ (by rw [Lib.iterAt_size]; exact hsz) (by intro h; have := (hown.lt _ h.symm).1; omega)).trans (Lib.iterAt_heap wr w.heap.size s pos _ Hit.out)
        have hb1 : Below w.heap.size w w1 := (Lib.below_iterAt hbw (Nat.le_refl _) s (pos + 1)).grown hg1 (by rw [Lib.iterAt_size]; omega) (fun k hk => by have := (hown.lt _ hk).1; omega)
        have Hit1 := Lib.hid hit1
        clear hit1 hnx
        go_wp2
        go_roundw
        case rel =>
          rw [Lib.extract_data] at ho1
          refine ⟨pos + 1, pos + 1, _, Hit1.out, ho1, hb1, by go_num, Nat.le_refl _, by omega, ?_, ?_⟩
          · have := filled_le ((s.data.toList.drop stn).take (pos - stn)); rw [List.length_append]; omega
          · exact step_blank s stn pos done hp Hb.out HI.out
        case measure =>
          rw [iterPos_of Hit1.out, iterPos_of Hit.out]
          omega
      · obtain ⟨h32, hd1, hd2, hd3⟩ := decode_other s pos hp hb
        have Hd3 := Lib.hid hd3
        clear hd3 hb
        obtain ⟨r, hr⟩ : ∃ r, r = (Utf8.decode s pos).1 := ⟨_, rfl⟩
        obtain ⟨d, hd⟩ : ∃ d, d = (Utf8.decode s pos).2 := ⟨_, rfl⟩
        rw [← hr, ← hd] at hnx
        rw [← hr] at h32
        rw [← hd] at hd1 hd2 Hd3
        clear hr hd
        have hc : ((r : Int) == 32) = false := by simp; omega
        go_wp2
        go_roundw
        case rel =>
          exact ⟨pos + d, stn, done, Lib.iterAt_heap wr w.heap.size s pos _ Hit.out, own_iterAt hown Hit.out, Lib.below_iterAt hbw (Nat.le_refl _) s _, rfl, by omega, hd2, by omega, step_other s stn pos d done hd2 hst Hd3.out HI.out⟩
        case measure =>
          rw [iterPos_of (Lib.iterAt_heap wr w.heap.size s pos _ Hit.out), iterPos_of Hit.out]
          omega
    · have hnx : ∀ ty, (Instr.next (.pointer (some ⟨w.heap.size, 0, none⟩)) true ty).run Tryd.prog wr = _ := fun ty => Lib.run_next_end_at wr w.heap.size s pos ty hit hp
      clear hit
      go_wp2_with fail
      refine (appendFilled_any _ done (w.heap.size + 1) _ _ hown (by omega) (by omega)).mono ?_
      rintro e w1 ⟨v', rfl, ho1, hg1⟩
      clear hnx
      go_wp2
      go_ret
      have hfin := step_end s stn pos done (by omega) hst HI.out
      rw [Lib.extract_to_end, hfin] at ho1
      exact ⟨v', rfl, own_base ho1 (by omega), hbw.grown hg1 (by omega) (fun k hk => by have := (hown.lt _ hk).1; omega)⟩
end Go.Proofs.YtalcfcemilmgdaaDoor
