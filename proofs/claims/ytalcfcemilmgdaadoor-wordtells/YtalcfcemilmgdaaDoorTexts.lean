/-
  What towncrierref01.Texts does: are two lists of texts the same?
-/
import Derived.Test.YtalcfcemilmgdaaDoorRefSplit
import Derived.Deep.QuietTactic
import Derived.BigQuiet
namespace Go.Proofs.YtalcfcemilmgdaaDoor
open Go Go.RowKit

/-- The same texts? -/
def sameTexts (xs ys : List ByteArray) : Bool := decide (xs = ys)

theorem strings_at {w : World} {B n : Nat} {A : Option Addr} {xs : List ByteArray} (h : Reads w B A n (xs.map Value.string)) {k : Nat} (hk : k < n) :
    ∃ b off, A = some ⟨b, off, none⟩ ∧ b < B ∧ w.cell? ⟨b, off + k, none⟩ = some (.string (xs.getD k ByteArray.empty)) := by
  obtain ⟨b, off, u, hA, hb, hu, hc⟩ := h.at_ hk
  refine ⟨b, off, hA, hb, ?_⟩
  rw [hc, ← hu, List.getElem?_map, List.getD_eq_getElem?_getD]
  have : k < xs.length := by have := h.1; simp at this; omega
  rw [List.getElem?_eq_getElem this]
  rfl

def TextsRel (xs ys : List ByteArray) (w : World) (n : Nat) (i : Value) (wr : World) : Prop :=
  ∃ k d : Nat, i = .int .i64 k ∧ k ≤ n ∧ wr = w.drewN d ∧ ∀ j, j < k → xs.getD j ByteArray.empty = ys.getD j ByteArray.empty

def Says (w : World) (b : Bool) (e : Ending) (w' : World) : Prop := e = .returned (.bool b) ∧ ∃ d, w' = w.drewN d

set_option maxHeartbeats 1000000 in
set_option maxRecDepth 100000 in
theorem texts_any (A A' : Option Addr) (n c n' c' B B' : Nat) (xs ys : List ByteArray) (w : World) (hx : Reads w B A n (xs.map Value.string)) (hy : Reads w B' A' n' (ys.map Value.string)) (hn : n ≤ 1099511627776) (hn' : n' ≤ 1099511627776) :
    Calls Tryd.prog 10 #[.slice A n c, .slice A' n' c'] w (Says w (sameTexts xs ys)) := by
  have lx : xs.length = n := by simpa using hx.1
  have ly : ys.length = n' := by simpa using hy.1
  have Lx := Lib.hid lx
  have Ly := Lib.hid ly
  clear lx ly
  by_cases hnn : n = n'
  · subst hnn
    have g0 : ((n : Int) != (n : Int)) = false := by simp
    go_enter Tryd.func10, Tryd.ntmps10
    go_wp2
    go_loopw [5] (fun i wr => TextsRel xs ys w n i wr) (fun i _ => n - (intOf i).toNat)
    case atStart => exact ⟨0, 0, rfl, Nat.zero_le _, rfl, fun j hj => by omega⟩
    case round =>
      obtain ⟨k, d, rfl, hk, rfl, hall⟩ := hrel
      have Hall := Lib.hid hall
      clear hall
      by_cases hlt : k < n
      · obtain ⟨b, off, rfl, hb, hc⟩ := strings_at hx hlt
        obtain ⟨b', off', rfl, hb', hc'⟩ := strings_at hy hlt
        obtain ⟨p, hp⟩ : ∃ p, p = xs.getD k ByteArray.empty := ⟨_, rfl⟩
        obtain ⟨q, hq⟩ : ∃ q, q = ys.getD k ByteArray.empty := ⟨_, rfl⟩
        rw [← hp] at hc
        rw [← hq] at hc'
        have Hp := Lib.hid hp
        have Hq := Lib.hid hq
        have Hx := Lib.hid hx
        have Hy := Lib.hid hy
        clear hp hq hx hy
        by_cases hpq : p = q
        · subst hpq
          go_wp2
          go_quiet (fail)
          go_wp2
          go_roundw
          case rel =>
            refine ⟨k + 1, _, by go_num, by omega, rfl, fun j hj => ?_⟩
            by_cases hj2 : j = k
            · subst hj2; rw [← Hp.out, ← Hq.out]
            · exact Hall.out j (by omega)
          case measure => simp [intOf]; omega
        · have g1 : (p.toList == q.toList) = false := by
            rw [beq_eq_false_iff_ne, Lib.toList_data, Lib.toList_data]
            intro h
            exact hpq (by rw [← Lib.mk_data p, h, Lib.mk_data])
          have Hpq := Lib.hid hpq
          clear hpq
          go_wp2
          go_quiet (fail)
          go_wp2
          go_ret
          have : sameTexts xs ys = false := by
            unfold sameTexts
            rw [decide_eq_false_iff_not]
            rintro rfl
            exact Hpq.out (by rw [Hp.out, Hq.out])
          rw [this]
          exact ⟨rfl, _, World.drewN_drewN _ _ _⟩
      · go_wp2
        go_ret
        have : sameTexts xs ys = true := by
          unfold sameTexts
          rw [decide_eq_true_iff]
          apply List.ext_getElem (by rw [Lx.out, Ly.out])
          intro j h1 h2
          have := Hall.out j (by have := Lx.out; omega)
          simpa [List.getD_eq_getElem?_getD, h1, h2] using this
        rw [this]
        exact ⟨rfl, _, rfl⟩
  · have g0 : ((n : Int) != (n' : Int)) = true := by rw [bne_iff_ne]; omega
    have : sameTexts xs ys = false := by
      unfold sameTexts
      rw [decide_eq_false_iff_not]
      rintro rfl
      exact hnn (Lx.out.symm.trans Ly.out)
    rw [this]
    clear this
    go_enter Tryd.func10, Tryd.ntmps10
    go_wp2
    go_ret
    exact ⟨rfl, 0, rfl⟩
end Go.Proofs.YtalcfcemilmgdaaDoor
