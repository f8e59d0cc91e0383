/-
  What towncrierlaw05.great does: where it says no, there are few calls with short lists.
-/
import Derived.Test.YtkafaceanlkjjaaFi
namespace Go.Proofs.Ytkafaceanlkjjaa
open Go Go.RowKit

/-- Few calls with short lists. -/
def Small (xs : List Ac) : Prop := xs.length ≤ 300 ∧ ∀ x ∈ xs, x.l.length ≤ 200

/-- A truth; if it is no, they are few. -/
def SaysFew (xs : List Ac) (e : Ending) : Prop := ∃ g, e = .returned (.bool g) ∧ (g = false → Small xs)
set_option maxHeartbeats 2000000 in
theorem great_any (A : Option Addr) (n c : Nat) (xs : List Ac) (w : World) (hn : xs.length = n) (hm : n ≤ maxLen) (h : Acts w A xs) :
    Calls Try.prog 7 #[.slice A n c] w fun e w' => SaysFew xs e ∧ w = w' := by
  have H := Lib.hid h
  have Hn := Lib.hid hn
  clear h hn
  unfold maxLen at hm
  go_enter Try.func7, Try.ntmps7
  go_wp2
  go_loop [3] (fun i => ∃ k : Nat, i = .int .i64 k ∧ k ≤ n ∧ ∀ j (hj : j < xs.length), j < k → xs[j].l.length ≤ 200) (fun i => n - (intOf i).toNat)
  case atStart => exact ⟨0, rfl, Nat.zero_le _, fun j _ hj => absurd hj (Nat.not_lt_zero j)⟩
  case round =>
    obtain ⟨k, rfl, hk, hall⟩ := hrel
    have Hall := Lib.hid hall
    clear hall
    by_cases hlt : (k : Int) < n
    · have hkx : k < xs.length := by rw [Hn.out]; omega
      obtain ⟨b, off, A1, c1, A2, c2, rfl, -, hc, -, -⟩ := H.out k hkx
      have c13 : w.cell? ⟨b, off + k * 14 + 13, none⟩ = some (.slice A2 xs[k].l.length c2) := by
        rw [Nat.add_assoc]
        exact hc 13 (by omega)
      obtain ⟨m, hmm⟩ : ∃ m, m = xs[k].l.length := ⟨_, rfl⟩
      rw [← hmm] at c13
      have Hm := Lib.hid hmm
      clear hmm hc
      by_cases h2 : m ≤ 200
      · have h2' : ¬ (200 : Int) < m := by omega
        go_wp2
        go_round
        case rel =>
          refine ⟨k + 1, by go_num, by omega, fun j hj hjk => ?_⟩
          by_cases e : j = k
          · subst e
            rw [← Hm.out]
            exact h2
          · exact Hall.out j hj (by omega)
        case measure => simp [intOf]; omega
      · have h2' : (200 : Int) < m := by omega
        go_wp2
        go_ret
        exact ⟨⟨true, rfl, fun e => absurd e (by decide)⟩, rfl⟩
    · obtain ⟨g, hg⟩ : ∃ g, g = decide ((300 : Int) < n) := ⟨_, rfl⟩
      have Hg := Lib.hid hg
      clear hg
      go_wp2
      go_ret
      refine ⟨⟨g, by rw [Hg.out]; rfl, fun e => ⟨?_, fun x hx => ?_⟩⟩, rfl⟩
      · have := Hg.out
        rw [e] at this
        have := of_decide_eq_false this.symm
        have := Hn.out
        omega
      · obtain ⟨j, hj, rfl⟩ := List.mem_iff_getElem.1 hx
        exact Hall.out j hj (by have := Hn.out; omega)
end Go.Proofs.Ytkafaceanlkjjaa
