/-
  ArenaNone answers true.
-/
import Derived.Test.YtlbaahfadfmffaaArn
import Derived.Test.YtlbaahfadfmffaaLw
namespace Go.Proofs.Ytlbaahfadfmffaa
open Go Go.RowKit

set_option maxHeartbeats 4000000 in
set_option maxRecDepth 100000 in
theorem none_here (id : Int) (s : ByteArray) (w : World) : Calls Try.prog 5 #[.int .i64 id, .string s] w fun e w' => e = .returned (.bool true) ∧ Below w.heap.size w w' := by
  have hnot : ∀ (x : Bool) (w : World), (Op.unary .not (.bool x)).run Try.prog w = .ok (.bool (!x)) w := fun _ _ => rfl
  have nn : ∀ w' : World, Nums w' w'.heap.size none .i64 [] := fun w' i hi => absurd hi (Nat.not_lt_zero i)
  have Nn := Lib.hid nn
  clear nn
  go_enter Try.func5, Try.ntmps5
  go_wp2_with fail
  refine (awake4_any arOk arMore w).mono ?_
  rintro e w1 ⟨rfl, hb1⟩
  go_wp2_with fail
  refine (nilMake 2 0 0 0 0 false ⟨#[]⟩ ⟨#[]⟩ (.slice none 0 0)).mono ?_
  rintro e w2 ⟨rfl, hb2'⟩
  have hb2 : Below w.heap.size w w2 := hb1.trans (hb2'.mono hb1.size)
  clear hb1 hb2'
  go_wp2_with fail
  refine (nilNode id).mono ?_
  rintro e w3 ⟨rfl, hb3'⟩
  have hb3 : Below w.heap.size w w3 := hb2.trans (hb3'.mono hb2.size)
  have hb4 : Below w.heap.size w (w3.alloc (.cells #[.int .i64 0, .int .i64 0, .int .i64 0, .int .i64 0, .int .i64 0, .bool false, .string ⟨#[]⟩, .string ⟨#[]⟩, .slice none 0 0] 33)) := hb3.alloc hb3.size _
  clear hb2 hb3'
  go_wp2_with fail
  have C := one_any 0 0 0 0 0 0 0 0 0 0 false false ⟨#[]⟩ ⟨#[]⟩ ⟨#[]⟩ ⟨#[]⟩ [] [] none none 0 0 (w3.alloc (.cells #[.int .i64 0, .int .i64 0, .int .i64 0, .int .i64 0, .int .i64 0, .bool false, .string ⟨#[]⟩, .string ⟨#[]⟩, .slice none 0 0] 33)) (by simp) (Nn.out _) (Nn.out _)
  have hone : oneB ⟨0, 0, 0, 0, 0, false, ⟨#[]⟩, ⟨#[]⟩, []⟩ ⟨0, 0, 0, 0, 0, false, ⟨#[]⟩, ⟨#[]⟩, []⟩ = true := oneB_refl Nd.zero
  rw [hone] at C
  refine C.mono ?_
  rintro e w5 ⟨rfl, hb5'⟩
  have hb5 : Below w.heap.size w w5 := hb4.trans (hb5'.mono hb4.size)
  clear C hone hb5' hb4 hb3
  go_wp2_with fail
  refine nilLen.mono ?_
  rintro e w6 ⟨rfl, rfl⟩
  go_wp2_with fail
  refine nilAll.mono ?_
  rintro e w6 ⟨A6, c6, rfl, hb6'⟩
  have hb6 : Below w.heap.size w w6 := hb5.trans (hb6'.mono hb5.size)
  clear hb6' hb5
  go_wp2_with fail
  refine (nilPut id).mono ?_
  rintro e w7 ⟨rfl, rfl⟩
  go_wp2_with fail
  refine (nilTie id 1).mono ?_
  rintro e w7 ⟨rfl, rfl⟩
  go_wp2_with fail
  refine (nilName id s).mono ?_
  rintro e w7 ⟨rfl, rfl⟩
  go_wp2_with fail
  refine (nilWant id s).mono ?_
  rintro e w7 ⟨rfl, rfl⟩
  have hh : Has (w6.alloc (.cells #[.slice none 0 0] 53)) w6.heap.size (.cells #[.slice none 0 0] 53 (0, 0)) := Has.fresh _ _
  have hb7 : Below w.heap.size w (w6.alloc (.cells #[.slice none 0 0] 53)) := hb6.alloc hb6.size _
  have hF : Frst (fun i => w.heap.size ≤ i) (w6.alloc (.cells #[.slice none 0 0] 53)) w6.heap.size [] := ⟨hb6.size, none, 0, hh, Nodes.nil _ _⟩
  have HF := Lib.hid hF
  clear hh hF
  go_wp2_with fail
  refine (arMake 1 0 0 0 0 false ⟨#[]⟩ ⟨#[]⟩ [] (.slice none 0 0) HF.out (Nat.zero_le _) (fun i hi => Nat.le_trans hb7.size hi) (Nat.zero_le _) (Nat.zero_le _)).mono ?_
  rintro e w8 ⟨rfl, hF8, hk8⟩
  have e0 : mkErr 0 ⟨1, 0, 0, 0, 0, false, ⟨#[]⟩, ⟨#[]⟩, []⟩ = 0 := by
    have := mkErr_rest (n := 0) (k := 1) (pa := 0) (ho := 0) (sh := 0) (m := 0) (sl := false) (na := ⟨#[]⟩) (wa := ⟨#[]⟩) (ks := []) (by omega) (by omega) (by omega) (by
      rw [okName_empty empty_is, empty_is]
      simp)
    rw [if_neg (by omega)] at this
    exact this
  have e1 : mkErr ([] : List Nd).length ⟨1, 0, 0, 0, 0, false, ⟨#[]⟩, ⟨#[]⟩, []⟩ = 0 := e0
  have e2 : mkNo [] ⟨1, 0, 0, 0, 0, false, ⟨#[]⟩, ⟨#[]⟩, []⟩ = 1 := by unfold mkNo; rw [if_pos e1]; rfl
  have e3 : (mkL [] ⟨1, 0, 0, 0, 0, false, ⟨#[]⟩, ⟨#[]⟩, []⟩).length = 1 := by unfold mkL; rw [if_pos e1]; rfl
  have hb8 : Below w.heap.size w w8 := below_then hb7 hk8 hb7.size fun i hi hh => by omega
  have C := arLen hF8
  rw [e3] at C
  rw [e1, e2]
  have HC := Lib.hid C
  clear C e0 e1 e2 e3 hk8 hF8 hb7
  go_wp2_with fail
  refine HC.out.mono ?_
  rintro e w9 ⟨rfl, rfl⟩
  go_wp2
  go_ret
  exact ⟨rfl, hb8⟩
end Go.Proofs.Ytlbaahfadfmffaa
