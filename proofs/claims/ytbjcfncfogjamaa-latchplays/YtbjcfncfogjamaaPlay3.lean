/-
  The list of latches that towncrierlaw03.LatchPlays makes, and what each of its calls does to all that the play knows.
-/
import Derived.Test.YtbjcfncfogjamaaPlays
namespace Go.Proofs.Ytbjcfncfogjamaa
open Go Go.RowKit

theorem Try.infoPtr : (Try.prog.info? 28).map (fun i => (i.zero, i.size, i.bytes)) = some (some (.pointer none), 1, 8) := by kernel_rfl

/-- Where a latch lies, as a value. -/
def ptrs (ps : List Nat) : List Value := ps.map fun p => .pointer (some ⟨p, 0, none⟩)

/-- So far k latches stand in the list. -/
structure Made (w : World) (B Bx Bc k : Nat) (v : Value) (ps : List Nat) : Prop where
  len : ps.length = k
  list : Has w B (.cells #[v] 24 (0, 0))
  own : w.ownsRow (Bc + 1) 28 1 v k (ptrs ps)
  lats : ∀ p ∈ ps, Lat w p false
  nodup : ps.Nodup
  three : Three w Bx (fun _ => false) (fun _ => 0)
  num : Num w Bc 0
  far : ∀ p ∈ ps, B ≤ p

theorem made_step {w w1 w3 : World} {B Bx Bc k : Nat} {v v' : Value} {ps : List Nat} (h : Made w B Bx Bc k v ps) (q1 : B < Bx) (q2 : Bx < Bc) (hl : Lat w1 w.heap.size false) (hb : Below w.heap.size w w1)
    (ho : w3.ownsRow (Bc + 1) 28 1 v' (k + 1) (ptrs ps ++ [.pointer (some ⟨w.heap.size, 0, none⟩)])) (hg : (w1.alloc (.cells #[.pointer (some ⟨w.heap.size, 0, none⟩)] 28)).grownBy w3 v.ownBlock) :
    Has w3 B (.cells #[v] 24 (0, 0)) ∧ Made (w3.setCell ⟨B, 0, none⟩ v') B Bx Bc (k + 1) v' (ps ++ [w.heap.size]) ∧ Keeps (fun i => B ≤ i) w (w3.setCell ⟨B, 0, none⟩ v') := by
  obtain ⟨h1, h2, h3, h4, h5, h6, h7, h8⟩ := h
  have iB := Has.inside h2
  have hrow : ∀ g, v.ownBlock = some g → Bc + 1 ≤ g := fun g hg => (h3.lt g hg).1
  have k2 : Keeps (fun _ => False) w (w1.alloc (.cells #[.pointer (some ⟨w.heap.size, 0, none⟩)] 28)) := (Keeps.of_below hb fun i hi hge => by omega).alloc _
  have k3 := Keeps.of_grown hg
  have hk : Keeps (fun i => v.ownBlock = some i) w w3 := (k2.wide fun _ _ h => h.elim).also k3
  have nB : ∀ j, j ≤ Bc → ¬ v.ownBlock = some j := fun j hj e => by have := hrow _ e; omega
  have hB3 := Has.kept h2 hk (nB B (by omega))
  have hX3 := Has.kept h6 hk (nB Bx (by omega))
  have hC3 := Has.kept h7 hk (nB Bc (by omega))
  have hlat : ∀ p, Lat w p false → Lat w3 p false := fun p hp => Has.kept hp hk fun e => by
    rcases h3.2 with ⟨rfl, _⟩ | ⟨g, cap, cur, rfl, _, hg', _⟩
    · cases e
    · have : g = p := by simpa [Value.ownBlock] using e
      subst this
      exact Has.apart hp hg' (by simp) rfl
  have hnew : Lat w3 w.heap.size false := Has.kept (Has.more hl _) k3 fun e => by
    have := (h3.lt _ e).2
    omega
  refine ⟨hB3, ⟨by simp [h1], Has.stored hB3 0 _, ?_, ?_, ?_, Has.aside hX3 (by simp; omega) _, Has.aside hC3 (by simp; omega) _, fun p hp => ?_⟩, Keeps.storeAt (hk.wide fun i _ h => by have := hrow i h; omega) (Nat.le_refl B) 0 _⟩
  · have : ptrs (ps ++ [w.heap.size]) = ptrs ps ++ [.pointer (some ⟨w.heap.size, 0, none⟩)] := by simp [ptrs]
    rw [this]
    refine own_kept ho ((Keeps.refl (fun i => i = B) w3).store (.inl rfl) _) fun g hg e => ?_
    have := (ho.lt g hg).1
    omega
  · intro p hp
    rcases List.mem_append.1 hp with hp | hp
    · exact Has.aside (hlat p (h4 p hp)) (Has.apart (hlat p (h4 p hp)) hB3 (by simp)) _
    · obtain rfl := List.mem_singleton.1 hp
      exact Has.aside hnew (by simp; omega) _
  · refine List.nodup_append.2 ⟨h5, by simp, fun a ha b hb e => ?_⟩
    obtain rfl := List.mem_singleton.1 hb
    have := Has.inside (h4 a ha)
    omega
  · rcases List.mem_append.1 hp with hp | hp
    · exact h8 p hp
    · obtain rfl := List.mem_singleton.1 hp
      omega

/-- All that the play knows: the latches by their own flags and the count; the document's by theirs. -/
structure Play (w : World) (B Bx Bc g cap : Nat) (cur : Array Value) (p : Nat → Nat) (sl : Nat → Bool) (m : Int) (s : Nat → Bool) (c : Nat → Int) : Prop where
  seen : Seen w B g cap cur p
  three : Three w Bx s c
  num : Num w Bc m
  lats : ∀ k, k < 3 → Lat w (p k) (sl k)
  inj : ∀ i j, i < 3 → j < 3 → p i = p j → i = j
  far : B < Bx ∧ B < Bc ∧ Bx ≠ Bc ∧ ∀ k, k < 3 → B ≤ p k

theorem made_play {w : World} {B Bx Bc : Nat} {v : Value} {ps : List Nat} (h : Made w B Bx Bc 3 v ps) (q1 : B < Bx) (q2 : Bx < Bc) : ∃ g cap cur p, Play w B Bx Bc g cap cur p (fun _ => false) 0 (fun _ => false) (fun _ => 0) := by
  obtain ⟨h1, h2, h3, h4, h5, h6, h7, h8⟩ := h
  obtain ⟨hl, h3⟩ := h3
  rcases h3 with ⟨_, h0⟩ | ⟨g, cap, cur, rfl, _, hg, _, _, _, ht⟩
  · omega
  have hp : ∀ k, k < 3 → ps[k]? = some (ps.getD k 0) := fun k hk => by
    rw [List.getD_eq_getElem?_getD, List.getElem?_eq_getElem (by omega)]
    rfl
  refine ⟨g, cap, cur, fun k => ps.getD k 0, ⟨h2, hg, fun k hk => ?_⟩, h6, h7, fun k hk => h4 _ (List.mem_of_getElem? (hp k hk)), fun i j hi hj e => ?_, q1, by omega, by omega, fun k hk => h8 _ (List.mem_of_getElem? (hp k hk))⟩
  · have : cur.toList[k]? = (ptrs ps)[k]? := by rw [← ht, List.getElem?_take, if_pos (by omega)]
    rw [← Array.getElem?_toList, this, ptrs, List.getElem?_map, hp k hk]
    rfl
  · exact (List.getElem?_inj (by omega) h5).1 (by rw [hp i hi, hp j hj]; exact congrArg some e)

section
variable {w w' : World} {B Bx Bc g cap k : Nat} {cur : Array Value} {p : Nat → Nat} {sl s : Nat → Bool} {m : Int} {c : Nat → Int}
theorem Play.kept {F : Nat → Prop} (h : Play w B Bx Bc g cap cur p sl m s c) (k : Keeps F w w') (hF : ∀ i, F i → w.heap.size ≤ i) : Play w' B Bx Bc g cap cur p sl m s c := by
  have hn : ∀ i, i < w.heap.size → ¬ F i := fun i hi hf => by have := hF i hf; omega
  exact ⟨h.seen.kept k (hn _ (Has.inside h.seen.1)) (hn _ (Has.inside h.seen.2.1)), Has.kept h.three k (hn _ (Has.inside h.three)), Has.kept h.num k (hn _ (Has.inside h.num)), fun j hj => (h.lats j hj).kept k (hn _ (h.lats j hj).in), h.inj, h.far⟩
theorem Play.more (h : Play w B Bx Bc g cap cur p sl m s c) (o : Obj) : Play (w.alloc o) B Bx Bc g cap cur p sl m s c := h.kept (F := fun _ => False) ((Keeps.refl _ _).alloc o) fun _ h => h.elim
theorem Play.drewN (h : Play w B Bx Bc g cap cur p sl m s c) (n : Nat) : Play (w.drewN n) B Bx Bc g cap cur p sl m s c := ⟨h.seen, h.three, h.num, h.lats, h.inj, h.far⟩
/-- Latch k has turned, and the count may have; nothing else. -/
theorem Play.turned (h : Play w B Bx Bc g cap cur p sl m s c) (hk : k < 3) {F : Nat → Prop} (kp : Keeps F w w') (hF : ∀ i, F i → i = p k ∨ i = Bc ∨ ∃ x, Truth w i x) (hl : Lat w' (p k) true) {m' : Int} (hm : Num w' Bc m') : Play w' B Bx Bc g cap cur p (upd sl k true) m' s c := by
  have ne : ∀ {i : Nat} {cs : Array Value} {t : TypeId} {fr : Nat × Nat}, Has w i (.cells cs t fr) → t ≠ 46 → t ≠ 3 → t ≠ 4 → ¬ F i := fun hi t1 t2 t3 hf => by
    rcases hF _ hf with rfl | rfl | ⟨x, hx⟩
    · exact Has.apart hi (h.lats k hk) (fun e => t1 (by injection e)) rfl
    · exact Has.apart hi h.num (fun e => t2 (by injection e)) rfl
    · exact Has.apart hi hx (fun e => t3 (by injection e)) rfl
  refine ⟨h.seen.kept kp (ne h.seen.1 (by decide) (by decide) (by decide)) (ne h.seen.2.1 (by decide) (by decide) (by decide)), Has.kept h.three kp (ne h.three (by decide) (by decide) (by decide)), hm, fun j hj => ?_, h.inj, h.far⟩
  by_cases hjk : j = k
  · subst hjk
    rw [upd_same]
    exact hl
  · rw [upd_other _ _ hjk]
    refine (h.lats j hj).kept kp fun hf => ?_
    rcases hF _ hf with e | e | ⟨x, hx⟩
    · exact hjk (h.inj _ _ hj hk e)
    · exact Has.apart (h.lats j hj) h.num (by simp) e
    · exact Has.apart (h.lats j hj) hx (by simp) rfl
theorem upd_shut (h : sl k = true) : upd sl k true = sl := upd_id sl k true h
end

set_option maxHeartbeats 1000000 in
/-- Do with something. -/
theorem plays_do (B Bx Bc g cap k Bk Bi : Nat) (cur : Array Value) (p : Nat → Nat) (sl s : Nat → Bool) (m : Int) (c : Nat → Int) (w : World) (hk : k < 3) (m0 : 0 ≤ m) (m1 : m ≤ 900) (h : Play w B Bx Bc g cap cur p sl m s c) (hkk : Num w Bk k) (hi : Truth w Bi false) (hB' : B < Bi) (hne : Bk ≠ Bc) :
    Calls Try.prog 7 #[.pointer (some ⟨p k, 0, none⟩), .func (.func 8) #[] #[.pointer (some ⟨Bc, 0, none⟩), .pointer (some ⟨B, 0, none⟩), .pointer (some ⟨Bk, 0, none⟩), .pointer (some ⟨Bi, 0, none⟩)]] w fun e w' =>
      e = .returned (.bool (!sl k)) ∧ Play w' B Bx Bc g cap cur p (upd sl k true) (bif sl k then m else m + 1) s c ∧ Num w' Bk k ∧ Truth w' Bi false ∧ Keeps (fun i => B ≤ i) w w' := by
  have hlk := h.lats k hk
  have hpk := h.far.2.2.2 k hk
  cases hs : sl k with
  | true =>
    rw [hs] at hlk
    refine (do_shut _ _ w hlk).mono ?_
    rintro e w' ⟨rfl, k1⟩
    rw [upd_shut hs]
    exact ⟨rfl, h.kept k1 fun i hi => absurd hi just_none, Has.kept hkk k1 just_none, Has.kept hi k1 just_none, k1.wide fun i _ hi => absurd hi just_none⟩
  | false =>
    rw [hs] at hlk
    have n1 : Bk ≠ p k := Has.apart hkk hlk (by simp)
    have n2 : Bi ≠ p k := Has.apart hi hlk (by simp)
    have n3 : Bk ≠ Bi := Has.apart hkk hi (by simp)
    have n4 : Bc ≠ p k := Has.apart h.num hlk (by simp)
    have n5 : B ≠ p k := Has.apart h.seen.1 hlk (by simp)
    have n6 : g ≠ p k := Has.apart h.seen.2.1 hlk (by simp)
    have n7 : Bi ≠ Bc := Has.apart hi h.num (by simp)
    refine (do_some (p k) 8 _ (Just [Bc, Bi]) (fun w' => Play w' B Bx Bc g cap cur p (upd sl k true) (m + 1) s c ∧ Num w' Bk k ∧ Truth w' Bi false ∧ Keeps (fun i => B ≤ i) w w') w hlk ?_ (fun w => MuLone.run_callFunc_enter Try.func8 (by kernel_rfl) rfl _ w) ?_).mono ?_
    · intro i hi'
      rcases List.mem_cons.1 hi' with rfl | hi'
      · exact Has.inside h.num
      · obtain rfl := List.mem_singleton.1 hi'
        exact Has.inside hi
    · intro w1 hl1 k1
      have hs1 : Seen w1 B g cap cur p := h.seen.kept k1 (just_ne n5) (just_ne n6)
      refine (inner_any Bc B Bk Bi g cap k cur p m w1 hk m0 (by omega) (Has.kept h.num k1 (just_ne n4)) hs1 (Has.kept hkk k1 (just_ne n1)) (Has.kept hi k1 (just_ne n2)) hl1 hne).mono ?_
      rintro e w2 ⟨rfl, k2, hc2, hi2⟩
      have nj : ∀ {i : Nat}, i ≠ Bc → i ≠ Bi → ¬ Just [Bc, Bi] i := fun h1 h2 hj => by
        rcases List.mem_cons.1 hj with rfl | hj
        · exact h1 rfl
        · exact h2 (List.mem_singleton.1 hj)
      have kk : Keeps (fun i => i = p k ∨ i = Bc ∨ i = Bi) w w2 := (k1.wide fun i _ hi => .inl (List.mem_singleton.1 hi)).trans k2 fun i _ hi => by
        rcases List.mem_cons.1 hi with rfl | hi
        · exact .inr (.inl rfl)
        · exact .inr (.inr (List.mem_singleton.1 hi))
      refine ⟨rfl, k2, h.turned hk kk (fun i hi' => ?_) (hl1.kept k2 (nj n4.symm n2.symm)) hc2, Has.kept (Has.kept hkk k1 (just_ne n1)) k2 (nj hne n3), hi2, kk.wide fun i _ hi => ?_⟩
      · rcases hi' with e | e | e
        · exact .inl e
        · exact .inr (.inl e)
        · exact .inr (.inr ⟨false, e ▸ hi⟩)
      · have := h.far
        rcases hi with rfl | rfl | rfl <;> omega
    · rintro e w' ⟨rfl, h1, h2, h3, h4⟩
      exact ⟨rfl, h1, h2, h3, h4⟩

/-- Do with nothing. -/
theorem plays_none (B Bx Bc g cap k Bk : Nat) (cur : Array Value) (p : Nat → Nat) (sl s : Nat → Bool) (m : Int) (c : Nat → Int) (w : World) (hk : k < 3) (h : Play w B Bx Bc g cap cur p sl m s c) (hkk : Num w Bk k) :
    Calls Try.prog 7 #[.pointer (some ⟨p k, 0, none⟩), .nilFunc] w fun e w' =>
      e = .returned (.bool (!sl k)) ∧ Play w' B Bx Bc g cap cur p (upd sl k true) m s c ∧ Num w' Bk k ∧ Keeps (fun i => B ≤ i) w w' := by
  have hlk := h.lats k hk
  have hpk := h.far.2.2.2 k hk
  cases hs : sl k with
  | true =>
    rw [hs] at hlk
    refine (do_shut _ _ w hlk).mono ?_
    rintro e w' ⟨rfl, k1⟩
    rw [upd_shut hs]
    exact ⟨rfl, h.kept k1 fun i hi => absurd hi just_none, Has.kept hkk k1 just_none, k1.wide fun i _ hi => absurd hi just_none⟩
  | false =>
    rw [hs] at hlk
    have n1 : Bk ≠ p k := Has.apart hkk hlk (by simp)
    have n4 : Bc ≠ p k := Has.apart h.num hlk (by simp)
    refine (do_none _ w hlk).mono ?_
    rintro e w' ⟨rfl, hl1, k1⟩
    exact ⟨rfl, h.turned hk k1 (fun i hi => .inl (List.mem_singleton.1 hi)) hl1 (Has.kept h.num k1 (just_ne n4)), Has.kept hkk k1 (just_ne n1), k1.wide fun i _ hi => by obtain rfl := List.mem_singleton.1 hi; exact hpk⟩

section
variable {w : World} {B Bx Bc g cap k : Nat} {cur : Array Value} {p : Nat → Nat} {sl s : Nat → Bool} {m : Int} {c : Nat → Int}
/-- A store into the document's latches. -/
theorem Play.store (h : Play w B Bx Bc g cap cur p sl m s c) (i : Nat) (u : Value) {s' : Nat → Bool} {c' : Nat → Int} (ht : Three (w.setCell ⟨Bx, i, none⟩ u) Bx s' c') : Play (w.setCell ⟨Bx, i, none⟩ u) B Bx Bc g cap cur p sl m s' c' :=
  have n1 : B ≠ Bx := Has.apart h.seen.1 h.three (by simp)
  have n2 : g ≠ Bx := Has.apart h.seen.2.1 h.three (by simp)
  have n3 : Bc ≠ Bx := Has.apart h.num h.three (by simp)
  have n4 : ∀ k, k < 3 → p k ≠ Bx := fun k hk => Has.apart (h.lats k hk) h.three (by simp)
  ⟨⟨Has.aside h.seen.1 n1 _, Has.aside h.seen.2.1 n2 _, h.seen.2.2⟩, ht, Has.aside h.num n3 _, fun k hk => Has.aside (h.lats k hk) (n4 k hk) _, h.inj, h.far⟩
end

/-- The document's Do with something. -/
theorem plays_refDo (B Bx Bc g cap k Bk Bi : Nat) (cur : Array Value) (p : Nat → Nat) (sl s : Nat → Bool) (m : Int) (c : Nat → Int) (w : World) (hk : k < 3) (hc : ∀ k, 0 ≤ c k ∧ c k ≤ 1) (h : Play w B Bx Bc g cap cur p sl m s c) (hkk : Num w Bk k) (hi : Truth w Bi false) :
    Calls Try.prog 11 #[.pointer (some ⟨Bx, k * 2, none⟩), .bool true] w fun e w' =>
      e = .returned (.bool (!s k)) ∧ Play w' B Bx Bc g cap cur p sl m (upd s k true) (bif s k then c else upd c k (c k + 1)) ∧ Num w' Bk k ∧ Truth w' Bi false ∧ Keeps (fun i => B ≤ i) w w' := by
  have hsh := h.three.shut hk
  cases hs : s k with
  | true =>
    rw [hs] at hsh
    refine (refDo_shut _ _ _ w hsh).mono ?_
    rintro e w' ⟨rfl, rfl⟩
    rw [upd_shut hs]
    exact ⟨rfl, h, hkk, hi, Keeps.refl _ _⟩
  | false =>
    rw [hs] at hsh
    refine (refDo_some _ _ (c k) w (hc k).1 (Int.le_trans (hc k).2 (by decide)) hsh (Has.free h.three _) (h.three.calls hk) (Has.free h.three _)).mono ?_
    rintro e w' ⟨rfl, rfl⟩
    have h1 := h.store _ _ (h.three.store hk true)
    have n1 : Bk ≠ Bx := Has.apart hkk h.three (by simp)
    have n2 : Bi ≠ Bx := Has.apart hi h.three (by simp)
    have hB : B ≤ Bx := Nat.le_of_lt h.far.1
    exact ⟨rfl, h1.store _ _ (h1.three.count hk (c k + 1)), Has.aside (Has.aside hkk n1 _) n1 _, Has.aside (Has.aside hi n2 _) n2 _, ((Keeps.refl _ w).storeAt hB _ _).storeAt hB _ _⟩

/-- With nothing. -/
theorem plays_refNone (B Bx Bc g cap k Bk : Nat) (cur : Array Value) (p : Nat → Nat) (sl s : Nat → Bool) (m : Int) (c : Nat → Int) (w : World) (hk : k < 3) (h : Play w B Bx Bc g cap cur p sl m s c) (hkk : Num w Bk k) :
    Calls Try.prog 11 #[.pointer (some ⟨Bx, k * 2, none⟩), .bool false] w fun e w' =>
      e = .returned (.bool (!s k)) ∧ Play w' B Bx Bc g cap cur p sl m (upd s k true) c ∧ Num w' Bk k ∧ Keeps (fun i => B ≤ i) w w' := by
  have hsh := h.three.shut hk
  cases hs : s k with
  | true =>
    rw [hs] at hsh
    refine (refDo_shut _ _ _ w hsh).mono ?_
    rintro e w' ⟨rfl, rfl⟩
    rw [upd_shut hs]
    exact ⟨rfl, h, hkk, Keeps.refl _ _⟩
  | false =>
    rw [hs] at hsh
    refine (refDo_none _ _ w hsh (Has.free h.three _)).mono ?_
    rintro e w' ⟨rfl, rfl⟩
    have h1 := h.store _ _ (h.three.store hk true)
    have n1 : Bk ≠ Bx := Has.apart hkk h.three (by simp)
    have hB : B ≤ Bx := Nat.le_of_lt h.far.1
    exact ⟨rfl, h1, Has.aside hkk n1 _, (Keeps.refl _ w).storeAt hB _ _⟩
end Go.Proofs.Ytbjcfncfogjamaa
