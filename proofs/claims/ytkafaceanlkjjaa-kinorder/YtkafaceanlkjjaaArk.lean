/-
  Package arena keeps its promises.
-/
import Derived.Test.YtkafaceanlkjjaaArc
import Derived.Test.YtkafaceanlkjjaaAre
import Derived.Test.YtkafaceanlkjjaaArh
import Derived.Test.YtkafaceanlkjjaaArj
namespace Go.Proofs.Ytkafaceanlkjjaa
open Go Go.RowKit

theorem arOk : ForestOk Frst where
  keep h k hF := h.keep k hF
  wide h hS := h.wide hS
  new S w hS := arNew S w hS
  make _ _ _ _ k pa ho sh m sl na wa ks _ _ h hg hS hna hwa _ := arMake k pa ho sh m sl na wa ks _ h hg.len hS hna hwa
  put _ _ _ _ p ks A2 c2 h hg hS hn hL hA := arPut p ks A2 c2 h hg.len hg.few hg.tree hS hn hL hA
  tie _ _ _ _ h r hR hg _ := arTie h r hR hg.len hg.tree
  name _ _ _ _ id s h hg _ hs := arName id s h hg.len hs
  want _ _ _ _ id s h hg _ hs := arWant id s h hg.len hs
theorem arMore : ForestMore Frst where
  node _ w _ _ id h hg := (arNode (G := fun i => w.heap.size ≤ i) id h hg.len hg.few fun _ h => h).mono fun _ _ ⟨A, c, he, hk, hb⟩ => ⟨_, A, c, he, rfl, hk, hb⟩
  len _ w _ _ h _ := (arLen h).mono fun _ _ ⟨he, hw⟩ => ⟨he, by rw [← hw]; exact Below.refl _ _⟩
end Go.Proofs.Ytkafaceanlkjjaa
