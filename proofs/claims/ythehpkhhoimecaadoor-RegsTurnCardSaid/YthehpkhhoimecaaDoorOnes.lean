/-
  Types of one cell; what is left of a call's own blocks at its end.
-/
import Derived.Test.YthehpkhhoimecaaDoorOwn
namespace Go.Proofs.YthehpkhhoimecaaDoor
open Go.RowKit

theorem oneInt : One Tryd.prog 3 := ⟨⟨_, Tryd.underlying3, rfl⟩, by kernel_rfl⟩
theorem oneBool : One Tryd.prog 4 := ⟨⟨_, Tryd.underlying4, rfl⟩, by kernel_rfl⟩
theorem oneU8 : One Tryd.prog 5 := ⟨⟨_, Tryd.underlying5, rfl⟩, by kernel_rfl⟩
theorem Own.fin {W0 w : World} {l : List (Nat × TypeId × List Value)} (h : Hid (Own W0 w l)) : Below W0.heap.size W0 w := h.out.below

end Go.Proofs.YthehpkhhoimecaaDoor
