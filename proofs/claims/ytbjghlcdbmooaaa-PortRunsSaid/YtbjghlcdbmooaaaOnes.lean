/-
  Types of one cell; what is left of a call's own blocks at its end.
-/
import Derived.Test.YtbjghlcdbmooaaaOwn
namespace Go.Proofs.Ytbjghlcdbmooaaa
open Go.RowKit

theorem oneInt : One Try.prog 3 := ⟨⟨_, Try.underlying3, rfl⟩, by kernel_rfl⟩
theorem oneBool : One Try.prog 4 := ⟨⟨_, Try.underlying4, rfl⟩, by kernel_rfl⟩
theorem oneU8 : One Try.prog 5 := ⟨⟨_, Try.underlying5, rfl⟩, by kernel_rfl⟩
theorem Own.fin {W0 w : World} {l : List (Nat × TypeId × List Value)} (h : Hid (Own W0 w l)) : Below W0.heap.size W0 w := h.out.below

end Go.Proofs.Ytbjghlcdbmooaaa
