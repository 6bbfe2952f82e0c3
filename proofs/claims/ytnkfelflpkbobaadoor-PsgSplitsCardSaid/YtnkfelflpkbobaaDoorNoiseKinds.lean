/-
  What the types are that noises are made of: how many cells, and their zero values.
-/
import Derived.Test.YtnkfelflpkbobaaDoorOwn
namespace Go.Proofs.YtnkfelflpkbobaaDoor
open Go.RowKit

theorem aggN : Agg Tryd.prog 27 4 := ⟨⟨_, Tryd.underlying27, rfl⟩, by kernel_rfl⟩
theorem oneInt : One Tryd.prog 3 := ⟨⟨_, Tryd.underlying3, rfl⟩, by kernel_rfl⟩
theorem oneBool : One Tryd.prog 4 := ⟨⟨_, Tryd.underlying4, rfl⟩, by kernel_rfl⟩
theorem oneU8 : One Tryd.prog 5 := ⟨⟨_, Tryd.underlying5, rfl⟩, by kernel_rfl⟩
theorem oneU16 : One Tryd.prog 25 := ⟨⟨_, Tryd.underlying25, rfl⟩, by kernel_rfl⟩
theorem zeroN : Zero Tryd.prog 27 [.int .u8 0, .int .i64 0, .bool false, .int .u16 0] := ⟨.agg #[.int .u8 0, .int .i64 0, .bool false, .int .u16 0], fun _ => by kernel_rfl, rfl⟩


end Go.Proofs.YtnkfelflpkbobaaDoor
