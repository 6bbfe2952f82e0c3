/-
  What the types are that noises are made of: how many cells, and their zero values.
-/
import Derived.Test.YtelncbajkbgepaaOwn
namespace Go.Proofs.Ytelncbajkbgepaa
open Go.RowKit

theorem aggN : Agg Try.prog 24 4 := ⟨⟨_, Try.underlying24, rfl⟩, by kernel_rfl⟩
theorem oneInt : One Try.prog 3 := ⟨⟨_, Try.underlying3, rfl⟩, by kernel_rfl⟩
theorem oneBool : One Try.prog 4 := ⟨⟨_, Try.underlying4, rfl⟩, by kernel_rfl⟩
theorem oneU8 : One Try.prog 5 := ⟨⟨_, Try.underlying5, rfl⟩, by kernel_rfl⟩
theorem oneU16 : One Try.prog 22 := ⟨⟨_, Try.underlying22, rfl⟩, by kernel_rfl⟩
theorem zeroN : Zero Try.prog 24 [.int .u8 0, .int .i64 0, .bool false, .int .u16 0] := ⟨.agg #[.int .u8 0, .int .i64 0, .bool false, .int .u16 0], fun _ => by kernel_rfl, rfl⟩


end Go.Proofs.Ytelncbajkbgepaa
