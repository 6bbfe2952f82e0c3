/-
  Arrays of eight bytes.
-/
import Derived.Test.YtcefgcoibppdaaaOwn
namespace Go.Proofs.Ytcefgcoibppdaaa
open Go.RowKit

theorem agg8 : Agg Try.prog 48 8 := ⟨⟨_, Try.underlying48, rfl⟩, by kernel_rfl⟩
theorem zero8 : Zero Try.prog 48 [.int .u8 0, .int .u8 0, .int .u8 0, .int .u8 0, .int .u8 0, .int .u8 0, .int .u8 0, .int .u8 0] := ⟨.agg #[.int .u8 0, .int .u8 0, .int .u8 0, .int .u8 0, .int .u8 0, .int .u8 0, .int .u8 0, .int .u8 0], fun _ => by kernel_rfl, rfl⟩

end Go.Proofs.Ytcefgcoibppdaaa
