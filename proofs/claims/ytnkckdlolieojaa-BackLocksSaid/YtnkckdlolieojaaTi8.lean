/-
  Arrays of eight bytes.
-/
import Derived.Test.YtnkckdlolieojaaOwn
namespace Go.Proofs.Ytnkckdlolieojaa
open Go.RowKit

theorem agg8 : Agg Try.prog 43 8 := ⟨⟨_, Try.underlying43, rfl⟩, by kernel_rfl⟩
theorem zero8 : Zero Try.prog 43 [.int .u8 0, .int .u8 0, .int .u8 0, .int .u8 0, .int .u8 0, .int .u8 0, .int .u8 0, .int .u8 0] := ⟨.agg #[.int .u8 0, .int .u8 0, .int .u8 0, .int .u8 0, .int .u8 0, .int .u8 0, .int .u8 0, .int .u8 0], fun _ => by kernel_rfl, rfl⟩

end Go.Proofs.Ytnkckdlolieojaa
