/-
  The picture chip's eleven registers as a value.
-/
import Derived.Test.YtcefgcoibppdaaaOwn
namespace Go.Proofs.Ytcefgcoibppdaaa
open Go.RowKit

abbrev regsV (r0 r1 r2 r3 r4 r5 r6 r7 r8 r9 r10 : Nat) : Value := .agg #[.int .u8 (r0 : Int), .int .u8 (r1 : Int), .int .u8 (r2 : Int), .int .u8 (r3 : Int), .int .u8 (r4 : Int), .int .u8 (r5 : Int), .int .u8 (r6 : Int), .int .u8 (r7 : Int), .int .u8 (r8 : Int), .int .u8 (r9 : Int), .int .u8 (r10 : Int)]

theorem agg11 : Agg Try.prog 26 11 := ⟨⟨_, Try.underlying26, rfl⟩, by kernel_rfl⟩
theorem one8 : One Try.prog 5 := ⟨⟨_, Try.underlying5, rfl⟩, by kernel_rfl⟩

end Go.Proofs.Ytcefgcoibppdaaa
