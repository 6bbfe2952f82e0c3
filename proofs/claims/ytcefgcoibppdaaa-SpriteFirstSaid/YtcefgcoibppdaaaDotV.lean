/-
  A dot of four bytes.
-/
import Derived.ProofKit
namespace Go.Proofs.Ytcefgcoibppdaaa
open Go.RowKit

/-- a dot of four bytes: p is the worth of its bit -/
def dotV (b0 b1 b2 b3 p : Nat) : Nat := b0 / p % 2 + 2 * (b1 / p % 2) + 4 * (b2 / p % 2) + 8 * (b3 / p % 2)

end Go.Proofs.Ytcefgcoibppdaaa
