/-
  RomKeeps for every piece, long or short.
-/
import Derived.Test.YtdgejcbnjelgkaaRomPiece
import Derived.Test.YtdgejcbnjelgkaaRomKeeps
namespace Go.Proofs.Ytdgejcbnjelgkaa
open Go.RowKit

theorem keeps_any (a : Option Addr) (n cap : Nat) (zs : List Int) (m p x t : Int) (w : World) (hb : Bytes w w.heap.size a n zs) :
    Calls Try.prog 5 #[.agg #[.slice a n cap, .int .i64 m, .int .i64 p, .int .u8 x], .int .i64 t] w fun e w' => e = .returned (.bool true) ∧ Below w.heap.size w w' := by
  rcases Nat.lt_or_ge 5000 n with h | h
  · exact keeps_long a n cap m p x t w h
  · exact keeps_short a n cap zs m p x t w hb h

end Go.Proofs.Ytdgejcbnjelgkaa
