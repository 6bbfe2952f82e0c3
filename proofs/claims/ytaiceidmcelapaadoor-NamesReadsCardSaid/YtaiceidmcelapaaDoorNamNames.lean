/-
  The document's Name over lists.
-/
import Derived.Test.YtaiceidmcelapaaDoorNamRef6
set_option linter.unusedSimpArgs false
set_option linter.unusedVariables false
namespace Go.Proofs.YtaiceidmcelapaaDoor
open Go.RowKit

def rEnd (bs : List Nat) (D : Nat) (s : Tx) : Tx × Nat :=
  if rHas s [110, 110] = true then (rReplace s [110, 110] ([36] ++ (hex2 (bs.getD (D + 1) 0) ++ hex2 (bs.getD D 0))), D + 2)
  else if rHas s [110] = true then (rReplace s [110] ([36] ++ hex2 (bs.getD D 0)), D + 1)
  else if rHas s [101] = true then (rReplace s [101] (sgn (bs.getD D 0)), D + 1)
  else (s, D)
def rTail (bs : List Nat) (p : Int) (B : Nat) (s : Tx) : Tx × Nat :=
  if rHas s [43, 100] = true then rEnd bs (if p < 5 then B + 1 else B) (rReplace s [43, 100] (sgn (bs.getD 2 0))) else rEnd bs B s
/-- what the document answers -/
def rName (bs : List Nat) : Tx × Nat :=
  if (rPage (bs.getD 0 0) (bs.getD 1 0)).1 < 0 then (rPlain (bs.getD 0 0), 1)
  else rTail bs (rPage (bs.getD 0 0) (bs.getD 1 0)).1 ((rPage (bs.getD 0 0) (bs.getD 1 0)).2 + 1) (rPat (rPage (bs.getD 0 0) (bs.getD 1 0)).1 (bs.getD (rPage (bs.getD 0 0) (bs.getD 1 0)).2 0))
end Go.Proofs.YtaiceidmcelapaaDoor
