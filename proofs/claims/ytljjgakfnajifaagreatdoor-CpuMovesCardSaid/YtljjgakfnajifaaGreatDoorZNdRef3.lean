import Derived.Test.YtljjgakfnajifaaGreatDoorZBase
import Derived.Deep.Cut
import Derived.Deep.CutRange
import Derived.Laws.AppendOwn
import Derived.Laws.OwnMore
import Derived.Laws.BytesArg
import Derived.Lib.IndexMore
import Derived.Deep.RegionHeld3
namespace Go.Proofs.YtljjgakfnajifaaGreatDoor
abbrev Tx := List UInt8
def sg (l : List Tx) (i : Nat) : Tx := l.getD i []
def t_singles : List Tx := [[66], [67], [68], [69], [72], [76], [40, 72, 76, 41], [65]]
def t_wides : List Tx := [[66, 67], [68, 69], [72, 76], [83, 80]]
def t_stacked : List Tx := [[66, 67], [68, 69], [72, 76], [65, 70]]
def t_conditions : List Tx := [[78, 90], [90], [78, 67], [67], [80, 79], [80, 69], [80], [77]]
def t_eightSums : List Tx := [[65, 68, 68, 32, 65, 44], [65, 68, 67, 32, 65, 44], [83, 85, 66, 32], [83, 66, 67, 32, 65, 44], [65, 78, 68, 32], [88, 79, 82, 32], [79, 82, 32], [67, 80, 32]]
def t_eightTurns : List Tx := [[82, 76, 67, 32], [82, 82, 67, 32], [82, 76, 32], [82, 82, 32], [83, 76, 65, 32], [83, 82, 65, 32], [83, 76, 76, 32], [83, 82, 76, 32]]
def t_starts : List Tx := [[78, 79, 80], [69, 88, 32, 65, 70, 44, 65, 70, 39], [68, 74, 78, 90, 32, 101], [74, 82, 32, 101]]
def t_places : List Tx := [[40, 66, 67, 41], [40, 68, 69, 41], [40, 110, 110, 41], [40, 110, 110, 41]]
def t_quicks : List Tx := [[82, 76, 67, 65], [82, 82, 67, 65], [82, 76, 65], [82, 82, 65], [68, 65, 65], [67, 80, 76], [83, 67, 70], [67, 67, 70]]
def t_bitActs : List Tx := [[], [66, 73, 84, 32], [82, 69, 83, 32], [83, 69, 84, 32]]
def t_modes : List Tx := [[73, 77, 32, 48], [73, 77, 32, 48], [73, 77, 32, 49], [73, 77, 32, 50]]
def t_oddMoves : List Tx := [[76, 68, 32, 73, 44, 65], [76, 68, 32, 82, 44, 65], [76, 68, 32, 65, 44, 73], [76, 68, 32, 65, 44, 82], [82, 82, 68], [82, 76, 68], [78, 79, 80], [78, 79, 80]]
def t_manyActs : List Tx := [[76, 68], [67, 80], [73, 78], [79, 85, 84]]
def t_manySteps : List Tx := [[73], [68], [73, 82], [68, 82]]
def cMemory (pair : Tx) : Tx := if pair = [72, 76] then sg t_singles 6 else [40] ++ (pair ++ ([43, 100] ++ ([41])))
def cSingle (n : Nat) (pair : Tx) : Tx := if n = 6 then cMemory pair else if pair ≠ [72, 76] ∧ (n = 4 ∨ n = 5) then pair ++ sg t_singles n else sg t_singles n
def cPointing (name pair : Tx) : Tx := if name = [72, 76] then pair else name
def cLoad (too frm : Tx) : Tx := [76, 68, 32] ++ (too ++ ([44] ++ (frm)))
def cLoadEither (q : Nat) (place what : Tx) : Tx := if q = 0 then cLoad place what else cLoad what place
def cPlaced (p : Nat) (pair : Tx) : Tx := if p = 2 then pair else [65]
def cStart (y : Nat) : Tx := if y < 4 then sg t_starts y else [74, 82, 32] ++ (sg t_conditions (y - 4) ++ ([44] ++ ([101])))
def cBack (p : Nat) (pair : Tx) : Tx :=
  if p = 0 then ([82, 69, 84]) else
  if p = 1 then ([69, 88, 88]) else
  if p = 2 then ([74, 80, 32, 40] ++ (pair ++ ([41]))) else
  (cLoad [83, 80] pair)
def cMixed (y : Nat) (pair : Tx) : Tx :=
  if y = 0 then ([74, 80, 32, 110, 110]) else
  if y = 1 then ([67, 66]) else
  if y = 2 then ([79, 85, 84, 32, 40, 110, 41, 44, 65]) else
  if y = 3 then ([73, 78, 32, 65, 44, 40, 110, 41]) else
  if y = 4 then ([69, 88, 32, 40, 83, 80, 41, 44] ++ pair) else
  if y = 5 then ([69, 88, 32, 68, 69, 44, 72, 76]) else
  if y = 6 then ([68, 73]) else
  ([69, 73])
def cAhead (p : Nat) : Tx :=
  if p = 0 then ([67, 65, 76, 76, 32, 110, 110]) else
  if p = 1 then ([68, 68]) else
  if p = 2 then ([69, 68]) else
  ([70, 68])
def dec3 (n : Nat) : Tx := if n < 10 then [UInt8.ofNat (48 + n)] else if n < 100 then [UInt8.ofNat (48 + n / 10), UInt8.ofNat (48 + n % 10)] else [UInt8.ofNat (48 + n / 100), UInt8.ofNat (48 + n / 10 % 10), UInt8.ofNat (48 + n % 10)]
def cFirst (y z p q : Nat) (pair : Tx) : Tx :=
  if z = 0 then (cStart y) else
  if z = 1 then (if q = 0 then cLoad (cPointing (sg t_wides p) pair) [110, 110] else [65, 68, 68, 32] ++ (pair ++ ([44] ++ (cPointing (sg t_wides p) pair)))) else
  if z = 2 then (cLoadEither q (sg t_places p) (cPlaced p pair)) else
  if z = 3 then (if q = 0 then [73, 78, 67, 32] ++ cPointing (sg t_wides p) pair else [68, 69, 67, 32] ++ cPointing (sg t_wides p) pair) else
  if z = 4 then ([73, 78, 67, 32] ++ cSingle y pair) else
  if z = 5 then ([68, 69, 67, 32] ++ cSingle y pair) else
  if z = 6 then (cLoad (cSingle y pair) [110]) else
  (sg t_quicks y)
def cMove (y z : Nat) (pair : Tx) : Tx := if y = 6 ∧ z = 6 then [72, 65, 76, 84] else if y = 6 then cLoad (cSingle y pair) (sg t_singles z) else if z = 6 then cLoad (sg t_singles y) (cSingle z pair) else cLoad (cSingle y pair) (cSingle z pair)
def cLast (y z p q : Nat) (pair : Tx) : Tx :=
  if z = 0 then ([82, 69, 84, 32] ++ sg t_conditions y) else
  if z = 1 then (if q = 0 then [80, 79, 80, 32] ++ cPointing (sg t_stacked p) pair else cBack p pair) else
  if z = 2 then ([74, 80, 32] ++ (sg t_conditions y ++ ([44] ++ ([110, 110])))) else
  if z = 3 then (cMixed y pair) else
  if z = 4 then ([67, 65, 76, 76, 32] ++ (sg t_conditions y ++ ([44] ++ ([110, 110])))) else
  if z = 5 then (if q = 0 then [80, 85, 83, 72, 32] ++ cPointing (sg t_stacked p) pair else cAhead p) else
  if z = 6 then (sg t_eightSums y ++ [110]) else
  ([82, 83, 84, 32] ++ dec3 (8 * y))
def cPlain (x y z p q : Nat) (pair : Tx) : Tx :=
  if x = 0 then (cFirst y z p q pair) else
  if x = 1 then (cMove y z pair) else
  if x = 2 then (sg t_eightSums y ++ cSingle z pair) else
  (cLast y z p q pair)
def cOnBits (x y : Nat) (what : Tx) : Tx := if x = 0 then sg t_eightTurns y ++ what else sg t_bitActs x ++ (dec3 y ++ ([44] ++ (what)))
def cOnBitsAt (x y z : Nat) (pair : Tx) : Tx := if x = 1 ∨ z = 6 then cOnBits x y (cMemory pair) else cOnBits x y (cMemory pair) ++ ([44] ++ (sg t_singles z))
def cMany (y z : Nat) : Tx := if 5 < y ∧ z = 3 then [79, 84] ++ sg t_manySteps (y - 4) else sg t_manyActs z ++ sg t_manySteps (y - 4)
def cRareOne (y z p q : Nat) : Tx :=
  if z = 0 then (if y = 6 then [73, 78, 32, 40, 67, 41] else [73, 78, 32] ++ (sg t_singles y ++ ([44, 40, 67, 41]))) else
  if z = 1 then (if y = 6 then [79, 85, 84, 32, 40, 67, 41, 44, 48] else [79, 85, 84, 32, 40, 67, 41, 44] ++ sg t_singles y) else
  if z = 2 then (if q = 0 then [83, 66, 67, 32, 72, 76, 44] ++ sg t_wides p else [65, 68, 67, 32, 72, 76, 44] ++ sg t_wides p) else
  if z = 3 then (cLoadEither q [40, 110, 110, 41] (sg t_wides p)) else
  if z = 4 then ([78, 69, 71]) else
  if z = 5 then (if y = 1 then [82, 69, 84, 73] else [82, 69, 84, 78]) else
  if z = 6 then (sg t_modes (y % 4)) else
  (sg t_oddMoves y)
def cRare (x y z p q : Nat) : Tx := if x = 1 then cRareOne y z p q else if x = 2 ∧ 3 < y ∧ z < 4 then cMany y z else [78, 79, 80]
def pHL : Tx := [72, 76]
def pIX : Tx := [73, 88]
def pIY : Tx := [73, 89]
def cPat (page : Int) (n : Nat) : Tx :=
  if page = 0 then cPlain (n / 64) (n / 8 % 8) (n % 8) (n / 16 % 4) (n / 8 % 2) pHL
  else if page = 1 then cOnBits (n / 64) (n / 8 % 8) (sg t_singles (n % 8))
  else if page = 2 then cRare (n / 64) (n / 8 % 8) (n % 8) (n / 16 % 4) (n / 8 % 2)
  else if page = 3 then cPlain (n / 64) (n / 8 % 8) (n % 8) (n / 16 % 4) (n / 8 % 2) pIX
  else if page = 4 then cPlain (n / 64) (n / 8 % 8) (n % 8) (n / 16 % 4) (n / 8 % 2) pIY
  else if page = 5 then cOnBitsAt (n / 64) (n / 8 % 8) (n % 8) pIX
  else if page = 6 then cOnBitsAt (n / 64) (n / 8 % 8) (n % 8) pIY
  else []
def rSplitOn (mark : UInt8) : Tx → Tx → List Tx
  | part, [] => [part]
  | part, c :: s => if c = mark then part :: rSplitOn mark [] s else rSplitOn mark (part ++ [c]) s
def rSplit (s : Tx) (mark : UInt8) : List Tx := rSplitOn mark [] s
def x_first : Tx := [78, 79, 80, 124, 76, 68, 32, 66, 67, 44, 110, 110, 124, 76, 68, 32, 40, 66, 67, 41, 44, 65, 124, 73, 78, 67, 32, 66, 67, 124, 73, 78, 67, 32, 66, 124, 68, 69, 67, 32, 66, 124, 76, 68, 32, 66, 44, 110, 124, 82, 76, 67, 65, 124, 69, 88, 32, 65, 70, 44, 65, 70, 39, 124, 65, 68, 68, 32, 72, 76, 44, 66, 67, 124, 76, 68, 32, 65, 44, 40, 66, 67, 41, 124, 68, 69, 67, 32, 66, 67, 124, 73, 78, 67, 32, 67, 124, 68, 69, 67, 32, 67, 124, 76, 68, 32, 67, 44, 110, 124, 82, 82, 67, 65, 124, 68, 74, 78, 90, 32, 101, 124, 76, 68, 32, 68, 69, 44, 110, 110, 124, 76, 68, 32, 40, 68, 69, 41, 44, 65, 124, 73, 78, 67, 32, 68, 69, 124, 73, 78, 67, 32, 68, 124, 68, 69, 67, 32, 68, 124, 76, 68, 32, 68, 44, 110, 124, 82, 76, 65, 124, 74, 82, 32, 101, 124, 65, 68, 68, 32, 72, 76, 44, 68, 69, 124, 76, 68, 32, 65, 44, 40, 68, 69, 41, 124, 68, 69, 67, 32, 68, 69, 124, 73, 78, 67, 32, 69, 124, 68, 69, 67, 32, 69, 124, 76, 68, 32, 69, 44, 110, 124, 82, 82, 65, 124, 74, 82, 32, 78, 90, 44, 101, 124, 76, 68, 32, 72, 76, 44, 110, 110, 124, 76, 68, 32, 40, 110, 110, 41, 44, 72, 76, 124, 73, 78, 67, 32, 72, 76, 124, 73, 78, 67, 32, 72, 124, 68, 69, 67, 32, 72, 124, 76, 68, 32, 72, 44, 110, 124, 68, 65, 65, 124, 74, 82, 32, 90, 44, 101, 124, 65, 68, 68, 32, 72, 76, 44, 72, 76, 124, 76, 68, 32, 72, 76, 44, 40, 110, 110, 41, 124, 68, 69, 67, 32, 72, 76, 124, 73, 78, 67, 32, 76, 124, 68, 69, 67, 32, 76, 124, 76, 68, 32, 76, 44, 110, 124, 67, 80, 76, 124, 74, 82, 32, 78, 67, 44, 101, 124, 76, 68, 32, 83, 80, 44, 110, 110, 124, 76, 68, 32, 40, 110, 110, 41, 44, 65, 124, 73, 78, 67, 32, 83, 80, 124, 73, 78, 67, 32, 40, 72, 76, 41, 124, 68, 69, 67, 32, 40, 72, 76, 41, 124, 76, 68, 32, 40, 72, 76, 41, 44, 110, 124, 83, 67, 70, 124, 74, 82, 32, 67, 44, 101, 124, 65, 68, 68, 32, 72, 76, 44, 83, 80, 124, 76, 68, 32, 65, 44, 40, 110, 110, 41, 124, 68, 69, 67, 32, 83, 80, 124, 73, 78, 67, 32, 65, 124, 68, 69, 67, 32, 65, 124, 76, 68, 32, 65, 44, 110, 124, 67, 67, 70]
def x_last : Tx := [82, 69, 84, 32, 78, 90, 124, 80, 79, 80, 32, 66, 67, 124, 74, 80, 32, 78, 90, 44, 110, 110, 124, 74, 80, 32, 110, 110, 124, 67, 65, 76, 76, 32, 78, 90, 44, 110, 110, 124, 80, 85, 83, 72, 32, 66, 67, 124, 65, 68, 68, 32, 65, 44, 110, 124, 82, 83, 84, 32, 48, 124, 82, 69, 84, 32, 90, 124, 82, 69, 84, 124, 74, 80, 32, 90, 44, 110, 110, 124, 67, 66, 124, 67, 65, 76, 76, 32, 90, 44, 110, 110, 124, 67, 65, 76, 76, 32, 110, 110, 124, 65, 68, 67, 32, 65, 44, 110, 124, 82, 83, 84, 32, 56, 124, 82, 69, 84, 32, 78, 67, 124, 80, 79, 80, 32, 68, 69, 124, 74, 80, 32, 78, 67, 44, 110, 110, 124, 79, 85, 84, 32, 40, 110, 41, 44, 65, 124, 67, 65, 76, 76, 32, 78, 67, 44, 110, 110, 124, 80, 85, 83, 72, 32, 68, 69, 124, 83, 85, 66, 32, 110, 124, 82, 83, 84, 32, 49, 54, 124, 82, 69, 84, 32, 67, 124, 69, 88, 88, 124, 74, 80, 32, 67, 44, 110, 110, 124, 73, 78, 32, 65, 44, 40, 110, 41, 124, 67, 65, 76, 76, 32, 67, 44, 110, 110, 124, 68, 68, 124, 83, 66, 67, 32, 65, 44, 110, 124, 82, 83, 84, 32, 50, 52, 124, 82, 69, 84, 32, 80, 79, 124, 80, 79, 80, 32, 72, 76, 124, 74, 80, 32, 80, 79, 44, 110, 110, 124, 69, 88, 32, 40, 83, 80, 41, 44, 72, 76, 124, 67, 65, 76, 76, 32, 80, 79, 44, 110, 110, 124, 80, 85, 83, 72, 32, 72, 76, 124, 65, 78, 68, 32, 110, 124, 82, 83, 84, 32, 51, 50, 124, 82, 69, 84, 32, 80, 69, 124, 74, 80, 32, 40, 72, 76, 41, 124, 74, 80, 32, 80, 69, 44, 110, 110, 124, 69, 88, 32, 68, 69, 44, 72, 76, 124, 67, 65, 76, 76, 32, 80, 69, 44, 110, 110, 124, 69, 68, 124, 88, 79, 82, 32, 110, 124, 82, 83, 84, 32, 52, 48, 124, 82, 69, 84, 32, 80, 124, 80, 79, 80, 32, 65, 70, 124, 74, 80, 32, 80, 44, 110, 110, 124, 68, 73, 124, 67, 65, 76, 76, 32, 80, 44, 110, 110, 124, 80, 85, 83, 72, 32, 65, 70, 124, 79, 82, 32, 110, 124, 82, 83, 84, 32, 52, 56, 124, 82, 69, 84, 32, 77, 124, 76, 68, 32, 83, 80, 44, 72, 76, 124, 74, 80, 32, 77, 44, 110, 110, 124, 69, 73, 124, 67, 65, 76, 76, 32, 77, 44, 110, 110, 124, 70, 68, 124, 67, 80, 32, 110, 124, 82, 83, 84, 32, 53, 54]
def x_extended : Tx := [73, 78, 32, 66, 44, 40, 67, 41, 124, 79, 85, 84, 32, 40, 67, 41, 44, 66, 124, 83, 66, 67, 32, 72, 76, 44, 66, 67, 124, 76, 68, 32, 40, 110, 110, 41, 44, 66, 67, 124, 78, 69, 71, 124, 82, 69, 84, 78, 124, 73, 77, 32, 48, 124, 76, 68, 32, 73, 44, 65, 124, 73, 78, 32, 67, 44, 40, 67, 41, 124, 79, 85, 84, 32, 40, 67, 41, 44, 67, 124, 65, 68, 67, 32, 72, 76, 44, 66, 67, 124, 76, 68, 32, 66, 67, 44, 40, 110, 110, 41, 124, 78, 69, 71, 124, 82, 69, 84, 73, 124, 73, 77, 32, 48, 124, 76, 68, 32, 82, 44, 65, 124, 73, 78, 32, 68, 44, 40, 67, 41, 124, 79, 85, 84, 32, 40, 67, 41, 44, 68, 124, 83, 66, 67, 32, 72, 76, 44, 68, 69, 124, 76, 68, 32, 40, 110, 110, 41, 44, 68, 69, 124, 78, 69, 71, 124, 82, 69, 84, 78, 124, 73, 77, 32, 49, 124, 76, 68, 32, 65, 44, 73, 124, 73, 78, 32, 69, 44, 40, 67, 41, 124, 79, 85, 84, 32, 40, 67, 41, 44, 69, 124, 65, 68, 67, 32, 72, 76, 44, 68, 69, 124, 76, 68, 32, 68, 69, 44, 40, 110, 110, 41, 124, 78, 69, 71, 124, 82, 69, 84, 78, 124, 73, 77, 32, 50, 124, 76, 68, 32, 65, 44, 82, 124, 73, 78, 32, 72, 44, 40, 67, 41, 124, 79, 85, 84, 32, 40, 67, 41, 44, 72, 124, 83, 66, 67, 32, 72, 76, 44, 72, 76, 124, 76, 68, 32, 40, 110, 110, 41, 44, 72, 76, 124, 78, 69, 71, 124, 82, 69, 84, 78, 124, 73, 77, 32, 48, 124, 82, 82, 68, 124, 73, 78, 32, 76, 44, 40, 67, 41, 124, 79, 85, 84, 32, 40, 67, 41, 44, 76, 124, 65, 68, 67, 32, 72, 76, 44, 72, 76, 124, 76, 68, 32, 72, 76, 44, 40, 110, 110, 41, 124, 78, 69, 71, 124, 82, 69, 84, 78, 124, 73, 77, 32, 48, 124, 82, 76, 68, 124, 73, 78, 32, 40, 67, 41, 124, 79, 85, 84, 32, 40, 67, 41, 44, 48, 124, 83, 66, 67, 32, 72, 76, 44, 83, 80, 124, 76, 68, 32, 40, 110, 110, 41, 44, 83, 80, 124, 78, 69, 71, 124, 82, 69, 84, 78, 124, 73, 77, 32, 49, 124, 78, 79, 80, 124, 73, 78, 32, 65, 44, 40, 67, 41, 124, 79, 85, 84, 32, 40, 67, 41, 44, 65, 124, 65, 68, 67, 32, 72, 76, 44, 83, 80, 124, 76, 68, 32, 83, 80, 44, 40, 110, 110, 41, 124, 78, 69, 71, 124, 82, 69, 84, 78, 124, 73, 77, 32, 50, 124, 78, 79, 80]
def x_ones : Tx := [66, 124, 67, 124, 68, 124, 69, 124, 72, 124, 76, 124, 40, 72, 76, 41, 124, 65]
def rOnes : List Tx := rSplit x_ones 124
def rPlain (n : Nat) : Tx :=
  if n < 64 then sg (rSplit x_first 124) n
  else if n = 118 then [72, 65, 76, 84]
  else if n < 128 then [76, 68, 32] ++ sg rOnes (n / 8 % 8) ++ [44] ++ sg rOnes (n % 8)
  else if n < 192 then sg (rSplit [65, 68, 68, 32, 65, 44, 124, 65, 68, 67, 32, 65, 44, 124, 83, 85, 66, 32, 124, 83, 66, 67, 32, 65, 44, 124, 65, 78, 68, 32, 124, 88, 79, 82, 32, 124, 79, 82, 32, 124, 67, 80, 32] 124) (n / 8 % 8) ++ sg rOnes (n % 8)
  else sg (rSplit x_last 124) (n - 192)
def rBits (n : Nat) (thing : Tx) : Tx :=
  if n < 64 then sg (rSplit [82, 76, 67, 124, 82, 82, 67, 124, 82, 76, 124, 82, 82, 124, 83, 76, 65, 124, 83, 82, 65, 124, 83, 76, 76, 124, 83, 82, 76] 124) (n / 8) ++ [32] ++ thing
  else sg (rSplit [124, 66, 73, 84, 32, 124, 82, 69, 83, 32, 124, 83, 69, 84, 32] 124) (n / 64) ++ [UInt8.ofNat (48 + n / 8 % 8)] ++ [44] ++ thing
def rExtended (n : Nat) : Tx :=
  if 64 ≤ n ∧ n < 128 then sg (rSplit x_extended 124) (n - 64)
  else if 160 ≤ n ∧ n < 192 ∧ n % 8 < 4 then sg (rSplit [76, 68, 73, 124, 67, 80, 73, 124, 73, 78, 73, 124, 79, 85, 84, 73, 124, 76, 68, 68, 124, 67, 80, 68, 124, 73, 78, 68, 124, 79, 85, 84, 68, 124, 76, 68, 73, 82, 124, 67, 80, 73, 82, 124, 73, 78, 73, 82, 124, 79, 84, 73, 82, 124, 76, 68, 68, 82, 124, 67, 80, 68, 82, 124, 73, 78, 68, 82, 124, 79, 84, 68, 82] 124) ((n - 160) / 8 * 4 + n % 8)
  else [78, 79, 80]
def rRepl : Nat → Tx → Tx → Tx → Tx
  | 0, _, _, _ => []
  | _ + 1, [], _, _ => []
  | f + 1, c :: s, old, by' => if old.isPrefixOf (c :: s) then by' ++ rRepl f ((c :: s).drop old.length) old by' else c :: rRepl f s old by'
def rReplace (s old by' : Tx) : Tx := rRepl s.length s old by'
def rHas (s part : Tx) : Bool := !(rReplace s part [] == s)
def rFix (index : Tx) (x : Tx) : Tx := if x = [72] ∨ x = [76] then index ++ x else x
def rJoin (index : Tx) : Nat → Tx → List Tx → Tx
  | _, out, [] => out
  | i, out, x :: r => rJoin index (i + 1) ((if 0 < i then out ++ [44] else out) ++ rFix index x) r
def rIndexed (n : Nat) (index : Tx) : Tx :=
  let s := rPlain n
  if s = [69, 88, 32, 68, 69, 44, 72, 76] then s
  else if s = [74, 80, 32, 40, 72, 76, 41] then [74, 80, 32, 40] ++ index ++ [41]
  else if rHas s [40, 72, 76, 41] then rReplace s [40, 72, 76, 41] ([40] ++ index ++ [43, 100, 41])
  else if rHas s [72, 76] then rReplace s [72, 76] index
  else if (rSplit s 32).length < 2 then s
  else rJoin index 0 (sg (rSplit s 32) 0 ++ [32]) (rSplit (sg (rSplit s 32) 1) 44)
def rPat (page : Int) (n : Nat) : Tx :=
  if page = 0 then rPlain n
  else if page = 1 then rBits n (sg rOnes (n % 8))
  else if page = 2 then rExtended n
  else if page = 3 then rIndexed n pIX
  else if page = 4 then rIndexed n pIY
  else if page = 5 ∨ page = 6 then
    (if n / 64 ≠ 1 ∧ n % 8 ≠ 6 then rBits n ([40] ++ sg [pIX, pIY] (page - 5).toNat ++ [43, 100, 41]) ++ [44] ++ sg rOnes (n % 8)
     else rBits n ([40] ++ sg [pIX, pIY] (page - 5).toNat ++ [43, 100, 41]))
  else []
end Go.Proofs.YtljjgakfnajifaaGreatDoor
namespace Go.Proofs.YtljjgakfnajifaaGreatDoor
open Go.RowKit
theorem str_append (a b : Tx) : (⟨a.toArray⟩ : ByteArray) ++ ⟨b.toArray⟩ = ⟨(a ++ b).toArray⟩ := by
  apply ByteArray.ext
  simp
end Go.Proofs.YtljjgakfnajifaaGreatDoor
namespace Go.Proofs.YtljjgakfnajifaaGreatDoor
open Go.RowKit
def RowIs (t : TypeId) (R : List (Nat × TypeId × List Value)) (v : Value) (xs : List Value) : Prop :=
  (R = [] ∧ v = .slice none 0 0 ∧ xs = []) ∨
  ∃ g cap cur, R = [(g, t, cur)] ∧ v = .slice (some ⟨g, 0, none⟩) xs.length cap ∧ xs.length ≤ cap ∧ cap ≤ maxLen ∧ cur.length = cap ∧ cur.take xs.length = xs
section
variable {W0 w w' : World} {l L R R' : List (Nat × TypeId × List Value)} {t : TypeId} {v v' : Value} {xs ys : List Value}
theorem RowIs.nil (t : TypeId) : RowIs t [] (.slice none 0 0) [] := .inl ⟨rfl, rfl, rfl⟩
theorem RowIs.owns (h : RowIs t R v xs) {B : Nat} (hR : ∀ e ∈ R, B ≤ e.1 ∧ Whole w e.1 e.2.1 e.2.2) : w.ownsRow B t 1 v xs.length xs := by
  refine ⟨by simp, ?_⟩
  rcases h with ⟨-, rfl, rfl⟩ | ⟨g, cap, cur, rfl, rfl, h1, h2, h3, h4⟩
  · exact .inl ⟨rfl, rfl⟩
  · obtain ⟨hb, hw⟩ := hR (g, t, cur) (by simp)
    exact .inr ⟨g, cap, cur.toArray, rfl, hb, hw, h1, h2, by simp [h3], by simpa using h4⟩
theorem rowIs_of_owns {B n : Nat} (h : w.ownsRow B t 1 v n xs) (hn : 0 < n) : ∃ R, RowIs t R v xs ∧ ∀ e ∈ R, B ≤ e.1 ∧ Whole w e.1 e.2.1 e.2.2 := by
  obtain ⟨hl, ⟨_, h0⟩ | ⟨g, cap, cur, hv, hb, hw, h1, h2, h3, h4⟩⟩ := h
  · omega
  · have hl' : xs.length = n := by simpa using hl
    subst hl'
    refine ⟨[(g, t, cur.toList)], .inr ⟨g, cap, cur.toList, rfl, hv, h1, h2, by simpa using h3, by simpa using h4⟩, ?_⟩
    intro e he
    obtain rfl := List.mem_singleton.1 he
    exact ⟨hb, hw⟩
theorem Own.add (h : Own W0 w l) (hb : Below w.heap.size w w') (hR : RowIs t R v xs) (hW : ∀ e ∈ R, w.heap.size ≤ e.1 ∧ Whole w' e.1 e.2.1 e.2.2) : Own W0 w' (l ++ R) := by
  have h' := h.call hb
  refine ⟨h'.below, ?_, ?_⟩
  · intro e he
    rcases List.mem_append.1 he with he | he
    · exact h'.whole e he
    · exact ⟨Nat.le_trans h.below.size (hW e he).1, (hW e he).2⟩
  · rw [List.pairwise_append]
    refine ⟨h.apart, ?_, ?_⟩
    · rcases hR with ⟨rfl, -⟩ | ⟨g, cap, cur, rfl, -⟩
      · exact .nil
      · exact List.pairwise_singleton _ _
    · intro a ha b hb'
      have := (h.whole a ha).2.inside
      have := (hW b hb').1
      omega
theorem Own.append {E : List (Nat × TypeId × List Value)} (h : Own W0 w (E ++ (L ++ R))) (hL : ∀ e ∈ L, e.2.1 ≠ t) (hR : RowIs t R v xs) (hg : w.grownBy w' v.ownBlock)
    (hR' : RowIs t R' v' ys) (hW : ∀ e ∈ R', W0.heap.size ≤ e.1 ∧ Whole w' e.1 e.2.1 e.2.2) : Own W0 w' (L ++ R') := by
  have hrow : ∀ k, v.ownBlock = some k → ∃ cur, (k, t, cur) ∈ R := by
    intro k hk
    rcases hR with ⟨-, rfl, -⟩ | ⟨g, cap, cur, rfl, rfl, -⟩
    · cases hk
    · cases hk; exact ⟨cur, by simp⟩
  have hlo : ∀ k, v.ownBlock = some k → W0.heap.size ≤ k := by
    intro k hk
    obtain ⟨cur, hm⟩ := hrow k hk
    exact (h.whole (k, t, cur) (by simp [hm])).1
  have hap := (List.pairwise_append.1 (List.pairwise_append.1 h.apart).2.1)
  have hLw : ∀ e ∈ L, W0.heap.size ≤ e.1 ∧ Whole w' e.1 e.2.1 e.2.2 := by
    intro e he
    have hx := h.whole e (by simp [he])
    refine ⟨hx.1, hx.2.grown hg ?_⟩
    intro hk
    obtain ⟨cur, hm⟩ := hrow e.1 hk.symm
    exact hap.2.2 e he (e.1, t, cur) hm rfl
  refine ⟨h.below.trans ((Below.refl _ w).grown hg h.below.size hlo), ?_, ?_⟩
  · intro e he
    rcases List.mem_append.1 he with he | he
    · exact hLw e he
    · exact hW e he
  · rw [List.pairwise_append]
    refine ⟨hap.1, ?_, ?_⟩
    · rcases hR' with ⟨rfl, -⟩ | ⟨g, cap, cur, rfl, -⟩
      · exact .nil
      · exact List.pairwise_singleton _ _
    · intro a ha b hb
      have hb' := (hW b hb).2
      have ha' := (hLw a ha).2
      have ht : b.2.1 = t := by
        rcases hR' with ⟨rfl, -⟩ | ⟨g, cap, cur, rfl, -⟩
        · cases hb
        · obtain rfl := List.mem_singleton.1 hb; rfl
      exact ha'.apart hb' (by rw [ht]; exact hL a ha)
theorem Own.row (h : Own W0 w (l ++ R)) : ∀ e ∈ R, W0.heap.size ≤ e.1 ∧ Whole w e.1 e.2.1 e.2.2 := fun e he => h.whole e (by simp [he])
end
end Go.Proofs.YtljjgakfnajifaaGreatDoor
set_option linter.unusedSimpArgs false
set_option linter.unusedVariables false
namespace Go.Proofs.YtljjgakfnajifaaGreatDoor
open Go.RowKit
def Rd (w : World) (v : Value) (ys : List Value) : Prop :=
  (v = .slice none 0 0 ∧ ys = []) ∨ (∃ ad cap, v = .slice (some ad) 0 cap ∧ ys = []) ∨ ∃ g o cap, v = .slice (some ⟨g, o, none⟩) ys.length cap ∧ g < w.heap.size ∧ ∀ j u, ys[j]? = some u → w.cell? ⟨g, o + j, none⟩ = some u
section
variable {P : Program} {W0 w w' : World} {l R : List (Nat × TypeId × List Value)} {t : TypeId} {v u : Value} {xs ys : List Value}
theorem Rd.under (h : Rd w v ys) (hb : Below w.heap.size w w') : Rd w' v ys := by
  rcases h with h | h | ⟨g, o, cap, hv, hg, hc⟩
  · exact .inl h
  · exact .inr (.inl h)
  · exact .inr (.inr ⟨g, o, cap, hv, Nat.lt_of_lt_of_le hg hb.size, fun j u hu => (hb.cell (p := ⟨g, o + j, none⟩) hg).trans (hc j u hu)⟩)
theorem Rd.own (h : Hid (Rd W0 v ys)) (HM : Hid (Own W0 w l)) : Rd w v ys := h.out.under HM.out.below
theorem Rd.ofRow (h : RowIs t R v xs) (hR : ∀ e ∈ R, Whole w e.1 e.2.1 e.2.2) : Rd w v xs := by
  rcases h with ⟨-, rfl, rfl⟩ | ⟨g, cap, cur, rfl, rfl, h1, h2, h3, h4⟩
  · exact .inl ⟨rfl, rfl⟩
  · have hw := hR (g, t, cur) (by simp)
    refine .inr (.inr ⟨g, 0, cap, rfl, hw.inside, fun j u hu => ?_⟩)
    rw [Nat.zero_add, hw.at_ j]
    rw [← h4, List.getElem?_take] at hu
    split at hu
    · exact hu
    · cases hu
theorem Rd.ofWhole {g n : Nat} {cs : List Value} (h : Whole w g t cs) (hn : n = cs.length) : Rd w (.slice (some ⟨g, 0, none⟩) n n) cs := by
  subst hn
  exact .inr (.inr ⟨g, 0, cs.length, rfl, h.inside, fun j u hu => by rw [Nat.zero_add, h.at_ j, hu]⟩)
theorem RowIs.made {g : Nat} : RowIs t [(g, t, [])] (.slice (some ⟨g, 0, none⟩) 0 0) [] := .inr ⟨g, 0, [], rfl, rfl, Nat.le_refl _, by unfold maxLen; omega, rfl, rfl⟩
theorem rowIs_of_owns' {B n : Nat} (h : w.ownsRow B t 1 v n xs) : ∃ R, RowIs t R v xs ∧ ∀ e ∈ R, B ≤ e.1 ∧ Whole w e.1 e.2.1 e.2.2 := by
  have h' := h
  obtain ⟨hl, ⟨hv, h0⟩ | ⟨g, cap, cur, hv, hb, hw, h1, h2, h3, h4⟩⟩ := h
  · subst h0
    have hx : xs = [] := by simpa using hl
    subst hx hv
    exact ⟨[], .nil t, by simp⟩
  · have hl' : xs.length = n := by simpa using hl
    subst hl'
    refine ⟨[(g, t, cur.toList)], .inr ⟨g, cap, cur.toList, rfl, hv, h1, h2, by simpa using h3, by simpa using h4⟩, ?_⟩
    intro e he
    obtain rfl := List.mem_singleton.1 he
    exact ⟨hb, hw⟩
theorem Own.sub (h : Own W0 w l) (hs : R.Sublist l) : Own W0 w R := ⟨h.below, fun e he => h.whole e (hs.subset he), h.apart.sublist hs⟩
theorem own_app {ops : Array Oper} {rest : List Oper} {o : Oper} {a : Act} {Q : Exit → Act → World → Prop} {s y : Operand} {tS tE : TypeId} {i : TypeInfo} {z : Value} {bytes : Nat}
    (ht : P.underlying tS = some (.slice tE)) (hi : P.info? tE = some i) (hz : i.zero = some z) (hsz : i.size = 1) (hby : i.bytes = bytes) (hzs : z.cells.size = 1) (hbb : bytes ≤ 64)
    (HM : Hid (Own W0 w l)) (HR : Hid (RowIs tE R v xs)) (hsub : R.Sublist l) (ho : o.op = .call { callee := .builtin .append, args := #[s, y], argTypes := #[tS, tS] }) (hs : a.eval s = v) (hy : a.eval y = u) (hu : Rd w u ys)
    (h1 : ∀ u ∈ ys, u.oneCell' = true) (hl : xs.length + ys.length ≤ 100000) (hw : Region.wanted o (yielded ops a.tmps) = true)
    (h : ∀ v' w' R', Hid (RowIs tE R' v' (xs ++ ys)) → Hid (Own W0 w' R') → wpList P ops Q rest (a.put o.dst v') w') : wpList P ops Q (o :: rest) a w := by
  have hO : Own W0 w ([] ++ ([] ++ R)) := HM.out.sub hsub
  have hrow := HR.out.owns (w := w) (B := W0.heap.size) (fun e he => hO.whole e (by simpa using he))
  refine wpList_wanted hw fun K hK => ?_
  rcases hu with ⟨hv, hys⟩ | ⟨ad, cap, hv, hys⟩ | ⟨g, off, cap, hv, hg, hc⟩
  · subst hys
    rw [hv] at hy
    have hrun := run_append_owned_none (P := P) (w := w) W0.heap.size tS o.type tE i 1 ht hi v _ _ hrow
    have hk := hK _ _ (h v w R (by rw [List.append_nil]; exact HR) (Lib.hid (by simpa using hO)))
    unfold Oper.wp
    simp only [execOp, ho, resolve, invoke, builtin, hs, hy, hrun, Result.andThen, Sem.run_bind, Sem.run_pure, List.map_toArray, List.map_cons, List.map_nil]
    exact hk
  · subst hys
    rw [hv] at hy
    refine wp_append_own w s y tS ho W0.heap.size tE i z 1 bytes ht hi hz hsz hby hzs (by decide) v _ _ hs hrow ad 0 cap [] hy rfl (fun j x hj => by simp at hj) h1 (by unfold maxLen; simp only [List.length_nil] at hl; omega) ?_ HM.out.below.size ?_
    · have : (xs.length + 0) * bytes ≤ 100000 * 64 := Nat.mul_le_mul hl hbb
      omega
    · intro v' w' ho' hg' _
      obtain ⟨R', hR', hW⟩ := rowIs_of_owns' ho'
      refine hK _ _ (h v' w' R' (Lib.hid hR') (Lib.hid ?_))
      have := hO.append (t := tE) (by simp) HR.out hg' hR' hW
      simpa using this
  · rw [hv] at hy
    refine wp_append_own w s y tS ho W0.heap.size tE i z 1 bytes ht hi hz hsz hby hzs (by decide) v _ _ hs hrow ⟨g, off, none⟩ ys.length cap ys hy (by simp) ?_ h1 (by unfold maxLen; omega) ?_ HM.out.below.size ?_
    · intro j x hj
      have ha : (⟨g, off, none⟩ : Addr).add j = ⟨g, off + j, none⟩ := by unfold Addr.add; split <;> simp_all
      rw [ha]
      exact hc j x hj
    · have : (xs.length + ys.length) * bytes ≤ 100000 * 64 := Nat.mul_le_mul hl hbb
      omega
    · intro v' w' ho' hg' _
      obtain ⟨R', hR', hW⟩ := rowIs_of_owns' ho'
      refine hK _ _ (h v' w' R' (Lib.hid hR') (Lib.hid ?_))
      have := hO.append (t := tE) (by simp) HR.out hg' hR' hW
      simpa using this
end
def by8 (bs : List Nat) : List Value := bs.map fun b : Nat => Value.int .u8 (b : Int)
@[simp] theorem by8_length (bs : List Nat) : (by8 bs).length = bs.length := by simp [by8]
theorem by8_append (a b : List Nat) : by8 (a ++ b) = by8 a ++ by8 b := by simp [by8]
theorem by8_one (bs : List Nat) : ∀ u ∈ by8 bs, u.oneCell' = true := by
  intro u hu
  obtain ⟨b, -, rfl⟩ := List.mem_map.1 hu
  rfl
theorem by8_get (bs : List Nat) (i : Nat) (hi : i < bs.length) : (by8 bs)[i]? = some (.int .u8 ((bs.getD i 0 : Nat) : Int)) := by
  simp [by8, List.getD_eq_getElem?_getD, hi]
end Go.Proofs.YtljjgakfnajifaaGreatDoor
set_option linter.unusedSimpArgs false
set_option linter.unusedVariables false
namespace Go.Proofs.YtljjgakfnajifaaGreatDoor
def hexT : Tx := [48, 49, 50, 51, 52, 53, 54, 55, 56, 57, 65, 66, 67, 68, 69, 70]
def hexd (n : Nat) : UInt8 := hexT.getD n 0
def hex2 (v : Nat) : Tx := [hexd (v / 16), hexd (v % 16)]
def sgn (v : Nat) : Tx := if v < 128 then 43 :: dec3 v else 45 :: dec3 (256 - v)
def cBehind (b1 page bits : Nat) : Nat × Nat × Nat := if b1 = 221 ∨ b1 = 237 ∨ b1 = 253 then (0, 0, 1) else if b1 = 203 then (bits, 3, 2) else (page, 1, 2)
def cFind (b0 b1 : Nat) : Nat × Nat × Nat := if b0 = 203 then (1, 1, 2) else if b0 = 237 then (2, 1, 2) else if b0 = 221 then cBehind b1 3 5 else if b0 = 253 then cBehind b1 4 6 else (0, 0, 1)
def cText (mark : Tx) (a b : Nat) : Tx := if mark = [110, 110] then [36] ++ (hex2 b ++ hex2 a) else if mark = [110] then [36] ++ hex2 a else sgn a
def cSize (mark : Tx) : Nat := if mark = [110, 110] then 2 else 1
def mark : Nat → Tx
  | 0 => [43, 100]
  | 1 => [110, 110]
  | 2 => [110]
  | _ => [101]
def cStep (bs : List Nat) (m : Tx) (st : Tx × Nat) : Tx × Nat :=
  if (Lib.cut st.1 m).2.2 = true then ((Lib.cut st.1 m).1 ++ (cText m (bs.getD st.2 0) (bs.getD (st.2 + 1) 0) ++ (Lib.cut st.1 m).2.1), st.2 + cSize m) else st
def cFold (bs : List Nat) (st : Tx × Nat) : Nat → Tx × Nat
  | 0 => st
  | k + 1 => cStep bs (mark k) (cFold bs st k)
def cStart0 (bs : List Nat) : Tx × Nat := (cPat ((cFind (bs.getD 0 0) (bs.getD 1 0)).1 : Int) (bs.getD (cFind (bs.getD 0 0) (bs.getD 1 0)).2.1 0), (cFind (bs.getD 0 0) (bs.getD 1 0)).2.2)
def cName (bs : List Nat) : Tx × Nat := ((cFold bs (cStart0 bs) 4).1, max (cFold bs (cStart0 bs) 4).2 ((cFind (bs.getD 0 0) (bs.getD 1 0)).2.1 + 1))
theorem len_pat (page : Int) (n : Nat) (hn : n < 256) : (cPat page n).length ≤ 24 := by
  by_cases h : page < 0 ∨ 6 < page
  · have e : cPat page n = [] := by
      rw [cPat, if_neg (by omega), if_neg (by omega), if_neg (by omega), if_neg (by omega), if_neg (by omega), if_neg (by omega), if_neg (by omega)]
    rw [e]; exact Nat.zero_le _
  · have hall : ∀ p < 7, ∀ n < 256, (cPat ((p : Nat) : Int) n).length ≤ 24 := by decide +kernel
    obtain ⟨p, hp⟩ := Int.eq_ofNat_of_zero_le (show 0 ≤ page by omega)
    subst hp
    exact hall p (by omega) n hn
theorem len_hex (v : Nat) : (hex2 v).length = 2 := rfl
theorem len_dec3 (v : Nat) : (dec3 v).length ≤ 3 := by unfold dec3; split <;> (try split) <;> simp
theorem len_sgn (v : Nat) : (sgn v).length ≤ 4 := by
  unfold sgn
  have h1 := len_dec3 v
  have h2 := len_dec3 (256 - v)
  split <;> simp only [List.length_cons] <;> omega
theorem len_text (m : Tx) (a b : Nat) : (cText m a b).length ≤ 5 := by
  unfold cText
  have h := len_sgn a
  split
  · simp [hex2]
  · split
    · simp [hex2]
    · omega
theorem len_cut (s m : Tx) : (Lib.cut s m).1.length + (Lib.cut s m).2.1.length ≤ s.length := by
  unfold Lib.cut
  split
  · simp only [List.length_take, List.length_drop]; omega
  · simp
theorem len_step (bs : List Nat) (m : Tx) (st : Tx × Nat) : (cStep bs m st).1.length ≤ st.1.length + 5 ∧ (cStep bs m st).2 ≤ st.2 + 2 := by
  unfold cStep
  split
  · have h1 := len_cut st.1 m
    have h2 := len_text m (bs.getD st.2 0) (bs.getD (st.2 + 1) 0)
    refine ⟨by simp only [List.length_append]; omega, ?_⟩
    show st.2 + cSize m ≤ _
    unfold cSize; split <;> omega
  · exact ⟨by omega, by omega⟩
theorem len_fold (bs : List Nat) (st : Tx × Nat) (k : Nat) : (cFold bs st k).1.length ≤ st.1.length + 5 * k ∧ (cFold bs st k).2 ≤ st.2 + 2 * k := by
  induction k with
  | zero => exact ⟨by simp [cFold], by simp [cFold]⟩
  | succ k ih =>
    have := len_step bs (mark k) (cFold bs st k)
    rw [cFold]
    omega
theorem find_lim (b0 b1 : Nat) : (cFind b0 b1).1 ≤ 6 ∧ (cFind b0 b1).2.1 ≤ 3 ∧ (cFind b0 b1).2.2 ≤ 2 := by
  have hb : ∀ p q, p ≤ 6 → q ≤ 6 → (cBehind b1 p q).1 ≤ 6 ∧ (cBehind b1 p q).2.1 ≤ 3 ∧ (cBehind b1 p q).2.2 ≤ 2 := by
    intro p q hp hq
    unfold cBehind
    split
    · decide
    · split
      · exact ⟨hq, Nat.le_refl 3, Nat.le_refl 2⟩
      · exact ⟨hp, (by decide : 1 ≤ 3), Nat.le_refl 2⟩
  unfold cFind
  split
  · decide
  · split
    · decide
    · split
      · exact hb 3 5 (by decide) (by decide)
      · split
        · exact hb 4 6 (by decide) (by decide)
        · decide
end Go.Proofs.YtljjgakfnajifaaGreatDoor
set_option linter.unusedSimpArgs false
set_option linter.unusedVariables false
namespace Go.Proofs.YtljjgakfnajifaaGreatDoor
theorem repl_fuel (old by' : Tx) (ho : old ≠ []) : ∀ (n : Nat) (l : Tx), l.length ≤ n → ∀ f g, l.length ≤ f → l.length ≤ g → rRepl f l old by' = rRepl g l old by' := by
  intro n
  induction n with
  | zero =>
    intro l hl f g _ _
    have : l = [] := List.length_eq_zero_iff.1 (by omega)
    subst this
    cases f <;> cases g <;> rfl
  | succ n ih =>
    intro l hl f g hf hg
    cases l with
    | nil => cases f <;> cases g <;> rfl
    | cons c s =>
      simp only [List.length_cons] at hl hf hg
      obtain ⟨f', rfl⟩ : ∃ f', f = f' + 1 := ⟨f - 1, by omega⟩
      obtain ⟨g', rfl⟩ : ∃ g', g = g' + 1 := ⟨g - 1, by omega⟩
      have h1 : 0 < old.length := List.length_pos_iff.2 ho
      have h2 : ((c :: s).drop old.length).length ≤ s.length := by simp only [List.length_drop, List.length_cons]; omega
      show (if old.isPrefixOf (c :: s) then _ else _) = (if old.isPrefixOf (c :: s) then _ else _)
      rw [ih s (by omega) f' g' (by omega) (by omega), ih _ (by omega) f' g' (by omega) (by omega)]
theorem repl_nil (old by' : Tx) : rReplace [] old by' = [] := rfl
theorem repl_hit (s old by' : Tx) (ho : old ≠ []) (h : old.isPrefixOf s = true) (hs : s ≠ []) : rReplace s old by' = by' ++ rReplace (s.drop old.length) old by' := by
  cases s with
  | nil => exact absurd rfl hs
  | cons c t =>
    have h1 : 0 < old.length := List.length_pos_iff.2 ho
    have h2 : ((c :: t).drop old.length).length ≤ t.length := by simp only [List.length_drop, List.length_cons]; omega
    show (if old.isPrefixOf (c :: t) then by' ++ rRepl t.length ((c :: t).drop old.length) old by' else _) = _
    rw [if_pos h, rReplace, repl_fuel old by' ho _ _ (Nat.le_refl _) t.length _ h2 (Nat.le_refl _)]
theorem repl_miss (c : UInt8) (t old by' : Tx) (h : old.isPrefixOf (c :: t) = false) : rReplace (c :: t) old by' = c :: rReplace t old by' := by
  show (if old.isPrefixOf (c :: t) then _ else c :: rRepl t.length t old by') = _
  rw [if_neg (by rw [h]; decide)]
  rfl
theorem prefix_take (old l : Tx) : (l.take old.length = old) ↔ old.isPrefixOf l = true := by
  rw [List.isPrefixOf_iff_prefix, List.prefix_iff_eq_take]
  exact eq_comm
theorem prefix_short (old l : Tx) (h : l.length < old.length) : old.isPrefixOf l = false := by
  cases hp : old.isPrefixOf l with
  | false => rfl
  | true =>
    have := (List.isPrefixOf_iff_prefix.1 hp).length_le
    omega
theorem drop_at (s : Tx) (k : Nat) (hk : k < s.length) : s.drop k = s.getD k 0 :: s.drop (k + 1) := by
  rw [List.drop_eq_getElem_cons hk, List.getD_eq_getElem?_getD, List.getElem?_eq_getElem hk]
  rfl
theorem take_one (s : Tx) (k : Nat) (hk : k < s.length) : (s.drop k).take (k + 1 - k) = [s.getD k 0] := by
  rw [drop_at s k hk, show k + 1 - k = 1 by omega]
  rfl
theorem len_repl (old by' : Tx) (m : Nat) (h1 : 1 ≤ m) (hb : by'.length ≤ m) (ho : old ≠ []) : ∀ (n : Nat) (s : Tx), s.length ≤ n → (rReplace s old by').length ≤ m * s.length := by
  intro n
  induction n with
  | zero => intro s hs; have : s = [] := List.length_eq_zero_iff.1 (by omega); subst this; simp [rReplace, rRepl]
  | succ n ih =>
    intro s hs
    cases s with
    | nil => simp [rReplace, rRepl]
    | cons c t =>
      simp only [List.length_cons] at hs
      cases hp : old.isPrefixOf (c :: t) with
      | true =>
        have h0 : 0 < old.length := List.length_pos_iff.2 ho
        have h2 : ((c :: t).drop old.length).length ≤ t.length := by simp only [List.length_drop, List.length_cons]; omega
        have h3 := ih ((c :: t).drop old.length) (by omega)
        rw [repl_hit _ old by' ho hp (by simp), List.length_append, List.length_cons, Nat.mul_add]
        have h4 : m * ((c :: t).drop old.length).length ≤ m * t.length := Nat.mul_le_mul_left m h2
        omega
      | false =>
        have h3 := ih t (by omega)
        rw [repl_miss c t old by' hp, List.length_cons, List.length_cons, Nat.mul_add]
        omega
end Go.Proofs.YtljjgakfnajifaaGreatDoor
namespace Go.Proofs.YtljjgakfnajifaaGreatDoor
open Go.RowKit
section
variable {P : Program} {W0 w : World} {l : List (Nat × TypeId × List Value)} {ops : Array Oper} {rest : List Oper} {o : Oper} {a : Act}
theorem own_cat {Q : Exit → Act → World → Prop} {ty t2 : TypeId} {x y : Operand} {p q : List UInt8} (ho : o.op = .binOp .add ty x y t2) (hx : a.eval x = .string ⟨p.toArray⟩) (hy : a.eval y = .string ⟨q.toArray⟩)
    (hl : p.length + q.length ≤ 8388608) (hw : Region.wanted o (yielded ops a.tmps) = true) (h : wpList P ops Q rest (a.put o.dst (.string ⟨(p ++ q).toArray⟩)) w) : wpList P ops Q (o :: rest) a w := by
  refine wpList_wanted hw fun K hK => ?_
  unfold Oper.wp execOp
  simp only [ho, hx, hy, Sem.run_bind]
  have h1 := run_string_add_lists (P := P) w p q (by omega) (by omega)
  simp only [eqGuard_add, binOp_string_add, Sem.run_pure, Result.andThen_ok, h1]
  exact hK _ _ h
theorem quiet_cat {C : World → Prop} {K : Act → Prop} {dst : Option Tmp} {ty ty0 t2 : TypeId} {pos : String} {aft : Array Edge} {gd : Option (Nat × Bool)} {x y : Operand} {p q : List UInt8} (hx : a.eval x = .string ⟨p.toArray⟩) (hy : a.eval y = .string ⟨q.toArray⟩)
    (hl : p.length + q.length ≤ 8388608) (h : Oper.quiet P ⟨dst, .move (.const (.string ⟨(p ++ q).toArray⟩)), ty0, pos, aft, gd⟩ a C K) : Oper.quiet P ⟨dst, .binOp .add ty x y t2, ty0, pos, aft, gd⟩ a C K := by
  refine quiet_as (fun w _ => ?_) h
  unfold execOp
  simp only [hx, hy, Sem.run_bind]
  have h1 := run_string_add_lists (P := P) w p q (by omega) (by omega)
  simp only [eqGuard_add, binOp_string_add, Sem.run_pure, Result.andThen_ok, h1]
theorem quiet_index {C : World → Prop} {K : Act → Prop} {dst : Option Tmp} {ty ty0 : TypeId} {pos : String} {aft : Array Edge} {gd : Option (Nat × Bool)} {x y : Operand} {v u r : Value} (hx : a.eval x = v) (hy : a.eval y = u)
    (hrun : ∀ w, (Instr.index ty v u).run P w = .ok r w) (h : Oper.quiet P ⟨dst, .move (.const r), ty0, pos, aft, gd⟩ a C K) : Oper.quiet P ⟨dst, .index ty x y, ty0, pos, aft, gd⟩ a C K := by
  refine quiet_as (fun w _ => ?_) h
  unfold execOp
  simp only [hx, hy, Sem.run_bind, hrun, Sem.run_pure, Result.andThen_ok]
end
end Go.Proofs.YtljjgakfnajifaaGreatDoor
namespace Go.Proofs.YtljjgakfnajifaaGreatDoor
open Go.RowKit
section
variable {P : Program} {W0 w : World} {ops : Array Oper} {rest : List Oper} {o : Oper} {a : Act}
theorem run_char {t : TypeId} (ht : P.underlying t = some .string) (s : List UInt8) (k : Nat) (kd : IntKind) (hk : k < s.length) (w : World) : (Instr.index t (.string ⟨s.toArray⟩) (.int kd (k : Int))).run P w = .ok (.int .u8 ((s.getD k 0).toNat : Int)) w := by
  have hs : (⟨s.toArray⟩ : ByteArray).size = s.length := by simp [ByteArray.size]
  have h2 : k < (⟨s.toArray⟩ : ByteArray).size := by rw [hs]; exact hk
  have e : (⟨s.toArray⟩ : ByteArray)[k]'h2 = s.getD k 0 := by
    rw [List.getD_eq_getElem?_getD, List.getElem?_eq_getElem hk]
    show s.toArray[k] = s[k]
    simp
  rw [run_index_string _ t ⟨s.toArray⟩ kd (k : Int) ht, dif_pos ⟨by omega, by rw [hs]; omega⟩]
  simp only [Int.toNat_natCast, e]
theorem run_piece {t : TypeId} (ht : P.underlying t = some .string) (s : List UInt8) (i j : Nat) (k1 k2 : IntKind) (hi : i ≤ j) (hj : j ≤ s.length) (w : World) : (Instr.sliceAt t (.string ⟨s.toArray⟩) (some (.int k1 (i : Int))) (some (.int k2 (j : Int))) none).run P w = .ok (.string ⟨((s.drop i).take (j - i)).toArray⟩) w := by
  have hs : (⟨s.toArray⟩ : ByteArray).size = s.length := by simp [ByteArray.size]
  have e : (⟨s.toArray⟩ : ByteArray).extract i j = ⟨((s.drop i).take (j - i)).toArray⟩ := by
    apply ByteArray.ext
    simp [List.extract_eq_take_drop]
  rw [run_sliceAt_string _ t _ _ _ _ ht, run_slice_string _ t _ k1 k2 (i : Int) (j : Int) ht (by omega) (by omega) (by rw [hs]; omega)]
  simp only [Int.toNat_natCast, e]
theorem own_char {Q : Exit → Act → World → Prop} {t : TypeId} (ht : P.underlying t = some .string) {x y : Operand} {s : List UInt8} {k : Nat} {kd : IntKind} (ho : o.op = .index t x y) (hx : a.eval x = .string ⟨s.toArray⟩) (hy : a.eval y = .int kd (k : Int)) (hk : k < s.length)
    (hw : Region.wanted o (yielded ops a.tmps) = true) (h : wpList P ops Q rest (a.put o.dst (.int .u8 ((s.getD k 0).toNat : Int))) w) : wpList P ops Q (o :: rest) a w := by
  refine wpList_wanted hw fun K hK => ?_
  unfold Oper.wp execOp
  simp only [ho, hx, hy, Sem.run_bind, run_char ht s k kd hk, Sem.run_pure, Result.andThen_ok]
  exact hK _ _ h
theorem own_piece {Q : Exit → Act → World → Prop} {t : TypeId} (ht : P.underlying t = some .string) {x y z : Operand} {s r : List UInt8} {i j : Nat} {k1 k2 : IntKind} (ho : o.op = .slice t x (some y) (some z) none) (hx : a.eval x = .string ⟨s.toArray⟩) {I J : Int} (hy : a.eval y = .int k1 I) (hz : a.eval z = .int k2 J) (hI : I = (i : Int)) (hJ : J = (j : Int)) (hi : i ≤ j) (hj : j ≤ s.length)
    (hr : (s.drop i).take (j - i) = r) (hw : Region.wanted o (yielded ops a.tmps) = true) (h : wpList P ops Q rest (a.put o.dst (.string ⟨r.toArray⟩)) w) : wpList P ops Q (o :: rest) a w := by
  subst hr hI hJ
  refine wpList_wanted hw fun K hK => ?_
  unfold Oper.wp execOp
  simp only [ho, hx, hy, hz, Option.map_some, Option.map_none, Sem.run_bind, run_piece ht s i j k1 k2 hi hj, Sem.run_pure, Result.andThen_ok]
  exact hK _ _ h
theorem quiet_piece {C : World → Prop} {K : Act → Prop} {dst : Option Tmp} {t ty0 : TypeId} {pos : String} {aft : Array Edge} {gd : Option (Nat × Bool)} (ht : P.underlying t = some .string) {x y z : Operand} {s r : List UInt8} {i j : Nat} {k1 k2 : IntKind} (hx : a.eval x = .string ⟨s.toArray⟩) {I J : Int} (hy : a.eval y = .int k1 I) (hz : a.eval z = .int k2 J) (hI : I = (i : Int)) (hJ : J = (j : Int)) (hi : i ≤ j) (hj : j ≤ s.length)
    (hr : (s.drop i).take (j - i) = r) (h : Oper.quiet P ⟨dst, .move (.const (.string ⟨r.toArray⟩)), ty0, pos, aft, gd⟩ a C K) : Oper.quiet P ⟨dst, .slice t x (some y) (some z) none, ty0, pos, aft, gd⟩ a C K := by
  subst hr hI hJ
  refine quiet_as (fun w _ => ?_) h
  unfold execOp
  simp only [hx, hy, hz, Option.map_some, Option.map_none, Sem.run_bind, run_piece ht s i j k1 k2 hi hj, Sem.run_pure, Result.andThen_ok]
end
end Go.Proofs.YtljjgakfnajifaaGreatDoor
set_option linter.unusedSimpArgs false
set_option linter.unusedVariables false
namespace Go.Proofs.YtljjgakfnajifaaGreatDoor
open Go.RowKit
theorem tStr : Tryz.prog.underlying 9 = some .string := Tryz.underlying9
set_option maxRecDepth 100000 in
set_option maxHeartbeats 3200000 in
theorem repl_at (s old by' : Tx) (hs : s.length ≤ 400) (ho : old ≠ []) (hol : old.length ≤ 8) (hb : by'.length ≤ 12) (w : World) : Calls Tryz.prog 40 #[.string ⟨s.toArray⟩, .string ⟨old.toArray⟩, .string ⟨by'.toArray⟩] w fun e w' => e = .returned (.string ⟨(rReplace s old by').toArray⟩) ∧ Below w.heap.size w w' := by
  have HM := Lib.hid (Own.start w)
  have HO := Lib.hid ho
  have ol0 : 0 < old.length := List.length_pos_iff.2 ho
  clear ho
  go_enter Tryz.func40, Tryz.ntmps40
  go_wp2_with fail
  go_loopw [7, 8] (fun o i wr => ∃ (k : Nat) (p : Tx), k ≤ s.length ∧ i = .int .i64 k ∧ o = .string ⟨p.toArray⟩ ∧ p.length ≤ 12 * k ∧ Hid (p ++ rReplace (s.drop k) old by' = rReplace s old by') ∧ Hid (Own w wr [])) (fun _ i _ => s.length - (intOf i).toNat)
  case atStart => exact ⟨0, [], by omega, rfl, rfl, by simp, rfl, HM⟩
  case round =>
    clear HM
    obtain ⟨k, p, hk, rfl, rfl, lp, HP, HM⟩ := hrel
    by_cases hlt : k < s.length
    · have hlt' : (k : Int) < (s.length : Int) := by omega
      obtain ⟨c, hc⟩ : ∃ c, s.getD k 0 = c := ⟨_, rfl⟩
      have HD : Hid (s.drop k = c :: s.drop (k + 1)) := by show _ = _; rw [← hc]; exact drop_at s k hlt
      have HT : Hid ((s.drop k).take (k + 1 - k) = [c]) := by show _ = _; rw [← hc]; exact take_one s k hlt
      obtain ⟨r, hr⟩ : ∃ r, (s.drop k).take (k + old.length - k) = r := ⟨_, rfl⟩
      have HR := Lib.hid hr
      have hpre : r = old ↔ old.isPrefixOf (s.drop k) = true := by rw [← hr, show k + old.length - k = old.length by omega]; exact prefix_take old _
      by_cases hroom : k + old.length ≤ s.length
      · have hroom' : (k : Int) + (old.length : Int) ≤ (s.length : Int) := by omega
        by_cases he : r = old
        · have hq : (r == old) = true := by rw [beq_iff_eq]; exact he
          have HH : Hid (rReplace (s.drop k) old by' = by' ++ rReplace (s.drop (k + old.length)) old by') := by
            show _ = _
            rw [repl_hit _ old by' HO.out (hpre.1 he) (by rw [HD.out]; simp), List.drop_drop]
          clear hpre hr he
          go_wp2_with (first
            | (refine own_piece (s := s) (i := k) (j := k + old.length) (r := r) tStr rfl rfl rfl rfl rfl (by omega) (by omega) (by omega) HR.out rfl ?_)
            | ((with_reducible apply own_cat); exact rfl; exact rfl; exact rfl; (first | assumption | decide | ((try simp only [List.length_append, List.length_cons, List.length_nil]); omega)); exact rfl))
          go_roundw
          case rel =>
            refine ⟨k + old.length, p ++ by', hroom, ?_, rfl, ?_, ?_, HM⟩
            · have e : ((k + old.length : Nat) : Int) = (k : Int) + (old.length : Int) := by omega
              rw [e]
            · simp only [List.length_append]; omega
            · show _ = _
              rw [← HP.out, HH.out, List.append_assoc]
          case measure => simp [intOf]; omega
        · have hq : (r == old) = false := by rw [beq_eq_false_iff_ne]; exact he
          have HH : Hid (rReplace (s.drop k) old by' = c :: rReplace (s.drop (k + 1)) old by') := by
            show _ = _
            rw [HD.out]
            exact repl_miss c _ old by' (by rw [← HD.out]; cases hp : old.isPrefixOf (s.drop k) with | false => rfl | true => exact absurd (hpre.2 hp) he)
          clear hpre hr he
          go_wp2_with (first
            | (refine own_piece (s := s) (i := k) (j := k + old.length) (r := r) tStr rfl rfl rfl rfl rfl (by omega) (by omega) (by omega) HR.out rfl ?_)
            | (refine own_piece (s := s) (i := k) (j := k + 1) (r := [c]) tStr rfl rfl rfl rfl rfl (by omega) (by omega) (by omega) HT.out rfl ?_)
            | ((with_reducible apply own_cat); exact rfl; exact rfl; exact rfl; (first | assumption | decide | ((try simp only [List.length_append, List.length_cons, List.length_nil]); omega)); exact rfl))
          go_roundw
          case rel =>
            refine ⟨k + 1, p ++ [c], by omega, by go_num, rfl, ?_, ?_, HM⟩
            · simp only [List.length_append, List.length_cons, List.length_nil]; omega
            · show _ = _
              rw [← HP.out, HH.out, List.append_assoc]; rfl
          case measure => simp [intOf]; omega
      · have hroom' : (s.length : Int) < (k : Int) + (old.length : Int) := by omega
        have HH : Hid (rReplace (s.drop k) old by' = c :: rReplace (s.drop (k + 1)) old by') := by
          show _ = _
          rw [HD.out]
          exact repl_miss c _ old by' (by rw [← HD.out]; exact prefix_short old _ (by simp only [List.length_drop]; omega))
        clear hpre hr
        go_wp2_with (first
          | (refine own_piece (s := s) (i := k) (j := k + 1) (r := [c]) tStr rfl rfl rfl rfl rfl (by omega) (by omega) (by omega) HT.out rfl ?_)
          | ((with_reducible apply own_cat); exact rfl; exact rfl; exact rfl; (first | assumption | decide | ((try simp only [List.length_append, List.length_cons, List.length_nil]); omega)); exact rfl))
        go_roundw
        case rel =>
          refine ⟨k + 1, p ++ [c], by omega, by go_num, rfl, ?_, ?_, HM⟩
          · simp only [List.length_append, List.length_cons, List.length_nil]; omega
          · show _ = _
            rw [← HP.out, HH.out, List.append_assoc]; rfl
        case measure => simp [intOf]; omega
    · obtain rfl : k = s.length := by omega
      have HE : Hid (p = rReplace s old by') := by
        show _ = _
        rw [← HP.out, List.drop_length, repl_nil, List.append_nil]
      go_wp2_with fail
      go_ret
      exact ⟨by rw [← HE.out]; rfl, Own.fin HM⟩
set_option maxRecDepth 100000 in
set_option maxHeartbeats 1600000 in
theorem has_at (s part : Tx) (hs : s.length ≤ 400) (ho : part ≠ []) (hol : part.length ≤ 8) (w : World) : Calls Tryz.prog 23 #[.string ⟨s.toArray⟩, .string ⟨part.toArray⟩] w fun e w' => e = .returned (.bool (rHas s part)) ∧ Below w.heap.size w w' := by
  have HC : Hid (∀ w, Calls Tryz.prog 40 #[.string ⟨s.toArray⟩, .string ⟨part.toArray⟩, .string ⟨#[]⟩] w fun e w' => e = .returned (.string ⟨(rReplace s part []).toArray⟩) ∧ Below w.heap.size w w') := repl_at s part [] hs ho hol (by decide)
  obtain ⟨r, hr⟩ : ∃ r, rReplace s part [] = r := ⟨_, rfl⟩
  rw [hr] at HC
  have HE : Hid (rHas s part = !(r == s)) := by show _ = _; rw [rHas, hr]
  rw [HE.out]
  have HM := Lib.hid (Own.start w)
  clear hr ho HE
  go_enter Tryz.func23, Tryz.ntmps23
  go_wp2_with (first
    | (go_at_call 40; (with_reducible refine (HC.out _).mono ?_); rintro e w' ⟨rfl, hb⟩; replace HM := Lib.hid (HM.out.call hb); clear hb))
  go_ret
  exact ⟨rfl, Own.fin HM⟩
theorem dig_piece (k : Nat) (hk : k < 10) : (([48, 49, 50, 51, 52, 53, 54, 55, 56, 57] : Tx).drop k).take (k + 1 - k) = [UInt8.ofNat (48 + k)] := by
  match k, hk with
  | 0, _ | 1, _ | 2, _ | 3, _ | 4, _ | 5, _ | 6, _ | 7, _ | 8, _ | 9, _ => rfl
set_option maxRecDepth 100000 in
set_option maxHeartbeats 1600000 in
theorem dec_one (n : Nat) (hn : n < 10) (w : World) : Calls Tryz.prog 76 #[.int .i64 (n : Int)] w fun e w' => e = .returned (.string ⟨(dec3 n).toArray⟩) ∧ Below w.heap.size w w' := by
  have HE : Hid (dec3 n = [UInt8.ofNat (48 + n)]) := by show _ = _; rw [dec3, if_pos hn]
  have HP := Lib.hid (dig_piece n hn)
  rw [HE.out]
  obtain ⟨c, hc⟩ : ∃ c, UInt8.ofNat (48 + n) = c := ⟨_, rfl⟩
  rw [hc] at HP ⊢
  have n1 : (n : Int) < 10 := by omega
  have HM := Lib.hid (Own.start w)
  clear HE hc
  go_enter Tryz.func76, Tryz.ntmps76
  go_wp2_with (first
    | (refine own_piece (s := [48, 49, 50, 51, 52, 53, 54, 55, 56, 57]) (i := n) (j := n + 1) tStr rfl rfl rfl rfl rfl (by omega) (by omega) (by simp only [List.length_cons, List.length_nil]; omega) HP.out rfl ?_))
  go_ret
  exact ⟨rfl, Own.fin HM⟩
set_option maxRecDepth 100000 in
set_option maxHeartbeats 1600000 in
theorem dec_more (n q r : Nat) (d : Tx) (hn : 10 ≤ n) (h1 : n < 1000) (hq : q = n / 10) (hr : r = n % 10) (hd : d.length ≤ 4)
    (HQ : ∀ w, Calls Tryz.prog 76 #[.int .i64 (q : Int)] w fun e w' => e = .returned (.string ⟨d.toArray⟩) ∧ Below w.heap.size w w') (hx : d ++ dec3 r = dec3 n) (w : World) :
    Calls Tryz.prog 76 #[.int .i64 (n : Int)] w fun e w' => e = .returned (.string ⟨(dec3 n).toArray⟩) ∧ Below w.heap.size w w' := by
  have H1 := Lib.hid HQ
  have H2 := Lib.hid (dec_one r (by omega))
  obtain ⟨x, hxx⟩ : ∃ x, dec3 r = x := ⟨_, rfl⟩
  have lx : x.length ≤ 3 := by rw [← hxx]; exact len_dec3 r
  rw [hxx] at H2
  rw [← hx, hxx]
  have n1 : ¬ (n : Int) < 10 := by omega
  have n2 : (n : Int) < 1000 := by omega
  have e1 : IntKind.i64.wrap ((n : Int).tdiv 10) = (q : Int) := by rw [Int.tdiv_eq_ediv_of_nonneg (by omega), IntKind.wrap_i64]; omega
  have e2 : (n : Int).tmod 10 = (r : Int) := by rw [Int.tmod_eq_emod_of_nonneg (by omega)]; omega
  have e3 : (n : Int) / 10 = (q : Int) := by omega
  have e4 : (n : Int) % 10 = (r : Int) := by omega
  have HM := Lib.hid (Own.start w)
  clear HQ hx hxx hn h1 hq hr
  go_enter Tryz.func76, Tryz.ntmps76
  go_wp2_with (first
    | ((with_reducible apply own_cat); exact rfl; exact rfl; exact rfl; (first | assumption | decide | ((try simp only [List.length_append, List.length_cons, List.length_nil]); omega)); exact rfl)
    | (go_at_call 76; (first | (with_reducible refine (H1.out _).mono ?_) | (with_reducible refine (H2.out _).mono ?_)); rintro e w' ⟨rfl, hb⟩; replace HM := Lib.hid (HM.out.call hb); clear hb))
  go_ret
  exact ⟨rfl, Own.fin HM⟩
theorem rdec_at (n : Nat) (hn : n < 1000) (w : World) : Calls Tryz.prog 76 #[.int .i64 (n : Int)] w fun e w' => e = .returned (.string ⟨(dec3 n).toArray⟩) ∧ Below w.heap.size w w' := by
  by_cases h1 : n < 10
  · exact dec_one n h1 w
  · by_cases h2 : n < 100
    · refine dec_more n (n / 10) (n % 10) (dec3 (n / 10)) (by omega) hn rfl rfl (by have := len_dec3 (n / 10); omega) (dec_one (n / 10) (by omega)) ?_ w
      rw [dec3, if_pos (by omega), dec3, if_pos (by omega), dec3, if_neg h1, if_pos h2]; rfl
    · refine dec_more n (n / 10) (n % 10) (dec3 (n / 10)) (by omega) hn rfl rfl (by have := len_dec3 (n / 10); omega) ?_ ?_ w
      · intro w
        refine dec_more (n / 10) (n / 10 / 10) (n / 10 % 10) (dec3 (n / 10 / 10)) (by omega) (by omega) rfl rfl (by have := len_dec3 (n / 10 / 10); omega) (dec_one (n / 10 / 10) (by omega)) ?_ w
        rw [dec3, if_pos (by omega), dec3, if_pos (by omega), dec3, if_neg (by omega), if_pos (by omega)]; rfl
      · rw [dec3, if_neg (by omega), if_pos (by omega), dec3, if_pos (by omega), dec3, if_neg h1, if_neg h2, Nat.div_div_eq_div_mul]; rfl
theorem hex_piece (k : Nat) (hk : k < 16) : (([48, 49, 50, 51, 52, 53, 54, 55, 56, 57, 65, 66, 67, 68, 69, 70] : Tx).drop k).take (k + 1 - k) = [hexd k] := by
  obtain rfl | rfl | rfl | rfl | rfl | rfl | rfl | rfl | rfl | rfl | rfl | rfl | rfl | rfl | rfl | rfl : k = 0 ∨ k = 1 ∨ k = 2 ∨ k = 3 ∨ k = 4 ∨ k = 5 ∨ k = 6 ∨ k = 7 ∨ k = 8 ∨ k = 9 ∨ k = 10 ∨ k = 11 ∨ k = 12 ∨ k = 13 ∨ k = 14 ∨ k = 15 := by omega
  all_goals rfl
set_option maxRecDepth 100000 in
set_option maxHeartbeats 1600000 in
theorem rsigned_at (a : Nat) (ha : a < 256) (w : World) : Calls Tryz.prog 41 #[.int .u8 (a : Int)] w fun e w' => e = .returned (.string ⟨(sgn a).toArray⟩) ∧ Below w.heap.size w w' := by
  by_cases h : a < 128
  · have H1 := Lib.hid (rdec_at a (by omega))
    have l1 := len_dec3 a
    have HE : Hid (sgn a = 43 :: dec3 a) := by show _ = _; rw [sgn, if_pos h]
    rw [HE.out]
    have a1 : (a : Int) < 128 := by omega
    have HM := Lib.hid (Own.start w)
    clear HE
    go_enter Tryz.func41, Tryz.ntmps41
    go_wp2_with (first
      | ((with_reducible apply own_cat); exact rfl; exact rfl; exact rfl; (first | assumption | decide | ((try simp only [List.length_append, List.length_cons, List.length_nil]); omega)); exact rfl)
      | (go_at_call 76; (with_reducible refine (H1.out _).mono ?_); rintro e w' ⟨rfl, hb⟩; replace HM := Lib.hid (HM.out.call hb); clear hb))
    go_ret
    exact ⟨rfl, Own.fin HM⟩
  · have H1 : Hid (∀ w, Calls Tryz.prog 76 #[.int .i64 (256 - (a : Int))] w fun e w' => e = .returned (.string ⟨(dec3 (256 - a)).toArray⟩) ∧ Below w.heap.size w w') := by
      have := rdec_at (256 - a) (by omega)
      rwa [show ((256 - a : Nat) : Int) = 256 - (a : Int) by omega] at this
    have l1 := len_dec3 (256 - a)
    have HE : Hid (sgn a = 45 :: dec3 (256 - a)) := by show _ = _; rw [sgn, if_neg h]
    rw [HE.out]
    have a1 : (128 : Int) ≤ (a : Int) := by omega
    have a2 : (a : Int) < 256 := by omega
    have HM := Lib.hid (Own.start w)
    clear HE
    go_enter Tryz.func41, Tryz.ntmps41
    go_wp2_with (first
      | ((with_reducible apply own_cat); exact rfl; exact rfl; exact rfl; (first | assumption | decide | ((try simp only [List.length_append, List.length_cons, List.length_nil]); omega)); exact rfl)
      | (go_at_call 76; (with_reducible refine (H1.out _).mono ?_); rintro e w' ⟨rfl, hb⟩; replace HM := Lib.hid (HM.out.call hb); clear hb))
    go_ret
    exact ⟨rfl, Own.fin HM⟩
set_option maxRecDepth 100000 in
set_option maxHeartbeats 1600000 in
theorem rhex_at (v : Nat) (hv : v < 256) (w : World) : Calls Tryz.prog 42 #[.int .u8 (v : Int)] w fun e w' => e = .returned (.string ⟨(hex2 v).toArray⟩) ∧ Below w.heap.size w w' := by
  obtain ⟨a, ha⟩ : ∃ a, a = v / 16 := ⟨_, rfl⟩
  obtain ⟨b, hb⟩ : ∃ b, b = v % 16 := ⟨_, rfl⟩
  have HA : Hid (hex2 v = [hexd a] ++ [hexd b]) := by show _ = _; rw [hex2, ← ha, ← hb]; rfl
  rw [HA.out]
  have a8 : a < 16 := by omega
  have b8 : b < 16 := by omega
  have H1 := Lib.hid (hex_piece a a8)
  have H2 := Lib.hid (hex_piece b b8)
  have e1 : IntKind.u8.wrap ((v : Int).tdiv 16) = (a : Int) := by rw [Int.tdiv_eq_ediv_of_nonneg (by omega), IntKind.wrap_u8]; omega
  have e2 : (v : Int).tmod 16 = (b : Int) := by rw [Int.tmod_eq_emod_of_nonneg (by omega)]; omega
  have e3 : (v : Int) / 16 = (a : Int) := by omega
  have e4 : (v : Int) % 16 = (b : Int) := by omega
  have v8 : (v : Int) < 256 := by omega
  have a9 : (a : Int) < 16 := by omega
  have b9 : (b : Int) < 16 := by omega
  have HM := Lib.hid (Own.start w)
  clear HA ha hb hv
  go_enter Tryz.func42, Tryz.ntmps42
  go_wp2_with fail
  (refine own_region HM (by kernel_rfl) (by kernel_rfl) ?_; (try simp only [Act.put, List.setIfInBounds_toArray, List.set_cons_zero, List.set_cons_succ]); repeat ((fail_if_success (with_reducible refine wpQuiet_nil ?_)); first | go_big_quiet_skip | (go_big_quiet_want; first | ((with_reducible apply quiet_piece (i := a) (j := a + 1) tStr); exact rfl; exact rfl; exact rfl; (focus omega); (focus omega); (focus omega); (focus (simp only [List.length_cons, List.length_nil]; omega)); (exact H1.out); go_big_quiet_op; go_big_quiet_on) | ((with_reducible apply quiet_piece (i := b) (j := b + 1) tStr); exact rfl; exact rfl; exact rfl; (focus omega); (focus omega); (focus omega); (focus (simp only [List.length_cons, List.length_nil]; omega)); (exact H2.out); go_big_quiet_op; go_big_quiet_on) | ((with_reducible apply quiet_cat); exact rfl; exact rfl; (first | assumption | decide | ((try simp only [List.length_append, List.length_cons, List.length_nil]); omega)); go_big_quiet_op; go_big_quiet_on) | (go_big_quiet_op; go_big_quiet_on) | (go_big_quiet_op; refine ⟨_, fun _ _ => rfl, ?_⟩; go_big_quiet_on))))
  refine wpQuiet_nil ?_
  intro w' HM'
  clear HM; have HM := HM'; clear HM'
  go_wp2_with fail
  go_ret
  exact ⟨rfl, Own.fin HM⟩
end Go.Proofs.YtljjgakfnajifaaGreatDoor
set_option linter.unusedSimpArgs false
set_option linter.unusedVariables false
namespace Go.Proofs.YtljjgakfnajifaaGreatDoor
open Go.RowKit
def strs (D : List Tx) : List Value := D.map fun x => .string ⟨x.toArray⟩
@[simp] theorem strs_length (D : List Tx) : (strs D).length = D.length := by simp [strs]
theorem strs_get (D : List Tx) (k : Nat) (hk : k < D.length) : (strs D)[k]? = some (.string ⟨(sg D k).toArray⟩) := by
  simp [strs, sg, List.getD_eq_getElem?_getD, hk]
theorem str_info : (Tryz.prog.info? 9).map (fun i => (i.zero, i.size, i.bytes)) = some (some (.string ⟨#[]⟩), 1, 16) := by kernel_rfl
theorem str_parts : ∃ i : TypeInfo, Tryz.prog.info? 9 = some i ∧ i.zero = some (.string ⟨#[]⟩) ∧ i.size = 1 ∧ i.bytes = 16 := by
  have h := str_info
  cases hq : Tryz.prog.info? 9 with
  | none => rw [hq] at h; simp at h
  | some i => rw [hq] at h; simp at h; exact ⟨i, rfl, h.1, h.2.1, h.2.2⟩
theorem madeS0 (w : World) : (Instr.buildSlice 52 0 #[]).run Tryz.prog w = .ok (.slice (some ⟨w.heap.size, 0, none⟩) 0 0) (w.alloc (.cells #[] 9)) := by kernel_rfl
theorem madeS1 (b : ByteArray) (w : World) : (Instr.buildSlice 52 1 #[(0, .string b)]).run Tryz.prog w = .ok (.slice (some ⟨w.heap.size, 0, none⟩) 1 1) (w.alloc (.cells #[.string b] 9)) := by kernel_rfl
theorem split_hit (mark : UInt8) (p s : Tx) : rSplitOn mark p (mark :: s) = p :: rSplitOn mark [] s := by rw [rSplitOn, if_pos rfl]
theorem split_miss (mark c : UInt8) (p s : Tx) (h : c ≠ mark) : rSplitOn mark p (c :: s) = rSplitOn mark (p ++ [c]) s := by rw [rSplitOn, if_neg h]
def TextsIn (w : World) (v : Value) (L : List Tx) : Prop := ∃ g cap, v = .slice (some ⟨g, 0, none⟩) L.length cap ∧ ∀ k < L.length, w.cell? ⟨g, k, none⟩ = some (.string ⟨(sg L k).toArray⟩)
theorem TextsIn.of {W0 w : World} {v : Value} {R : List (Nat × TypeId × List Value)} {L : List Tx} (hL : L ≠ []) (HR : RowIs 9 R v (strs L)) (HM : Own W0 w R) : TextsIn w v L := by
  rcases HR with ⟨-, -, hx⟩ | ⟨g, cap, cur, rfl, rfl, h1, h2, h3, h4⟩
  · exact absurd (by simpa [strs] using hx) hL
  · refine ⟨g, cap, by rw [strs_length], fun k hk => ?_⟩
    have hw := (HM.whole (g, 9, cur) (by simp)).2
    have e := strs_get L k hk
    rw [← h4, List.getElem?_take] at e
    rw [hw.at_ k]
    split at e
    · exact e
    · cases e
theorem TextsIn.under {w w' : World} {v : Value} {L : List Tx} (h : TextsIn w v L) (hb : Below w.heap.size w w') : TextsIn w' v L := by
  obtain ⟨g, cap, hv, hc⟩ := h
  exact ⟨g, cap, hv, fun k hk => (hb.cell (p := ⟨g, k, none⟩) (block_lt_of_cell (hc k hk))).trans (hc k hk)⟩
set_option maxRecDepth 100000 in
set_option maxHeartbeats 3200000 in
theorem rsplit_at (s : Tx) (m : UInt8) (M : Int) (hM : (m.toNat : Int) = M) (hs : s.length ≤ 2000) (w : World) : Calls Tryz.prog 74 #[.string ⟨s.toArray⟩, .int .u8 M] w fun e w' => ∃ v, e = .returned v ∧ TextsIn w' v (rSplit s m) ∧ Below w.heap.size w w' := by
  have hM : Hid ((m.toNat : Int) = M) := hM
  obtain ⟨i0, hi, hz0, hz1, hz2⟩ := str_parts
  have HI := Lib.hid hi
  have HZ0 := Lib.hid hz0
  have HZ1 := Lib.hid hz1
  have HZ2 := Lib.hid hz2
  clear hi hz0 hz1 hz2
  have HM := Lib.hid (Own.start w)
  have tg1 : Hid True := trivial
  go_enter Tryz.func74, Tryz.ntmps74
  go_wp2_with (first
    | ((with_reducible apply own_made (cs := []) (e := 9) (n := 0) HM); exact rfl; exact madeS0; (focus (go_simp; done)); exact rfl; clear tg1; intro w' g1 HM'; clear HM; have HM := HM'; clear HM'))
  have HR : Hid (RowIs 9 [(g1, 9, [])] (.slice (some ⟨g1, 0, none⟩) 0 0) (strs [])) := RowIs.made
  go_loopw [5, 6, 7] (fun o pt i wr => ∃ (k : Nat) (p : Tx) (D : List Tx) (R : List (Nat × TypeId × List Value)) (v : Value), k ≤ s.length ∧ p.length ≤ k ∧ i = .int .i64 k ∧ pt = .string ⟨p.toArray⟩ ∧ o = v ∧ Hid (D.length ≤ k) ∧ Hid (D ++ rSplitOn m p (s.drop k) = rSplit s m) ∧ Hid (RowIs 9 R v (strs D)) ∧ Hid (Own w wr R)) (fun _ _ i _ => s.length - (intOf i).toNat)
  case atStart => exact ⟨0, [], [], _, _, by omega, by simp, rfl, rfl, rfl, by show _ ≤ _; simp, rfl, HR, HM⟩
  case round =>
    clear HM HR
    obtain ⟨k, p, D, R, v, hk, lp, rfl, rfl, rfl, HDL, HP, HR, HM⟩ := hrel
    have tg1 : Hid True := trivial
    by_cases hlt : k < s.length
    · have hlt' : (k : Int) < (s.length : Int) := by omega
      obtain ⟨c, hc⟩ : ∃ c, s.getD k 0 = c := ⟨_, rfl⟩
      have HC := Lib.hid hc
      have HD : Hid (s.drop k = c :: s.drop (k + 1)) := by show _ = _; rw [← hc]; exact drop_at s k hlt
      have HT : Hid ((s.drop k).take (k + 1 - k) = [c]) := by show _ = _; rw [← hc]; exact take_one s k hlt
      clear hc
      by_cases he : c = m
      · have HE := Lib.hid he
        have hq : ((c.toNat : Int) == M) = true := by rw [beq_iff_eq, he, hM.out]
        have HH : Hid (D ++ [p] ++ rSplitOn m [] (s.drop (k + 1)) = rSplit s m) := by
          show _ = _
          rw [← HP.out, HD.out, HE.out, split_hit, List.append_assoc]; rfl
        clear he
        go_wp2_with (first
          | (refine own_char (s := s) (k := k) tStr rfl rfl rfl hlt rfl ?_; rw [HC.out])
          | ((with_reducible apply own_made (cs := [.string ⟨p.toArray⟩]) (e := 9) (n := 1) HM); exact rfl; exact madeS1 _; (focus (go_simp; done)); exact rfl; clear tg1; intro w' g1 HM'; clear HM; have HM := HM'; clear HM')
          | ((refine own_app Tryz.underlying52 HI.out HZ0.out HZ1.out HZ2.out rfl (by decide) HM HR (List.sublist_cons_self _ _) rfl rfl rfl (Rd.ofWhole (HM.out.at_ .z) rfl) (by intro u hu; obtain rfl := List.mem_singleton.1 hu; rfl) (by have h := HDL.out; rw [strs_length]; simp only [List.length_cons, List.length_nil]; omega) rfl ?_); intro v' w' R' HR' HM'; clear HM HR; have HM := HM'; have HR := HR'; clear HM' HR'))
        go_roundw
        case rel =>
          refine ⟨k + 1, [], D ++ [p], _, _, by omega, by simp, by go_num, rfl, rfl, ?_, HH, ?_, HM⟩
          · have h := HDL.out
            show _ ≤ _
            simp only [List.length_append, List.length_cons, List.length_nil]; omega
          · show RowIs _ _ _ _
            have h := HR.out
            simpa [strs] using h
        case measure => simp [intOf]; omega
      · have hq : ((c.toNat : Int) == M) = false := by
          rw [beq_eq_false_iff_ne, ← hM.out]
          intro h
          exact he (UInt8.toNat_inj.1 (by omega))
        have HH : Hid (D ++ rSplitOn m (p ++ [c]) (s.drop (k + 1)) = rSplit s m) := by
          show _ = _
          rw [← HP.out, HD.out, split_miss m c _ _ he]
        clear he
        go_wp2_with (first
          | (refine own_char (s := s) (k := k) tStr rfl rfl rfl hlt rfl ?_; rw [HC.out])
          | (refine own_piece (s := s) (i := k) (j := k + 1) (r := [c]) tStr rfl rfl rfl rfl rfl (by omega) (by omega) (by omega) HT.out rfl ?_)
          | ((with_reducible apply own_cat); exact rfl; exact rfl; exact rfl; (first | assumption | decide | ((try simp only [List.length_append, List.length_cons, List.length_nil]); omega)); exact rfl))
        go_roundw
        case rel =>
          refine ⟨k + 1, p ++ [c], D, _, _, by omega, ?_, by go_num, rfl, rfl, ?_, HH, HR, HM⟩
          · simp only [List.length_append, List.length_cons, List.length_nil]; omega
          · have h := HDL.out
            show _ ≤ _
            omega
        case measure => simp [intOf]; omega
    · obtain rfl : k = s.length := by omega
      have HH : Hid (D ++ [p] = rSplit s m) := by
        show _ = _
        rw [← HP.out, List.drop_length]; rfl
      go_wp2_with (first
        | ((with_reducible apply own_made (cs := [.string ⟨p.toArray⟩]) (e := 9) (n := 1) HM); exact rfl; exact madeS1 _; (focus (go_simp; done)); exact rfl; clear tg1; intro w' g1 HM'; clear HM; have HM := HM'; clear HM')
        | ((refine own_app Tryz.underlying52 HI.out HZ0.out HZ1.out HZ2.out rfl (by decide) HM HR (List.sublist_cons_self _ _) rfl rfl rfl (Rd.ofWhole (HM.out.at_ .z) rfl) (by intro u hu; obtain rfl := List.mem_singleton.1 hu; rfl) (by have h := HDL.out; rw [strs_length]; simp only [List.length_cons, List.length_nil]; omega) rfl ?_); intro v' w' R' HR' HM'; clear HM HR; have HM := HM'; have HR := HR'; clear HM' HR'))
      go_ret
      refine ⟨_, rfl, ?_, Own.fin HM⟩
      rw [← HH.out]
      refine TextsIn.of (by simp) ?_ HM.out
      have h := HR.out
      simpa [strs] using h
end Go.Proofs.YtljjgakfnajifaaGreatDoor
set_option linter.unusedSimpArgs false
set_option linter.unusedVariables false
namespace Go.Proofs.YtljjgakfnajifaaGreatDoor
open Go.RowKit
set_option maxRecDepth 100000 in
set_option maxHeartbeats 3200000 in
theorem ones_in (w : World) : Calls Tryz.prog 55 #[] w fun e w' => ∃ v, e = .returned v ∧ TextsIn w' v (rSplit x_ones 124) ∧ Below w.heap.size w w' := by
  have HC : Hid (∀ w, Calls Tryz.prog 74 #[.string ⟨x_ones.toArray⟩, .int .u8 124] w fun e w' => ∃ v, e = .returned v ∧ TextsIn w' v (rSplit x_ones 124) ∧ Below w.heap.size w w') := rsplit_at x_ones 124 124 rfl (by decide)
  obtain ⟨L, hL⟩ : ∃ L, rSplit x_ones 124 = L := ⟨_, rfl⟩
  rw [hL] at HC ⊢
  clear hL
  go_enter Tryz.func55, Tryz.ntmps55
  go_wp2_with (first
    | (go_at_call 74; refine (HC.out _).mono ?_; rintro e w' ⟨v, rfl, ht, hb⟩; have HT := Lib.hid ht; have HB := Lib.hid hb; clear ht hb))
  go_ret
  exact ⟨_, rfl, HT.out, HB.out⟩
set_option maxRecDepth 100000 in
set_option maxHeartbeats 3200000 in
theorem first_in (w : World) : Calls Tryz.prog 73 #[] w fun e w' => ∃ v, e = .returned v ∧ TextsIn w' v (rSplit x_first 124) ∧ Below w.heap.size w w' := by
  have HC : Hid (∀ w, Calls Tryz.prog 74 #[.string ⟨x_first.toArray⟩, .int .u8 124] w fun e w' => ∃ v, e = .returned v ∧ TextsIn w' v (rSplit x_first 124) ∧ Below w.heap.size w w') := rsplit_at x_first 124 124 rfl (by decide)
  obtain ⟨L, hL⟩ : ∃ L, rSplit x_first 124 = L := ⟨_, rfl⟩
  rw [hL] at HC ⊢
  clear hL
  go_enter Tryz.func73, Tryz.ntmps73
  go_wp2_with (first
    | (go_at_call 74; refine (HC.out _).mono ?_; rintro e w' ⟨v, rfl, ht, hb⟩; have HT := Lib.hid ht; have HB := Lib.hid hb; clear ht hb))
  go_ret
  exact ⟨_, rfl, HT.out, HB.out⟩
set_option maxRecDepth 100000 in
set_option maxHeartbeats 3200000 in
theorem last_in (w : World) : Calls Tryz.prog 75 #[] w fun e w' => ∃ v, e = .returned v ∧ TextsIn w' v (rSplit x_last 124) ∧ Below w.heap.size w w' := by
  have HC : Hid (∀ w, Calls Tryz.prog 74 #[.string ⟨x_last.toArray⟩, .int .u8 124] w fun e w' => ∃ v, e = .returned v ∧ TextsIn w' v (rSplit x_last 124) ∧ Below w.heap.size w w') := rsplit_at x_last 124 124 rfl (by decide)
  obtain ⟨L, hL⟩ : ∃ L, rSplit x_last 124 = L := ⟨_, rfl⟩
  rw [hL] at HC ⊢
  clear hL
  go_enter Tryz.func75, Tryz.ntmps75
  go_wp2_with (first
    | (go_at_call 74; refine (HC.out _).mono ?_; rintro e w' ⟨v, rfl, ht, hb⟩; have HT := Lib.hid ht; have HB := Lib.hid hb; clear ht hb))
  go_ret
  exact ⟨_, rfl, HT.out, HB.out⟩
set_option maxRecDepth 100000 in
set_option maxHeartbeats 3200000 in
theorem ext_in (w : World) : Calls Tryz.prog 99 #[] w fun e w' => ∃ v, e = .returned v ∧ TextsIn w' v (rSplit x_extended 124) ∧ Below w.heap.size w w' := by
  have HC : Hid (∀ w, Calls Tryz.prog 74 #[.string ⟨x_extended.toArray⟩, .int .u8 124] w fun e w' => ∃ v, e = .returned v ∧ TextsIn w' v (rSplit x_extended 124) ∧ Below w.heap.size w w') := rsplit_at x_extended 124 124 rfl (by decide)
  obtain ⟨L, hL⟩ : ∃ L, rSplit x_extended 124 = L := ⟨_, rfl⟩
  rw [hL] at HC ⊢
  clear hL
  go_enter Tryz.func99, Tryz.ntmps99
  go_wp2_with (first
    | (go_at_call 74; refine (HC.out _).mono ?_; rintro e w' ⟨v, rfl, ht, hb⟩; have HT := Lib.hid ht; have HB := Lib.hid hb; clear ht hb))
  go_ret
  exact ⟨_, rfl, HT.out, HB.out⟩
end Go.Proofs.YtljjgakfnajifaaGreatDoor
set_option linter.unusedSimpArgs false
set_option linter.unusedVariables false
namespace Go.Proofs.YtljjgakfnajifaaGreatDoor
open Go.RowKit
theorem el_of {w : World} {v : Value} {L : List Tx} {n : Nat} (h : TextsIn w v L) (hn : L.length = n) : ∃ g cap, v = .slice (some ⟨g, 0, none⟩) n cap ∧ ∀ k < n, w.cell? ⟨g, k, none⟩ = some (.string ⟨(sg L k).toArray⟩) := by
  subst hn
  exact h
def x_eight : Tx := [65, 68, 68, 32, 65, 44, 124, 65, 68, 67, 32, 65, 44, 124, 83, 85, 66, 32, 124, 83, 66, 67, 32, 65, 44, 124, 65, 78, 68, 32, 124, 88, 79, 82, 32, 124, 79, 82, 32, 124, 67, 80, 32]
def e_first (k : Nat) : Tx := sg (rSplit x_first 124) k
def e_last (k : Nat) : Tx := sg (rSplit x_last 124) k
def e_ext (k : Nat) : Tx := sg (rSplit x_extended 124) k
def e_ones (k : Nat) : Tx := sg rOnes k
def e_eight (k : Nat) : Tx := sg (rSplit x_eight 124) k
theorem len_first : ∀ k < 64, (e_first k).length ≤ 16 := by decide +kernel
theorem len_last : ∀ k < 64, (e_last k).length ≤ 16 := by decide +kernel
theorem len_ext : ∀ k < 64, (e_ext k).length ≤ 16 := by decide +kernel
theorem len_ones : ∀ k < 8, (e_ones k).length ≤ 16 := by decide +kernel
theorem len_eight : ∀ k < 8, (e_eight k).length ≤ 16 := by decide +kernel
theorem first_el (w : World) : Calls Tryz.prog 73 #[] w fun e w' => ∃ g cap, e = .returned (.slice (some ⟨g, 0, none⟩) 64 cap) ∧ (∀ k < 64, w'.cell? ⟨g, k, none⟩ = some (.string ⟨(e_first k).toArray⟩)) ∧ Below w.heap.size w w' := by
  refine (first_in w).mono ?_
  rintro e w' ⟨v, rfl, ht, hb⟩
  obtain ⟨g, cap, rfl, hc⟩ := el_of (n := 64) ht (by decide +kernel)
  exact ⟨g, cap, rfl, hc, hb⟩
theorem last_el (w : World) : Calls Tryz.prog 75 #[] w fun e w' => ∃ g cap, e = .returned (.slice (some ⟨g, 0, none⟩) 64 cap) ∧ (∀ k < 64, w'.cell? ⟨g, k, none⟩ = some (.string ⟨(e_last k).toArray⟩)) ∧ Below w.heap.size w w' := by
  refine (last_in w).mono ?_
  rintro e w' ⟨v, rfl, ht, hb⟩
  obtain ⟨g, cap, rfl, hc⟩ := el_of (n := 64) ht (by decide +kernel)
  exact ⟨g, cap, rfl, hc, hb⟩
theorem ext_el (w : World) : Calls Tryz.prog 99 #[] w fun e w' => ∃ g cap, e = .returned (.slice (some ⟨g, 0, none⟩) 64 cap) ∧ (∀ k < 64, w'.cell? ⟨g, k, none⟩ = some (.string ⟨(e_ext k).toArray⟩)) ∧ Below w.heap.size w w' := by
  refine (ext_in w).mono ?_
  rintro e w' ⟨v, rfl, ht, hb⟩
  obtain ⟨g, cap, rfl, hc⟩ := el_of (n := 64) ht (by decide +kernel)
  exact ⟨g, cap, rfl, hc, hb⟩
theorem ones_el (w : World) : Calls Tryz.prog 55 #[] w fun e w' => ∃ g cap, e = .returned (.slice (some ⟨g, 0, none⟩) 8 cap) ∧ (∀ k < 8, w'.cell? ⟨g, k, none⟩ = some (.string ⟨(e_ones k).toArray⟩)) ∧ Below w.heap.size w w' := by
  refine (ones_in w).mono ?_
  rintro e w' ⟨v, rfl, ht, hb⟩
  obtain ⟨g, cap, rfl, hc⟩ := el_of (n := 8) ht (by decide +kernel)
  exact ⟨g, cap, rfl, hc, hb⟩
theorem eight_el (w : World) : Calls Tryz.prog 74 #[.string ⟨x_eight.toArray⟩, .int .u8 124] w fun e w' => ∃ g cap, e = .returned (.slice (some ⟨g, 0, none⟩) 8 cap) ∧ (∀ k < 8, w'.cell? ⟨g, k, none⟩ = some (.string ⟨(e_eight k).toArray⟩)) ∧ Below w.heap.size w w' := by
  refine (rsplit_at x_eight 124 124 rfl (by decide) w).mono ?_
  rintro e w' ⟨v, rfl, ht, hb⟩
  obtain ⟨g, cap, rfl, hc⟩ := el_of (n := 8) ht (by decide +kernel)
  exact ⟨g, cap, rfl, hc, hb⟩
set_option maxRecDepth 100000 in
set_option maxHeartbeats 3200000 in
theorem rplain_lo (n : Nat) (hn : n < 64) (w : World) : Calls Tryz.prog 39 #[.int .u8 (n : Int)] w fun e w' => e = .returned (.string ⟨(e_first n).toArray⟩) ∧ Below w.heap.size w w' := by
  have n1 : (n : Int) < 64 := by omega
  have HM := Lib.hid (Own.start w)
  go_enter Tryz.func39, Tryz.ntmps39
  go_wp2_with (first
    | (go_at_call 73; refine (first_el _).mono ?_; rintro e w2 ⟨g, cap, rfl, hc, hb⟩; have x0 := hc n hn;  (first | (have y := (hb.cell (block_lt_of_cell ca)).trans ca; clear ca; have ca := y; clear y) | skip); (first | (have ca := x0; clear x0) | skip);  clear hc; replace HM := Lib.hid (HM.out.call hb); clear hb))
  all_goals go_ret
  all_goals exact ⟨rfl, Own.fin HM⟩
set_option maxRecDepth 100000 in
set_option maxHeartbeats 3200000 in
theorem rplain_118  (w : World) : Calls Tryz.prog 39 #[.int .u8 118] w fun e w' => e = .returned (.string ⟨([72, 65, 76, 84]).toArray⟩) ∧ Below w.heap.size w w' := by
  have HM := Lib.hid (Own.start w)
  go_enter Tryz.func39, Tryz.ntmps39
  go_wp2_with fail
  all_goals go_ret
  all_goals exact ⟨rfl, Own.fin HM⟩
set_option maxRecDepth 100000 in
set_option maxHeartbeats 3200000 in
theorem rplain_hi (n : Nat) (hn : 192 ≤ n) (h2 : n < 256) (w : World) : Calls Tryz.prog 39 #[.int .u8 (n : Int)] w fun e w' => e = .returned (.string ⟨(e_last (n - 192)).toArray⟩) ∧ Below w.heap.size w w' := by
  have n1 : (192 : Int) ≤ (n : Int) := by omega
  have n2 : (n : Int) < 256 := by omega
  have g1 : ((n : Int) == 118) = false := by rw [beq_eq_false_iff_ne]; omega
  have e1 : (n : Int) - 192 = ((n - 192 : Nat) : Int) := by omega
  have n3 : ((n - 192 : Nat) : Int) < 64 := by omega
  have HM := Lib.hid (Own.start w)
  go_enter Tryz.func39, Tryz.ntmps39
  go_wp2_with (first
    | (go_at_call 75; refine (last_el _).mono ?_; rintro e w2 ⟨g, cap, rfl, hc, hb⟩; have x0 := hc (n - 192) (by omega);  (first | (have y := (hb.cell (block_lt_of_cell ca)).trans ca; clear ca; have ca := y; clear y) | skip); (first | (have ca := x0; clear x0) | skip);  clear hc; replace HM := Lib.hid (HM.out.call hb); clear hb))
  all_goals go_ret
  all_goals exact ⟨rfl, Own.fin HM⟩
set_option maxRecDepth 100000 in
set_option maxHeartbeats 3200000 in
theorem rplain_mid (n : Nat) (hn : 64 ≤ n) (h2 : n < 128) (h3 : n ≠ 118) (w : World) : Calls Tryz.prog 39 #[.int .u8 (n : Int)] w fun e w' => e = .returned (.string ⟨([76, 68, 32] ++ (e_ones (n / 8 % 8) ++ ([44] ++ e_ones (n % 8)))).toArray⟩) ∧ Below w.heap.size w w' := by
  obtain ⟨a, ha⟩ : ∃ a, a = n / 8 % 8 := ⟨_, rfl⟩
  obtain ⟨b, hb⟩ : ∃ b, b = n % 8 := ⟨_, rfl⟩
  obtain ⟨d, hd⟩ : ∃ d, d = n / 8 := ⟨_, rfl⟩
  have la := len_ones a (by omega)
  have lb := len_ones b (by omega)
  have a7 : a < 8 := by omega
  have b7 : b < 8 := by omega
  have a8 : (a : Int) < 8 := by omega
  have b8 : (b : Int) < 8 := by omega
  have e1 : IntKind.u8.wrap ((n : Int).tdiv 8) = (d : Int) := by rw [Int.tdiv_eq_ediv_of_nonneg (by omega), IntKind.wrap_u8]; omega
  have e2 : (n : Int) / 8 = (d : Int) := by omega
  have e3 : (d : Int).tmod 8 = (a : Int) := by rw [Int.tmod_eq_emod_of_nonneg (by omega)]; omega
  have e4 : (d : Int) % 8 = (a : Int) := by omega
  have e5 : (n : Int).tmod 8 = (b : Int) := by rw [Int.tmod_eq_emod_of_nonneg (by omega)]; omega
  have e6 : (n : Int) % 8 = (b : Int) := by omega
  have e7 : (n : Int) / 8 % 8 = (a : Int) := by omega
  have w1 : IntKind.u8.wrap (d : Int) = (d : Int) := by rw [IntKind.wrap_u8]; omega
  rw [← ha, ← hb]
  have n1 : (64 : Int) ≤ (n : Int) := by omega
  have n2 : (n : Int) < 128 := by omega
  have g1 : ((n : Int) == 118) = false := by rw [beq_eq_false_iff_ne]; omega
  clear ha hb hd hn h2 h3
  have s1 : ¬ 9223372036854775807 < 3 + (e_ones a).length := by omega
  have s2 : ¬ 9223372036854775807 < 3 + (e_ones a).length + 1 := by omega
  have s3 : ¬ 9223372036854775807 < 3 + (e_ones a).length + 1 + (e_ones b).length := by omega
  have HM := Lib.hid (Own.start w)
  go_enter Tryz.func39, Tryz.ntmps39
  go_wp2_with fail
  have HM' := Lib.hid HM.out.drew
  clear HM; have HM := HM'; clear HM'
  go_region_with (first
    | (go_at_call 55; refine (ones_el _).mono ?_; rintro e w2 ⟨g, cap, rfl, hc, hb⟩; have x0 := hc a a7; have x1 := hc b b7;  (first | (have y := (hb.cell (block_lt_of_cell ca)).trans ca; clear ca; have ca := y; clear y) | skip); (first | (have y := (hb.cell (block_lt_of_cell cb)).trans cb; clear cb; have cb := y; clear y) | skip); (first | (have ca := x0; clear x0) | skip); (first | (have cb := x1; clear x1) | skip);  clear hc; replace HM := Lib.hid (HM.out.call hb); clear hb)
    | ((with_reducible apply own_cat); exact rfl; exact rfl; exact rfl; (first | assumption | decide | ((try simp only [List.length_append, List.length_cons, List.length_nil]); omega)); exact rfl))
  all_goals go_wp2_with (first | ((with_reducible apply own_cat); exact rfl; exact rfl; exact rfl; (first | assumption | decide | ((try simp only [List.length_append, List.length_cons, List.length_nil]); omega)); exact rfl))
  all_goals go_ret
  all_goals refine ⟨congrArg (fun b : ByteArray => Ending.returned (.string b)) (?_ : (_ : ByteArray) = _), Own.fin HM⟩
  all_goals simp only [str_append, List.append_assoc, List.cons_append, List.nil_append]
set_option maxRecDepth 100000 in
set_option maxHeartbeats 3200000 in
theorem rplain_sum (n : Nat) (hn : 128 ≤ n) (h2 : n < 192) (w : World) : Calls Tryz.prog 39 #[.int .u8 (n : Int)] w fun e w' => e = .returned (.string ⟨(e_eight (n / 8 % 8) ++ e_ones (n % 8)).toArray⟩) ∧ Below w.heap.size w w' := by
  obtain ⟨a, ha⟩ : ∃ a, a = n / 8 % 8 := ⟨_, rfl⟩
  obtain ⟨b, hb⟩ : ∃ b, b = n % 8 := ⟨_, rfl⟩
  obtain ⟨d, hd⟩ : ∃ d, d = n / 8 := ⟨_, rfl⟩
  have la := len_ones a (by omega)
  have lb := len_ones b (by omega)
  have a7 : a < 8 := by omega
  have b7 : b < 8 := by omega
  have a8 : (a : Int) < 8 := by omega
  have b8 : (b : Int) < 8 := by omega
  have e1 : IntKind.u8.wrap ((n : Int).tdiv 8) = (d : Int) := by rw [Int.tdiv_eq_ediv_of_nonneg (by omega), IntKind.wrap_u8]; omega
  have e2 : (n : Int) / 8 = (d : Int) := by omega
  have e3 : (d : Int).tmod 8 = (a : Int) := by rw [Int.tmod_eq_emod_of_nonneg (by omega)]; omega
  have e4 : (d : Int) % 8 = (a : Int) := by omega
  have e5 : (n : Int).tmod 8 = (b : Int) := by rw [Int.tmod_eq_emod_of_nonneg (by omega)]; omega
  have e6 : (n : Int) % 8 = (b : Int) := by omega
  have e7 : (n : Int) / 8 % 8 = (a : Int) := by omega
  have w1 : IntKind.u8.wrap (d : Int) = (d : Int) := by rw [IntKind.wrap_u8]; omega
  rw [← ha, ← hb]
  have lc := len_eight a (by omega)
  have n1 : (128 : Int) ≤ (n : Int) := by omega
  have n2 : (n : Int) < 192 := by omega
  have g1 : ((n : Int) == 118) = false := by rw [beq_eq_false_iff_ne]; omega
  clear ha hb hd hn h2
  have s1 : ¬ 9223372036854775807 < (e_eight a).length + (e_ones b).length := by omega
  have HM := Lib.hid (Own.start w)
  go_enter Tryz.func39, Tryz.ntmps39
  go_wp2_with fail
  have HM' := Lib.hid HM.out.drew
  clear HM; have HM := HM'; clear HM'
  go_region_with (first
    | (go_at_call 74; refine (eight_el _).mono ?_; rintro e w2 ⟨g, cap, rfl, hc, hb⟩; have x0 := hc a a7;  (first | (have y := (hb.cell (block_lt_of_cell ca)).trans ca; clear ca; have ca := y; clear y) | skip); (first | (have ca := x0; clear x0) | skip);  clear hc; replace HM := Lib.hid (HM.out.call hb); clear hb)
    | (go_at_call 55; refine (ones_el _).mono ?_; rintro e w2 ⟨g, cap, rfl, hc, hb⟩; have x0 := hc b b7;  (first | (have y := (hb.cell (block_lt_of_cell ca)).trans ca; clear ca; have ca := y; clear y) | skip); (first | (have y := (hb.cell (block_lt_of_cell cb)).trans cb; clear cb; have cb := y; clear y) | skip); (first | (have cb := x0; clear x0) | skip);  clear hc; replace HM := Lib.hid (HM.out.call hb); clear hb))
  all_goals go_wp2_with (first | ((with_reducible apply own_cat); exact rfl; exact rfl; exact rfl; (first | assumption | decide | ((try simp only [List.length_append, List.length_cons, List.length_nil]); omega)); exact rfl))
  all_goals go_ret
  all_goals refine ⟨congrArg (fun b : ByteArray => Ending.returned (.string b)) (?_ : (_ : ByteArray) = _), Own.fin HM⟩
  all_goals simp only [str_append, List.append_assoc, List.cons_append, List.nil_append]
theorem rplain_at (n : Nat) (hn : n < 256) (w : World) : Calls Tryz.prog 39 #[.int .u8 (n : Int)] w fun e w' => e = .returned (.string ⟨(rPlain n).toArray⟩) ∧ Below w.heap.size w w' := by
  by_cases h1 : n < 64
  · have e : rPlain n = e_first n := by rw [rPlain, if_pos h1]; rfl
    rw [e]; exact rplain_lo n h1 w
  · by_cases h2 : n = 118
    · subst h2; exact rplain_118 w
    · by_cases h3 : n < 128
      · have e : rPlain n = [76, 68, 32] ++ (e_ones (n / 8 % 8) ++ ([44] ++ e_ones (n % 8))) := by rw [rPlain, if_neg h1, if_neg h2, if_pos h3]; simp only [List.append_assoc]; rfl
        rw [e]; exact rplain_mid n (by omega) h3 h2 w
      · by_cases h4 : n < 192
        · have e : rPlain n = e_eight (n / 8 % 8) ++ e_ones (n % 8) := by rw [rPlain, if_neg h1, if_neg h2, if_neg h3, if_pos h4]; rfl
          rw [e]; exact rplain_sum n (by omega) h4 w
        · have e : rPlain n = e_last (n - 192) := by rw [rPlain, if_neg h1, if_neg h2, if_neg h3, if_neg h4]; rfl
          rw [e]; exact rplain_hi n (by omega) hn w
theorem len_plain : ∀ n < 256, (rPlain n).length ≤ 16 := by decide +kernel
end Go.Proofs.YtljjgakfnajifaaGreatDoor
set_option linter.unusedSimpArgs false
set_option linter.unusedVariables false
namespace Go.Proofs.YtljjgakfnajifaaGreatDoor
open Go.RowKit
def x_turns : Tx := [82, 76, 67, 124, 82, 82, 67, 124, 82, 76, 124, 82, 82, 124, 83, 76, 65, 124, 83, 82, 65, 124, 83, 76, 76, 124, 83, 82, 76]
def x_acts : Tx := [124, 66, 73, 84, 32, 124, 82, 69, 83, 32, 124, 83, 69, 84, 32]
def x_many : Tx := [76, 68, 73, 124, 67, 80, 73, 124, 73, 78, 73, 124, 79, 85, 84, 73, 124, 76, 68, 68, 124, 67, 80, 68, 124, 73, 78, 68, 124, 79, 85, 84, 68, 124, 76, 68, 73, 82, 124, 67, 80, 73, 82, 124, 73, 78, 73, 82, 124, 79, 84, 73, 82, 124, 76, 68, 68, 82, 124, 67, 80, 68, 82, 124, 73, 78, 68, 82, 124, 79, 84, 68, 82]
def e_turns (k : Nat) : Tx := sg (rSplit x_turns 124) k
def e_acts (k : Nat) : Tx := sg (rSplit x_acts 124) k
def e_many (k : Nat) : Tx := sg (rSplit x_many 124) k
theorem len_turns : ∀ k < 8, (e_turns k).length ≤ 16 := by decide +kernel
theorem len_acts : ∀ k < 4, (e_acts k).length ≤ 16 := by decide +kernel
theorem len_many : ∀ k < 16, (e_many k).length ≤ 16 := by decide +kernel
theorem eight_piece (y : Nat) (hy : y < 8) : (ByteArray.mk #[48, 49, 50, 51, 52, 53, 54, 55]).extract y (y + 1) = ⟨[UInt8.ofNat (48 + y)].toArray⟩ := by
  obtain rfl | rfl | rfl | rfl | rfl | rfl | rfl | rfl : y = 0 ∨ y = 1 ∨ y = 2 ∨ y = 3 ∨ y = 4 ∨ y = 5 ∨ y = 6 ∨ y = 7 := by omega
  all_goals decide +kernel
theorem turns_el (w : World) : Calls Tryz.prog 74 #[.string ⟨x_turns.toArray⟩, .int .u8 124] w fun e w' => ∃ g cap, e = .returned (.slice (some ⟨g, 0, none⟩) 8 cap) ∧ (∀ k < 8, w'.cell? ⟨g, k, none⟩ = some (.string ⟨(e_turns k).toArray⟩)) ∧ Below w.heap.size w w' := by
  refine (rsplit_at x_turns 124 124 rfl (by decide) w).mono ?_
  rintro e w' ⟨v, rfl, ht, hb⟩
  obtain ⟨g, cap, rfl, hc⟩ := el_of (n := 8) ht (by decide +kernel)
  exact ⟨g, cap, rfl, hc, hb⟩
theorem acts_el (w : World) : Calls Tryz.prog 74 #[.string ⟨x_acts.toArray⟩, .int .u8 124] w fun e w' => ∃ g cap, e = .returned (.slice (some ⟨g, 0, none⟩) 4 cap) ∧ (∀ k < 4, w'.cell? ⟨g, k, none⟩ = some (.string ⟨(e_acts k).toArray⟩)) ∧ Below w.heap.size w w' := by
  refine (rsplit_at x_acts 124 124 rfl (by decide) w).mono ?_
  rintro e w' ⟨v, rfl, ht, hb⟩
  obtain ⟨g, cap, rfl, hc⟩ := el_of (n := 4) ht (by decide +kernel)
  exact ⟨g, cap, rfl, hc, hb⟩
theorem rmany_el (w : World) : Calls Tryz.prog 74 #[.string ⟨x_many.toArray⟩, .int .u8 124] w fun e w' => ∃ g cap, e = .returned (.slice (some ⟨g, 0, none⟩) 16 cap) ∧ (∀ k < 16, w'.cell? ⟨g, k, none⟩ = some (.string ⟨(e_many k).toArray⟩)) ∧ Below w.heap.size w w' := by
  refine (rsplit_at x_many 124 124 rfl (by decide) w).mono ?_
  rintro e w' ⟨v, rfl, ht, hb⟩
  obtain ⟨g, cap, rfl, hc⟩ := el_of (n := 16) ht (by decide +kernel)
  exact ⟨g, cap, rfl, hc, hb⟩
set_option maxRecDepth 100000 in
set_option maxHeartbeats 3200000 in
theorem rbits_lo (n : Nat) (t : Tx) (ht : t.length ≤ 24) (hn : n < 64) (w : World) : Calls Tryz.prog 54 #[.int .u8 (n : Int), .string ⟨(t).toArray⟩] w fun e w' => e = .returned (.string ⟨(e_turns (n / 8) ++ ([32] ++ t)).toArray⟩) ∧ Below w.heap.size w w' := by
  obtain ⟨d, hd⟩ : ∃ d, d = n / 8 := ⟨_, rfl⟩
  have d7 : d < 8 := by omega
  have d8 : (d : Int) < 8 := by omega
  have l1 := len_turns d d7
  have qd1 : IntKind.u8.wrap ((n : Int).tdiv 8) = (d : Int) := by rw [Int.tdiv_eq_ediv_of_nonneg (by omega), IntKind.wrap_u8]; omega
  have qd2 : (n : Int) / 8 = (d : Int) := by omega
  have qd3 : IntKind.u8.wrap (d : Int) = (d : Int) := by rw [IntKind.wrap_u8]; omega
  rw [← hd]
  have n1 : (n : Int) < 64 := by omega
  clear hd hn
  have HM := Lib.hid (Own.start w)
  go_enter Tryz.func54, Tryz.ntmps54
  go_wp2_with (first
    | (go_at_call 74; refine (turns_el _).mono ?_; rintro e w2 ⟨g, cap, rfl, hc, hb⟩; have x0 := hc d d7;  (first | (have y := (hb.cell (block_lt_of_cell ca)).trans ca; clear ca; have ca := y; clear y) | skip); (first | (have ca := x0; clear x0) | skip);  clear hc; replace HM := Lib.hid (HM.out.call hb); clear hb)
    | ((with_reducible apply own_cat); exact rfl; exact rfl; exact rfl; (first | assumption | decide | ((try simp only [List.length_append, List.length_cons, List.length_nil]); omega)); exact rfl))
  all_goals go_ret
  all_goals exact ⟨rfl, Own.fin HM⟩
set_option maxRecDepth 100000 in
set_option maxHeartbeats 3200000 in
theorem rbits_hi (n : Nat) (t : Tx) (ht : t.length ≤ 24) (hn : 64 ≤ n) (h2 : n < 256) (w : World) : Calls Tryz.prog 54 #[.int .u8 (n : Int), .string ⟨(t).toArray⟩] w fun e w' => e = .returned (.string ⟨(e_acts (n / 64) ++ ([UInt8.ofNat (48 + n / 8 % 8)] ++ ([44] ++ t))).toArray⟩) ∧ Below w.heap.size w w' := by
  obtain ⟨d, hd⟩ : ∃ d, d = n / 8 := ⟨_, rfl⟩
  obtain ⟨y, hy⟩ : ∃ y, y = n / 8 % 8 := ⟨_, rfl⟩
  obtain ⟨x, hx⟩ : ∃ x, x = n / 64 := ⟨_, rfl⟩
  have x7 : x < 4 := by omega
  have y7 : y < 8 := by omega
  have x8 : (x : Int) < 4 := by omega
  have y8 : (y : Int) < 8 := by omega
  have l1 := len_acts x x7
  have qd1 : IntKind.u8.wrap ((n : Int).tdiv 8) = (d : Int) := by rw [Int.tdiv_eq_ediv_of_nonneg (by omega), IntKind.wrap_u8]; omega
  have qd2 : (n : Int) / 8 = (d : Int) := by omega
  have qd3 : IntKind.u8.wrap (d : Int) = (d : Int) := by rw [IntKind.wrap_u8]; omega
  have qx1 : IntKind.u8.wrap ((n : Int).tdiv 64) = (x : Int) := by rw [Int.tdiv_eq_ediv_of_nonneg (by omega), IntKind.wrap_u8]; omega
  have qx2 : (n : Int) / 64 = (x : Int) := by omega
  have qx3 : IntKind.u8.wrap (x : Int) = (x : Int) := by rw [IntKind.wrap_u8]; omega
  have ry1 : (d : Int).tmod 8 = (y : Int) := by rw [Int.tmod_eq_emod_of_nonneg (by omega)]; omega
  have ry2 : (d : Int) % 8 = (y : Int) := by omega
  rw [← hy, ← hx]
  obtain ⟨c, hc⟩ : ∃ c, c = UInt8.ofNat (48 + y) := ⟨_, rfl⟩
  have cx := eight_piece y y7
  rw [← hc] at cx
  rw [← hc]
  have n1 : (64 : Int) ≤ (n : Int) := by omega
  have n2 : (n : Int) < 256 := by omega
  have s1 : ¬ 9223372036854775807 < (e_acts x).length + 1 := by omega
  have s2 : ¬ 9223372036854775807 < (e_acts x).length + 1 + 1 := by omega
  have s3 : ¬ 9223372036854775807 < (e_acts x).length + 1 + 1 + t.length := by omega
  have yy1 : IntKind.u8.wrap ((y : Int) + 1) = (y : Int) + 1 := by rw [IntKind.wrap_u8]; omega
  have yy2 : (y : Int) + 1 ≤ 8 := by omega
  have yy3 : (0 : Int) ≤ (y : Int) + 1 := by omega
  have yy4 : (y : Int) ≤ (y : Int) + 1 := by omega
  clear hd hy hx hc hn h2
  have HM := Lib.hid (Own.start w)
  go_enter Tryz.func54, Tryz.ntmps54
  go_wp2_with fail
  have HM' := Lib.hid HM.out.drew
  clear HM; have HM := HM'; clear HM'
  go_region_with (first
    | (go_at_call 74; refine (acts_el _).mono ?_; rintro e w2 ⟨g, cap, rfl, hc, hb⟩; have x0 := hc x x7;  (first | (have y := (hb.cell (block_lt_of_cell ca)).trans ca; clear ca; have ca := y; clear y) | skip); (first | (have ca := x0; clear x0) | skip);  clear hc; replace HM := Lib.hid (HM.out.call hb); clear hb))
  all_goals go_wp2_with (first | ((with_reducible apply own_cat); exact rfl; exact rfl; exact rfl; (first | assumption | decide | ((try simp only [List.length_append, List.length_cons, List.length_nil]); omega)); exact rfl))
  all_goals go_ret
  all_goals refine ⟨congrArg (fun b : ByteArray => Ending.returned (.string b)) (?_ : (_ : ByteArray) = _), Own.fin HM⟩
  all_goals simp only [str_append, List.append_assoc, List.cons_append, List.nil_append]
theorem rbits_at (n : Nat) (hn : n < 256) (t : Tx) (ht : t.length ≤ 24) (w : World) : Calls Tryz.prog 54 #[.int .u8 (n : Int), .string ⟨t.toArray⟩] w fun e w' => e = .returned (.string ⟨(rBits n t).toArray⟩) ∧ Below w.heap.size w w' := by
  by_cases h1 : n < 64
  · have e : rBits n t = e_turns (n / 8) ++ ([32] ++ t) := by rw [rBits, if_pos h1]; simp only [List.append_assoc]; rfl
    rw [e]; exact rbits_lo n t ht h1 w
  · have e : rBits n t = e_acts (n / 64) ++ ([UInt8.ofNat (48 + n / 8 % 8)] ++ ([44] ++ t)) := by rw [rBits, if_neg h1]; simp only [List.append_assoc]; rfl
    rw [e]; exact rbits_hi n t ht (by omega) hn w
set_option maxRecDepth 100000 in
set_option maxHeartbeats 3200000 in
theorem rext_a (n : Nat) (hn : n < 64) (w : World) : Calls Tryz.prog 56 #[.int .u8 (n : Int)] w fun e w' => e = .returned (.string ⟨([78, 79, 80]).toArray⟩) ∧ Below w.heap.size w w' := by
  have n1 : (n : Int) < 64 := by omega
  have HM := Lib.hid (Own.start w)
  go_enter Tryz.func56, Tryz.ntmps56
  go_wp2_with fail
  all_goals go_ret
  all_goals exact ⟨rfl, Own.fin HM⟩
set_option maxRecDepth 100000 in
set_option maxHeartbeats 3200000 in
theorem rext_b (n : Nat) (hn : 64 ≤ n) (h2 : n < 128) (w : World) : Calls Tryz.prog 56 #[.int .u8 (n : Int)] w fun e w' => e = .returned (.string ⟨(e_ext (n - 64)).toArray⟩) ∧ Below w.heap.size w w' := by
  obtain ⟨r, hr⟩ : ∃ r, r = n - 64 := ⟨_, rfl⟩
  have r7 : r < 64 := by omega
  have r8 : (r : Int) < 64 := by omega
  have e1 : (n : Int) - 64 = (r : Int) := by omega
  rw [← hr]
  have n1 : (64 : Int) ≤ (n : Int) := by omega
  have n2 : (n : Int) < 128 := by omega
  clear hr hn h2
  have HM := Lib.hid (Own.start w)
  go_enter Tryz.func56, Tryz.ntmps56
  go_wp2_with (first
    | (go_at_call 99; refine (ext_el _).mono ?_; rintro e w2 ⟨g, cap, rfl, hc, hb⟩; have x0 := hc r r7;  (first | (have y := (hb.cell (block_lt_of_cell ca)).trans ca; clear ca; have ca := y; clear y) | skip); (first | (have ca := x0; clear x0) | skip);  clear hc; replace HM := Lib.hid (HM.out.call hb); clear hb))
  all_goals go_ret
  all_goals exact ⟨rfl, Own.fin HM⟩
set_option maxRecDepth 100000 in
set_option maxHeartbeats 3200000 in
theorem rext_c (n : Nat) (hn : 128 ≤ n) (h2 : n < 160) (w : World) : Calls Tryz.prog 56 #[.int .u8 (n : Int)] w fun e w' => e = .returned (.string ⟨([78, 79, 80]).toArray⟩) ∧ Below w.heap.size w w' := by
  have n1 : (128 : Int) ≤ (n : Int) := by omega
  have n2 : (n : Int) < 160 := by omega
  have HM := Lib.hid (Own.start w)
  go_enter Tryz.func56, Tryz.ntmps56
  go_wp2_with fail
  all_goals go_ret
  all_goals exact ⟨rfl, Own.fin HM⟩
set_option maxRecDepth 100000 in
set_option maxHeartbeats 3200000 in
theorem rext_d (n : Nat) (hn : 160 ≤ n) (h2 : n < 192) (h3 : n % 8 < 4) (w : World) : Calls Tryz.prog 56 #[.int .u8 (n : Int)] w fun e w' => e = .returned (.string ⟨(e_many ((n - 160) / 8 * 4 + n % 8)).toArray⟩) ∧ Below w.heap.size w w' := by
  obtain ⟨r, hr⟩ : ∃ r, r = n - 160 := ⟨_, rfl⟩
  obtain ⟨q, hq⟩ : ∃ q, q = r / 8 := ⟨_, rfl⟩
  obtain ⟨m, hm⟩ : ∃ m, m = q * 4 := ⟨_, rfl⟩
  obtain ⟨b, hb⟩ : ∃ b, b = n % 8 := ⟨_, rfl⟩
  obtain ⟨i, hi⟩ : ∃ i, i = m + b := ⟨_, rfl⟩
  have i7 : i < 16 := by omega
  have i8 : (i : Int) < 16 := by omega
  have b8 : (b : Int) < 4 := by omega
  have e1 : (n : Int) - 160 = (r : Int) := by omega
  have qq1 : IntKind.u8.wrap ((r : Int).tdiv 8) = (q : Int) := by rw [Int.tdiv_eq_ediv_of_nonneg (by omega), IntKind.wrap_u8]; omega
  have qq2 : (r : Int) / 8 = (q : Int) := by omega
  have qq3 : IntKind.u8.wrap (q : Int) = (q : Int) := by rw [IntKind.wrap_u8]; omega
  have e2 : (q : Int) * 4 = (m : Int) := by omega
  have rb1 : (n : Int).tmod 8 = (b : Int) := by rw [Int.tmod_eq_emod_of_nonneg (by omega)]; omega
  have rb2 : (n : Int) % 8 = (b : Int) := by omega
  have e3 : (m : Int) + (b : Int) = (i : Int) := by omega
  have m8 : (m : Int) < 16 := by omega
  have q8 : (q : Int) < 4 := by omega
  have r9 : (r : Int) < 32 := by omega
  rw [← hr, ← hq, ← hm, ← hb, ← hi]
  have n1 : (160 : Int) ≤ (n : Int) := by omega
  have n2 : (n : Int) < 192 := by omega
  clear hr hq hm hb hi hn h2 h3
  have HM := Lib.hid (Own.start w)
  go_enter Tryz.func56, Tryz.ntmps56
  go_wp2_with (first
    | (go_at_call 74; refine (rmany_el _).mono ?_; rintro e w2 ⟨g, cap, rfl, hc, hb⟩; have x0 := hc i i7;  (first | (have y := (hb.cell (block_lt_of_cell ca)).trans ca; clear ca; have ca := y; clear y) | skip); (first | (have ca := x0; clear x0) | skip);  clear hc; replace HM := Lib.hid (HM.out.call hb); clear hb))
  all_goals go_ret
  all_goals exact ⟨rfl, Own.fin HM⟩
set_option maxRecDepth 100000 in
set_option maxHeartbeats 3200000 in
theorem rext_e (n : Nat) (hn : 160 ≤ n) (h2 : n < 192) (h3 : 4 ≤ n % 8) (w : World) : Calls Tryz.prog 56 #[.int .u8 (n : Int)] w fun e w' => e = .returned (.string ⟨([78, 79, 80]).toArray⟩) ∧ Below w.heap.size w w' := by
  obtain ⟨b, hb⟩ : ∃ b, b = n % 8 := ⟨_, rfl⟩
  have b8 : (4 : Int) ≤ (b : Int) := by omega
  have rb1 : (n : Int).tmod 8 = (b : Int) := by rw [Int.tmod_eq_emod_of_nonneg (by omega)]; omega
  have rb2 : (n : Int) % 8 = (b : Int) := by omega
  have n1 : (160 : Int) ≤ (n : Int) := by omega
  have n2 : (n : Int) < 192 := by omega
  clear hb hn h2 h3
  have HM := Lib.hid (Own.start w)
  go_enter Tryz.func56, Tryz.ntmps56
  go_wp2_with fail
  all_goals go_ret
  all_goals exact ⟨rfl, Own.fin HM⟩
set_option maxRecDepth 100000 in
set_option maxHeartbeats 3200000 in
theorem rext_f (n : Nat) (hn : 192 ≤ n) (h2 : n < 256) (w : World) : Calls Tryz.prog 56 #[.int .u8 (n : Int)] w fun e w' => e = .returned (.string ⟨([78, 79, 80]).toArray⟩) ∧ Below w.heap.size w w' := by
  have n1 : (192 : Int) ≤ (n : Int) := by omega
  have n2 : (n : Int) < 256 := by omega
  have HM := Lib.hid (Own.start w)
  go_enter Tryz.func56, Tryz.ntmps56
  go_wp2_with fail
  all_goals go_ret
  all_goals exact ⟨rfl, Own.fin HM⟩
theorem rext_at (n : Nat) (hn : n < 256) (w : World) : Calls Tryz.prog 56 #[.int .u8 (n : Int)] w fun e w' => e = .returned (.string ⟨(rExtended n).toArray⟩) ∧ Below w.heap.size w w' := by
  by_cases h1 : 64 ≤ n ∧ n < 128
  · have e : rExtended n = e_ext (n - 64) := by rw [rExtended, if_pos h1]; rfl
    rw [e]; exact rext_b n h1.1 h1.2 w
  · by_cases h2 : 160 ≤ n ∧ n < 192 ∧ n % 8 < 4
    · have e : rExtended n = e_many ((n - 160) / 8 * 4 + n % 8) := by rw [rExtended, if_neg h1, if_pos h2]; rfl
      rw [e]; exact rext_d n h2.1 h2.2.1 h2.2.2 w
    · have e : rExtended n = [78, 79, 80] := by rw [rExtended, if_neg h1, if_neg h2]
      rw [e]
      by_cases a : n < 64
      · exact rext_a n a w
      · by_cases b : n < 160
        · exact rext_c n (by omega) b w
        · by_cases c : n < 192
          · exact rext_e n (by omega) c (by omega) w
          · exact rext_f n (by omega) hn w
end Go.Proofs.YtljjgakfnajifaaGreatDoor
