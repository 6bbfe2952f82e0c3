/-
  What package names and the document's names answer, as functions over lists of bytes. Nothing here speaks of the program.
-/
namespace Go.Proofs.YtaiceidmcelapaaDoor

abbrev Tx := List UInt8
/-- the text of a number among these; nothing, where there is none -/
def sg (l : List Tx) (i : Nat) : Tx := l.getD i []
def t_singles : List Tx := [[66], [67], [68], [69], [72], [76], [40, 72, 76, 41], [65]]
def t_wides : List Tx := [[66, 67], [68, 69], [72, 76], [83, 80]]
def t_stacked : List Tx := [[66, 67], [68, 69], [72, 76], [65, 70]]
def t_conditions : List Tx := [[78, 90], [90], [78, 67], [67], [80, 79], [80, 69], [80], [77]]
def t_eightSums : List Tx := [[65, 68, 68, 32, 65, 44], [65, 68, 67, 32, 65, 44], [83, 85, 66, 32], [83, 66, 67, 32, 65, 44], [65, 78, 68, 32], [88, 79, 82, 32], [79, 82, 32], [67, 80, 32]]
def t_eightTurns : List Tx := [[82, 76, 67, 32], [82, 82, 67, 32], [82, 76, 32], [82, 82, 32], [83, 76, 65, 32], [83, 82, 65, 32], [83, 76, 76, 32], [83, 82, 76, 32]]
def t_starts : List Tx := [[78, 79, 80], [69, 88, 32, 65, 70, 44, 65, 70, 39], [68, 74, 78, 90, 32, 101], [74, 82, 32, 101]]
def t_places : List Tx := [[40, 66, 67, 41], [40, 68, 69, 41], [40, 110, 110, 41], [40, 110, 110, 41]]
def t_quicks : List Tx := [[82, 76, 67, 65], [82, 82, 67, 65], [82, 76, 65], [82, 82, 65], [68, 65, 65], [67, 80, 76], [83, 67, 70], [67, 67, 70]]
def t_bitActs : List Tx := [[], [66, 73, 84, 32], [82, 69, 83, 32], [83, 69, 84, 32]]
def t_modes : List Tx := [[73, 77, 32, 48], [73, 77, 32, 48], [73, 77, 32, 49], [73, 77, 32, 50]]
def t_oddMoves : List Tx := [[76, 68, 32, 73, 44, 65], [76, 68, 32, 82, 44, 65], [76, 68, 32, 65, 44, 73], [76, 68, 32, 65, 44, 82], [82, 82, 68], [82, 76, 68], [78, 79, 80], [78, 79, 80]]
def t_manyActs : List Tx := [[76, 68], [67, 80], [73, 78], [79, 85, 84]]
def t_manySteps : List Tx := [[73], [68], [73, 82], [68, 82]]

def cMemory (pair : Tx) : Tx := if pair = [72, 76] then sg t_singles 6 else [40] ++ (pair ++ ([43, 100] ++ ([41])))
def cSingle (n : Nat) (pair : Tx) : Tx := if n = 6 then cMemory pair else if pair ≠ [72, 76] ∧ (n = 4 ∨ n = 5) then pair ++ sg t_singles n else sg t_singles n
def cPointing (name pair : Tx) : Tx := if name = [72, 76] then pair else name
def cLoad (to frm : Tx) : Tx := [76, 68, 32] ++ (to ++ ([44] ++ (frm)))
def cLoadEither (q : Nat) (place what : Tx) : Tx := if q = 0 then cLoad place what else cLoad what place
def cPlaced (p : Nat) (pair : Tx) : Tx := if p = 2 then pair else [65]
def cStart (y : Nat) : Tx := if y < 4 then sg t_starts y else [74, 82, 32] ++ (sg t_conditions (y - 4) ++ ([44] ++ ([101])))
def cBack (p : Nat) (pair : Tx) : Tx :=
  if p = 0 then ([82, 69, 84]) else
  if p = 1 then ([69, 88, 88]) else
  if p = 2 then ([74, 80, 32, 40] ++ (pair ++ ([41]))) else
  (cLoad [83, 80] pair)
def cMixed (y : Nat) (pair : Tx) : Tx :=
  if y = 0 then ([74, 80, 32, 110, 110]) else
  if y = 1 then ([67, 66]) else
  if y = 2 then ([79, 85, 84, 32, 40, 110, 41, 44, 65]) else
  if y = 3 then ([73, 78, 32, 65, 44, 40, 110, 41]) else
  if y = 4 then ([69, 88, 32, 40, 83, 80, 41, 44] ++ pair) else
  if y = 5 then ([69, 88, 32, 68, 69, 44, 72, 76]) else
  if y = 6 then ([68, 73]) else
  ([69, 73])
def cAhead (p : Nat) : Tx :=
  if p = 0 then ([67, 65, 76, 76, 32, 110, 110]) else
  if p = 1 then ([68, 68]) else
  if p = 2 then ([69, 68]) else
  ([70, 68])
/-- the digits of a number below 1000 -/
def dec3 (n : Nat) : Tx := if n < 10 then [UInt8.ofNat (48 + n)] else if n < 100 then [UInt8.ofNat (48 + n / 10), UInt8.ofNat (48 + n % 10)] else [UInt8.ofNat (48 + n / 100), UInt8.ofNat (48 + n / 10 % 10), UInt8.ofNat (48 + n % 10)]
def cFirst (y z p q : Nat) (pair : Tx) : Tx :=
  if z = 0 then (cStart y) else
  if z = 1 then (if q = 0 then cLoad (cPointing (sg t_wides p) pair) [110, 110] else [65, 68, 68, 32] ++ (pair ++ ([44] ++ (cPointing (sg t_wides p) pair)))) else
  if z = 2 then (cLoadEither q (sg t_places p) (cPlaced p pair)) else
  if z = 3 then (if q = 0 then [73, 78, 67, 32] ++ cPointing (sg t_wides p) pair else [68, 69, 67, 32] ++ cPointing (sg t_wides p) pair) else
  if z = 4 then ([73, 78, 67, 32] ++ cSingle y pair) else
  if z = 5 then ([68, 69, 67, 32] ++ cSingle y pair) else
  if z = 6 then (cLoad (cSingle y pair) [110]) else
  (sg t_quicks y)
def cMove (y z : Nat) (pair : Tx) : Tx := if y = 6 ∧ z = 6 then [72, 65, 76, 84] else if y = 6 then cLoad (cSingle y pair) (sg t_singles z) else if z = 6 then cLoad (sg t_singles y) (cSingle z pair) else cLoad (cSingle y pair) (cSingle z pair)
def cLast (y z p q : Nat) (pair : Tx) : Tx :=
  if z = 0 then ([82, 69, 84, 32] ++ sg t_conditions y) else
  if z = 1 then (if q = 0 then [80, 79, 80, 32] ++ cPointing (sg t_stacked p) pair else cBack p pair) else
  if z = 2 then ([74, 80, 32] ++ (sg t_conditions y ++ ([44] ++ ([110, 110])))) else
  if z = 3 then (cMixed y pair) else
  if z = 4 then ([67, 65, 76, 76, 32] ++ (sg t_conditions y ++ ([44] ++ ([110, 110])))) else
  if z = 5 then (if q = 0 then [80, 85, 83, 72, 32] ++ cPointing (sg t_stacked p) pair else cAhead p) else
  if z = 6 then (sg t_eightSums y ++ [110]) else
  ([82, 83, 84, 32] ++ dec3 (8 * y))
def cPlain (x y z p q : Nat) (pair : Tx) : Tx :=
  if x = 0 then (cFirst y z p q pair) else
  if x = 1 then (cMove y z pair) else
  if x = 2 then (sg t_eightSums y ++ cSingle z pair) else
  (cLast y z p q pair)
def cOnBits (x y : Nat) (what : Tx) : Tx := if x = 0 then sg t_eightTurns y ++ what else sg t_bitActs x ++ (dec3 y ++ ([44] ++ (what)))
def cOnBitsAt (x y z : Nat) (pair : Tx) : Tx := if x = 1 ∨ z = 6 then cOnBits x y (cMemory pair) else cOnBits x y (cMemory pair) ++ ([44] ++ (sg t_singles z))
def cMany (y z : Nat) : Tx := if 5 < y ∧ z = 3 then [79, 84] ++ sg t_manySteps (y - 4) else sg t_manyActs z ++ sg t_manySteps (y - 4)
def cRareOne (y z p q : Nat) : Tx :=
  if z = 0 then (if y = 6 then [73, 78, 32, 40, 67, 41] else [73, 78, 32] ++ (sg t_singles y ++ ([44, 40, 67, 41]))) else
  if z = 1 then (if y = 6 then [79, 85, 84, 32, 40, 67, 41, 44, 48] else [79, 85, 84, 32, 40, 67, 41, 44] ++ sg t_singles y) else
  if z = 2 then (if q = 0 then [83, 66, 67, 32, 72, 76, 44] ++ sg t_wides p else [65, 68, 67, 32, 72, 76, 44] ++ sg t_wides p) else
  if z = 3 then (cLoadEither q [40, 110, 110, 41] (sg t_wides p)) else
  if z = 4 then ([78, 69, 71]) else
  if z = 5 then (if y = 1 then [82, 69, 84, 73] else [82, 69, 84, 78]) else
  if z = 6 then (sg t_modes (y % 4)) else
  (sg t_oddMoves y)
def cRare (x y z p q : Nat) : Tx := if x = 1 then cRareOne y z p q else if x = 2 ∧ 3 < y ∧ z < 4 then cMany y z else [78, 79, 80]
def pHL : Tx := [72, 76]
def pIX : Tx := [73, 88]
def pIY : Tx := [73, 89]
/-- what package names answers -/
def cPat (page : Int) (n : Nat) : Tx :=
  if page = 0 then cPlain (n / 64) (n / 8 % 8) (n % 8) (n / 16 % 4) (n / 8 % 2) pHL
  else if page = 1 then cOnBits (n / 64) (n / 8 % 8) (sg t_singles (n % 8))
  else if page = 2 then cRare (n / 64) (n / 8 % 8) (n % 8) (n / 16 % 4) (n / 8 % 2)
  else if page = 3 then cPlain (n / 64) (n / 8 % 8) (n % 8) (n / 16 % 4) (n / 8 % 2) pIX
  else if page = 4 then cPlain (n / 64) (n / 8 % 8) (n % 8) (n / 16 % 4) (n / 8 % 2) pIY
  else if page = 5 then cOnBitsAt (n / 64) (n / 8 % 8) (n % 8) pIX
  else if page = 6 then cOnBitsAt (n / 64) (n / 8 % 8) (n % 8) pIY
  else []

/-- the document's: the parts of a text between two marks -/
def rSplitOn (mark : UInt8) : Tx → Tx → List Tx
  | part, [] => [part]
  | part, c :: s => if c = mark then part :: rSplitOn mark [] s else rSplitOn mark (part ++ [c]) s
def rSplit (s : Tx) (mark : UInt8) : List Tx := rSplitOn mark [] s
def x_first : Tx := [78, 79, 80, 124, 76, 68, 32, 66, 67, 44, 110, 110, 124, 76, 68, 32, 40, 66, 67, 41, 44, 65, 124, 73, 78, 67, 32, 66, 67, 124, 73, 78, 67, 32, 66, 124, 68, 69, 67, 32, 66, 124, 76, 68, 32, 66, 44, 110, 124, 82, 76, 67, 65, 124, 69, 88, 32, 65, 70, 44, 65, 70, 39, 124, 65, 68, 68, 32, 72, 76, 44, 66, 67, 124, 76, 68, 32, 65, 44, 40, 66, 67, 41, 124, 68, 69, 67, 32, 66, 67, 124, 73, 78, 67, 32, 67, 124, 68, 69, 67, 32, 67, 124, 76, 68, 32, 67, 44, 110, 124, 82, 82, 67, 65, 124, 68, 74, 78, 90, 32, 101, 124, 76, 68, 32, 68, 69, 44, 110, 110, 124, 76, 68, 32, 40, 68, 69, 41, 44, 65, 124, 73, 78, 67, 32, 68, 69, 124, 73, 78, 67, 32, 68, 124, 68, 69, 67, 32, 68, 124, 76, 68, 32, 68, 44, 110, 124, 82, 76, 65, 124, 74, 82, 32, 101, 124, 65, 68, 68, 32, 72, 76, 44, 68, 69, 124, 76, 68, 32, 65, 44, 40, 68, 69, 41, 124, 68, 69, 67, 32, 68, 69, 124, 73, 78, 67, 32, 69, 124, 68, 69, 67, 32, 69, 124, 76, 68, 32, 69, 44, 110, 124, 82, 82, 65, 124, 74, 82, 32, 78, 90, 44, 101, 124, 76, 68, 32, 72, 76, 44, 110, 110, 124, 76, 68, 32, 40, 110, 110, 41, 44, 72, 76, 124, 73, 78, 67, 32, 72, 76, 124, 73, 78, 67, 32, 72, 124, 68, 69, 67, 32, 72, 124, 76, 68, 32, 72, 44, 110, 124, 68, 65, 65, 124, 74, 82, 32, 90, 44, 101, 124, 65, 68, 68, 32, 72, 76, 44, 72, 76, 124, 76, 68, 32, 72, 76, 44, 40, 110, 110, 41, 124, 68, 69, 67, 32, 72, 76, 124, 73, 78, 67, 32, 76, 124, 68, 69, 67, 32, 76, 124, 76, 68, 32, 76, 44, 110, 124, 67, 80, 76, 124, 74, 82, 32, 78, 67, 44, 101, 124, 76, 68, 32, 83, 80, 44, 110, 110, 124, 76, 68, 32, 40, 110, 110, 41, 44, 65, 124, 73, 78, 67, 32, 83, 80, 124, 73, 78, 67, 32, 40, 72, 76, 41, 124, 68, 69, 67, 32, 40, 72, 76, 41, 124, 76, 68, 32, 40, 72, 76, 41, 44, 110, 124, 83, 67, 70, 124, 74, 82, 32, 67, 44, 101, 124, 65, 68, 68, 32, 72, 76, 44, 83, 80, 124, 76, 68, 32, 65, 44, 40, 110, 110, 41, 124, 68, 69, 67, 32, 83, 80, 124, 73, 78, 67, 32, 65, 124, 68, 69, 67, 32, 65, 124, 76, 68, 32, 65, 44, 110, 124, 67, 67, 70]
def x_last : Tx := [82, 69, 84, 32, 78, 90, 124, 80, 79, 80, 32, 66, 67, 124, 74, 80, 32, 78, 90, 44, 110, 110, 124, 74, 80, 32, 110, 110, 124, 67, 65, 76, 76, 32, 78, 90, 44, 110, 110, 124, 80, 85, 83, 72, 32, 66, 67, 124, 65, 68, 68, 32, 65, 44, 110, 124, 82, 83, 84, 32, 48, 124, 82, 69, 84, 32, 90, 124, 82, 69, 84, 124, 74, 80, 32, 90, 44, 110, 110, 124, 67, 66, 124, 67, 65, 76, 76, 32, 90, 44, 110, 110, 124, 67, 65, 76, 76, 32, 110, 110, 124, 65, 68, 67, 32, 65, 44, 110, 124, 82, 83, 84, 32, 56, 124, 82, 69, 84, 32, 78, 67, 124, 80, 79, 80, 32, 68, 69, 124, 74, 80, 32, 78, 67, 44, 110, 110, 124, 79, 85, 84, 32, 40, 110, 41, 44, 65, 124, 67, 65, 76, 76, 32, 78, 67, 44, 110, 110, 124, 80, 85, 83, 72, 32, 68, 69, 124, 83, 85, 66, 32, 110, 124, 82, 83, 84, 32, 49, 54, 124, 82, 69, 84, 32, 67, 124, 69, 88, 88, 124, 74, 80, 32, 67, 44, 110, 110, 124, 73, 78, 32, 65, 44, 40, 110, 41, 124, 67, 65, 76, 76, 32, 67, 44, 110, 110, 124, 68, 68, 124, 83, 66, 67, 32, 65, 44, 110, 124, 82, 83, 84, 32, 50, 52, 124, 82, 69, 84, 32, 80, 79, 124, 80, 79, 80, 32, 72, 76, 124, 74, 80, 32, 80, 79, 44, 110, 110, 124, 69, 88, 32, 40, 83, 80, 41, 44, 72, 76, 124, 67, 65, 76, 76, 32, 80, 79, 44, 110, 110, 124, 80, 85, 83, 72, 32, 72, 76, 124, 65, 78, 68, 32, 110, 124, 82, 83, 84, 32, 51, 50, 124, 82, 69, 84, 32, 80, 69, 124, 74, 80, 32, 40, 72, 76, 41, 124, 74, 80, 32, 80, 69, 44, 110, 110, 124, 69, 88, 32, 68, 69, 44, 72, 76, 124, 67, 65, 76, 76, 32, 80, 69, 44, 110, 110, 124, 69, 68, 124, 88, 79, 82, 32, 110, 124, 82, 83, 84, 32, 52, 48, 124, 82, 69, 84, 32, 80, 124, 80, 79, 80, 32, 65, 70, 124, 74, 80, 32, 80, 44, 110, 110, 124, 68, 73, 124, 67, 65, 76, 76, 32, 80, 44, 110, 110, 124, 80, 85, 83, 72, 32, 65, 70, 124, 79, 82, 32, 110, 124, 82, 83, 84, 32, 52, 56, 124, 82, 69, 84, 32, 77, 124, 76, 68, 32, 83, 80, 44, 72, 76, 124, 74, 80, 32, 77, 44, 110, 110, 124, 69, 73, 124, 67, 65, 76, 76, 32, 77, 44, 110, 110, 124, 70, 68, 124, 67, 80, 32, 110, 124, 82, 83, 84, 32, 53, 54]
def x_extended : Tx := [73, 78, 32, 66, 44, 40, 67, 41, 124, 79, 85, 84, 32, 40, 67, 41, 44, 66, 124, 83, 66, 67, 32, 72, 76, 44, 66, 67, 124, 76, 68, 32, 40, 110, 110, 41, 44, 66, 67, 124, 78, 69, 71, 124, 82, 69, 84, 78, 124, 73, 77, 32, 48, 124, 76, 68, 32, 73, 44, 65, 124, 73, 78, 32, 67, 44, 40, 67, 41, 124, 79, 85, 84, 32, 40, 67, 41, 44, 67, 124, 65, 68, 67, 32, 72, 76, 44, 66, 67, 124, 76, 68, 32, 66, 67, 44, 40, 110, 110, 41, 124, 78, 69, 71, 124, 82, 69, 84, 73, 124, 73, 77, 32, 48, 124, 76, 68, 32, 82, 44, 65, 124, 73, 78, 32, 68, 44, 40, 67, 41, 124, 79, 85, 84, 32, 40, 67, 41, 44, 68, 124, 83, 66, 67, 32, 72, 76, 44, 68, 69, 124, 76, 68, 32, 40, 110, 110, 41, 44, 68, 69, 124, 78, 69, 71, 124, 82, 69, 84, 78, 124, 73, 77, 32, 49, 124, 76, 68, 32, 65, 44, 73, 124, 73, 78, 32, 69, 44, 40, 67, 41, 124, 79, 85, 84, 32, 40, 67, 41, 44, 69, 124, 65, 68, 67, 32, 72, 76, 44, 68, 69, 124, 76, 68, 32, 68, 69, 44, 40, 110, 110, 41, 124, 78, 69, 71, 124, 82, 69, 84, 78, 124, 73, 77, 32, 50, 124, 76, 68, 32, 65, 44, 82, 124, 73, 78, 32, 72, 44, 40, 67, 41, 124, 79, 85, 84, 32, 40, 67, 41, 44, 72, 124, 83, 66, 67, 32, 72, 76, 44, 72, 76, 124, 76, 68, 32, 40, 110, 110, 41, 44, 72, 76, 124, 78, 69, 71, 124, 82, 69, 84, 78, 124, 73, 77, 32, 48, 124, 82, 82, 68, 124, 73, 78, 32, 76, 44, 40, 67, 41, 124, 79, 85, 84, 32, 40, 67, 41, 44, 76, 124, 65, 68, 67, 32, 72, 76, 44, 72, 76, 124, 76, 68, 32, 72, 76, 44, 40, 110, 110, 41, 124, 78, 69, 71, 124, 82, 69, 84, 78, 124, 73, 77, 32, 48, 124, 82, 76, 68, 124, 73, 78, 32, 40, 67, 41, 124, 79, 85, 84, 32, 40, 67, 41, 44, 48, 124, 83, 66, 67, 32, 72, 76, 44, 83, 80, 124, 76, 68, 32, 40, 110, 110, 41, 44, 83, 80, 124, 78, 69, 71, 124, 82, 69, 84, 78, 124, 73, 77, 32, 49, 124, 78, 79, 80, 124, 73, 78, 32, 65, 44, 40, 67, 41, 124, 79, 85, 84, 32, 40, 67, 41, 44, 65, 124, 65, 68, 67, 32, 72, 76, 44, 83, 80, 124, 76, 68, 32, 83, 80, 44, 40, 110, 110, 41, 124, 78, 69, 71, 124, 82, 69, 84, 78, 124, 73, 77, 32, 50, 124, 78, 79, 80]
def x_ones : Tx := [66, 124, 67, 124, 68, 124, 69, 124, 72, 124, 76, 124, 40, 72, 76, 41, 124, 65]
def rOnes : List Tx := rSplit x_ones 124
def rPlain (n : Nat) : Tx :=
  if n < 64 then sg (rSplit x_first 124) n
  else if n = 118 then [72, 65, 76, 84]
  else if n < 128 then [76, 68, 32] ++ sg rOnes (n / 8 % 8) ++ [44] ++ sg rOnes (n % 8)
  else if n < 192 then sg (rSplit [65, 68, 68, 32, 65, 44, 124, 65, 68, 67, 32, 65, 44, 124, 83, 85, 66, 32, 124, 83, 66, 67, 32, 65, 44, 124, 65, 78, 68, 32, 124, 88, 79, 82, 32, 124, 79, 82, 32, 124, 67, 80, 32] 124) (n / 8 % 8) ++ sg rOnes (n % 8)
  else sg (rSplit x_last 124) (n - 192)
def rBits (n : Nat) (thing : Tx) : Tx :=
  if n < 64 then sg (rSplit [82, 76, 67, 124, 82, 82, 67, 124, 82, 76, 124, 82, 82, 124, 83, 76, 65, 124, 83, 82, 65, 124, 83, 76, 76, 124, 83, 82, 76] 124) (n / 8) ++ [32] ++ thing
  else sg (rSplit [124, 66, 73, 84, 32, 124, 82, 69, 83, 32, 124, 83, 69, 84, 32] 124) (n / 64) ++ [UInt8.ofNat (48 + n / 8 % 8)] ++ [44] ++ thing
def rExtended (n : Nat) : Tx :=
  if 64 ≤ n ∧ n < 128 then sg (rSplit x_extended 124) (n - 64)
  else if 160 ≤ n ∧ n < 192 ∧ n % 8 < 4 then sg (rSplit [76, 68, 73, 124, 67, 80, 73, 124, 73, 78, 73, 124, 79, 85, 84, 73, 124, 76, 68, 68, 124, 67, 80, 68, 124, 73, 78, 68, 124, 79, 85, 84, 68, 124, 76, 68, 73, 82, 124, 67, 80, 73, 82, 124, 73, 78, 73, 82, 124, 79, 84, 73, 82, 124, 76, 68, 68, 82, 124, 67, 80, 68, 82, 124, 73, 78, 68, 82, 124, 79, 84, 68, 82] 124) ((n - 160) / 8 * 4 + n % 8)
  else [78, 79, 80]
/-- the document's replace, at a piece that isn't empty -/
def rRepl : Nat → Tx → Tx → Tx → Tx
  | 0, _, _, _ => []
  | _ + 1, [], _, _ => []
  | f + 1, c :: s, old, by' => if old.isPrefixOf (c :: s) then by' ++ rRepl f ((c :: s).drop old.length) old by' else c :: rRepl f s old by'
def rReplace (s old by' : Tx) : Tx := rRepl s.length s old by'
def rHas (s part : Tx) : Bool := !(rReplace s part [] == s)
/-- the last word of an indexed name, one piece after another -/
def rFix (index : Tx) (x : Tx) : Tx := if x = [72] ∨ x = [76] then index ++ x else x
def rJoin (index : Tx) : Nat → Tx → List Tx → Tx
  | _, out, [] => out
  | i, out, x :: r => rJoin index (i + 1) ((if 0 < i then out ++ [44] else out) ++ rFix index x) r
def rIndexed (n : Nat) (index : Tx) : Tx :=
  let s := rPlain n
  if s = [69, 88, 32, 68, 69, 44, 72, 76] then s
  else if s = [74, 80, 32, 40, 72, 76, 41] then [74, 80, 32, 40] ++ index ++ [41]
  else if rHas s [40, 72, 76, 41] then rReplace s [40, 72, 76, 41] ([40] ++ index ++ [43, 100, 41])
  else if rHas s [72, 76] then rReplace s [72, 76] index
  else if (rSplit s 32).length < 2 then s
  else rJoin index 0 (sg (rSplit s 32) 0 ++ [32]) (rSplit (sg (rSplit s 32) 1) 44)
/-- what the document answers -/
def rPat (page : Int) (n : Nat) : Tx :=
  if page = 0 then rPlain n
  else if page = 1 then rBits n (sg rOnes (n % 8))
  else if page = 2 then rExtended n
  else if page = 3 then rIndexed n pIX
  else if page = 4 then rIndexed n pIY
  else if page = 5 ∨ page = 6 then
    (if n / 64 ≠ 1 ∧ n % 8 ≠ 6 then rBits n ([40] ++ sg [pIX, pIY] (page - 5).toNat ++ [43, 100, 41]) ++ [44] ++ sg rOnes (n % 8)
     else rBits n ([40] ++ sg [pIX, pIY] (page - 5).toNat ++ [43, 100, 41]))
  else []
end Go.Proofs.YtaiceidmcelapaaDoor
