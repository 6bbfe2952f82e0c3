/-
  The ground as functions: which entry, which dot, its color, whether it is in front.
-/
import Derived.Test.YtnkckdlolieojaaDotV
import Derived.Test.YtnkckdlolieojaaVram
namespace Go.Proofs.Ytnkckdlolieojaa
open Go.RowKit

/-- the entry's place -/
def baQ (r2 q c : Nat) : Nat := 1024 * (r2 / 2 % 8 * 2) + 64 * (q / 8) + 2 * (c / 8)
def baN (n : Nat) (xs : Nat → Nat) (r2 q c : Nat) : Nat := vget n xs (baQ r2 q c) + 256 * vget n xs (baQ r2 q c + 1)
def baR (h q : Nat) : Nat := if h / 2 % 2 = 1 then 7 - q % 8 else q % 8
def baC (h c : Nat) : Nat := if h % 2 = 1 then 7 - c % 8 else c % 8
/-- a dot of a tile -/
def tDot (n : Nat) (xs : Nat → Nat) (e r i : Nat) : Nat := dotV (vget n xs (32 * e + 4 * r)) (vget n xs (32 * e + 4 * r + 1)) (vget n xs (32 * e + 4 * r + 2)) (vget n xs (32 * e + 4 * r + 3)) (2 ^ (7 - i))
def baD (n : Nat) (xs : Nat → Nat) (m q c : Nat) : Nat := tDot n xs (m % 512) (baR (m / 512 % 16) q) (baC (m / 512 % 16) c)
def baV (d h : Nat) : Nat := d + 16 * (h / 4 % 2)
def baF (d h : Nat) : Bool := decide (h / 8 = 1) && decide (0 < d)
def baCol (r0 r8 line x : Nat) : Nat := if r0 / 64 % 2 = 1 ∧ line < 16 then x else (x + 256 - r8) % 256
def baRow (r0 r9 line x : Nat) : Nat := if r0 / 128 = 1 ∧ 192 ≤ x then line else (line + r9) % 224
/-- the color at a column of a line of the picture, and whether it is in front -/
def gColor (n : Nat) (xs : Nat → Nat) (r0 r2 r8 r9 line x : Nat) : Nat :=
  baV (baD n xs (baN n xs r2 (baRow r0 r9 line x) (baCol r0 r8 line x)) (baRow r0 r9 line x) (baCol r0 r8 line x)) (baN n xs r2 (baRow r0 r9 line x) (baCol r0 r8 line x) / 512 % 16)
def gFront (n : Nat) (xs : Nat → Nat) (r0 r2 r8 r9 line x : Nat) : Bool :=
  baF (baD n xs (baN n xs r2 (baRow r0 r9 line x) (baCol r0 r8 line x)) (baRow r0 r9 line x) (baCol r0 r8 line x)) (baN n xs r2 (baRow r0 r9 line x) (baCol r0 r8 line x) / 512 % 16)

theorem dotV_lt (a b c d p : Nat) : dotV a b c d p < 16 := by unfold dotV; omega
theorem tDot_lt (n : Nat) (xs : Nat → Nat) (e r i : Nat) : tDot n xs e r i < 16 := dotV_lt _ _ _ _ _
theorem baD_lt (n : Nat) (xs : Nat → Nat) (m q c : Nat) : baD n xs m q c < 16 := tDot_lt _ _ _ _ _
theorem baV_lt {d : Nat} (h : Nat) (hd : d < 16) : baV d h < 32 := by unfold baV; omega
theorem gColor_lt (n : Nat) (xs : Nat → Nat) (r0 r2 r8 r9 line x : Nat) : gColor n xs r0 r2 r8 r9 line x < 32 := baV_lt _ (baD_lt _ _ _ _ _)
theorem baCol_lt {r0 r8 line x : Nat} (hx : x < 256) : baCol r0 r8 line x < 256 := by unfold baCol; split <;> omega
theorem baRow_lt {r0 r9 line x : Nat} (hl : line < 192) : baRow r0 r9 line x < 224 := by unfold baRow; split <;> omega
theorem baR_lt (h q : Nat) : baR h q < 8 := by unfold baR; split <;> omega
theorem baC_lt (h c : Nat) : baC h c < 8 := by unfold baC; split <;> omega
theorem baQ_lt (r2 q c : Nat) (hq : q < 224) (hc : c < 256) : baQ r2 q c ≤ 16126 := by unfold baQ; omega

end Go.Proofs.Ytnkckdlolieojaa
