/-
  A line of sprites as functions: each dot, the first that is seen, whether two meet.
-/
import Derived.Test.YtcefgcoibppdaaaSpSpec
import Derived.Test.YtcefgcoibppdaaaDotV
namespace Go.Proofs.Ytcefgcoibppdaaa
open Go.RowKit

/-- a dot of a tile, by number, row and column of any size -/
def tAt (n : Nat) (xs : Nat → Nat) (e r i : Nat) : Nat := dotV (vget n xs (32 * (e % 512) + 4 * (r % 8))) (vget n xs (32 * (e % 512) + 4 * (r % 8) + 1)) (vget n xs (32 * (e % 512) + 4 * (r % 8) + 2)) (vget n xs (32 * (e % 512) + 4 * (r % 8) + 3)) (2 ^ (7 - i))
/-- the dot at x of a line, of a sprite of that Y, X and tile; D: dots of tiles -/
def spDotV (D : Nat → Nat → Nat → Nat) (r0 r1 r6 : Nat) (line : Int) (y X t x : Nat) : Nat :=
  if (x : Int) - ((X : Int) - 8 * (r0 / 8 % 2 : Nat)) < 0 ∨ (8 * (1 + r1 % 2) : Nat) ≤ (x : Int) - ((X : Int) - 8 * (r0 / 8 % 2 : Nat)) then 0
  else if 8 ≤ (line - spTop y).toNat / (1 + r1 % 2) then D ((if r1 / 2 % 2 = 1 then (t + 256 * (r6 / 4 % 2)) / 2 * 2 else t + 256 * (r6 / 4 % 2)) + 1) ((line - spTop y).toNat / (1 + r1 % 2) - 8) (((x : Int) - ((X : Int) - 8 * (r0 / 8 % 2 : Nat))).toNat / (1 + r1 % 2))
  else D (if r1 / 2 % 2 = 1 then (t + 256 * (r6 / 4 % 2)) / 2 * 2 else t + 256 * (r6 / 4 % 2)) ((line - spTop y).toNat / (1 + r1 % 2)) (((x : Int) - ((X : Int) - 8 * (r0 / 8 % 2 : Nat))).toNat / (1 + r1 % 2))
/-- the color of what is first -/
def spCol : List Nat → Nat
  | [] => 0
  | d :: ds => if d = 0 then spCol ds else 16 + d
/-- how many there are -/
def spCnt : List Nat → Nat
  | [] => 0
  | d :: ds => if d = 0 then spCnt ds else 1 + spCnt ds
def spDot (n : Nat) (xs : Nat → Nat) (r0 r1 r5 r6 : Nat) (line : Int) (x i : Nat) : Nat :=
  spDotV (tAt n xs) r0 r1 r6 line (mem n xs (spBase r5 + i)) (mem n xs (spBase r5 + 128 + 2 * i)) (mem n xs (spBase r5 + 129 + 2 * i)) x
/-- what is on a line -/
def spL (n : Nat) (xs : Nat → Nat) (r1 r5 : Nat) (line : Int) : List Nat := spAll (spY n xs r5) (spH r1) line
def spDots (n : Nat) (xs : Nat → Nat) (r0 r1 r5 r6 : Nat) (line : Int) (x : Nat) : List Nat := ((spL n xs r1 r5 line).take 8).map (spDot n xs r0 r1 r5 r6 line x)
def spC (n : Nat) (xs : Nat → Nat) (r0 r1 r5 r6 : Nat) (line : Int) (x : Nat) : Nat := spCol (spDots n xs r0 r1 r5 r6 line x)
def spO (n : Nat) (xs : Nat → Nat) (r1 r5 : Nat) (line : Int) : Bool := decide (8 < (spL n xs r1 r5 line).length)
def spK (n : Nat) (xs : Nat → Nat) (r0 r1 r5 r6 : Nat) (line : Int) : Bool := (List.range 256).any fun x => decide (2 ≤ spCnt (spDots n xs r0 r1 r5 r6 line x))
theorem spCol_lt : ∀ l : List Nat, (∀ d ∈ l, d < 16) → spCol l < 32
  | [], _ => by simp [spCol]
  | d :: ds, h => by
    unfold spCol
    have h1 := h d (by simp)
    have h2 := spCol_lt ds fun x hx => h x (by simp [hx])
    split <;> omega
theorem tAt_lt (n : Nat) (xs : Nat → Nat) (e r i : Nat) : tAt n xs e r i < 16 := by unfold tAt dotV; omega
theorem spDotV_lt {D : Nat → Nat → Nat → Nat} (hD : ∀ e r i, D e r i < 16) (r0 r1 r6 : Nat) (line : Int) (y X t x : Nat) : spDotV D r0 r1 r6 line y X t x < 16 := by
  unfold spDotV
  split
  · omega
  · split <;> exact hD _ _ _
theorem spC_lt (n : Nat) (xs : Nat → Nat) (r0 r1 r5 r6 : Nat) (line : Int) (x : Nat) : spC n xs r0 r1 r5 r6 line x < 32 := by
  refine spCol_lt _ fun d hd => ?_
  obtain ⟨i, _, rfl⟩ := List.mem_map.1 hd
  exact spDotV_lt (tAt_lt n xs) _ _ _ _ _ _ _ _
/-- a slice of numbers in memory from before -/
def NumRow (w : World) (a : Option Addr) (L : List Nat) : Prop :=
  0 < L.length → ∃ g o, a = some ⟨g, o, none⟩ ∧ g < w.heap.size ∧ ∀ (i x : Nat), L[i]? = some x → w.cell? ⟨g, o + i, none⟩ = some (.int .i64 (x : Int))
theorem NumRow.under {w w' : World} {a : Option Addr} {L : List Nat} (h : NumRow w a L) (hb : Below w.heap.size w w') : NumRow w' a L := by
  intro hn
  obtain ⟨g, o, rfl, hg, hc⟩ := h hn
  exact ⟨g, o, rfl, Nat.lt_of_lt_of_le hg hb.size, fun i x hx => (hb.cell (p := ⟨g, o + i, none⟩) hg).trans (hc i x hx)⟩

end Go.Proofs.Ytcefgcoibppdaaa
