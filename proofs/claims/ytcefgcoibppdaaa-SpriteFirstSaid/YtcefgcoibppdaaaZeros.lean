/-
  Cells that are zeros, and many: asked of a table's row by the kernel. Nothing here speaks of the program.
-/
import Derived.Test.YtcefgcoibppdaaaWords
namespace Go.Proofs.Ytcefgcoibppdaaa
open Go.RowKit

def isZ : Value → Bool
  | .int .u8 (Int.ofNat 0) => true
  | _ => false
def isZeros : List Value → Nat → Bool
  | [], n => n.beq 0
  | v :: r, n => match n with
    | 0 => false
    | m + 1 => isZ v && isZeros r m
theorem isZ_eq {v : Value} (h : isZ v = true) : v = .int .u8 0 := by
  unfold isZ at h; split at h
  · rfl
  · cases h
theorem isZeros_eq : ∀ (l : List Value) (n : Nat), isZeros l n = true → l = List.replicate n (.int .u8 0)
  | [], n, h => by
    have : n = 0 := Nat.eq_of_beq_eq_true h
    subst this; rfl
  | v :: r, 0, h => by simp [isZeros] at h
  | v :: r, m + 1, h => by
    simp only [isZeros, Bool.and_eq_true] at h
    rw [isZ_eq h.1, isZeros_eq r m h.2, List.replicate_succ]
/-- the cells of a type's zero value -/
def zeroCells (i : TypeInfo) : List Value := match i.zero with
  | some (.agg cs) => cs.toList
  | _ => []
def isAggZ (i : TypeInfo) : Bool := match i.zero with
  | some (.agg _) => true
  | _ => false
theorem zero_of {i : TypeInfo} (h : isAggZ i = true) {cs : List Value} (hc : zeroCells i = cs) : i.zero = some (.agg cs.toArray) := by
  unfold isAggZ at h; unfold zeroCells at hc
  split at h
  · next c e => rw [e] at hc ⊢; rw [← hc]
  · cases h
theorem head_drop {α : Type} {l : List α} {a : α} {r : List α} (h : l.head? = some a) (hr : l.drop 1 = r) : l = a :: r := by
  cases l with
  | nil => cases h
  | cons x t => simp at h hr; rw [h, hr]

/-- the numbers are many zeros -/
def zeros (n : Nat) : List Int := List.replicate n 0
theorem zeros_length (n : Nat) : (zeros n).length = n := by simp [zeros]
theorem u8s_zeros (n : Nat) : u8s (zeros n) = List.replicate n (.int .u8 0) := by simp [u8s, zeros]
theorem u8s_append (a b : List Int) : u8s (a ++ b) = u8s a ++ u8s b := by simp [u8s]
theorem zeros_append (a b : Nat) : zeros a ++ zeros b = zeros (a + b) := by simp [zeros]

/-- each number is a byte -/
def Oct (zs : List Int) : Prop := ∀ z ∈ zs, 0 ≤ z ∧ z ≤ 255
theorem Oct.append {a b : List Int} (ha : Oct a) (hb : Oct b) : Oct (a ++ b) := by
  intro z hz
  rcases List.mem_append.1 hz with h | h
  · exact ha z h
  · exact hb z h
theorem Oct.zeros (n : Nat) : Oct (zeros n) := by
  intro z hz
  have := (List.mem_replicate.1 hz).2
  omega
theorem Oct.set {zs : List Int} (h : Oct zs) (i : Nat) {v : Int} (h0 : 0 ≤ v) (h1 : v ≤ 255) : Oct (zs.set i v) := by
  intro z hz
  rcases List.mem_or_eq_of_mem_set hz with h' | rfl
  · exact h z h'
  · exact ⟨h0, h1⟩
theorem Oct.getD {zs : List Int} (h : Oct zs) (i : Nat) : 0 ≤ zs.getD i 0 ∧ zs.getD i 0 ≤ 255 := by
  rw [List.getD_eq_getElem?_getD]
  rcases Nat.lt_or_ge i zs.length with hl | hl
  · rw [List.getElem?_eq_getElem hl]; exact h _ (List.getElem_mem hl)
  · rw [List.getElem?_eq_none hl]; simp

end Go.Proofs.Ytcefgcoibppdaaa
