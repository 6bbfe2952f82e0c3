/-
  What a row of bits is one place on, and that it comes back to itself: plain numbers. Nothing here speaks of the program.
-/
import Derived.Test.YtnkfelflpkbobaaDoorWords
import Derived.Laws.BitsAll
namespace Go.Proofs.YtnkfelflpkbobaaDoor
open Go.RowKit

theorem ret_u16 {a b : Int} (h : a = b) : Ending.returned (.int .u16 a) = .returned (.int .u16 b) := by rw [h]
/-- the bit that goes in at the top -/
def topOf (x : Int) (wh : Bool) : Bool := decide (x % 2 = 1) != (wh && decide (x / 8 % 2 = 1))
/-- the row, one place on -/
def moveOf (x : Int) (wh : Bool) : Int := x / 2 + if topOf x wh = true then 32768 else 0

theorem moveOf_bd (x : Int) (wh : Bool) (h0 : 0 ≤ x) (h1 : x < 65536) : 0 ≤ moveOf x wh ∧ moveOf x wh < 65536 := by
  unfold moveOf; split <;> omega
theorem moveOf_inj (x y : Int) (wh : Bool) (h0 : 0 ≤ x) (h1 : x < 65536) (k0 : 0 ≤ y) (k1 : y < 65536) (h : moveOf x wh = moveOf y wh) : x = y := by
  unfold moveOf topOf at h
  have e1 : x / 2 = y / 2 := by split at h <;> split at h <;> omega
  have e2 : x / 8 = y / 8 := by omega
  have e3 : ∀ p q r : Bool, (p != r) = (q != r) → p = q := by decide
  have e4 : decide (x % 2 = 1) = decide (y % 2 = 1) := by
    refine e3 _ _ (wh && decide (x / 8 % 2 = 1)) ?_
    rw [← e2] at h
    split at h <;> split at h
    · rename_i a b; rw [a, b]
    · omega
    · omega
    · rename_i a b; rw [Bool.not_eq_true] at a b; rw [a, b]
  rw [decide_eq_decide] at e4
  omega
theorem moveOf_zero (x : Int) (wh : Bool) (h0 : 0 ≤ x) (h1 : x < 65536) : moveOf x wh = 0 ↔ x = 0 := by
  constructor
  · intro h
    refine moveOf_inj x 0 wh h0 h1 (by omega) (by omega) ?_
    rw [h]; cases wh <;> rfl
  · rintro rfl; cases wh <;> rfl

/-- behind k Moves -/
def goOf (x : Int) (wh : Bool) : Nat → Int
  | 0 => x
  | k + 1 => moveOf (goOf x wh k) wh
theorem goOf_bd (x : Int) (wh : Bool) (h0 : 0 ≤ x) (h1 : x < 65536) (k : Nat) : 0 ≤ goOf x wh k ∧ goOf x wh k < 65536 := by
  induction k with
  | zero => exact ⟨h0, h1⟩
  | succ k ih => exact moveOf_bd _ wh ih.1 ih.2
theorem goOf_pos (x : Int) (wh : Bool) (h0 : 0 < x) (h1 : x < 65536) (k : Nat) : 0 < goOf x wh k := by
  induction k with
  | zero => exact h0
  | succ k ih =>
    have b := goOf_bd x wh (by omega) h1 k
    have c := moveOf_bd _ wh b.1 b.2
    have d := moveOf_zero (goOf x wh k) wh b.1 b.2
    show 0 < moveOf (goOf x wh k) wh
    omega
theorem goOf_back (x : Int) (wh : Bool) (h0 : 0 ≤ x) (h1 : x < 65536) (i d : Nat) : goOf x wh (i + d) = goOf x wh i → goOf x wh d = x := by
  induction i with
  | zero => intro h; rwa [Nat.zero_add] at h
  | succ i ih =>
    intro h
    have e : i + 1 + d = (i + d) + 1 := by omega
    rw [e] at h
    have b := goOf_bd x wh h0 h1 (i + d)
    have c := goOf_bd x wh h0 h1 i
    exact ih (moveOf_inj _ _ wh b.1 b.2 c.1 c.2 h)

/-- of more numbers than there are places two are the same -/
theorem pigeons (n : Nat) : ∀ f : Nat → Nat, (∀ k, k ≤ n → f k < n) → ∃ i j, i < j ∧ j ≤ n ∧ f i = f j := by
  induction n with
  | zero => intro f h; exact absurd (h 0 (Nat.le_refl _)) (by omega)
  | succ n ih =>
    intro f h
    by_cases hx : ∃ i, i ≤ n ∧ f i = f (n + 1)
    · obtain ⟨i, hi, he⟩ := hx
      exact ⟨i, n + 1, by omega, Nat.le_refl _, he⟩
    · have hne : ∀ i, i ≤ n → f i ≠ f (n + 1) := fun i hi he => hx ⟨i, hi, he⟩
      obtain ⟨i, j, hij, hj, he⟩ := ih (fun k => if f k = n then f (n + 1) else f k) (by
        intro k hk
        have a := h k (by omega)
        have b := h (n + 1) (Nat.le_refl _)
        have c := hne k hk
        show (if f k = n then f (n + 1) else f k) < n
        split <;> omega)
      refine ⟨i, j, hij, by omega, ?_⟩
      have a := hne i (by omega)
      have b := hne j (by omega)
      change (if f i = n then f (n + 1) else f i) = (if f j = n then f (n + 1) else f j) at he
      split at he <;> split at he <;> omega

/-- a row comes back, behind fewer than 65536 Moves; and there is a first time -/
theorem first_time (p : Nat → Prop) (n : Nat) : p n → ∃ m, m ≤ n ∧ p m ∧ ∀ k, k < m → ¬ p k := by
  induction n using Nat.strongRecOn with
  | _ n ih =>
    intro h
    by_cases hx : ∃ k, k < n ∧ p k
    · obtain ⟨k, hk, pk⟩ := hx
      obtain ⟨m, hm, pm, first⟩ := ih k hk pk
      exact ⟨m, by omega, pm, first⟩
    · exact ⟨n, Nat.le_refl _, h, fun k hk pk => hx ⟨k, hk, pk⟩⟩
theorem comes_back (x : Int) (wh : Bool) (h0 : 0 < x) (h1 : x < 65536) :
    ∃ n : Nat, 1 ≤ n ∧ n < 65536 ∧ goOf x wh n = x ∧ ∀ k, 1 ≤ k → k < n → goOf x wh k ≠ x := by
  obtain ⟨i, j, hij, hj, he⟩ := pigeons 65535 (fun k => (goOf x wh k).toNat - 1) (by
    intro k _
    have a := goOf_pos x wh h0 h1 k
    have b := goOf_bd x wh (by omega) h1 k
    show (goOf x wh k).toNat - 1 < 65535
    omega)
  have a := goOf_pos x wh h0 h1 i
  have b := goOf_pos x wh h0 h1 j
  change (goOf x wh i).toNat - 1 = (goOf x wh j).toNat - 1 at he
  have he' : goOf x wh j = goOf x wh i := by omega
  have hb := goOf_back x wh (by omega) h1 i (j - i) (by rwa [show i + (j - i) = j by omega])
  obtain ⟨m, hm, ⟨hm1, hm2⟩, first⟩ := first_time (fun k => 1 ≤ k ∧ goOf x wh k = x) (j - i) ⟨by omega, hb⟩
  exact ⟨m, hm1, by omega, hm2, fun k k1 k2 kx => first k k2 ⟨k1, kx⟩⟩

theorem bit0 (x : Int) (h0 : 0 ≤ x) (h1 : x < 65536) : bits .and .u16 x 1 = x % 2 := by go_bits2
theorem bit3 (x : Int) (h0 : 0 ≤ x) (h1 : x < 65536) : bits .and .u16 x 8 = x / 8 % 2 * 8 := by go_bits2
theorem bit15 (x : Int) (h0 : 0 ≤ x) (h1 : x < 32768) : bits .or .u16 x 32768 = x + 32768 := by go_bits2

end Go.Proofs.YtnkfelflpkbobaaDoor
