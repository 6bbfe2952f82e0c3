/-
  What events are as plain data: what a line's beginning makes of them, what is told, when something is new.
-/
import Derived.Test.YtoinngodknffeaaOwn
namespace Go.Proofs.Ytoinngodknffeaa
open Go.RowKit

theorem aggE : Agg Try.prog 23 5 := ⟨⟨_, Try.underlying23, rfl⟩, by kernel_rfl⟩
theorem oneInt : One Try.prog 3 := ⟨⟨_, Try.underlying3, rfl⟩, by kernel_rfl⟩
theorem oneBool : One Try.prog 4 := ⟨⟨_, Try.underlying4, rfl⟩, by kernel_rfl⟩
theorem oneU8 : One Try.prog 5 := ⟨⟨_, Try.underlying5, rfl⟩, by kernel_rfl⟩
theorem zeroE : Zero Try.prog 23 [.int .u8 0, .bool false, .bool false, .bool false, .bool false] := ⟨.agg #[.int .u8 0, .bool false, .bool false, .bool false, .bool false], fun _ => by kernel_rfl, rfl⟩
theorem Own.fin {W0 w : World} {l : List (Nat × TypeId × List Value)} (h : Hid (Own W0 w l)) : Below W0.heap.size W0 w := h.out.below

/-- a line begins: the count, the line's event, the frame's -/
def stN (n l r : Int) : Int := if l < 0 ∨ 261 < l then n else if 192 < l then r else if n = 0 then r else n - 1
def stL (n l : Int) (L : Bool) : Bool := if 0 ≤ l ∧ l ≤ 192 ∧ n = 0 then true else L
def stF (l : Int) (F : Bool) : Bool := if l = 192 then true else F
structure St (n l r : Int) (L F : Bool) (n' : Int) (L' F' : Bool) : Prop where
  hn : stN n l r = n'
  hL : stL n l L = L'
  hF : stF l F = F'
theorem St.of (n l r : Int) (L F : Bool) : ∃ n' L' F', Hid (St n l r L F n' L' F') := ⟨_, _, _, ⟨rfl, rfl, rfl⟩⟩
theorem St.bd {n l r : Int} {L F : Bool} {n' : Int} {L' F' : Bool} (h : St n l r L F n' L' F') (n0 : 0 ≤ n) (n1 : n < 256) (r0 : 0 ≤ r) (r1 : r < 256) : 0 ≤ n' ∧ n' < 256 := by
  rw [← h.hn]; unfold stN; (repeat' split) <;> omega
/-- what is told -/
def told (F O C : Bool) : Int := 31 + (if F then 128 else 0) + (if O then 64 else 0) + (if C then 32 else 0)
/-- is something asked? -/
def asksB (L F : Bool) (z o : Int) : Bool := (F && o / 32 % 2 == 1) || (L && z / 16 % 2 == 1)
/-- how many starts till something is new -/
def toL (n l r : Int) : Int := if l + n ≤ 192 then n + 1 else if r ≤ 192 then 262 - l + r + 1 else 0
def toF (l : Int) : Int := (454 - l) % 262 + 1
def soon (a b : Int) : Int := if a = 0 then b else if b = 0 then a else if a ≤ b then a else b
def waitV (n l r : Int) (L F : Bool) : Int := if l < 0 ∨ 261 < l then 0 else soon (if L then 0 else toL n l r) (if F then 0 else toF l)
/-- is something new? -/
def freshB (n l : Int) (L F : Bool) : Bool := (decide (l ≤ 192 ∧ n = 0) && !L) || (decide (l = 192) && !F)
def nextL (l : Int) : Int := if l = 261 then 0 else l + 1

theorem fresh_of {n l r : Int} {L F : Bool} {n' : Int} {L' F' : Bool} (h : St n l r L F n' L' F') (l0 : 0 ≤ l) :
    ((L' != L) || (F' != F)) = freshB n l L F ∧ ((L' != L) = true ∨ (L' = L ∧ (F' != F) = freshB n l L F)) ∧ (freshB n l L F = false → L' = L ∧ F' = F) := by
  obtain ⟨-, rfl, rfl⟩ := h
  have e1 : stL n l L = (decide (l ≤ 192 ∧ n = 0) || L) := by
    unfold stL
    by_cases h1 : l ≤ 192 ∧ n = 0
    · rw [if_pos ⟨l0, h1.1, h1.2⟩, decide_eq_true h1]; rfl
    · rw [if_neg (fun q => h1 ⟨q.2.1, q.2.2⟩), decide_eq_false h1]; rfl
  have e2 : stF l F = (decide (l = 192) || F) := by
    unfold stF
    by_cases h1 : l = 192
    · rw [if_pos h1, decide_eq_true h1]; rfl
    · rw [if_neg h1, decide_eq_false h1]; rfl
  rw [e1, e2]
  unfold freshB
  generalize decide (l ≤ 192 ∧ n = 0) = A
  generalize decide (l = 192) = B
  cases A <;> cases B <;> cases L <;> cases F <;> simp
theorem toF_next {l : Int} (l0 : 0 ≤ l) (l1 : l < 262) (h : ¬ l = 192) : 1 < toF l ∧ toF (nextL l) = toF l - 1 := by
  unfold toF nextL; split <;> omega
theorem toF_now {l : Int} (h : l = 192) : toF l = 1 := by subst h; decide
theorem toF_bd (l : Int) : 1 ≤ toF l ∧ toF l ≤ 262 := by unfold toF; omega
theorem toL_bd {n l r : Int} (n0 : 0 ≤ n) (r0 : 0 ≤ r) (l0 : 0 ≤ l) (l1 : l < 262) : 0 ≤ toL n l r ∧ toL n l r < 700 := by
  unfold toL; (repeat' split) <;> omega
theorem toL_now {n l r : Int} (h : l ≤ 192) (h2 : n = 0) : toL n l r = 1 := by unfold toL; rw [if_pos (by omega)]; omega
theorem toL_next {n l r : Int} (n0 : 0 ≤ n) (r0 : 0 ≤ r) (l0 : 0 ≤ l) (l1 : l < 262) (h : ¬ (l ≤ 192 ∧ n = 0)) :
    (toL n l r = 0 ∧ toL (stN n l r) (nextL l) r = 0) ∨ (1 < toL n l r ∧ toL (stN n l r) (nextL l) r = toL n l r - 1) := by
  unfold stN
  rw [if_neg (by omega)]
  by_cases h3 : 192 < l
  · rw [if_pos h3]
    unfold toL nextL
    by_cases h4 : l = 261
    · rw [if_pos h4]; (repeat' split) <;> omega
    · rw [if_neg h4]; (repeat' split) <;> omega
  · rw [if_neg h3, if_neg (by omega)]
    unfold toL nextL
    (repeat' split) <;> omega
theorem wait_fresh {n l r : Int} {L F : Bool} (n0 : 0 ≤ n) (r0 : 0 ≤ r) (l0 : 0 ≤ l) (l1 : l < 262) (h : freshB n l L F = true) : waitV n l r L F = 1 := by
  have a := toF_bd l
  have b := toL_bd n0 r0 l0 l1
  have e : (l ≤ 192 ∧ n = 0 ∧ L = false) ∨ (l = 192 ∧ F = false) := by
    unfold freshB at h
    cases L <;> cases F <;> simp at h ⊢ <;> omega
  unfold waitV
  rw [if_neg (by omega)]
  rcases e with ⟨h1, h2, rfl⟩ | ⟨h1, rfl⟩
  · rw [toL_now h1 h2]
    cases F
    · show soon 1 (toF l) = 1
      unfold soon; (repeat' split) <;> omega
    · rfl
  · rw [toF_now h1]
    cases L
    · show soon (toL n l r) 1 = 1
      unfold soon; (repeat' split) <;> omega
    · rfl
theorem wait_next {n l r : Int} {L F : Bool} {n' : Int} {L' F' : Bool} (hs : St n l r L F n' L' F') (n0 : 0 ≤ n) (r0 : 0 ≤ r) (l0 : 0 ≤ l) (l1 : l < 262) (h : freshB n l L F = false) :
    (waitV n l r L F = 0 ∧ waitV n' (nextL l) r L F = 0) ∨ (1 < waitV n l r L F ∧ waitV n' (nextL l) r L F = waitV n l r L F - 1) := by
  obtain ⟨rfl, -, -⟩ := hs
  have hb : ¬ (nextL l < 0 ∨ 261 < nextL l) := by unfold nextL; split <;> omega
  unfold waitV
  rw [if_neg (by omega), if_neg hb]
  have hL : L = false → ¬ (l ≤ 192 ∧ n = 0) := by
    rintro rfl q
    unfold freshB at h
    rw [decide_eq_true q] at h
    simp at h
  have hF : F = false → ¬ l = 192 := by
    rintro rfl q
    unfold freshB at h
    rw [decide_eq_true q] at h
    simp at h
  cases L
  · have a := toL_next n0 r0 l0 l1 (hL rfl)
    have b := toL_bd n0 r0 l0 l1
    cases F
    · have c := toF_next l0 l1 (hF rfl)
      show (soon (toL n l r) (toF l) = 0 ∧ soon (toL (stN n l r) (nextL l) r) (toF (nextL l)) = 0) ∨ (1 < soon (toL n l r) (toF l) ∧ soon (toL (stN n l r) (nextL l) r) (toF (nextL l)) = soon (toL n l r) (toF l) - 1)
      generalize toL n l r = A at a b ⊢
      generalize toL (stN n l r) (nextL l) r = A' at a ⊢
      generalize toF l = B at c ⊢
      generalize toF (nextL l) = B' at c ⊢
      unfold soon
      (repeat' split) <;> omega
    · show (soon (toL n l r) 0 = 0 ∧ soon (toL (stN n l r) (nextL l) r) 0 = 0) ∨ (1 < soon (toL n l r) 0 ∧ soon (toL (stN n l r) (nextL l) r) 0 = soon (toL n l r) 0 - 1)
      have e (x : Int) : soon x 0 = x := by unfold soon; (repeat' split) <;> omega
      rw [e, e]
      omega
  · cases F
    · have c := toF_next l0 l1 (hF rfl)
      show (toF l = 0 ∧ toF (nextL l) = 0) ∨ (1 < toF l ∧ toF (nextL l) = toF l - 1)
      omega
    · left; exact ⟨rfl, rfl⟩
theorem soon_bd {a b : Int} (h : 0 ≤ a ∧ a < 700) (h' : 0 ≤ b ∧ b < 700) : 0 ≤ soon a b ∧ soon a b < 700 := by
  unfold soon; (repeat' split) <;> omega
theorem wait_bd {n l r : Int} {L F : Bool} (n0 : 0 ≤ n) (r0 : 0 ≤ r) : 0 ≤ waitV n l r L F ∧ waitV n l r L F < 700 := by
  unfold waitV
  split
  · omega
  · have a := toF_bd l
    have b := toL_bd (n := n) (r := r) (l := l) n0 r0 (by omega) (by omega)
    refine soon_bd ?_ ?_
    · split <;> omega
    · split <;> omega
theorem next_bd {l : Int} (l0 : 0 ≤ l) (l1 : l < 262) : 0 ≤ nextL l ∧ nextL l < 262 ∧ (l + 1) % 262 = nextL l := by
  unfold nextL; split <;> omega

end Go.Proofs.Ytoinngodknffeaa
