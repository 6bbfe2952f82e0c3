/-
  Registers as plain data: a structure, its cells, and what is read, set, swapped and counted. Nothing here speaks of the program.
-/
import Derived.Test.YthehpkhhoimecaaDoorSumSpec
namespace Go.Proofs.YthehpkhhoimecaaDoor
open Go.RowKit

structure Rg where
  a : Nat
  f : Nat
  b : Nat
  c : Nat
  d : Nat
  e : Nat
  h : Nat
  l : Nat
  x0 : Nat
  x1 : Nat
  x2 : Nat
  x3 : Nat
  x4 : Nat
  x5 : Nat
  x6 : Nat
  x7 : Nat
  ix : Nat
  iy : Nat
  sp : Nat
  pc : Nat
  wz : Nat
  i : Nat
  r : Nat
  im : Nat
  px : Nat
  q1 : Bool
  q2 : Bool
  ht : Bool
  dl : Bool

def Rg.cells (r : Rg) : List Value := [.int .u8 (r.a : Int), .int .u8 (r.f : Int), .int .u8 (r.b : Int), .int .u8 (r.c : Int), .int .u8 (r.d : Int), .int .u8 (r.e : Int), .int .u8 (r.h : Int), .int .u8 (r.l : Int),
  .int .u8 (r.x0 : Int), .int .u8 (r.x1 : Int), .int .u8 (r.x2 : Int), .int .u8 (r.x3 : Int), .int .u8 (r.x4 : Int), .int .u8 (r.x5 : Int), .int .u8 (r.x6 : Int), .int .u8 (r.x7 : Int),
  .int .u16 (r.ix : Int), .int .u16 (r.iy : Int), .int .u16 (r.sp : Int), .int .u16 (r.pc : Int), .int .u16 (r.wz : Int), .int .u8 (r.i : Int), .int .u8 (r.r : Int), .int .u8 (r.im : Int), .int .u8 (r.px : Int),
  .bool r.q1, .bool r.q2, .bool r.ht, .bool r.dl]
abbrev Rg.v (r : Rg) : Value := .agg r.cells.toArray
theorem Rg.cells_length (r : Rg) : r.cells.length = 29 := rfl
theorem Rg.one1 (r : Rg) : r.cells.all (·.oneCell') = true := rfl

/-- the cells' kinds hold these numbers -/
structure Rg.Fits (R : Rg) : Prop where
  a : R.a < 256
  f : R.f < 256
  b : R.b < 256
  c : R.c < 256
  d : R.d < 256
  e : R.e < 256
  h : R.h < 256
  l : R.l < 256
  x0 : R.x0 < 256
  x1 : R.x1 < 256
  x2 : R.x2 < 256
  x3 : R.x3 < 256
  x4 : R.x4 < 256
  x5 : R.x5 < 256
  x6 : R.x6 < 256
  x7 : R.x7 < 256
  ix : R.ix < 65536
  iy : R.iy < 65536
  sp : R.sp < 65536
  pc : R.pc < 65536
  wz : R.wz < 65536
  i : R.i < 256
  r : R.r < 256
  im : R.im < 256
  px : R.px < 256

/-- the pair of a number, or 0 -/
def Rg.pair (r : Rg) (n : Int) : Nat :=
  if n = 0 then r.b * 256 + r.c else if n = 1 then r.d * 256 + r.e else if n = 2 then r.h * 256 + r.l else if n = 3 then r.sp else if n = 4 then r.a * 256 + r.f else if n = 5 then r.ix else if n = 6 then r.iy else 0
def Rg.setPair (r : Rg) (n : Int) (v : Nat) : Rg :=
  if n = 0 then { r with b := v / 256, c := v % 256 } else if n = 1 then { r with d := v / 256, e := v % 256 } else if n = 2 then { r with h := v / 256, l := v % 256 } else if n = 3 then { r with sp := v }
  else if n = 4 then { r with a := v / 256, f := v % 256 } else if n = 5 then { r with ix := v } else if n = 6 then { r with iy := v } else r
def rgIdx (px : Nat) : Int := if px = 221 then 5 else if px = 253 then 6 else 2
/-- the register of a number, or 0 -/
def Rg.one (r : Rg) (n : Int) (px : Nat) : Nat :=
  if n = 0 then r.b else if n = 1 then r.c else if n = 2 then r.d else if n = 3 then r.e else if n = 7 then r.a else if n = 4 then r.pair (rgIdx px) / 256 else if n = 5 then r.pair (rgIdx px) % 256 else 0
def Rg.setOne (r : Rg) (n : Int) (px v : Nat) : Rg :=
  if n = 0 then { r with b := v } else if n = 1 then { r with c := v } else if n = 2 then { r with d := v } else if n = 3 then { r with e := v } else if n = 7 then { r with a := v }
  else if n = 4 then r.setPair (rgIdx px) (v * 256 + r.pair (rgIdx px) % 256) else if n = 5 then r.setPair (rgIdx px) (r.pair (rgIdx px) / 256 * 256 + v) else r
def Rg.swap (r : Rg) (all : Bool) : Rg :=
  cond all { r with b := r.x2, c := r.x3, d := r.x4, e := r.x5, h := r.x6, l := r.x7, x2 := r.b, x3 := r.c, x4 := r.d, x5 := r.e, x6 := r.h, x7 := r.l }
    { r with a := r.x0, f := r.x1, x0 := r.a, x1 := r.f }
def Rg.tick (r : Rg) : Rg := { r with r := r.r / 128 * 128 + (r.r % 128 + 1) % 128 }
def Rg.right (r : Rg) : Bool := decide (r.im ≤ 2) && (decide (r.px = 0) || decide (r.px = 221) || decide (r.px = 253))

theorem Rg.pair_lt (r : Rg) (h : r.Fits) (n : Int) : r.pair n < 65536 := by
  have := h.a; have := h.f; have := h.b; have := h.c; have := h.d; have := h.e; have := h.h; have := h.l; have := h.ix; have := h.iy; have := h.sp
  unfold Rg.pair; (repeat' split) <;> omega
theorem rgIdx_cases (px : Nat) : rgIdx px = 5 ∨ rgIdx px = 6 ∨ rgIdx px = 2 := by unfold rgIdx; (repeat' split) <;> simp
theorem Rg.setPair_fits (r : Rg) (h : r.Fits) (n : Int) (v : Nat) (hv : v < 65536) : (r.setPair n v).Fits := by
  unfold Rg.setPair
  (repeat' split) <;> first | exact h | (constructor <;> first | exact h.a | exact h.f | exact h.b | exact h.c | exact h.d | exact h.e | exact h.h | exact h.l | exact h.x0 | exact h.x1 | exact h.x2 | exact h.x3 | exact h.x4 | exact h.x5 | exact h.x6 | exact h.x7 | exact h.ix | exact h.iy | exact h.sp | exact h.pc | exact h.wz | exact h.i | exact h.r | exact h.im | exact h.px | (show _ < _; omega) | (simp only; omega))
/-- the eight cases of a pair's number -/
theorem pair_cases (n : Int) : n = 0 ∨ n = 1 ∨ n = 2 ∨ n = 3 ∨ n = 4 ∨ n = 5 ∨ n = 6 ∨ (¬ n = 0 ∧ ¬ n = 1 ∧ ¬ n = 2 ∧ ¬ n = 3 ∧ ¬ n = 4 ∧ ¬ n = 5 ∧ ¬ n = 6) := by omega
theorem one_cases (n : Int) : n = 0 ∨ n = 1 ∨ n = 2 ∨ n = 3 ∨ n = 7 ∨ n = 4 ∨ n = 5 ∨ (¬ n = 0 ∧ ¬ n = 1 ∧ ¬ n = 2 ∧ ¬ n = 3 ∧ ¬ n = 7 ∧ ¬ n = 4 ∧ ¬ n = 5) := by omega
theorem Rg.pair_no (r : Rg) (n : Int) (h : ¬ n = 0 ∧ ¬ n = 1 ∧ ¬ n = 2 ∧ ¬ n = 3 ∧ ¬ n = 4 ∧ ¬ n = 5 ∧ ¬ n = 6) : r.pair n = 0 := by
  obtain ⟨h0, h1, h2, h3, h4, h5, h6⟩ := h
  simp [Rg.pair, h0, h1, h2, h3, h4, h5, h6]
theorem Rg.setPair_no (r : Rg) (n : Int) (v : Nat) (h : ¬ n = 0 ∧ ¬ n = 1 ∧ ¬ n = 2 ∧ ¬ n = 3 ∧ ¬ n = 4 ∧ ¬ n = 5 ∧ ¬ n = 6) : r.setPair n v = r := by
  obtain ⟨h0, h1, h2, h3, h4, h5, h6⟩ := h
  simp [Rg.setPair, h0, h1, h2, h3, h4, h5, h6]
theorem Rg.one_no (r : Rg) (n : Int) (px : Nat) (h : ¬ n = 0 ∧ ¬ n = 1 ∧ ¬ n = 2 ∧ ¬ n = 3 ∧ ¬ n = 7 ∧ ¬ n = 4 ∧ ¬ n = 5) : r.one n px = 0 := by
  obtain ⟨h0, h1, h2, h3, h7, h4, h5⟩ := h
  simp [Rg.one, h0, h1, h2, h3, h7, h4, h5]
theorem Rg.setOne_no (r : Rg) (n : Int) (px v : Nat) (h : ¬ n = 0 ∧ ¬ n = 1 ∧ ¬ n = 2 ∧ ¬ n = 3 ∧ ¬ n = 7 ∧ ¬ n = 4 ∧ ¬ n = 5) : r.setOne n px v = r := by
  obtain ⟨h0, h1, h2, h3, h7, h4, h5⟩ := h
  simp [Rg.setOne, h0, h1, h2, h3, h7, h4, h5]
theorem Rg.one_lt (r : Rg) (h : r.Fits) (n : Int) (px : Nat) : r.one n px < 256 := by
  have := h.a; have := h.b; have := h.c; have := h.d; have := h.e
  have := r.pair_lt h (rgIdx px)
  unfold Rg.one; (repeat' split) <;> omega
theorem Rg.setOne_fits (r : Rg) (h : r.Fits) (n : Int) (px v : Nat) (hv : v < 256) : (r.setOne n px v).Fits := by
  have := r.pair_lt h (rgIdx px)
  unfold Rg.setOne
  (repeat' split) <;> first | exact h | exact r.setPair_fits h _ _ (by omega) | (constructor <;> first | exact h.a | exact h.f | exact h.b | exact h.c | exact h.d | exact h.e | exact h.h | exact h.l | exact h.x0 | exact h.x1 | exact h.x2 | exact h.x3 | exact h.x4 | exact h.x5 | exact h.x6 | exact h.x7 | exact h.ix | exact h.iy | exact h.sp | exact h.pc | exact h.wz | exact h.i | exact h.r | exact h.im | exact h.px | exact hv)
/-- the others' cells -/
def Rg.alt (r : Rg) : List Value := [.int .u8 (r.x0 : Int), .int .u8 (r.x1 : Int), .int .u8 (r.x2 : Int), .int .u8 (r.x3 : Int), .int .u8 (r.x4 : Int), .int .u8 (r.x5 : Int), .int .u8 (r.x6 : Int), .int .u8 (r.x7 : Int)]
theorem Rg.setPair_keeps (r : Rg) (n : Int) (v : Nat) (h : n = 5 ∨ n = 6 ∨ n = 2) : (r.setPair n v).sp = r.sp ∧ (r.setPair n v).pc = r.pc ∧ (r.setPair n v).alt = r.alt ∧ (r.setPair n v).f = r.f := by
  rcases h with rfl | rfl | rfl <;> exact ⟨rfl, rfl, rfl, rfl⟩
theorem Rg.setOne_keeps (r : Rg) (n : Int) (px v : Nat) : (r.setOne n px v).sp = r.sp ∧ (r.setOne n px v).pc = r.pc ∧ (r.setOne n px v).alt = r.alt ∧ (r.setOne n px v).f = r.f := by
  unfold Rg.setOne
  (repeat' split) <;> first | exact r.setPair_keeps _ _ (rgIdx_cases px) | exact ⟨rfl, rfl, rfl, rfl⟩

end Go.Proofs.YthehpkhhoimecaaDoor
