/-
  What the type of registers is: how many cells, and its zero value.
-/
import Derived.Test.YthehpkhhoimecaaDoorRegSpec
import Derived.Test.YthehpkhhoimecaaDoorOnes
import Derived.Test.YthehpkhhoimecaaDoorCells
import Derived.Laws.StructEq
namespace Go.Proofs.YthehpkhhoimecaaDoor
open Go.RowKit

theorem aggR : Agg Tryd.prog 25 29 := ⟨⟨_, Tryd.underlying25, rfl⟩, by kernel_rfl⟩
theorem oneStr : One Tryd.prog 9 := ⟨⟨_, Tryd.underlying9, rfl⟩, by kernel_rfl⟩
theorem oneU16 : One Tryd.prog 23 := ⟨⟨_, Tryd.underlying23, rfl⟩, by kernel_rfl⟩
def rg0 : Rg := ⟨0, 0, 0, 0, 0, 0, 0, 0, 0, 0, 0, 0, 0, 0, 0, 0, 0, 0, 0, 0, 0, 0, 0, 0, 0, false, false, false, false⟩
theorem zeroR : Zero Tryd.prog 25 rg0.cells := ⟨.agg rg0.cells.toArray, fun _ => by kernel_rfl, rfl⟩

theorem aggAlt : Agg Tryd.prog 22 8 := ⟨⟨_, Tryd.underlying22, rfl⟩, by kernel_rfl⟩
theorem Rg.altDrop (r : Rg) : Drop r.cells 8 (r.alt ++ r.cells.drop 16) := by repeat' first | exact .z | apply Drop.s
theorem Rg.altTake (r : Rg) : Take (r.alt ++ r.cells.drop 16) 8 r.alt := by repeat' first | exact .z | apply Take.s
theorem alt_same (d : Nat) (x0 x1 x2 x3 x4 x5 x6 x7 : Int) (w : World) :
    (Op.equalIn (d + 2) 22 (.agg #[.int .u8 x0, .int .u8 x1, .int .u8 x2, .int .u8 x3, .int .u8 x4, .int .u8 x5, .int .u8 x6, .int .u8 x7]) (.agg #[.int .u8 x0, .int .u8 x1, .int .u8 x2, .int .u8 x3, .int .u8 x4, .int .u8 x5, .int .u8 x6, .int .u8 x7])).run Tryd.prog w = .ok true w := by
  unfold Op.equalIn
  simp only [Sem.run_bind, Tryd.runUnderlying22, Result.andThen_ok]
  have hr : List.range' 0 8 = [0, 1, 2, 3, 4, 5, 6, 7] := rfl
  have e (a b : Int) (w : World) : (Op.equalIn (d + 1) 5 (.int .u8 a) (.int .u8 b)).run Tryd.prog w = .ok (a == b) w := run_equalIn_int w d 5 .u8 .u8 a b Tryd.underlying5
  simp [go_sem, hr, e]

set_option maxRecDepth 10000 in
theorem Rg.same (r : Rg) (w : World) : (Op.equalIn 10000 25 r.v r.v).run Tryd.prog w = .ok true w := by
  obtain ⟨a, f, b, c, d, e, h, l, x0, x1, x2, x3, x4, x5, x6, x7, ix, iy, sp, pc, wz, i, r, im, px, q1, q2, ht, dl⟩ := r
  have e8 (a b : Int) (w : World) : (Op.equalIn 9999 5 (.int .u8 a) (.int .u8 b)).run Tryd.prog w = .ok (a == b) w := run_equalIn_int w 9998 5 .u8 .u8 a b Tryd.underlying5
  have e16 (a b : Int) (w : World) : (Op.equalIn 9999 23 (.int .u16 a) (.int .u16 b)).run Tryd.prog w = .ok (a == b) w := run_equalIn_int w 9998 23 .u16 .u16 a b Tryd.underlying23
  have eb (a b : Bool) (w : World) : (Op.equalIn 9999 4 (.bool a) (.bool b)).run Tryd.prog w = .ok (a == b) w := run_equalIn_bool w 9998 4 a b Tryd.underlying4
  have ea := alt_same 9997 x0 x1 x2 x3 x4 x5 x6 x7
  simp only [Nat.reduceAdd] at ea
  unfold Rg.v Rg.cells
  rw [run_equalIn_struct w 9999 25 _ _ Tryd.underlying25 (by kernel_rfl)]
  simp [go_sem, e8, e16, eb, ea]
theorem Rg.altSame (r : Rg) (w : World) : (Op.equalIn 10000 22 (.agg r.alt.toArray) (.agg r.alt.toArray)).run Tryd.prog w = .ok true w := by
  have ea := alt_same 9998 r.x0 r.x1 r.x2 r.x3 r.x4 r.x5 r.x6 r.x7 w
  simp only [Nat.reduceAdd] at ea
  exact ea

end Go.Proofs.YthehpkhhoimecaaDoor
