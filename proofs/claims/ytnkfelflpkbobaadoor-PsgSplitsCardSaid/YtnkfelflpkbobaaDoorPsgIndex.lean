/-
  A tone out of the three, a quiet out of the four, by its place.
-/
import Derived.Test.YtnkfelflpkbobaaDoorPsgStep
namespace Go.Proofs.YtnkfelflpkbobaaDoor
open Go.RowKit

theorem own_index {P : Program} {ops : Array Oper} {rest : List Oper} {o : Oper} {a : Act} {w : World} {Q : Exit → Act → World → Prop} {ty : TypeId} {x y : Operand} {v u r : Value} (ho : o.op = .index ty x y) (hx : a.eval x = v) (hy : a.eval y = u)
    (hrun : ∀ w, (Instr.index ty v u).run P w = .ok r w) (hw : Region.wanted o (yielded ops a.tmps) = true) (h : wpList P ops Q rest (a.put o.dst r) w) : wpList P ops Q (o :: rest) a w := by
  refine wpList_wanted hw fun K hK => ?_
  unfold Oper.wp execOp
  simp only [ho, hx, hy, Sem.run_bind, hrun, Result.andThen_ok]
  exact hK _ _ h
section
variable (p0 c0 : Int) (o0 : Bool) (p1 c1 : Int) (o1 : Bool) (p2 c2 : Int) (o2 : Bool) (q0 q1 q2 q3 : Int) (w : World)
theorem idxT0 : (Instr.index 24 (.agg #[.int .i64 p0, .int .i64 c0, .bool o0, .int .i64 p1, .int .i64 c1, .bool o1, .int .i64 p2, .int .i64 c2, .bool o2]) (.int .i64 0)).run Tryd.prog w = .ok (.agg #[.int .i64 p0, .int .i64 c0, .bool o0]) w := by kernel_rfl
theorem idxT1 : (Instr.index 24 (.agg #[.int .i64 p0, .int .i64 c0, .bool o0, .int .i64 p1, .int .i64 c1, .bool o1, .int .i64 p2, .int .i64 c2, .bool o2]) (.int .i64 1)).run Tryd.prog w = .ok (.agg #[.int .i64 p1, .int .i64 c1, .bool o1]) w := by kernel_rfl
theorem idxT2 : (Instr.index 24 (.agg #[.int .i64 p0, .int .i64 c0, .bool o0, .int .i64 p1, .int .i64 c1, .bool o1, .int .i64 p2, .int .i64 c2, .bool o2]) (.int .i64 2)).run Tryd.prog w = .ok (.agg #[.int .i64 p2, .int .i64 c2, .bool o2]) w := by kernel_rfl
theorem idxQ0 : (Instr.index 28 (.agg #[.int .u8 q0, .int .u8 q1, .int .u8 q2, .int .u8 q3]) (.int .i64 0)).run Tryd.prog w = .ok (.int .u8 q0) w := by kernel_rfl
theorem idxQ1 : (Instr.index 28 (.agg #[.int .u8 q0, .int .u8 q1, .int .u8 q2, .int .u8 q3]) (.int .i64 1)).run Tryd.prog w = .ok (.int .u8 q1) w := by kernel_rfl
theorem idxQ2 : (Instr.index 28 (.agg #[.int .u8 q0, .int .u8 q1, .int .u8 q2, .int .u8 q3]) (.int .i64 2)).run Tryd.prog w = .ok (.int .u8 q2) w := by kernel_rfl
theorem idxQ3 : (Instr.index 28 (.agg #[.int .u8 q0, .int .u8 q1, .int .u8 q2, .int .u8 q3]) (.int .i64 3)).run Tryd.prog w = .ok (.int .u8 q3) w := by kernel_rfl
end

end Go.Proofs.YtnkfelflpkbobaaDoor
