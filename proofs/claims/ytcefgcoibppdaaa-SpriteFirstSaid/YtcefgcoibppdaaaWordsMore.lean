/-
  The builtins min and max met without a parting of ways. Nothing here speaks of the program.
-/
import Derived.Test.YtcefgcoibppdaaaWords
namespace Go.Proofs.Ytcefgcoibppdaaa
open Go.RowKit

/-- the builtins min and max of two numbers, without a parting of ways -/
theorem min_at {P : Program} {w : World} {ops : Array Oper} {rest : List Oper} {o : Oper} {a : Act} {Q : Exit → Act → World → Prop} (hgd : o.guard = none) (x y : Operand) (ts : Array TypeId)
    (ho : o.op = .call { callee := .builtin .min, args := #[x, y], argTypes := ts }) (k k' : IntKind) (p q : Int) (hx : a.eval x = .int k p) (hy : a.eval y = .int k' q) (r : Int) (hr : r = min p q)
    (h : wpList P ops Q rest (a.put o.dst (.int k r)) w) : wpList P ops Q (o :: rest) a w := by
  refine wpList_plain hgd fun K hK => ?_
  have hrun := run_min_int2 (P := P) (w := w) ts o.type k k' p q
  have e : (if q < p then q else p) = r := by rw [hr]; omega
  rw [e] at hrun
  unfold Oper.wp
  simp [execOp, ho, resolve, invoke, builtin, hx, hy, hrun, Result.andThen]
  exact hK _ _ h
theorem max_at {P : Program} {w : World} {ops : Array Oper} {rest : List Oper} {o : Oper} {a : Act} {Q : Exit → Act → World → Prop} (hgd : o.guard = none) (x y : Operand) (ts : Array TypeId)
    (ho : o.op = .call { callee := .builtin .max, args := #[x, y], argTypes := ts }) (k k' : IntKind) (p q : Int) (hx : a.eval x = .int k p) (hy : a.eval y = .int k' q) (r : Int) (hr : r = max p q)
    (h : wpList P ops Q rest (a.put o.dst (.int k r)) w) : wpList P ops Q (o :: rest) a w := by
  refine wpList_plain hgd fun K hK => ?_
  have hrun := run_max_int2 (P := P) (w := w) ts o.type k k' p q
  have e : (if p < q then q else p) = r := by rw [hr]; omega
  rw [e] at hrun
  unfold Oper.wp
  simp [execOp, ho, resolve, invoke, builtin, hx, hy, hrun, Result.andThen]
  exact hK _ _ h

end Go.Proofs.Ytcefgcoibppdaaa
