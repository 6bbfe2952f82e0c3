/-
  The builtin min of two numbers in a region that is quiet. Nothing here speaks of the program.
-/
import Derived.Test.YtcefgcoibppdaaaQuiet
namespace Go.Proofs.Ytcefgcoibppdaaa
open Go.RowKit

theorem quiet_min {P : Program} {C : World → Prop} {a : Act} {K : Act → Prop} {dst : Option Tmp} {ty0 : TypeId} {pos : String} {aft : Array Edge} {gd : Option (Nat × Bool)} {x y : Operand} {ts : Array TypeId} {k k' : IntKind} {p q r : Int} (hx : a.eval x = .int k p) (hy : a.eval y = .int k' q) (hr : r = min p q)
    (h : Oper.quiet P ⟨dst, .move (.const (.int k r)), ty0, pos, aft, gd⟩ a C K) : Oper.quiet P ⟨dst, .call { callee := .builtin .min, args := #[x, y], argTypes := ts }, ty0, pos, aft, gd⟩ a C K := by
  refine quiet_as (fun w _ => ?_) h
  have hrun := run_min_int2 (P := P) (w := w) ts ty0 k k' p q
  have e : (if q < p then q else p) = r := by rw [hr]; omega
  rw [e] at hrun
  simp [execOp, resolve, invoke, builtin, hx, hy, hrun, Result.andThen]

end Go.Proofs.Ytcefgcoibppdaaa
