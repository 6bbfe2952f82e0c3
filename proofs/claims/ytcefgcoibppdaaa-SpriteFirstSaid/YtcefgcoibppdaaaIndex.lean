/-
  An index into an array or a text, met by what its run says. Nothing here speaks of the program.
-/
import Derived.Test.YtcefgcoibppdaaaOwn
namespace Go.Proofs.Ytcefgcoibppdaaa
open Go.RowKit

theorem own_index {P : Program} {ops : Array Oper} {rest : List Oper} {o : Oper} {a : Act} {w : World} {Q : Exit → Act → World → Prop} {ty : TypeId} {x y : Operand} {v u r : Value} (ho : o.op = .index ty x y) (hx : a.eval x = v) (hy : a.eval y = u)
    (hrun : ∀ w, (Instr.index ty v u).run P w = .ok r w) (hw : Region.wanted o (yielded ops a.tmps) = true) (h : wpList P ops Q rest (a.put o.dst r) w) : wpList P ops Q (o :: rest) a w := by
  refine wpList_wanted hw fun K hK => ?_
  unfold Oper.wp execOp
  simp only [ho, hx, hy, Sem.run_bind, hrun, Result.andThen_ok]
  exact hK _ _ h

end Go.Proofs.Ytcefgcoibppdaaa
