/-
  A struct or an array that is built of written values, met by what its run says. Nothing here speaks of the program.
-/
import Derived.Test.YtcefgcoibppdaaaOwn
namespace Go.Proofs.Ytcefgcoibppdaaa
open Go.RowKit

theorem built_by {P : Program} {w : World} {ops : Array Oper} {rest : List Oper} {o : Oper} {a : Act} {Q : Exit → Act → World → Prop} {t : TypeId} {parts : Array (Nat × Operand)} {v : Value} {parts' : Array (Nat × Value)} (hx : ∀ w, (Instr.build t parts').run P w = .ok v w)
    (ho : o.op = .build t parts) (hp : (parts.map fun (i, x) => (i, a.eval x)) = parts') (hw : Region.wanted o (yielded ops a.tmps) = true) (h : wpList P ops Q rest (a.put o.dst v) w) : wpList P ops Q (o :: rest) a w := by
  refine wpList_wanted hw fun K hK => ?_
  unfold Oper.wp execOp
  simp only [ho, Sem.run_bind, hp, hx, Result.andThen_ok]
  exact hK _ _ h

end Go.Proofs.Ytcefgcoibppdaaa
