/-
  More steps of a region that draws its order: one cell read in the world at hand; a value that hangs on no world. Nothing here speaks of the program.
-/
import Derived.Test.YthehpkhhoimecaaDrawn
namespace Go.Proofs.Ythehpkhhoimecaa
open Go.RowKit

section
variable {P : Program} {W0 w : World} {l : List (Nat × TypeId × List Value)} {o : Oper} {a : Act} {Q : Exit → Act → World → Prop} {K : Act → World → Prop} {v : Value}
theorem w_pure (hx : (execOp a.eval o).run P w = .ok (.value v) w) (h : K (a.put o.dst v) w) : o.wp P a w K Q := by
  unfold Oper.wp
  rw [hx]
  exact h
theorem w_get {ty t : TypeId} {x : Operand} {g off : Nat} {cs : List Value} (HM : Hid (Own W0 w l)) (ho : o.op = .load ty x) (hx : a.eval x = .pointer (some ⟨g, off, none⟩)) (hty : One P ty)
    (hs : Sel l g t cs) (hd : cs[off]? = some v) (h : K (a.put o.dst v) w) : o.wp P a w K Q := by
  have hc : w.cell? ⟨g, off, none⟩ = some v := by rw [(HM.out.at_ hs).at_]; exact hd
  refine w_pure ?_ h
  unfold execOp
  simp only [ho, hx, Instr.loadAt, Instr.sureAddr, Sem.run_bind, Sem.run_pure, Result.andThen_ok, run_loadVar_one w g off ty v hc hty]
end

end Go.Proofs.Ythehpkhhoimecaa
