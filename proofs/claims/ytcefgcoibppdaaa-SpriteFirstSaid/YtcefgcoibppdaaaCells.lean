/-
  One cell of a block of the call's own, of a list that isn't written out: read, and read in a region that is quiet. Nothing here speaks of the program.
-/
import Derived.Test.YtcefgcoibppdaaaQuiet
namespace Go.Proofs.Ytcefgcoibppdaaa
open Go.RowKit

section
variable {P : Program} {W0 w w' : World} {l l' : List (Nat × TypeId × List Value)} {ops : Array Oper} {rest : List Oper} {o : Oper} {a : Act} {Q : Exit → Act → World → Prop}
theorem own_get {ty t : TypeId} {x : Operand} {g off : Nat} {cs : List Value} {v : Value} (HM : Hid (Own W0 w l)) (ho : o.op = .load ty x) (hx : a.eval x = .pointer (some ⟨g, off, none⟩)) (hty : One P ty)
    (hs : Sel l g t cs) (hd : cs[off]? = some v) (hw : Region.wanted o (yielded ops a.tmps) = true)
    (h : wpList P ops Q rest (a.put o.dst v) w) : wpList P ops Q (o :: rest) a w := by
  refine wpList_wanted hw fun K hK => ?_
  have hc : w.cell? ⟨g, off, none⟩ = some v := by rw [(HM.out.at_ hs).at_]; exact hd
  unfold Oper.wp execOp
  simp only [ho, hx, Instr.loadAt, Instr.sureAddr, Sem.run_bind, Sem.run_pure, Result.andThen_ok, run_loadVar_one w g off ty v hc hty]
  exact hK _ _ h
end
section
variable {P : Program} {W0 w : World} {l : List (Nat × TypeId × List Value)} {a : Act} {K : Act → Prop} {dst : Option Tmp} {ty0 : TypeId} {pos : String} {aft : Array Edge} {gd : Option (Nat × Bool)} {u : Value}
theorem quiet_get {ty t : TypeId} {x : Operand} {g off : Nat} {cs : List Value} (hx : a.eval x = .pointer (some ⟨g, off, none⟩)) (hty : One P ty)
    (hs : Sel l g t cs) (hd : cs[off]? = some u)
    (h : Oper.quiet P ⟨dst, .move (.const u), ty0, pos, aft, gd⟩ a (fun w' => Own W0 w' l) K) : Oper.quiet P ⟨dst, .load ty x, ty0, pos, aft, gd⟩ a (fun w' => Own W0 w' l) K := by
  refine quiet_as (fun w hC => ?_) h
  have hc : w.cell? ⟨g, off, none⟩ = some u := by rw [(hC.at_ hs).at_]; exact hd
  unfold execOp
  simp only [hx, Instr.loadAt, Instr.sureAddr, Sem.run_bind, Sem.run_pure, Result.andThen_ok, run_loadVar_one w g off ty u hc hty]
end

end Go.Proofs.Ytcefgcoibppdaaa
