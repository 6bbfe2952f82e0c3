/-
  Two texts in one, as lists of bytes: one operation of a walk. Nothing here speaks of the program.
-/
import Derived.Test.YtaiceidmcelapaaDoorOwn
import Derived.Test.YtaiceidmcelapaaDoorQuiet
namespace Go.Proofs.YtaiceidmcelapaaDoor
open Go.RowKit

section
variable {P : Program} {W0 w : World} {l : List (Nat × TypeId × List Value)} {ops : Array Oper} {rest : List Oper} {o : Oper} {a : Act}
theorem own_cat {Q : Exit → Act → World → Prop} {ty t2 : TypeId} {x y : Operand} {p q : List UInt8} (ho : o.op = .binOp .add ty x y t2) (hx : a.eval x = .string ⟨p.toArray⟩) (hy : a.eval y = .string ⟨q.toArray⟩)
    (hl : p.length + q.length ≤ 8388608) (hw : Region.wanted o (yielded ops a.tmps) = true) (h : wpList P ops Q rest (a.put o.dst (.string ⟨(p ++ q).toArray⟩)) w) : wpList P ops Q (o :: rest) a w := by
  refine wpList_wanted hw fun K hK => ?_
  unfold Oper.wp execOp
  simp only [ho, hx, hy, Sem.run_bind]
  have h1 := run_string_add_lists (P := P) w p q (by omega) (by omega)
  simp only [eqGuard_add, binOp_string_add, Sem.run_pure, Result.andThen_ok, h1]
  exact hK _ _ h
theorem quiet_cat {C : World → Prop} {K : Act → Prop} {dst : Option Tmp} {ty ty0 t2 : TypeId} {pos : String} {aft : Array Edge} {gd : Option (Nat × Bool)} {x y : Operand} {p q : List UInt8} (hx : a.eval x = .string ⟨p.toArray⟩) (hy : a.eval y = .string ⟨q.toArray⟩)
    (hl : p.length + q.length ≤ 8388608) (h : Oper.quiet P ⟨dst, .move (.const (.string ⟨(p ++ q).toArray⟩)), ty0, pos, aft, gd⟩ a C K) : Oper.quiet P ⟨dst, .binOp .add ty x y t2, ty0, pos, aft, gd⟩ a C K := by
  refine quiet_as (fun w _ => ?_) h
  unfold execOp
  simp only [hx, hy, Sem.run_bind]
  have h1 := run_string_add_lists (P := P) w p q (by omega) (by omega)
  simp only [eqGuard_add, binOp_string_add, Sem.run_pure, Result.andThen_ok, h1]
theorem quiet_index {C : World → Prop} {K : Act → Prop} {dst : Option Tmp} {ty ty0 : TypeId} {pos : String} {aft : Array Edge} {gd : Option (Nat × Bool)} {x y : Operand} {v u r : Value} (hx : a.eval x = v) (hy : a.eval y = u)
    (hrun : ∀ w, (Instr.index ty v u).run P w = .ok r w) (h : Oper.quiet P ⟨dst, .move (.const r), ty0, pos, aft, gd⟩ a C K) : Oper.quiet P ⟨dst, .index ty x y, ty0, pos, aft, gd⟩ a C K := by
  refine quiet_as (fun w _ => ?_) h
  unfold execOp
  simp only [hx, hy, Sem.run_bind, hrun, Sem.run_pure, Result.andThen_ok]
end

end Go.Proofs.YtaiceidmcelapaaDoor
