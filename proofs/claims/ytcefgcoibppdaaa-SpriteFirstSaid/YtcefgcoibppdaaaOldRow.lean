/-
  A struct or an array of memory from before, read whole in a region that is quiet. Nothing here speaks of the program.
-/
import Derived.Test.YtcefgcoibppdaaaQuiet
namespace Go.Proofs.Ytcefgcoibppdaaa
open Go.RowKit

theorem quiet_oldwhole {P : Program} {W0 : World} {l : List (Nat × TypeId × List Value)} {a : Act} {K : Act → Prop} {dst : Option Tmp} {ty0 : TypeId} {pos : String} {aft : Array Edge} {gd : Option (Nat × Bool)} {ty : TypeId} {x : Operand} {g n : Nat} {cs : List Value} (hx : a.eval x = .pointer (some ⟨g, 0, none⟩)) (hty : Agg P ty n)
    (hc : ∀ (j : Nat) (v : Value), cs[j]? = some v → W0.cell? ⟨g, j, none⟩ = some v) (hl : cs.length = n)
    (h : Oper.quiet P ⟨dst, .move (.const (.agg cs.toArray)), ty0, pos, aft, gd⟩ a (fun w' => Own W0 w' l) K) : Oper.quiet P ⟨dst, .load ty x, ty0, pos, aft, gd⟩ a (fun w' => Own W0 w' l) K := by
  obtain ⟨⟨d, hu, hr⟩, hsz⟩ := hty
  refine quiet_as (fun w hC => ?_) h
  unfold execOp
  have hrun := run_loadVar_mid (P := P) w g 0 ty cs d (fun j v hv => by
    have hc' := hc _ _ hv
    rw [Nat.zero_add]
    exact (hC.below.cell (block_lt_of_cell hc')).trans hc') hu hr (by rw [hl]; exact hsz)
  simp only [hx, Instr.loadAt, Instr.sureAddr, Sem.run_bind, Sem.run_pure, Result.andThen_ok, hrun]
theorem own_oldwhole {P : Program} {W0 w : World} {l : List (Nat × TypeId × List Value)} {ops : Array Oper} {rest : List Oper} {o : Oper} {a : Act} {Q : Exit → Act → World → Prop} {ty : TypeId} {x : Operand} {g n : Nat} {cs : List Value} (HM : Hid (Own W0 w l)) (ho : o.op = .load ty x) (hx : a.eval x = .pointer (some ⟨g, 0, none⟩)) (hty : Agg P ty n)
    (hc : ∀ (j : Nat) (v : Value), cs[j]? = some v → W0.cell? ⟨g, j, none⟩ = some v) (hl : cs.length = n) (hw : Region.wanted o (yielded ops a.tmps) = true)
    (h : wpList P ops Q rest (a.put o.dst (.agg cs.toArray)) w) : wpList P ops Q (o :: rest) a w := by
  refine wpList_wanted hw fun K hK => ?_
  obtain ⟨⟨d, hu, hr⟩, hsz⟩ := hty
  refine wp_load_mid ty x ho g 0 hx cs d ?_ hu hr (by rw [hl]; exact hsz) (hK _ _ h)
  intro j v hv
  have hc' := hc _ _ hv
  rw [Nat.zero_add]
  exact (HM.out.below.cell (block_lt_of_cell hc')).trans hc'

end Go.Proofs.Ytcefgcoibppdaaa
