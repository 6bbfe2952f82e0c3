/-
  Words for the law PortRuns: texts in a region that draws its order; a register read where nothing turns.
-/
import Derived.Test.YtbjghlcdbmooaaaPoKeeps0
import Derived.Test.YtbjghlcdbmooaaaWordsMore
namespace Go.Proofs.Ytbjghlcdbmooaaa
open Go.RowKit

section
variable {W0 w w' : World} {l : Blks} {ops : Array Oper} {o : Oper} {a : Act} {Q : Exit → Act → World → Prop} {K : Act → World → Prop} {K' : Act → Prop} {dst : Option Tmp} {ty0 : TypeId} {pos : String} {aft : Array Edge} {gd : Option (Nat × Bool)} {x : Operand} {g n c : Nat} {t : TypeId} {ds : List Nat} {T : ByteArray}
theorem conv_run (hT : Value.string T = tx ds) (hx : a.eval x = .slice (some ⟨g, 0, none⟩) n c) (hrun : (convert 25 9 (.slice (some ⟨g, 0, none⟩) n c)).run Try.prog w = .ok (tx ds) w) (ho : o.op = .convert 25 9 x) : (execOp a.eval o).run Try.prog w = .ok (.value (.string T)) w := by
  unfold execOp
  simp only [ho, hx, Sem.run_bind, hrun, hT]
  rfl
theorem quiet_text (hT : Value.string T = tx ds) (hx : a.eval x = .slice (some ⟨g, 0, none⟩) n c) (hs : Sel l g t (n8 ds)) (hn : ds.length = n)
    (h : Oper.quiet Try.prog ⟨dst, .move (.const (.string T)), ty0, pos, aft, gd⟩ a (fun w' => Own W0 w' l) K') : Oper.quiet Try.prog ⟨dst, .convert 25 9 x, ty0, pos, aft, gd⟩ a (fun w' => Own W0 w' l) K' :=
  quiet_as (fun _ hC => conv_run hT hx (text_arr hC hs hn) rfl) h
theorem y_text (hT : Value.string T = tx ds) (hx : a.eval x = .slice (some ⟨g, 0, none⟩) n c) (hs : Sel l g t (n8 ds)) (hn : ds.length = n) (ho : o.op = .convert 25 9 x) (hw : Region.wanted o (yielded ops a.tmps) = true) : YieldsIf Try.prog ops (fun w' => Own W0 w' l) o (.string T) a :=
  .inl ⟨hw, fun _ hC => conv_run hT hx (text_arr hC hs hn) ho⟩
theorem w_text {ex : List Value} (HM : Hid (Own W0 w l)) (hT : Value.string T = tx ds) (hx : a.eval x = .slice (some ⟨g, 0, none⟩) n c) (hs : Sel l g 5 (n8 ds ++ ex)) (hn : ds.length = n) (ho : o.op = .convert 25 9 x) (h : K (a.put o.dst (.string T)) w) : o.wp Try.prog a w K Q := by
  unfold Oper.wp
  rw [conv_run hT hx (text_of HM.out hs hn) ho]
  exact h
end
theorem reg_q {W0 w : World} {l : Blks} {p : Nat} {s : Pt} (n : Nat) (hn : (n : Int) < 11) (hs : s.Sz) (h : Own W0 w l) (hsel : Sel l p 56 s.cells) :
    Calls Try.prog 12 #[.pointer (some ⟨p, 0, none⟩), .int .i64 (n : Int)] w fun e w' => e = .returned (.int .u8 ((s.rg.getD n 0 : Nat) : Int)) ∧ Below w.heap.size w w' := by
  have hc : w.cell? ⟨p, 16416 + n, none⟩ = some (.int .u8 ((s.rg.getD n 0 : Nat) : Int)) := by rw [(h.at_ hsel).at_]; exact Pt.at_rg hs (by omega)
  have b1 : ¬ (n : Int) < 0 := by omega
  generalize ((s.rg.getD n 0 : Nat) : Int) = r at *
  clear hs h hsel
  go_enter Try.func12, Try.ntmps12
  go_wp2
  go_ret
  exact ⟨rfl, Below.refl _ _⟩
theorem Own.turn2 {W0 w : World} {l : Blks} {p x a b c d : Nat × TypeId × List Value} (h : Own W0 w (p :: x :: a :: b :: c :: d :: l)) : Own W0 w (a :: b :: c :: d :: p :: x :: l) :=
  h.perm ((List.perm_append_comm (l₁ := [p, x]) (l₂ := [a, b, c, d])).append_right l)
theorem Own.turn4 {W0 w : World} {l : Blks} {p x a b c d : Nat × TypeId × List Value} (h : Own W0 w (a :: b :: c :: d :: p :: x :: l)) : Own W0 w (p :: x :: a :: b :: c :: d :: l) :=
  h.perm ((List.perm_append_comm (l₁ := [a, b, c, d]) (l₂ := [p, x])).append_right l)
theorem put_dump {ds : List Nat} {ex : List Value} (i v : Nat) (hi : i < ds.length) : (n8 ds ++ ex).set i (.int .u8 (v : Int)) = n8 (ds.set i v) ++ ex := by
  rw [List.set_append_left _ _ (by simpa using hi), n8_set]

end Go.Proofs.Ytbjghlcdbmooaaa
