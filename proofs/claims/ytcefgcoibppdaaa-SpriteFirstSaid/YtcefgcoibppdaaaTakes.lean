/-
  Steps of a region that draws its order, one by one, in the words of the call's own blocks (Own). Nothing here speaks of the program.
-/
import Derived.Test.YtcefgcoibppdaaaOwn
import Derived.OrdersHeld
import Derived.BigQuiet
namespace Go.Proofs.Ytcefgcoibppdaaa
open Go.RowKit

section
variable {P : Program} {W0 w : World} {l l' : List (Nat × TypeId × List Value)} {ops : Array Oper} {o : Oper} {a : Act} {Q : Exit → Act → World → Prop} {K : Act → World → Prop} {S : World → Prop} {v : Value}
theorem wpOp_of {i : Nat} (hi : ops[i]? = some o) (hw : Region.wanted o (yielded ops a.tmps) = true) (h : o.wp P a w K Q) : wpOp P ops Q i K a w := by
  unfold wpOp; simp only [hi, hw, if_true]; exact .inl h
theorem y_cell {ty t : TypeId} {x : Operand} {g off : Nat} {cs r : List Value} (ho : o.op = .load ty x) (hx : a.eval x = .pointer (some ⟨g, off, none⟩)) (hty : One P ty)
    (hs : Sel l g t cs) (hd : Drop cs off (v :: r)) (hw : Region.wanted o (yielded ops a.tmps) = true) : YieldsIf P ops (fun w' => Own W0 w' l) o v a := by
  refine .inl ⟨hw, fun w hC => ?_⟩
  have hc : w.cell? ⟨g, off, none⟩ = some v := by
    rw [(hC.at_ hs).at_]
    have e1 := hd.eq
    have : (cs.drop off)[0]? = some v := by rw [e1]; rfl
    simpa using this
  unfold execOp
  simp only [ho, hx, Instr.loadAt, Instr.sureAddr, Sem.run_bind, Sem.run_pure, Result.andThen_ok, run_loadVar_one w g off ty v hc hty]
theorem y_row {ty t : TypeId} {x : Operand} {g n : Nat} {cs : List Value} (ho : o.op = .load ty x) (hx : a.eval x = .pointer (some ⟨g, 0, none⟩)) (hty : Agg P ty n)
    (hs : Sel l g t cs) (hl : cs.length = n) (hw : Region.wanted o (yielded ops a.tmps) = true) : YieldsIf P ops (fun w' => Own W0 w' l) o (.agg cs.toArray) a := by
  obtain ⟨⟨d, hu, hr⟩, hsz⟩ := hty
  refine .inl ⟨hw, fun w hC => ?_⟩
  unfold execOp
  have hrun := run_loadVar_mid (P := P) w g 0 ty cs d (fun j v hv => by rw [(hC.at_ hs).at_, Nat.zero_add]; exact hv) hu hr (by rw [hl]; exact hsz)
  simp only [ho, hx, Instr.loadAt, Instr.sureAddr, Sem.run_bind, Sem.run_pure, Result.andThen_ok, hrun]
theorem y_pure (hw : Region.wanted o (yielded ops a.tmps) = true) (h : ∀ w, (execOp a.eval o).run P w = .ok (.value v) w) : YieldsIf P ops S o v a := .inl ⟨hw, fun w _ => h w⟩
theorem w_call {f : FuncId} {args args' : Array Value} (hx : ∀ w, (execOp a.eval o).run P w = .ok (.enter f args') w) (ha : args' = args) (hc : Calls P f args w fun e w' => ∃ u, e = .returned u ∧ K (a.put o.dst u) w') : o.wp P a w K Q := by
  subst ha
  unfold Oper.wp
  rw [hx w, Oper.upon_enter]
  exact hc.mono fun e w' ⟨u, he, hk⟩ => by subst he; exact hk
/-- an operation that yields in every world of the class, taken ahead; its slot by number -/
theorem h_take {md : Region.Mode} {i d : Nat} {oi : Oper} {fuel : Nat} {listed : Array Bool} (hi : ops[i]? = some oi) (hd : oi.dst = some d)
    (hs : Region.noSelect ops = true) (hf : Region.free md ops listed i = true) (hr : (Region.ready md ops listed).contains i = true)
    (hQ : ∀ c a w, Q (.panic c) (a.put (some d) v) w → Q (.panic c) a w) (hy : YieldsIf P ops S oi v a) (hS : S w)
    (h : wpAnyH P md ops Q S fuel (listed.setIfInBounds i true) (a.put (some d) v) w) : wpAnyH P md ops Q S (fuel + 1) listed a w :=
  wpAnyH_take hi hs hf hr (by rw [hd]; exact hQ) hy hS (by rw [hd]; exact h)
theorem w_alloc {ty : TypeId} {vs : List Value} (HM : Hid (Own W0 w l)) (ho : o.op = .alloc ty) (hz : Zero P ty vs)
    (h : ∀ w' g, Hid (Own W0 w' ((g, ty, vs) :: l)) → K (a.put o.dst (.pointer (some ⟨g, 0, none⟩))) w') : o.wp P a w K Q := by
  obtain ⟨z, hz, hv⟩ := hz
  unfold Oper.wp execOp
  simp only [ho, Instr.alloc, Sem.run_bind, hz, Result.andThen_ok, newVar, newRow, newObj, hv]
  exact h _ _ (HM.out.new ty vs)
theorem w_lay {ty t : TypeId} {x y : Operand} {g n : Nat} {cs vs : List Value} (HM : Hid (Own W0 w l)) (ho : o.op = .store ty x y) (hx : a.eval x = .pointer (some ⟨g, 0, none⟩)) (hv : a.eval y = .agg vs.toArray)
    (hsel : Sel l g t cs) (hs : Put l g t cs vs l') (hty : Size P ty n) (hn : vs.length = n) (hl : cs.length = n) (h1 : vs.all (·.oneCell') = true)
    (hd : o.dst = none) (h : ∀ w', Hid (Own W0 w' l') → K a w') : o.wp P a w K Q := by
  have h : ∀ w', Hid (Own W0 w' l') → K (a.put o.dst undef) w' := by rw [hd]; exact h
  have hwh := (HM.out.whole _ hsel.mem).2
  exact wp_store_row ty x y ho g vs.toArray hx hv t cs.toArray hwh (by unfold Size at hty; simpa [hn] using hty) (by simp [hl, hn]) (by simpa using h1) (h _ (HM.out.of_row hs))
end

end Go.Proofs.Ytcefgcoibppdaaa
