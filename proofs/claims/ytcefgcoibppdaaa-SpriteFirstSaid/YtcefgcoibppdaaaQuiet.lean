/-
  A region that draws its order, whose operations only load and reckon and whose callees write nothing that was there: walked once, in the order of the text. The class of worlds is 'the call owns these blocks' (Own). Nothing here speaks of the program.
-/
import Derived.Test.YtcefgcoibppdaaaOwn
import Derived.BigQuiet
namespace Go.Proofs.Ytcefgcoibppdaaa
open Go.RowKit

section
variable {P : Program} {W0 w : World} {l : List (Nat × TypeId × List Value)} {ops : Array Oper} {rest : List Oper} {o : Oper} {a : Act} {Q : Act → Prop} {v : Value}

theorem own_region {id : Nat} {R : Exit → Act → World → Prop} {os : List Oper} (HM : Hid (Own W0 w l)) (hm : P.follows .mixedOrders = true) (hB : Region.lexB .any os.toArray = true)
    (h : wpQuiet P os.toArray (fun w' => Own W0 w' l) (fun a' => ∀ w', Hid (Own W0 w' l) → R .normal a' w') os a) : (Code.region id os.toArray true).wp P R a w :=
  wp_region_quiet (C := fun w' => Own W0 w' l) hm hB HM.out.drew h

/-- the same for a region in the order of its text -/
theorem wpList_of_quiet {C : World → Prop} {ops : Array Oper} {R : Exit → Act → World → Prop} : ∀ (os : List Oper) (a : Act) (w : World), C w → wpQuiet P ops C (fun a' => ∀ w', C w' → R .normal a' w') os a → wpList P ops R os a w
  | [], _, w, hC, h => h w hC
  | _ :: os, a, w, hC, h => by
    refine wpList_step fun K hK => ?_
    unfold wpQuiet at h
    split
    · rename_i hw
      rw [if_pos hw] at h
      exact Oper.wp_of_quiet hC (fun a' w' hC' hq => hK a' w' (wpList_of_quiet os a' w' hC' hq)) h
    · rename_i hw
      rw [if_neg hw] at h
      exact hK _ _ (wpList_of_quiet os _ w hC h)
theorem own_inorder {id : Nat} {R : Exit → Act → World → Prop} {os : List Oper} (HM : Hid (Own W0 w l))
    (h : wpQuiet P os.toArray (fun w' => Own W0 w' l) (fun a' => ∀ w', Hid (Own W0 w' l) → R .normal a' w') os a) : (Code.region id os.toArray false).wp P R a w :=
  wp_region_lit (wpList_of_quiet (C := fun w' => Own W0 w' l) os a w HM.out h)

theorem own_q {C : World → Prop} (hw : Region.wanted o (yielded ops a.tmps) = true) (hx : ∀ w, C w → (execOp a.eval o).run P w = .ok (.value v) w) (h : wpQuiet P ops C Q rest (a.put o.dst v)) : wpQuiet P ops C Q (o :: rest) a :=
  BigFrame.wpQuiet_want hw fun K hK => ⟨v, fun w hC => by unfold Oper.quietAt; rw [hx w hC]; exact ⟨rfl, rfl⟩, hK _ h⟩
theorem own_q_skip {C : World → Prop} (hw : Region.wanted o (yielded ops a.tmps) = false) (h : wpQuiet P ops C Q rest (a.put o.dst undef)) : wpQuiet P ops C Q (o :: rest) a := BigFrame.wpQuiet_skip hw h
theorem own_q_call {f : FuncId} {args args' : Array Value} (hw : Region.wanted o (yielded ops a.tmps) = true) (hx : ∀ w, (execOp a.eval o).run P w = .ok (.enter f args') w) (ha : args' = args)
    (hc : ∀ w', Hid (Own W0 w' l) → Calls P f args w' fun e w'' => e = .returned v ∧ Below w'.heap.size w' w'') (h : wpQuiet P ops (fun w' => Own W0 w' l) Q rest (a.put o.dst v)) : wpQuiet P ops (fun w' => Own W0 w' l) Q (o :: rest) a :=
  BigFrame.wpQuiet_want hw fun K hK => ⟨v, fun w hC => by
    unfold Oper.quietAt; rw [hx w, ha]
    exact ⟨rfl, (hc w hC).mono fun _ _ ⟨he, hb⟩ => ⟨he, hC.call hb⟩⟩, hK _ h⟩
theorem own_q_load {ty t : TypeId} {x : Operand} {g off n : Nat} {cs r vs : List Value} (ho : o.op = .load ty x) (hx : a.eval x = .pointer (some ⟨g, off, none⟩)) (hty : Agg P ty n)
    (hs : Sel l g t cs) (hd : Drop cs off r) (ht : Take r n vs) (hw : Region.wanted o (yielded ops a.tmps) = true)
    (h : wpQuiet P ops (fun w' => Own W0 w' l) Q rest (a.put o.dst (.agg vs.toArray))) : wpQuiet P ops (fun w' => Own W0 w' l) Q (o :: rest) a := by
  obtain ⟨⟨d, hu, hr⟩, hsz⟩ := hty
  refine own_q hw (fun w hC => ?_) h
  unfold execOp
  have hrun := run_loadVar_mid (P := P) w g off ty vs d (fun j v hv => ?_) hu hr (by rw [ht.len]; exact hsz)
  · simp only [ho, hx, Instr.loadAt, Instr.sureAddr, Sem.run_bind, Sem.run_pure, Result.andThen_ok, hrun]
  · rw [(hC.at_ hs).at_]
    have e1 := hd.eq
    have e2 := ht.eq
    subst e1 e2
    rw [List.getElem?_take] at hv
    split at hv
    · rwa [List.getElem?_drop] at hv
    · cases hv
/-- a struct or an array whole, of a list that isn't written out -/
theorem own_q_row {ty t : TypeId} {x : Operand} {g n : Nat} {cs : List Value} (ho : o.op = .load ty x) (hx : a.eval x = .pointer (some ⟨g, 0, none⟩)) (hty : Agg P ty n)
    (hs : Sel l g t cs) (hw : Region.wanted o (yielded ops a.tmps) = true) (hl : cs.length = n)
    (h : wpQuiet P ops (fun w' => Own W0 w' l) Q rest (a.put o.dst (.agg cs.toArray))) : wpQuiet P ops (fun w' => Own W0 w' l) Q (o :: rest) a := by
  obtain ⟨⟨d, hu, hr⟩, hsz⟩ := hty
  refine own_q hw (fun w hC => ?_) h
  unfold execOp
  have hrun := run_loadVar_mid (P := P) w g 0 ty cs d (fun j v hv => by rw [(hC.at_ hs).at_, Nat.zero_add]; exact hv) hu hr (by rw [hl]; exact hsz)
  simp only [ho, hx, Instr.loadAt, Instr.sureAddr, Sem.run_bind, Sem.run_pure, Result.andThen_ok, hrun]
theorem own_q_cell {ty t : TypeId} {x : Operand} {g off : Nat} {cs r : List Value} (ho : o.op = .load ty x) (hx : a.eval x = .pointer (some ⟨g, off, none⟩)) (hty : One P ty)
    (hs : Sel l g t cs) (hd : Drop cs off (v :: r)) (hw : Region.wanted o (yielded ops a.tmps) = true)
    (h : wpQuiet P ops (fun w' => Own W0 w' l) Q rest (a.put o.dst v)) : wpQuiet P ops (fun w' => Own W0 w' l) Q (o :: rest) a := by
  refine own_q hw (fun w hC => ?_) h
  have hc : w.cell? ⟨g, off, none⟩ = some v := by
    rw [(hC.at_ hs).at_]
    have e1 := hd.eq
    have : (cs.drop off)[0]? = some v := by rw [e1]; rfl
    simpa using this
  unfold execOp
  simp only [ho, hx, Instr.loadAt, Instr.sureAddr, Sem.run_bind, Sem.run_pure, Result.andThen_ok, run_loadVar_one w g off ty v hc hty]

end
/-! The same, one operation at a time, for frames of many slots: the goal is 'o.quiet P a C K'; each law leaves the like goal of a 'move' of the value, which Derived/BigQuiet's tactics carry out. -/
section
variable {P : Program} {W0 w : World} {l : List (Nat × TypeId × List Value)} {a : Act} {C : World → Prop} {K : Act → Prop} {dst : Option Tmp} {op : Op} {ty0 : TypeId} {pos : String} {aft : Array Edge} {gd : Option (Nat × Bool)} {u : Value}
theorem quiet_as (hx : ∀ w, C w → (execOp a.eval ⟨dst, op, ty0, pos, aft, gd⟩).run P w = .ok (.value u) w) (h : Oper.quiet P ⟨dst, .move (.const u), ty0, pos, aft, gd⟩ a C K) : Oper.quiet P ⟨dst, op, ty0, pos, aft, gd⟩ a C K := by
  obtain ⟨v, hv, hk⟩ := h
  refine ⟨v, fun w hC => ?_, hk⟩
  have h1 := hv w hC
  unfold Oper.quietAt at h1 ⊢
  rw [hx w hC]
  rw [BigFrame.run_move (.const u) rfl] at h1
  exact h1
theorem quiet_load {ty t : TypeId} {x : Operand} {g off n : Nat} {cs r vs : List Value} (hx : a.eval x = .pointer (some ⟨g, off, none⟩)) (hty : Agg P ty n)
    (hs : Sel l g t cs) (hd : Drop cs off r) (ht : Take r n vs)
    (h : Oper.quiet P ⟨dst, .move (.const (.agg vs.toArray)), ty0, pos, aft, gd⟩ a (fun w' => Own W0 w' l) K) : Oper.quiet P ⟨dst, .load ty x, ty0, pos, aft, gd⟩ a (fun w' => Own W0 w' l) K := by
  obtain ⟨⟨d, hu, hr⟩, hsz⟩ := hty
  refine quiet_as (fun w hC => ?_) h
  unfold execOp
  have hrun := run_loadVar_mid (P := P) w g off ty vs d (fun j v hv => ?_) hu hr (by rw [ht.len]; exact hsz)
  · simp only [hx, Instr.loadAt, Instr.sureAddr, Sem.run_bind, Sem.run_pure, Result.andThen_ok, hrun]
  · rw [(hC.at_ hs).at_]
    have e1 := hd.eq
    have e2 := ht.eq
    subst e1 e2
    rw [List.getElem?_take] at hv
    split at hv
    · rwa [List.getElem?_drop] at hv
    · cases hv
theorem quiet_row {ty t : TypeId} {x : Operand} {g n : Nat} {cs : List Value} (hx : a.eval x = .pointer (some ⟨g, 0, none⟩)) (hty : Agg P ty n)
    (hs : Sel l g t cs) (hl : cs.length = n)
    (h : Oper.quiet P ⟨dst, .move (.const (.agg cs.toArray)), ty0, pos, aft, gd⟩ a (fun w' => Own W0 w' l) K) : Oper.quiet P ⟨dst, .load ty x, ty0, pos, aft, gd⟩ a (fun w' => Own W0 w' l) K := by
  obtain ⟨⟨d, hu, hr⟩, hsz⟩ := hty
  refine quiet_as (fun w hC => ?_) h
  unfold execOp
  have hrun := run_loadVar_mid (P := P) w g 0 ty cs d (fun j v hv => by rw [(hC.at_ hs).at_, Nat.zero_add]; exact hv) hu hr (by rw [hl]; exact hsz)
  simp only [hx, Instr.loadAt, Instr.sureAddr, Sem.run_bind, Sem.run_pure, Result.andThen_ok, hrun]
theorem quiet_cell {ty t : TypeId} {x : Operand} {g off : Nat} {cs r : List Value} (hx : a.eval x = .pointer (some ⟨g, off, none⟩)) (hty : One P ty)
    (hs : Sel l g t cs) (hd : Drop cs off (u :: r))
    (h : Oper.quiet P ⟨dst, .move (.const u), ty0, pos, aft, gd⟩ a (fun w' => Own W0 w' l) K) : Oper.quiet P ⟨dst, .load ty x, ty0, pos, aft, gd⟩ a (fun w' => Own W0 w' l) K := by
  refine quiet_as (fun w hC => ?_) h
  have hc : w.cell? ⟨g, off, none⟩ = some u := by
    rw [(hC.at_ hs).at_]
    have e1 := hd.eq
    have : (cs.drop off)[0]? = some u := by rw [e1]; rfl
    simpa using this
  unfold execOp
  simp only [hx, Instr.loadAt, Instr.sureAddr, Sem.run_bind, Sem.run_pure, Result.andThen_ok, run_loadVar_one w g off ty u hc hty]
/-- a cell of a block that was there before -/
theorem quiet_old {ty : TypeId} {x : Operand} {p : Addr} (hx : a.eval x = .pointer (some p)) (hty : One P ty) (hc : W0.cell? p = some u) (hp : p.spot = none)
    (h : Oper.quiet P ⟨dst, .move (.const u), ty0, pos, aft, gd⟩ a (fun w' => Own W0 w' l) K) : Oper.quiet P ⟨dst, .load ty x, ty0, pos, aft, gd⟩ a (fun w' => Own W0 w' l) K := by
  refine quiet_as (fun w hC => ?_) h
  have hc' : w.cell? p = some u := (hC.below.cell (block_lt_of_cell hc)).trans hc
  obtain ⟨g, off, s⟩ := p
  cases hp
  unfold execOp
  simp only [hx, Instr.loadAt, Instr.sureAddr, Sem.run_bind, Sem.run_pure, Result.andThen_ok, run_loadVar_one w g off ty u hc' hty]
theorem quiet_call {cl : Call} {f : FuncId} {args args' : Array Value} (hx : ∀ w, (execOp a.eval ⟨dst, .call cl, ty0, pos, aft, gd⟩).run P w = .ok (.enter f args') w) (ha : args' = args)
    (hc : ∀ w', Hid (Own W0 w' l) → Calls P f args w' fun e w'' => e = .returned u ∧ Below w'.heap.size w' w'')
    (h : Oper.quiet P ⟨dst, .move (.const u), ty0, pos, aft, gd⟩ a (fun w' => Own W0 w' l) K) : Oper.quiet P ⟨dst, .call cl, ty0, pos, aft, gd⟩ a (fun w' => Own W0 w' l) K := by
  obtain ⟨v, hv, hk⟩ := h
  refine ⟨v, fun w hC => ?_, hk⟩
  have h1 := hv w hC
  unfold Oper.quietAt at h1 ⊢
  rw [BigFrame.run_move (.const u) rfl] at h1
  obtain ⟨-, rfl⟩ := h1
  rw [hx w, ha]
  exact ⟨rfl, (hc w hC).mono fun _ _ ⟨he, hb⟩ => ⟨he, hC.call hb⟩⟩
end

end Go.Proofs.Ytcefgcoibppdaaa
