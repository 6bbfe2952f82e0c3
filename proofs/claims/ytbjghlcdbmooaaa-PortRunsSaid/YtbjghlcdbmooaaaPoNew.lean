/-
  New of a port, of the program and of the document: all nothing.
-/
import Derived.Test.YtbjghlcdbmooaaaPoApp
import Derived.RegionTactic
namespace Go.Proofs.Ytbjghlcdbmooaaa
open Go.RowKit

set_option maxRecDepth 100000 in
theorem port_zeros : isZeros ((zeroCells Try.t56).take 16427) 16427 = true := by kernel_rfl
set_option maxRecDepth 100000 in
theorem port_tail : (zeroCells Try.t56).drop 16427 = Pt.nil.tail := by kernel_rfl
set_option maxRecDepth 100000 in
theorem port_isAgg : isAggZ Try.t56 = true := by kernel_rfl
theorem n8_replicate (n : Nat) : n8 (List.replicate n 0) = List.replicate n (.int .u8 0) := by simp [n8]
theorem nil_cells : Pt.nil.cells = List.replicate 16427 (.int .u8 0) ++ Pt.nil.tail := by
  unfold Pt.cells
  rw [show Pt.nil.vr = List.replicate 16384 0 from rfl, show Pt.nil.cr = List.replicate 32 0 from rfl, show Pt.nil.rg = List.replicate 11 0 from rfl, n8_replicate, n8_replicate, n8_replicate, ← List.append_assoc, ← List.append_assoc, List.replicate_append_replicate, List.replicate_append_replicate]
theorem port_zero : Try.t56.zero = some (.agg Pt.nil.cells.toArray) := by
  refine zero_of port_isAgg ?_
  rw [← List.take_append_drop 16427 (zeroCells Try.t56), isZeros_eq _ _ port_zeros, port_tail, nil_cells]
theorem port_zeroValue (w : World) : (zeroValue 56).run Try.prog w = .ok (.agg Pt.nil.cells.toArray) w := by
  have hz := port_zero
  unfold zeroValue
  simp only [Sem.run_bind, Try.typeInfo56, Result.andThen_ok]
  rw [hz]
  rfl
theorem port_build (w : World) : (Instr.build 56 #[]).run Try.prog w = .ok (.agg Pt.nil.cells.toArray) w := by
  unfold Instr.build
  simp only [Sem.run_bind, port_zeroValue, Result.andThen_ok, Value.cells, Try.runUnderlying56]
  simp [go_sem]
/-- the operation that builds a port, met as one -/
theorem at_build_port {w : World} {ops : Array Oper} {rest : List Oper} {o : Oper} {a : Act} {Q : Exit → Act → World → Prop} (hgd : o.guard = none) (ho : o.op = .build 56 #[])
    (h : ∀ B, Hid (B = Pt.nil.cells.toArray) → wpList Try.prog ops Q rest (a.put o.dst (.agg B)) w) : wpList Try.prog ops Q (o :: rest) a w := by
  refine wpList_plain hgd fun K hK => ?_
  have hrun := port_build w
  have h := h _ rfl
  unfold Oper.wp
  generalize Pt.nil.cells.toArray = B at hrun h
  simp only [execOp, ho, List.map_toArray, List.map_nil]
  simp only [Sem.run_bind, hrun, Result.andThen_ok]
  exact hK _ _ h

set_option maxHeartbeats 400000 in
theorem new_at {W0 w : World} {l : Blks} (h : Hid (Own W0 w l)) : Calls Try.prog 9 #[] w fun e w' => ∃ p, e = .returned (.pointer (some ⟨p, 0, none⟩)) ∧ Hid (Own W0 w' (Po p .nil :: l)) := by
  have HM := h
  clear h
  go_enter Try.func9, Try.ntmps9
  go_wp2_with (first
    | ((with_reducible refine at_build_port rfl rfl ?_); intro B HB)
    | ((with_reducible apply own_box HM); exact rfl; (conv => lhs; whnf); exact HB.out; exact rfl; intro w' g HM'; clear HM; have HM := HM'; clear HM'))
  go_ret
  exact ⟨_, rfl, HM⟩

theorem made16384 (w : World) : (Instr.makeSlice 25 (.int .i64 16384) (.int .i64 16384)).run Try.prog w = .ok (.slice (some ⟨w.heap.size, 0, none⟩) 16384 16384) (w.alloc (.cells (n8 (List.replicate 16384 0)).toArray 5)) := makes_bytes 16384 16384 (by omega) (by omega) w
theorem made32 (w : World) : (Instr.makeSlice 25 (.int .i64 32) (.int .i64 32)).run Try.prog w = .ok (.slice (some ⟨w.heap.size, 0, none⟩) 32 32) (w.alloc (.cells (n8 (List.replicate 32 0)).toArray 5)) := makes_bytes 32 32 (by omega) (by omega) w
theorem made11 (w : World) : (Instr.makeSlice 25 (.int .i64 11) (.int .i64 11)).run Try.prog w = .ok (.slice (some ⟨w.heap.size, 0, none⟩) 11 11) (w.alloc (.cells (n8 (List.replicate 11 0)).toArray 5)) := makes_bytes 11 11 (by omega) (by omega) w

theorem four_new {W0 w : World} {l : Blks} (h : Own W0 w l) (X Y Z D : List Value) (t u : TypeId) :
    Own W0 ((((w.alloc (.cells X.toArray u)).alloc (.cells Y.toArray u)).alloc (.cells Z.toArray u)).alloc (.cells D.toArray t)).drew
      ((w.heap.size + 1 + 1 + 1, t, D) :: (w.heap.size + 1 + 1, u, Z) :: (w.heap.size + 1, u, Y) :: (w.heap.size, u, X) :: l) := by
  have h1 := ((((h.new u X).new u Y).new u Z).new t D).drew
  simp only [World.size_alloc] at h1
  exact h1
theorem perm3 {α : Type} (p a b c : α) (r : List α) : (p :: a :: b :: c :: r).Perm (p :: a :: b :: c :: r) ∧ (p :: a :: b :: c :: r).Perm (p :: a :: c :: b :: r) ∧ (p :: a :: b :: c :: r).Perm (p :: b :: a :: c :: r) ∧
    (p :: a :: b :: c :: r).Perm (p :: b :: c :: a :: r) ∧ (p :: a :: b :: c :: r).Perm (p :: c :: a :: b :: r) ∧ (p :: a :: b :: c :: r).Perm (p :: c :: b :: a :: r) :=
  ⟨.refl _, .cons _ (.cons _ (.swap _ _ _)), .cons _ (.swap _ _ _), .cons _ ((List.Perm.swap _ _ _).trans (.cons _ (.swap _ _ _))), .cons _ ((List.Perm.cons _ (.swap _ _ _)).trans (.swap _ _ _)), .cons _ (((List.Perm.swap _ _ _).trans (.cons _ (.swap _ _ _))).trans (.swap _ _ _))⟩
set_option maxRecDepth 100000 in
set_option maxHeartbeats 1600000 in
theorem rnew_at {W0 w : World} {l : Blks} (h : Hid (Own W0 w l)) : Calls Try.prog 14 #[] w fun e w' => ∃ p d c g, e = .returned (.pointer (some ⟨p, 0, none⟩)) ∧ Hid (Own W0 w' (Rp p d c g .nil l)) := by
  obtain ⟨A, hA⟩ : ∃ A, A = n8 (List.replicate 16384 0) := ⟨_, rfl⟩
  obtain ⟨B, hB⟩ : ∃ B, B = n8 (List.replicate 32 0) := ⟨_, rfl⟩
  obtain ⟨C, hC⟩ : ∃ C, C = n8 (List.replicate 11 0) := ⟨_, rfl⟩
  have m1 := made16384
  have m2 := made32
  have m3 := made11
  rw [← hA] at m1
  rw [← hB] at m2
  rw [← hC] at m3
  have HA := Lib.hid hA
  have HB := Lib.hid hB
  have HC := Lib.hid hC
  clear hA hB hC
  go_enter Try.func14, Try.ntmps14
  go_wp2_with fail
  go_region
  all_goals go_wp2_with fail
  all_goals go_ret
  all_goals
    have H := four_new h.out
    have e : Pt.nil.vr = List.replicate 16384 0 ∧ Pt.nil.cr = List.replicate 32 0 ∧ Pt.nil.rg = List.replicate 11 0 := ⟨rfl, rfl, rfl⟩
    unfold Rp
    rw [e.1, e.2.1, e.2.2, ← HA.out, ← HB.out, ← HC.out]
    first
      | exact ⟨_, w.heap.size, w.heap.size + 1, w.heap.size + 1 + 1, rfl, (H A B C _ _ _).perm (perm3 _ _ _ _ _).2.2.2.2.2⟩
      | exact ⟨_, w.heap.size, w.heap.size + 1 + 1, w.heap.size + 1, rfl, (H A C B _ _ _).perm (perm3 _ _ _ _ _).2.2.2.2.1⟩
      | exact ⟨_, w.heap.size + 1, w.heap.size, w.heap.size + 1 + 1, rfl, (H B A C _ _ _).perm (perm3 _ _ _ _ _).2.2.2.1⟩
      | exact ⟨_, w.heap.size + 1, w.heap.size + 1 + 1, w.heap.size, rfl, (H C A B _ _ _).perm (perm3 _ _ _ _ _).2.2.1⟩
      | exact ⟨_, w.heap.size + 1 + 1, w.heap.size, w.heap.size + 1, rfl, (H B C A _ _ _).perm (perm3 _ _ _ _ _).2.1⟩
      | exact ⟨_, w.heap.size + 1 + 1, w.heap.size + 1, w.heap.size, rfl, (H C B A _ _ _).perm (perm3 _ _ _ _ _).1⟩

end Go.Proofs.Ytbjghlcdbmooaaa
