/-
  Words for a dump of a port: its bytes, and the operations that make it.
-/
import Derived.Test.YtbjghlcdbmooaaaPoNew
import Derived.Test.YtbjghlcdbmooaaaDrawn
import Derived.Deep.Cut
import Derived.Deep.CutRange
namespace Go.Proofs.Ytbjghlcdbmooaaa
open Go.RowKit

namespace Pt
/-- the bytes of a dump, the last but one given -/
def dumpB (s : Pt) (q : Nat) : List Nat := s.vr ++ (s.cr ++ (s.rg ++ [s.ad % 256, s.ad / 256, s.co, s.lo, q, s.bu]))
theorem dumpB_length {s : Pt} (h : s.Sz) (q : Nat) : (s.dumpB q).length = 16433 := by simp [dumpB, h.1, h.2.1, h.2.2]
theorem dumpB_set {s : Pt} (h : s.Sz) (q v : Nat) : (s.dumpB q).set 16431 v = s.dumpB v := by
  unfold dumpB
  rw [List.set_append_right _ _ (by rw [h.1]; omega), List.set_append_right _ _ (by rw [h.1, h.2.1]; omega), List.set_append_right _ _ (by rw [h.1, h.2.1, h.2.2]; decide), h.1, h.2.1, h.2.2]
  rfl
theorem src_vr {s : Pt} (_h : s.Sz) (j : Nat) (u : Value) (hu : (n8 s.vr)[j]? = some u) : s.cells[0 + j]? = some u := by
  have hj : j < (n8 s.vr).length := by
    rcases Nat.lt_or_ge j (n8 s.vr).length with h1 | h1
    · exact h1
    · rw [List.getElem?_eq_none h1] at hu; cases hu
  unfold cells
  rw [Nat.zero_add, List.getElem?_append_left hj]; exact hu
theorem src_cr {s : Pt} (h : s.Sz) (j : Nat) (u : Value) (hu : (n8 s.cr)[j]? = some u) : s.cells[16384 + j]? = some u := by
  have hj : j < (n8 s.cr).length := by
    rcases Nat.lt_or_ge j (n8 s.cr).length with h1 | h1
    · exact h1
    · rw [List.getElem?_eq_none h1] at hu; cases hu
  unfold cells
  rw [List.getElem?_append_right (by simp [h.1]), List.getElem?_append_left (by simp at hj ⊢; omega), n8_length, h.1, Nat.add_sub_cancel_left]; exact hu
theorem src_rg {s : Pt} (h : s.Sz) (j : Nat) (u : Value) (hu : (n8 s.rg)[j]? = some u) : s.cells[16416 + j]? = some u := by
  have hj : j < (n8 s.rg).length := by
    rcases Nat.lt_or_ge j (n8 s.rg).length with h1 | h1
    · exact h1
    · rw [List.getElem?_eq_none h1] at hu; cases hu
  unfold cells
  rw [List.getElem?_append_right (by simp [h.1]; omega), List.getElem?_append_right (by simp [h.1, h.2.1]; omega), List.getElem?_append_left (by simp at hj ⊢; omega)]
  rw [show 16416 + j - (n8 s.vr).length - (n8 s.cr).length = j by simp [h.1, h.2.1]; omega]; exact hu
end Pt
theorem room16433 (w : World) : (Instr.makeSlice 25 (.int .i64 0) (.int .i64 16433)).run Try.prog w = .ok (.slice (some ⟨w.heap.size, 0, none⟩) 0 16433) (w.alloc (.cells (n8 (List.replicate 16433 0)).toArray 5)) := makes_bytes 0 16433 (by omega) (by omega) w
theorem dump_made (a b c d e f : Int) (w : World) : (Instr.buildSlice 25 6 #[(0, .int .u8 a), (1, .int .u8 b), (2, .int .u8 c), (3, .int .u8 d), (4, .int .u8 e), (5, .int .u8 f)]).run Try.prog w = .ok (.slice (some ⟨w.heap.size, 0, none⟩) 6 6) (w.alloc (.cells ([.int .u8 a, .int .u8 b, .int .u8 c, .int .u8 d, .int .u8 e, .int .u8 f] : List Value).toArray 5)) := by kernel_rfl
theorem self_src {us : List Value} (j : Nat) (u : Value) (h : us[j]? = some u) : us[0 + j]? = some u := by rw [Nat.zero_add]; exact h
theorem one6 (a b c d e f : Int) : ∀ u ∈ ([.int .u8 a, .int .u8 b, .int .u8 c, .int .u8 d, .int .u8 e, .int .u8 f] : List Value), u.oneCell' = true := by
  intro u hu; simp only [List.mem_cons, List.not_mem_nil, or_false] at hu; rcases hu with rfl | rfl | rfl | rfl | rfl | rfl <;> rfl
/-- a row of so many bytes, laid open: its block ahead of the others -/
theorem row_open {W0 w : World} {L R : Blks} {v : Value} {n : Nat} {xs : List Nat} (h : Own W0 w (L ++ R)) (hR : RowOf 5 1 R v n (n8 xs)) (hn : 0 < n) :
    ∃ g cap ex, v = .slice (some ⟨g, 0, none⟩) n cap ∧ n ≤ cap ∧ Own W0 w ((g, 5, n8 xs ++ ex) :: L) := by
  obtain ⟨hl, ⟨-, -, h0⟩ | ⟨g, cap, cur, rfl, rfl, h1, h2, h3, h4⟩⟩ := hR
  · omega
  · refine ⟨g, cap, cur.drop n, rfl, h1, ?_⟩
    have e : n8 xs ++ cur.drop n = cur := by rw [← h4, Nat.mul_one, List.take_append_drop]
    rw [e]
    exact h.perm (List.perm_append_singleton _ _)
theorem row_nil {g : Nat} {cs : List Value} {n : Nat} (hc : cs.length = n) (hn : n ≤ 1000000) : RowOf 5 1 [(g, 5, cs)] (.slice (some ⟨g, 0, none⟩) 0 n) 0 [] :=
  ⟨rfl, .inr ⟨g, n, cs, rfl, rfl, Nat.zero_le _, by unfold maxLen; omega, by simpa using hc, by simp⟩⟩

theorem dump_set {s : Pt} (h : s.Sz) {ex : List Value} : (n8 (s.dumpB 0) ++ ex).set 16431 (.int .u8 1) = n8 (s.dumpB 1) ++ ex := by
  rw [List.set_append_left _ _ (by rw [n8_length, Pt.dumpB_length h]; omega)]
  congr 1
  rw [show (Value.int .u8 1) = Value.int .u8 ((1 : Nat) : Int) from rfl, n8_set, Pt.dumpB_set h]

section
variable {P : Program} {W0 w : World} {l : Blks} {ops : Array Oper} {o : Oper} {a : Act} {Q : Exit → Act → World → Prop} {K : Act → World → Prop} {v : Value}
theorem y_get {ty t : TypeId} {x : Operand} {g off : Nat} {cs : List Value} (ho : o.op = .load ty x) (hx : a.eval x = .pointer (some ⟨g, off, none⟩)) (hty : One P ty)
    (hs : Sel l g t cs) (hd : cs[off]? = some v) (hw : Region.wanted o (yielded ops a.tmps) = true) : YieldsIf P ops (fun w' => Own W0 w' l) o v a := by
  refine .inl ⟨hw, fun w hC => ?_⟩
  have hc : w.cell? ⟨g, off, none⟩ = some v := by rw [(hC.at_ hs).at_]; exact hd
  unfold execOp
  simp only [ho, hx, Instr.loadAt, Instr.sureAddr, Sem.run_bind, Sem.run_pure, Result.andThen_ok, run_loadVar_one w g off ty v hc hty]
theorem w_made {e : TypeId} {n : Nat} {cs : List Value} (HM : Hid (Own W0 w l)) {t : TypeId} {parts : Array (Nat × Operand)} (ho : o.op = .buildSlice t n parts) {parts' : Array (Nat × Value)} (hx : ∀ w, (Instr.buildSlice t n parts').run P w = .ok (.slice (some ⟨w.heap.size, 0, none⟩) n n) (w.alloc (.cells cs.toArray e))) (hp : (parts.map fun (i, x) => (i, a.eval x)) = parts')
    (h : ∀ w' g, Hid (Own W0 w' ((g, e, cs) :: l)) → K (a.put o.dst (.slice (some ⟨g, 0, none⟩) n n)) w') : o.wp P a w K Q := by
  unfold Oper.wp execOp
  simp only [ho, Sem.run_bind, hp]
  rw [hx]
  exact h _ _ (HM.out.new e cs)
end
theorem perm_app2 {α : Type} (a b : α) (l R : List α) : (a :: b :: (l ++ R)).Perm ((a :: b :: l) ++ R) := .refl _
theorem made_none (w : World) : (Instr.buildSlice 25 0 #[]).run Try.prog w = .ok (.slice (some ⟨w.heap.size, 0, none⟩) 0 0) (w.alloc (.cells ([] : List Value).toArray 5)) := by kernel_rfl

end Go.Proofs.Ytbjghlcdbmooaaa
