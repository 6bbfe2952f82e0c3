/-
  Numbers as cells; which sprites are on a line, one further.
-/
import Derived.Test.YtcefgcoibppdaaaSpSpec
import Derived.Test.YtcefgcoibppdaaaRowN
import Derived.Test.YtcefgcoibppdaaaMade
namespace Go.Proofs.Ytcefgcoibppdaaa
open Go.RowKit

/-- numbers as cells -/
def nts (l : List Nat) : List Value := l.map fun x : Nat => .int .i64 (x : Int)
theorem nts_length (l : List Nat) : (nts l).length = l.length := by simp [nts]
theorem nts_get (l : List Nat) (i : Nat) (x : Nat) (h : l[i]? = some x) : (nts l)[i]? = some (.int .i64 (x : Int)) := by simp [nts, h]
theorem nts_snoc (l : List Nat) (x : Nat) : nts (l ++ [x]) = nts l ++ [.int .i64 (x : Int)] := by simp [nts]
theorem made_i0 (w : World) : (Instr.buildSlice 23 0 #[]).run Try.prog w = .ok (.slice (some ⟨w.heap.size, 0, none⟩) 0 0) (w.alloc (.cells ([] : List Value).toArray 3)) := by kernel_rfl
theorem made_i1 (x : Int) (w : World) : (Instr.buildSlice 23 1 #[(0, .int .i64 x)]).run Try.prog w = .ok (.slice (some ⟨w.heap.size, 0, none⟩) 1 1) (w.alloc (.cells ([.int .i64 x] : List Value).toArray 3)) := by kernel_rfl
theorem int_parts : ∃ i : TypeInfo, Try.prog.info? 3 = some i ∧ i.zero = some (.int .i64 0) ∧ i.size = 1 ∧ i.bytes = 8 := by
  obtain ⟨i, hi⟩ := Option.isSome_iff_exists.1 (show (Try.prog.info? 3).isSome = true by kernel_rfl)
  have h : (Try.prog.info? 3).map (fun i => (i.zero, i.size, i.bytes)) = some (some (.int .i64 0), 1, 8) := by kernel_rfl
  rw [hi] at h
  simp only [Option.map_some, Option.some.injEq, Prod.mk.injEq] at h
  exact ⟨i, hi, h.1, h.2.1, h.2.2⟩
theorem spFrom_end {Y : Nat → Nat} {h : Nat} {line : Int} {k i y : Nat} (hy : Y i = y) (h0 : y = 208) : spFrom Y h line k i = [] := by
  cases k with
  | zero => rfl
  | succ k => unfold spFrom; rw [if_pos (hy.trans h0)]
theorem spFrom_on {Y : Nat → Nat} {h : Nat} {line : Int} {k i y : Nat} (hy : Y i = y) (h0 : ¬ y = 208) (t : Int) (ht : spTop y = t) (h1 : t ≤ line) (h2 : line < t + h) : spFrom Y h line (k + 1) i = i :: spFrom Y h line k (i + 1) := by
  show (if Y i = 208 then [] else if spIs h line (Y i) = true then i :: spFrom Y h line k (i + 1) else spFrom Y h line k (i + 1)) = _
  rw [if_neg (fun e => h0 (hy.symm.trans e)), if_pos]
  unfold spIs
  rw [hy, ht]
  simp [h1, h2]
theorem spFrom_off {Y : Nat → Nat} {h : Nat} {line : Int} {k i y : Nat} (hy : Y i = y) (h0 : ¬ y = 208) (t : Int) (ht : spTop y = t) (h1 : ¬ (t ≤ line ∧ line < t + h)) : spFrom Y h line (k + 1) i = spFrom Y h line k (i + 1) := by
  show (if Y i = 208 then [] else if spIs h line (Y i) = true then i :: spFrom Y h line k (i + 1) else spFrom Y h line k (i + 1)) = _
  rw [if_neg (fun e => h0 (hy.symm.trans e)), if_neg]
  unfold spIs
  rw [hy, ht]
  intro hc
  simp at hc
  exact h1 hc

end Go.Proofs.Ytcefgcoibppdaaa
