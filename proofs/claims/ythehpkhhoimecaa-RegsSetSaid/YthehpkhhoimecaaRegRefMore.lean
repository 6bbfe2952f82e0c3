/-
  The document's names by their numbers, Letters, New and Right; package regs' New and Right; each by one contract.
-/
import Derived.Test.YthehpkhhoimecaaRowOwn
import Derived.Test.YthehpkhhoimecaaIndex
import Derived.Test.YthehpkhhoimecaaRegRefPair
namespace Go.Proofs.Ythehpkhhoimecaa
open Go.RowKit

def rgName : Nat → ByteArray
  | 0 => ⟨#[66, 67]⟩
  | 1 => ⟨#[68, 69]⟩
  | 2 => ⟨#[72, 76]⟩
  | 3 => ⟨#[83, 80]⟩
  | 4 => ⟨#[65, 70]⟩
  | 5 => ⟨#[73, 88]⟩
  | _ => ⟨#[73, 89]⟩
def rgLet (n : Int) (px : Nat) : ByteArray :=
  if n = 0 then ⟨#[66]⟩ else if n = 1 then ⟨#[67]⟩ else if n = 2 then ⟨#[68]⟩ else if n = 3 then ⟨#[69]⟩ else if n = 7 then ⟨#[65]⟩
  else if n = 4 then (if px = 221 then ⟨#[73, 88, 72]⟩ else if px = 253 then ⟨#[73, 89, 72]⟩ else ⟨#[72]⟩) else if n = 5 then (if px = 221 then ⟨#[73, 88, 76]⟩ else if px = 253 then ⟨#[73, 89, 76]⟩ else ⟨#[76]⟩) else ⟨#[]⟩
theorem rget_name (r : Rg) (hr : r.Fits) (k : Nat) (hk : k < 7) (P : Nat) (hP : Hid (r.pair (k : Int) = P)) (w : World) : Calls Try.prog 12 #[r.v, .string (rgName k)] w fun e w' => e = .returned (.int .i64 (P : Int)) ∧ Below w.heap.size w w' := by
  rw [← hP.out]
  match k, hk with
  | 0, _ => exact rget_BC r hr.b hr.c w
  | 1, _ => exact rget_DE r hr.d hr.e w
  | 2, _ => exact rget_HL r hr.h hr.l w
  | 3, _ => exact rget_SP r hr.sp w
  | 4, _ => exact rget_AF r hr.a hr.f w
  | 5, _ => exact rget_IX r hr.ix w
  | 6, _ => exact rget_IY r hr.iy w
theorem rset_name (r : Rg) (k : Nat) (hk : k < 7) (v : Nat) (hv : v < 65536) (s : Rg) (hs : Hid (r.setPair (k : Int) v = s)) (w : World) : Calls Try.prog 18 #[r.v, .string (rgName k), .int .i64 (v : Int)] w fun e w' => e = .returned s.v ∧ Below w.heap.size w w' := by
  rw [← hs.out]
  match k, hk with
  | 0, _ => exact rset_BC r v hv w
  | 1, _ => exact rset_DE r v hv w
  | 2, _ => exact rset_HL r v hv w
  | 3, _ => exact rset_SP r v hv w
  | 4, _ => exact rset_AF r v hv w
  | 5, _ => exact rset_IX r v hv w
  | 6, _ => exact rset_IY r v hv w
def nameCells : List Value := [.string ⟨#[66, 67]⟩, .string ⟨#[68, 69]⟩, .string ⟨#[72, 76]⟩, .string ⟨#[83, 80]⟩, .string ⟨#[65, 70]⟩, .string ⟨#[73, 88]⟩, .string ⟨#[73, 89]⟩]
theorem name_at (k : Nat) (hk : k < 7) : nameCells[k]? = some (.string (rgName k)) := by
  match k, hk with
  | 0, _ => rfl
  | 1, _ => rfl
  | 2, _ => rfl
  | 3, _ => rfl
  | 4, _ => rfl
  | 5, _ => rfl
  | 6, _ => rfl
theorem Own.plus {W0 w w' : World} {l : List (Nat × TypeId × List Value)} {g : Nat} {t : TypeId} {cs : List Value} (h : Own W0 w l) (hb : Below w.heap.size w w') (hg : w.heap.size ≤ g) (hW : Whole w' g t cs) : Own W0 w' ((g, t, cs) :: l) := by
  have h' := h.call hb
  refine ⟨h'.below, ?_, ?_⟩
  · intro e he
    rcases List.mem_cons.1 he with rfl | he
    · exact ⟨Nat.le_trans h.below.size hg, hW⟩
    · exact h'.whole e he
  · refine .cons (fun e he => ?_) h'.apart
    have := (h.whole e he).2.inside
    show g ≠ e.1
    omega
set_option maxHeartbeats 800000 in
theorem letters_neg (n : Int) (px : Nat) (hn : n < 0) (w : World) : Calls Try.prog 14 #[.int .i64 n, .int .u8 (px : Int)] w fun e w' => e = .returned (.string ⟨#[]⟩) ∧ w = w' := by
  have hI : True := trivial
  go_enter Try.func14, Try.ntmps14
  go_wp2_with ((with_reducible apply own_index); exact rfl; exact rfl; exact rfl; exact hI; exact rfl; all_goals skip)
  go_ret
  exact ⟨rfl, rfl⟩
set_option maxHeartbeats 800000 in
theorem letters_big (n : Int) (px : Nat) (hn : 7 < n) (w : World) : Calls Try.prog 14 #[.int .i64 n, .int .u8 (px : Int)] w fun e w' => e = .returned (.string ⟨#[]⟩) ∧ w = w' := by
  have h0 : ¬ n < 0 := by omega
  have hI : True := trivial
  go_enter Try.func14, Try.ntmps14
  go_wp2_with ((with_reducible apply own_index); exact rfl; exact rfl; exact rfl; exact hI; exact rfl; all_goals skip)
  go_ret
  exact ⟨rfl, rfl⟩
set_option maxHeartbeats 800000 in
theorem letters_6 (px : Nat) (w : World) : Calls Try.prog 14 #[.int .i64 6, .int .u8 (px : Int)] w fun e w' => e = .returned (.string ⟨#[]⟩) ∧ w = w' := by
  have hI : True := trivial
  go_enter Try.func14, Try.ntmps14
  go_wp2_with ((with_reducible apply own_index); exact rfl; exact rfl; exact rfl; exact hI; exact rfl; all_goals skip)
  go_ret
  exact ⟨rfl, rfl⟩
set_option maxHeartbeats 800000 in
theorem letters_0 (px : Nat) (w : World) : Calls Try.prog 14 #[.int .i64 0, .int .u8 (px : Int)] w fun e w' => e = .returned (.string ⟨#[66]⟩) ∧ w = w' := by
  have hI : ∀ w : World, (Instr.index 46 (.agg #[.string ⟨#[66]⟩, .string ⟨#[67]⟩, .string ⟨#[68]⟩, .string ⟨#[69]⟩, .string ⟨#[]⟩, .string ⟨#[]⟩, .string ⟨#[]⟩, .string ⟨#[65]⟩]) (.int .i64 0)).run Try.prog w = .ok (.string ⟨#[66]⟩) w := fun w => by kernel_rfl
  go_enter Try.func14, Try.ntmps14
  go_wp2_with ((with_reducible apply own_index); exact rfl; exact rfl; exact rfl; exact hI; exact rfl; all_goals skip)
  go_ret
  exact ⟨rfl, rfl⟩
set_option maxHeartbeats 800000 in
theorem letters_1 (px : Nat) (w : World) : Calls Try.prog 14 #[.int .i64 1, .int .u8 (px : Int)] w fun e w' => e = .returned (.string ⟨#[67]⟩) ∧ w = w' := by
  have hI : ∀ w : World, (Instr.index 46 (.agg #[.string ⟨#[66]⟩, .string ⟨#[67]⟩, .string ⟨#[68]⟩, .string ⟨#[69]⟩, .string ⟨#[]⟩, .string ⟨#[]⟩, .string ⟨#[]⟩, .string ⟨#[65]⟩]) (.int .i64 1)).run Try.prog w = .ok (.string ⟨#[67]⟩) w := fun w => by kernel_rfl
  go_enter Try.func14, Try.ntmps14
  go_wp2_with ((with_reducible apply own_index); exact rfl; exact rfl; exact rfl; exact hI; exact rfl; all_goals skip)
  go_ret
  exact ⟨rfl, rfl⟩
set_option maxHeartbeats 800000 in
theorem letters_2 (px : Nat) (w : World) : Calls Try.prog 14 #[.int .i64 2, .int .u8 (px : Int)] w fun e w' => e = .returned (.string ⟨#[68]⟩) ∧ w = w' := by
  have hI : ∀ w : World, (Instr.index 46 (.agg #[.string ⟨#[66]⟩, .string ⟨#[67]⟩, .string ⟨#[68]⟩, .string ⟨#[69]⟩, .string ⟨#[]⟩, .string ⟨#[]⟩, .string ⟨#[]⟩, .string ⟨#[65]⟩]) (.int .i64 2)).run Try.prog w = .ok (.string ⟨#[68]⟩) w := fun w => by kernel_rfl
  go_enter Try.func14, Try.ntmps14
  go_wp2_with ((with_reducible apply own_index); exact rfl; exact rfl; exact rfl; exact hI; exact rfl; all_goals skip)
  go_ret
  exact ⟨rfl, rfl⟩
set_option maxHeartbeats 800000 in
theorem letters_3 (px : Nat) (w : World) : Calls Try.prog 14 #[.int .i64 3, .int .u8 (px : Int)] w fun e w' => e = .returned (.string ⟨#[69]⟩) ∧ w = w' := by
  have hI : ∀ w : World, (Instr.index 46 (.agg #[.string ⟨#[66]⟩, .string ⟨#[67]⟩, .string ⟨#[68]⟩, .string ⟨#[69]⟩, .string ⟨#[]⟩, .string ⟨#[]⟩, .string ⟨#[]⟩, .string ⟨#[65]⟩]) (.int .i64 3)).run Try.prog w = .ok (.string ⟨#[69]⟩) w := fun w => by kernel_rfl
  go_enter Try.func14, Try.ntmps14
  go_wp2_with ((with_reducible apply own_index); exact rfl; exact rfl; exact rfl; exact hI; exact rfl; all_goals skip)
  go_ret
  exact ⟨rfl, rfl⟩
set_option maxHeartbeats 800000 in
theorem letters_7 (px : Nat) (w : World) : Calls Try.prog 14 #[.int .i64 7, .int .u8 (px : Int)] w fun e w' => e = .returned (.string ⟨#[65]⟩) ∧ w = w' := by
  have hI : ∀ w : World, (Instr.index 46 (.agg #[.string ⟨#[66]⟩, .string ⟨#[67]⟩, .string ⟨#[68]⟩, .string ⟨#[69]⟩, .string ⟨#[]⟩, .string ⟨#[]⟩, .string ⟨#[]⟩, .string ⟨#[65]⟩]) (.int .i64 7)).run Try.prog w = .ok (.string ⟨#[65]⟩) w := fun w => by kernel_rfl
  go_enter Try.func14, Try.ntmps14
  go_wp2_with ((with_reducible apply own_index); exact rfl; exact rfl; exact rfl; exact hI; exact rfl; all_goals skip)
  go_ret
  exact ⟨rfl, rfl⟩
set_option maxHeartbeats 800000 in
theorem letters_4_221 (w : World) : Calls Try.prog 14 #[.int .i64 4, .int .u8 221] w fun e w' => e = .returned (.string ⟨#[73, 88, 72]⟩) ∧ w = w' := by
  have c1 : ByteArray.mk #[73, 88] ++ ByteArray.mk #[72] = ⟨#[73, 88, 72]⟩ := by decide +kernel
  have hI : ∀ w : World, (Instr.index 45 (.agg #[.string ⟨#[72]⟩, .string ⟨#[76]⟩]) (.int .i64 0)).run Try.prog w = .ok (.string ⟨#[72]⟩) w := fun w => by kernel_rfl
  go_enter Try.func14, Try.ntmps14
  go_wp2_with ((with_reducible apply own_index); exact rfl; exact rfl; exact rfl; exact hI; exact rfl; all_goals skip)
  go_ret
  exact ⟨rfl, rfl⟩
set_option maxHeartbeats 800000 in
theorem letters_4_253 (w : World) : Calls Try.prog 14 #[.int .i64 4, .int .u8 253] w fun e w' => e = .returned (.string ⟨#[73, 89, 72]⟩) ∧ w = w' := by
  have c1 : ByteArray.mk #[73, 89] ++ ByteArray.mk #[72] = ⟨#[73, 89, 72]⟩ := by decide +kernel
  have hI : ∀ w : World, (Instr.index 45 (.agg #[.string ⟨#[72]⟩, .string ⟨#[76]⟩]) (.int .i64 0)).run Try.prog w = .ok (.string ⟨#[72]⟩) w := fun w => by kernel_rfl
  go_enter Try.func14, Try.ntmps14
  go_wp2_with ((with_reducible apply own_index); exact rfl; exact rfl; exact rfl; exact hI; exact rfl; all_goals skip)
  go_ret
  exact ⟨rfl, rfl⟩
set_option maxHeartbeats 800000 in
theorem letters_4_no (px : Nat) (h1 : ¬ (px : Int) = 221) (h2 : ¬ (px : Int) = 253) (w : World) : Calls Try.prog 14 #[.int .i64 4, .int .u8 (px : Int)] w fun e w' => e = .returned (.string ⟨#[72]⟩) ∧ w = w' := by
  have hI : ∀ w : World, (Instr.index 45 (.agg #[.string ⟨#[72]⟩, .string ⟨#[76]⟩]) (.int .i64 0)).run Try.prog w = .ok (.string ⟨#[72]⟩) w := fun w => by kernel_rfl
  go_enter Try.func14, Try.ntmps14
  go_wp2_with ((with_reducible apply own_index); exact rfl; exact rfl; exact rfl; exact hI; exact rfl; all_goals skip)
  go_ret
  exact ⟨rfl, rfl⟩
set_option maxHeartbeats 800000 in
theorem letters_5_221 (w : World) : Calls Try.prog 14 #[.int .i64 5, .int .u8 221] w fun e w' => e = .returned (.string ⟨#[73, 88, 76]⟩) ∧ w = w' := by
  have c1 : ByteArray.mk #[73, 88] ++ ByteArray.mk #[76] = ⟨#[73, 88, 76]⟩ := by decide +kernel
  have hI : ∀ w : World, (Instr.index 45 (.agg #[.string ⟨#[72]⟩, .string ⟨#[76]⟩]) (.int .i64 1)).run Try.prog w = .ok (.string ⟨#[76]⟩) w := fun w => by kernel_rfl
  go_enter Try.func14, Try.ntmps14
  go_wp2_with ((with_reducible apply own_index); exact rfl; exact rfl; exact rfl; exact hI; exact rfl; all_goals skip)
  go_ret
  exact ⟨rfl, rfl⟩
set_option maxHeartbeats 800000 in
theorem letters_5_253 (w : World) : Calls Try.prog 14 #[.int .i64 5, .int .u8 253] w fun e w' => e = .returned (.string ⟨#[73, 89, 76]⟩) ∧ w = w' := by
  have c1 : ByteArray.mk #[73, 89] ++ ByteArray.mk #[76] = ⟨#[73, 89, 76]⟩ := by decide +kernel
  have hI : ∀ w : World, (Instr.index 45 (.agg #[.string ⟨#[72]⟩, .string ⟨#[76]⟩]) (.int .i64 1)).run Try.prog w = .ok (.string ⟨#[76]⟩) w := fun w => by kernel_rfl
  go_enter Try.func14, Try.ntmps14
  go_wp2_with ((with_reducible apply own_index); exact rfl; exact rfl; exact rfl; exact hI; exact rfl; all_goals skip)
  go_ret
  exact ⟨rfl, rfl⟩
set_option maxHeartbeats 800000 in
theorem letters_5_no (px : Nat) (h1 : ¬ (px : Int) = 221) (h2 : ¬ (px : Int) = 253) (w : World) : Calls Try.prog 14 #[.int .i64 5, .int .u8 (px : Int)] w fun e w' => e = .returned (.string ⟨#[76]⟩) ∧ w = w' := by
  have hI : ∀ w : World, (Instr.index 45 (.agg #[.string ⟨#[72]⟩, .string ⟨#[76]⟩]) (.int .i64 1)).run Try.prog w = .ok (.string ⟨#[76]⟩) w := fun w => by kernel_rfl
  go_enter Try.func14, Try.ntmps14
  go_wp2_with ((with_reducible apply own_index); exact rfl; exact rfl; exact rfl; exact hI; exact rfl; all_goals skip)
  go_ret
  exact ⟨rfl, rfl⟩

end Go.Proofs.Ythehpkhhoimecaa
