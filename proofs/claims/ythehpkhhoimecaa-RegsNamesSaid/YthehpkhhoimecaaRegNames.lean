/-
  The law RegsNames returns true, and writes nothing that was there.
-/
import Derived.Test.YthehpkhhoimecaaRegRefLet
import Derived.Deep.Cut
import Derived.Deep.CutRange
import Derived.Test.YthehpkhhoimecaaRegAlive
namespace Go.Proofs.Ythehpkhhoimecaa
open Go.RowKit

theorem right_L1 (w : World) : Calls Try.prog 11 #[.agg #[.int .u8 0, .int .u8 0, .int .u8 0, .int .u8 0, .int .u8 0, .int .u8 0, .int .u8 0, .int .u8 0, .int .u8 0, .int .u8 0, .int .u8 0, .int .u8 0, .int .u8 0, .int .u8 0, .int .u8 0, .int .u8 0, .int .u16 0, .int .u16 0, .int .u16 0, .int .u16 0, .int .u16 0, .int .u8 0, .int .u8 0, .int .u8 2, .int .u8 253, .bool false, .bool false, .bool false, .bool false]] w fun e w' => e = .returned (.bool true) ∧ Below w.heap.size w w' := rightRegs { rg0 with im := 2, px := 253 } true (rfl : _ = _) w
theorem right_L2 (w : World) : Calls Try.prog 11 #[.agg #[.int .u8 0, .int .u8 0, .int .u8 0, .int .u8 0, .int .u8 0, .int .u8 0, .int .u8 0, .int .u8 0, .int .u8 0, .int .u8 0, .int .u8 0, .int .u8 0, .int .u8 0, .int .u8 0, .int .u8 0, .int .u8 0, .int .u16 0, .int .u16 0, .int .u16 0, .int .u16 0, .int .u16 0, .int .u8 0, .int .u8 0, .int .u8 3, .int .u8 0, .bool false, .bool false, .bool false, .bool false]] w fun e w' => e = .returned (.bool false) ∧ Below w.heap.size w w' := rightRegs { rg0 with im := 3 } false (rfl : _ = _) w
theorem right_L3 (w : World) : Calls Try.prog 11 #[.agg #[.int .u8 0, .int .u8 0, .int .u8 0, .int .u8 0, .int .u8 0, .int .u8 0, .int .u8 0, .int .u8 0, .int .u8 0, .int .u8 0, .int .u8 0, .int .u8 0, .int .u8 0, .int .u8 0, .int .u8 0, .int .u8 0, .int .u16 0, .int .u16 0, .int .u16 0, .int .u16 0, .int .u16 0, .int .u8 0, .int .u8 0, .int .u8 0, .int .u8 1, .bool false, .bool false, .bool false, .bool false]] w fun e w' => e = .returned (.bool false) ∧ Below w.heap.size w w' := rightRegs { rg0 with px := 1 } false (rfl : _ = _) w
theorem index_L (px : Nat) (p k : Int) (hp : (px : Int) = p) (hk : Hid (rgIdx px = k)) (w : World) : Calls Try.prog 10 #[.int .u8 p] w fun e w' => e = .returned (.int .i64 k) ∧ Below w.heap.size w w' := by
  subst hp; exact (index_at px k hk w).mono fun _ _ ⟨he, hw⟩ => ⟨he, hw ▸ Below.refl _ _⟩
theorem index_221 (w : World) : Calls Try.prog 10 #[.int .u8 221] w fun e w' => e = .returned (.int .i64 5) ∧ Below w.heap.size w w' := index_L 221 221 5 rfl (rfl : _ = _) w
theorem index_253 (w : World) : Calls Try.prog 10 #[.int .u8 253] w fun e w' => e = .returned (.int .i64 6) ∧ Below w.heap.size w w' := index_L 253 253 6 rfl (rfl : _ = _) w
theorem index_7 (w : World) : Calls Try.prog 10 #[.int .u8 7] w fun e w' => e = .returned (.int .i64 2) ∧ Below w.heap.size w w' := index_L 7 7 2 rfl (rfl : _ = _) w
set_option maxRecDepth 100000 in
set_option maxHeartbeats 1600000 in
theorem names_any (w : World) : Calls Try.prog 3 #[] w fun e w' => e = .returned (.bool true) ∧ Below w.heap.size w w' := by
  have ES := Rg.same rgNew
  have HM := Lib.hid (Own.start w)
  have tg1 : Hid True := trivial
  have tg2 : Hid True := trivial
  go_enter Try.func3, Try.ntmps3
  go_upto_region 1 with fail
  (refine own_inorder HM ?_; (try simp only [Act.put, List.setIfInBounds_toArray, List.set_cons_zero, List.set_cons_succ]); repeat ((fail_if_success (with_reducible refine wpQuiet_nil ?_)); first | go_big_quiet_skip | (go_big_quiet_want; first | ((with_reducible apply quiet_row); exact rfl; exact aggR; (first | with_reducible exact .z | with_reducible exact .s .z | with_reducible exact .s (.s .z) | with_reducible exact .s (.s (.s .z)) | with_reducible exact .s (.s (.s (.s .z))) | with_reducible exact .s (.s (.s (.s (.s .z))))); (first | exact Rg.cells_length _ | exact rfl); go_big_quiet_op; go_big_quiet_on) | ((with_reducible apply quiet_get); exact rfl; (first | (with_reducible exact oneU8) | (with_reducible exact oneU16) | (with_reducible exact oneBool)); (first | with_reducible exact .z | with_reducible exact .s .z | with_reducible exact .s (.s .z) | with_reducible exact .s (.s (.s .z)) | with_reducible exact .s (.s (.s (.s .z))) | with_reducible exact .s (.s (.s (.s (.s .z))))); exact rfl; go_big_quiet_op; go_big_quiet_on) | ((with_reducible apply quiet_load); exact rfl; (with_reducible exact aggAlt); (first | with_reducible exact .z | with_reducible exact .s .z | with_reducible exact .s (.s .z) | with_reducible exact .s (.s (.s .z)) | with_reducible exact .s (.s (.s (.s .z))) | with_reducible exact .s (.s (.s (.s (.s .z))))); exact Rg.altDrop _; exact Rg.altTake _; go_big_quiet_op; go_big_quiet_on) | ((with_reducible apply quiet_call); exact fun w => rfl; (focus (go_simp; all_goals with_reducible rfl)); (intro wq HQ; first | (with_reducible exact regsAlive_any _) | (with_reducible exact newRegs _) | (with_reducible exact rnewRegs _) | (with_reducible exact index_221 _) | (with_reducible exact index_253 _) | (with_reducible exact index_7 _) | (with_reducible exact right_L1 _) | (with_reducible exact right_L2 _) | (with_reducible exact right_L3 _)); go_big_quiet_op; go_big_quiet_on) | (go_big_quiet_op; go_big_quiet_on) | (go_big_quiet_op; refine ⟨_, fun _ _ => rfl, ?_⟩; go_big_quiet_on))))
  refine wpQuiet_nil ?_
  intro w' HM'
  clear HM; have HM := HM'; clear HM'
  go_wp2_with fail
  go_ret
  exact ⟨rfl, Own.fin HM⟩

end Go.Proofs.Ythehpkhhoimecaa
