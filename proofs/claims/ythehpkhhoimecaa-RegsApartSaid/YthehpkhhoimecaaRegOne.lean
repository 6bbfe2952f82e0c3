/-
  Package regs' One and SetOne, each by one contract.
-/
import Derived.Test.YthehpkhhoimecaaQuietTail
import Derived.Test.YthehpkhhoimecaaRegPair
namespace Go.Proofs.Ythehpkhhoimecaa
open Go.RowKit

set_option maxRecDepth 100000 in
set_option maxHeartbeats 800000 in
theorem one_0 (r : Rg) (px : Nat) (w : World) : Calls Try.prog 16 #[r.v, .int .i64 0, .int .u8 (px : Int)] w fun e w' => e = .returned (.int .u8 (r.b : Int)) ∧ Below w.heap.size w w' := by
  have HM := Lib.hid (Own.start w)
  have tg1 : Hid True := trivial
  have tg2 : Hid True := trivial
  go_enter Try.func16, Try.ntmps16
  go_wp2_with (first
    | ((with_reducible apply own_box HM); exact rfl; (conv => lhs; whnf); exact rfl; exact rfl; (first | (clear tg1; intro w' g1 HM') | (clear tg2; intro w' g2 HM') | (clear tg3; intro w' g3 HM') | (clear tg4; intro w' g4 HM') | intro w' g' HM'); clear HM; have HM := HM'; clear HM'; all_goals skip) | ((with_reducible apply own_get HM); exact rfl; exact rfl; (first | (with_reducible exact oneU8) | (with_reducible exact oneU16) | (with_reducible exact oneBool) | (with_reducible exact oneInt)); (first | with_reducible exact .z | with_reducible exact .s .z | with_reducible exact .s (.s .z) | with_reducible exact .s (.s (.s .z)) | with_reducible exact .s (.s (.s (.s .z))) | with_reducible exact .s (.s (.s (.s (.s .z))))); (conv => lhs; whnf); exact rfl; all_goals skip)
    | (go_at_call 24; (with_reducible refine (single_0 _ _).mono ?_); rintro e w' ⟨rfl, rfl⟩))
  go_ret
  exact ⟨rfl, Own.fin HM⟩
set_option maxRecDepth 100000 in
set_option maxHeartbeats 1600000 in
theorem setOne_0 (r : Rg) (px : Nat) (v : Nat) (_hv : v < 256) (w : World) : Calls Try.prog 20 #[r.v, .int .i64 0, .int .u8 (px : Int), .int .u8 (v : Int)] w fun e w' => e = .returned (({ r with b := v } : Rg).v) ∧ Below w.heap.size w w' := by
  have HM := Lib.hid (Own.start w)
  have tg1 : Hid True := trivial
  have tg2 : Hid True := trivial
  go_enter Try.func20, Try.ntmps20
  go_wp2_with (first
    | ((with_reducible apply own_box HM); exact rfl; (conv => lhs; whnf); exact rfl; exact rfl; (first | (clear tg1; intro w' g1 HM') | (clear tg2; intro w' g2 HM') | (clear tg3; intro w' g3 HM') | (clear tg4; intro w' g4 HM') | intro w' g' HM'); clear HM; have HM := HM'; clear HM'; all_goals skip) | ((with_reducible apply own_alloc HM); exact rfl; (with_reducible exact zeroR); exact rfl; (first | (clear tg1; intro w' g1 HM') | (clear tg2; intro w' g2 HM') | (clear tg3; intro w' g3 HM') | (clear tg4; intro w' g4 HM') | intro w' g' HM'); clear HM; have HM := HM'; clear HM'; all_goals skip) | ((with_reducible apply own_row HM); exact rfl; exact rfl; exact aggR; (first | with_reducible exact .z | with_reducible exact .s .z | with_reducible exact .s (.s .z) | with_reducible exact .s (.s (.s .z)) | with_reducible exact .s (.s (.s (.s .z))) | with_reducible exact .s (.s (.s (.s (.s .z))))); exact rfl; (first | exact Rg.cells_length _ | exact rfl); all_goals skip) | ((with_reducible apply own_lay HM); exact rfl; exact rfl; exact rfl; (first | with_reducible exact .z | with_reducible exact .s .z | with_reducible exact .s (.s .z) | with_reducible exact .s (.s (.s .z)) | with_reducible exact .s (.s (.s (.s .z))) | with_reducible exact .s (.s (.s (.s (.s .z))))); (first | with_reducible exact .z | with_reducible exact .s .z | with_reducible exact .s (.s .z) | with_reducible exact .s (.s (.s .z)) | with_reducible exact .s (.s (.s (.s .z))) | with_reducible exact .s (.s (.s (.s (.s .z))))); exact aggR.size; (first | exact Rg.cells_length _ | exact rfl); (first | exact Rg.cells_length _ | exact rfl); (first | exact Rg.one1 _ | exact rfl); exact rfl; exact rfl; intro w' HM'; clear HM; have HM := HM'; clear HM'; all_goals skip) | ((with_reducible apply own_put HM); exact rfl; exact rfl; (conv => lhs; whnf); (first | with_reducible exact .z | with_reducible exact .s .z | with_reducible exact .s (.s .z) | with_reducible exact .s (.s (.s .z)) | with_reducible exact .s (.s (.s (.s .z))) | with_reducible exact .s (.s (.s (.s (.s .z))))); (first | with_reducible exact .z | with_reducible exact .s .z | with_reducible exact .s (.s .z) | with_reducible exact .s (.s (.s .z)) | with_reducible exact .s (.s (.s (.s .z))) | with_reducible exact .s (.s (.s (.s (.s .z))))); (first | (with_reducible exact oneU8.size) | (with_reducible exact oneU16.size) | (with_reducible exact oneBool.size) | (with_reducible exact oneInt.size)); exact rfl; exact rfl; (show (_ : Nat) < 29; decide); exact rfl; intro w' HM'; clear HM; have HM := HM'; clear HM'; all_goals skip)
    | (go_at_call 24; (with_reducible refine (single_0 _ _).mono ?_); rintro e w' ⟨rfl, rfl⟩))
  refine bodyPost_ret (v := .agg (r.cells.set 2 (.int .u8 (v : Int))).toArray) (own_results HM Try.results20 _ rfl (by first | exact .z | exact .s .z) aggR) rfl ⟨rfl, Own.fin HM⟩
set_option maxRecDepth 100000 in
set_option maxHeartbeats 800000 in
theorem one_1 (r : Rg) (px : Nat) (w : World) : Calls Try.prog 16 #[r.v, .int .i64 1, .int .u8 (px : Int)] w fun e w' => e = .returned (.int .u8 (r.c : Int)) ∧ Below w.heap.size w w' := by
  have HM := Lib.hid (Own.start w)
  have tg1 : Hid True := trivial
  have tg2 : Hid True := trivial
  go_enter Try.func16, Try.ntmps16
  go_wp2_with (first
    | ((with_reducible apply own_box HM); exact rfl; (conv => lhs; whnf); exact rfl; exact rfl; (first | (clear tg1; intro w' g1 HM') | (clear tg2; intro w' g2 HM') | (clear tg3; intro w' g3 HM') | (clear tg4; intro w' g4 HM') | intro w' g' HM'); clear HM; have HM := HM'; clear HM'; all_goals skip) | ((with_reducible apply own_get HM); exact rfl; exact rfl; (first | (with_reducible exact oneU8) | (with_reducible exact oneU16) | (with_reducible exact oneBool) | (with_reducible exact oneInt)); (first | with_reducible exact .z | with_reducible exact .s .z | with_reducible exact .s (.s .z) | with_reducible exact .s (.s (.s .z)) | with_reducible exact .s (.s (.s (.s .z))) | with_reducible exact .s (.s (.s (.s (.s .z))))); (conv => lhs; whnf); exact rfl; all_goals skip)
    | (go_at_call 24; (with_reducible refine (single_1 _ _).mono ?_); rintro e w' ⟨rfl, rfl⟩))
  go_ret
  exact ⟨rfl, Own.fin HM⟩
set_option maxRecDepth 100000 in
set_option maxHeartbeats 1600000 in
theorem setOne_1 (r : Rg) (px : Nat) (v : Nat) (_hv : v < 256) (w : World) : Calls Try.prog 20 #[r.v, .int .i64 1, .int .u8 (px : Int), .int .u8 (v : Int)] w fun e w' => e = .returned (({ r with c := v } : Rg).v) ∧ Below w.heap.size w w' := by
  have HM := Lib.hid (Own.start w)
  have tg1 : Hid True := trivial
  have tg2 : Hid True := trivial
  go_enter Try.func20, Try.ntmps20
  go_wp2_with (first
    | ((with_reducible apply own_box HM); exact rfl; (conv => lhs; whnf); exact rfl; exact rfl; (first | (clear tg1; intro w' g1 HM') | (clear tg2; intro w' g2 HM') | (clear tg3; intro w' g3 HM') | (clear tg4; intro w' g4 HM') | intro w' g' HM'); clear HM; have HM := HM'; clear HM'; all_goals skip) | ((with_reducible apply own_alloc HM); exact rfl; (with_reducible exact zeroR); exact rfl; (first | (clear tg1; intro w' g1 HM') | (clear tg2; intro w' g2 HM') | (clear tg3; intro w' g3 HM') | (clear tg4; intro w' g4 HM') | intro w' g' HM'); clear HM; have HM := HM'; clear HM'; all_goals skip) | ((with_reducible apply own_row HM); exact rfl; exact rfl; exact aggR; (first | with_reducible exact .z | with_reducible exact .s .z | with_reducible exact .s (.s .z) | with_reducible exact .s (.s (.s .z)) | with_reducible exact .s (.s (.s (.s .z))) | with_reducible exact .s (.s (.s (.s (.s .z))))); exact rfl; (first | exact Rg.cells_length _ | exact rfl); all_goals skip) | ((with_reducible apply own_lay HM); exact rfl; exact rfl; exact rfl; (first | with_reducible exact .z | with_reducible exact .s .z | with_reducible exact .s (.s .z) | with_reducible exact .s (.s (.s .z)) | with_reducible exact .s (.s (.s (.s .z))) | with_reducible exact .s (.s (.s (.s (.s .z))))); (first | with_reducible exact .z | with_reducible exact .s .z | with_reducible exact .s (.s .z) | with_reducible exact .s (.s (.s .z)) | with_reducible exact .s (.s (.s (.s .z))) | with_reducible exact .s (.s (.s (.s (.s .z))))); exact aggR.size; (first | exact Rg.cells_length _ | exact rfl); (first | exact Rg.cells_length _ | exact rfl); (first | exact Rg.one1 _ | exact rfl); exact rfl; exact rfl; intro w' HM'; clear HM; have HM := HM'; clear HM'; all_goals skip) | ((with_reducible apply own_put HM); exact rfl; exact rfl; (conv => lhs; whnf); (first | with_reducible exact .z | with_reducible exact .s .z | with_reducible exact .s (.s .z) | with_reducible exact .s (.s (.s .z)) | with_reducible exact .s (.s (.s (.s .z))) | with_reducible exact .s (.s (.s (.s (.s .z))))); (first | with_reducible exact .z | with_reducible exact .s .z | with_reducible exact .s (.s .z) | with_reducible exact .s (.s (.s .z)) | with_reducible exact .s (.s (.s (.s .z))) | with_reducible exact .s (.s (.s (.s (.s .z))))); (first | (with_reducible exact oneU8.size) | (with_reducible exact oneU16.size) | (with_reducible exact oneBool.size) | (with_reducible exact oneInt.size)); exact rfl; exact rfl; (show (_ : Nat) < 29; decide); exact rfl; intro w' HM'; clear HM; have HM := HM'; clear HM'; all_goals skip)
    | (go_at_call 24; (with_reducible refine (single_1 _ _).mono ?_); rintro e w' ⟨rfl, rfl⟩))
  refine bodyPost_ret (v := .agg (r.cells.set 3 (.int .u8 (v : Int))).toArray) (own_results HM Try.results20 _ rfl (by first | exact .z | exact .s .z) aggR) rfl ⟨rfl, Own.fin HM⟩
set_option maxRecDepth 100000 in
set_option maxHeartbeats 800000 in
theorem one_2 (r : Rg) (px : Nat) (w : World) : Calls Try.prog 16 #[r.v, .int .i64 2, .int .u8 (px : Int)] w fun e w' => e = .returned (.int .u8 (r.d : Int)) ∧ Below w.heap.size w w' := by
  have HM := Lib.hid (Own.start w)
  have tg1 : Hid True := trivial
  have tg2 : Hid True := trivial
  go_enter Try.func16, Try.ntmps16
  go_wp2_with (first
    | ((with_reducible apply own_box HM); exact rfl; (conv => lhs; whnf); exact rfl; exact rfl; (first | (clear tg1; intro w' g1 HM') | (clear tg2; intro w' g2 HM') | (clear tg3; intro w' g3 HM') | (clear tg4; intro w' g4 HM') | intro w' g' HM'); clear HM; have HM := HM'; clear HM'; all_goals skip) | ((with_reducible apply own_get HM); exact rfl; exact rfl; (first | (with_reducible exact oneU8) | (with_reducible exact oneU16) | (with_reducible exact oneBool) | (with_reducible exact oneInt)); (first | with_reducible exact .z | with_reducible exact .s .z | with_reducible exact .s (.s .z) | with_reducible exact .s (.s (.s .z)) | with_reducible exact .s (.s (.s (.s .z))) | with_reducible exact .s (.s (.s (.s (.s .z))))); (conv => lhs; whnf); exact rfl; all_goals skip)
    | (go_at_call 24; (with_reducible refine (single_2 _ _).mono ?_); rintro e w' ⟨rfl, rfl⟩))
  go_ret
  exact ⟨rfl, Own.fin HM⟩
set_option maxRecDepth 100000 in
set_option maxHeartbeats 1600000 in
theorem setOne_2 (r : Rg) (px : Nat) (v : Nat) (_hv : v < 256) (w : World) : Calls Try.prog 20 #[r.v, .int .i64 2, .int .u8 (px : Int), .int .u8 (v : Int)] w fun e w' => e = .returned (({ r with d := v } : Rg).v) ∧ Below w.heap.size w w' := by
  have HM := Lib.hid (Own.start w)
  have tg1 : Hid True := trivial
  have tg2 : Hid True := trivial
  go_enter Try.func20, Try.ntmps20
  go_wp2_with (first
    | ((with_reducible apply own_box HM); exact rfl; (conv => lhs; whnf); exact rfl; exact rfl; (first | (clear tg1; intro w' g1 HM') | (clear tg2; intro w' g2 HM') | (clear tg3; intro w' g3 HM') | (clear tg4; intro w' g4 HM') | intro w' g' HM'); clear HM; have HM := HM'; clear HM'; all_goals skip) | ((with_reducible apply own_alloc HM); exact rfl; (with_reducible exact zeroR); exact rfl; (first | (clear tg1; intro w' g1 HM') | (clear tg2; intro w' g2 HM') | (clear tg3; intro w' g3 HM') | (clear tg4; intro w' g4 HM') | intro w' g' HM'); clear HM; have HM := HM'; clear HM'; all_goals skip) | ((with_reducible apply own_row HM); exact rfl; exact rfl; exact aggR; (first | with_reducible exact .z | with_reducible exact .s .z | with_reducible exact .s (.s .z) | with_reducible exact .s (.s (.s .z)) | with_reducible exact .s (.s (.s (.s .z))) | with_reducible exact .s (.s (.s (.s (.s .z))))); exact rfl; (first | exact Rg.cells_length _ | exact rfl); all_goals skip) | ((with_reducible apply own_lay HM); exact rfl; exact rfl; exact rfl; (first | with_reducible exact .z | with_reducible exact .s .z | with_reducible exact .s (.s .z) | with_reducible exact .s (.s (.s .z)) | with_reducible exact .s (.s (.s (.s .z))) | with_reducible exact .s (.s (.s (.s (.s .z))))); (first | with_reducible exact .z | with_reducible exact .s .z | with_reducible exact .s (.s .z) | with_reducible exact .s (.s (.s .z)) | with_reducible exact .s (.s (.s (.s .z))) | with_reducible exact .s (.s (.s (.s (.s .z))))); exact aggR.size; (first | exact Rg.cells_length _ | exact rfl); (first | exact Rg.cells_length _ | exact rfl); (first | exact Rg.one1 _ | exact rfl); exact rfl; exact rfl; intro w' HM'; clear HM; have HM := HM'; clear HM'; all_goals skip) | ((with_reducible apply own_put HM); exact rfl; exact rfl; (conv => lhs; whnf); (first | with_reducible exact .z | with_reducible exact .s .z | with_reducible exact .s (.s .z) | with_reducible exact .s (.s (.s .z)) | with_reducible exact .s (.s (.s (.s .z))) | with_reducible exact .s (.s (.s (.s (.s .z))))); (first | with_reducible exact .z | with_reducible exact .s .z | with_reducible exact .s (.s .z) | with_reducible exact .s (.s (.s .z)) | with_reducible exact .s (.s (.s (.s .z))) | with_reducible exact .s (.s (.s (.s (.s .z))))); (first | (with_reducible exact oneU8.size) | (with_reducible exact oneU16.size) | (with_reducible exact oneBool.size) | (with_reducible exact oneInt.size)); exact rfl; exact rfl; (show (_ : Nat) < 29; decide); exact rfl; intro w' HM'; clear HM; have HM := HM'; clear HM'; all_goals skip)
    | (go_at_call 24; (with_reducible refine (single_2 _ _).mono ?_); rintro e w' ⟨rfl, rfl⟩))
  refine bodyPost_ret (v := .agg (r.cells.set 4 (.int .u8 (v : Int))).toArray) (own_results HM Try.results20 _ rfl (by first | exact .z | exact .s .z) aggR) rfl ⟨rfl, Own.fin HM⟩
set_option maxRecDepth 100000 in
set_option maxHeartbeats 800000 in
theorem one_3 (r : Rg) (px : Nat) (w : World) : Calls Try.prog 16 #[r.v, .int .i64 3, .int .u8 (px : Int)] w fun e w' => e = .returned (.int .u8 (r.e : Int)) ∧ Below w.heap.size w w' := by
  have HM := Lib.hid (Own.start w)
  have tg1 : Hid True := trivial
  have tg2 : Hid True := trivial
  go_enter Try.func16, Try.ntmps16
  go_wp2_with (first
    | ((with_reducible apply own_box HM); exact rfl; (conv => lhs; whnf); exact rfl; exact rfl; (first | (clear tg1; intro w' g1 HM') | (clear tg2; intro w' g2 HM') | (clear tg3; intro w' g3 HM') | (clear tg4; intro w' g4 HM') | intro w' g' HM'); clear HM; have HM := HM'; clear HM'; all_goals skip) | ((with_reducible apply own_get HM); exact rfl; exact rfl; (first | (with_reducible exact oneU8) | (with_reducible exact oneU16) | (with_reducible exact oneBool) | (with_reducible exact oneInt)); (first | with_reducible exact .z | with_reducible exact .s .z | with_reducible exact .s (.s .z) | with_reducible exact .s (.s (.s .z)) | with_reducible exact .s (.s (.s (.s .z))) | with_reducible exact .s (.s (.s (.s (.s .z))))); (conv => lhs; whnf); exact rfl; all_goals skip)
    | (go_at_call 24; (with_reducible refine (single_3 _ _).mono ?_); rintro e w' ⟨rfl, rfl⟩))
  go_ret
  exact ⟨rfl, Own.fin HM⟩
set_option maxRecDepth 100000 in
set_option maxHeartbeats 1600000 in
theorem setOne_3 (r : Rg) (px : Nat) (v : Nat) (_hv : v < 256) (w : World) : Calls Try.prog 20 #[r.v, .int .i64 3, .int .u8 (px : Int), .int .u8 (v : Int)] w fun e w' => e = .returned (({ r with e := v } : Rg).v) ∧ Below w.heap.size w w' := by
  have HM := Lib.hid (Own.start w)
  have tg1 : Hid True := trivial
  have tg2 : Hid True := trivial
  go_enter Try.func20, Try.ntmps20
  go_wp2_with (first
    | ((with_reducible apply own_box HM); exact rfl; (conv => lhs; whnf); exact rfl; exact rfl; (first | (clear tg1; intro w' g1 HM') | (clear tg2; intro w' g2 HM') | (clear tg3; intro w' g3 HM') | (clear tg4; intro w' g4 HM') | intro w' g' HM'); clear HM; have HM := HM'; clear HM'; all_goals skip) | ((with_reducible apply own_alloc HM); exact rfl; (with_reducible exact zeroR); exact rfl; (first | (clear tg1; intro w' g1 HM') | (clear tg2; intro w' g2 HM') | (clear tg3; intro w' g3 HM') | (clear tg4; intro w' g4 HM') | intro w' g' HM'); clear HM; have HM := HM'; clear HM'; all_goals skip) | ((with_reducible apply own_row HM); exact rfl; exact rfl; exact aggR; (first | with_reducible exact .z | with_reducible exact .s .z | with_reducible exact .s (.s .z) | with_reducible exact .s (.s (.s .z)) | with_reducible exact .s (.s (.s (.s .z))) | with_reducible exact .s (.s (.s (.s (.s .z))))); exact rfl; (first | exact Rg.cells_length _ | exact rfl); all_goals skip) | ((with_reducible apply own_lay HM); exact rfl; exact rfl; exact rfl; (first | with_reducible exact .z | with_reducible exact .s .z | with_reducible exact .s (.s .z) | with_reducible exact .s (.s (.s .z)) | with_reducible exact .s (.s (.s (.s .z))) | with_reducible exact .s (.s (.s (.s (.s .z))))); (first | with_reducible exact .z | with_reducible exact .s .z | with_reducible exact .s (.s .z) | with_reducible exact .s (.s (.s .z)) | with_reducible exact .s (.s (.s (.s .z))) | with_reducible exact .s (.s (.s (.s (.s .z))))); exact aggR.size; (first | exact Rg.cells_length _ | exact rfl); (first | exact Rg.cells_length _ | exact rfl); (first | exact Rg.one1 _ | exact rfl); exact rfl; exact rfl; intro w' HM'; clear HM; have HM := HM'; clear HM'; all_goals skip) | ((with_reducible apply own_put HM); exact rfl; exact rfl; (conv => lhs; whnf); (first | with_reducible exact .z | with_reducible exact .s .z | with_reducible exact .s (.s .z) | with_reducible exact .s (.s (.s .z)) | with_reducible exact .s (.s (.s (.s .z))) | with_reducible exact .s (.s (.s (.s (.s .z))))); (first | with_reducible exact .z | with_reducible exact .s .z | with_reducible exact .s (.s .z) | with_reducible exact .s (.s (.s .z)) | with_reducible exact .s (.s (.s (.s .z))) | with_reducible exact .s (.s (.s (.s (.s .z))))); (first | (with_reducible exact oneU8.size) | (with_reducible exact oneU16.size) | (with_reducible exact oneBool.size) | (with_reducible exact oneInt.size)); exact rfl; exact rfl; (show (_ : Nat) < 29; decide); exact rfl; intro w' HM'; clear HM; have HM := HM'; clear HM'; all_goals skip)
    | (go_at_call 24; (with_reducible refine (single_3 _ _).mono ?_); rintro e w' ⟨rfl, rfl⟩))
  refine bodyPost_ret (v := .agg (r.cells.set 5 (.int .u8 (v : Int))).toArray) (own_results HM Try.results20 _ rfl (by first | exact .z | exact .s .z) aggR) rfl ⟨rfl, Own.fin HM⟩
set_option maxRecDepth 100000 in
set_option maxHeartbeats 800000 in
theorem one_7 (r : Rg) (px : Nat) (w : World) : Calls Try.prog 16 #[r.v, .int .i64 7, .int .u8 (px : Int)] w fun e w' => e = .returned (.int .u8 (r.a : Int)) ∧ Below w.heap.size w w' := by
  have HM := Lib.hid (Own.start w)
  have tg1 : Hid True := trivial
  have tg2 : Hid True := trivial
  go_enter Try.func16, Try.ntmps16
  go_wp2_with (first
    | ((with_reducible apply own_box HM); exact rfl; (conv => lhs; whnf); exact rfl; exact rfl; (first | (clear tg1; intro w' g1 HM') | (clear tg2; intro w' g2 HM') | (clear tg3; intro w' g3 HM') | (clear tg4; intro w' g4 HM') | intro w' g' HM'); clear HM; have HM := HM'; clear HM'; all_goals skip) | ((with_reducible apply own_get HM); exact rfl; exact rfl; (first | (with_reducible exact oneU8) | (with_reducible exact oneU16) | (with_reducible exact oneBool) | (with_reducible exact oneInt)); (first | with_reducible exact .z | with_reducible exact .s .z | with_reducible exact .s (.s .z) | with_reducible exact .s (.s (.s .z)) | with_reducible exact .s (.s (.s (.s .z))) | with_reducible exact .s (.s (.s (.s (.s .z))))); (conv => lhs; whnf); exact rfl; all_goals skip)
    | (go_at_call 24; (with_reducible refine (single_7 _ _).mono ?_); rintro e w' ⟨rfl, rfl⟩))
  go_ret
  exact ⟨rfl, Own.fin HM⟩
set_option maxRecDepth 100000 in
set_option maxHeartbeats 1600000 in
theorem setOne_7 (r : Rg) (px : Nat) (v : Nat) (_hv : v < 256) (w : World) : Calls Try.prog 20 #[r.v, .int .i64 7, .int .u8 (px : Int), .int .u8 (v : Int)] w fun e w' => e = .returned (({ r with a := v } : Rg).v) ∧ Below w.heap.size w w' := by
  have HM := Lib.hid (Own.start w)
  have tg1 : Hid True := trivial
  have tg2 : Hid True := trivial
  go_enter Try.func20, Try.ntmps20
  go_wp2_with (first
    | ((with_reducible apply own_box HM); exact rfl; (conv => lhs; whnf); exact rfl; exact rfl; (first | (clear tg1; intro w' g1 HM') | (clear tg2; intro w' g2 HM') | (clear tg3; intro w' g3 HM') | (clear tg4; intro w' g4 HM') | intro w' g' HM'); clear HM; have HM := HM'; clear HM'; all_goals skip) | ((with_reducible apply own_alloc HM); exact rfl; (with_reducible exact zeroR); exact rfl; (first | (clear tg1; intro w' g1 HM') | (clear tg2; intro w' g2 HM') | (clear tg3; intro w' g3 HM') | (clear tg4; intro w' g4 HM') | intro w' g' HM'); clear HM; have HM := HM'; clear HM'; all_goals skip) | ((with_reducible apply own_row HM); exact rfl; exact rfl; exact aggR; (first | with_reducible exact .z | with_reducible exact .s .z | with_reducible exact .s (.s .z) | with_reducible exact .s (.s (.s .z)) | with_reducible exact .s (.s (.s (.s .z))) | with_reducible exact .s (.s (.s (.s (.s .z))))); exact rfl; (first | exact Rg.cells_length _ | exact rfl); all_goals skip) | ((with_reducible apply own_lay HM); exact rfl; exact rfl; exact rfl; (first | with_reducible exact .z | with_reducible exact .s .z | with_reducible exact .s (.s .z) | with_reducible exact .s (.s (.s .z)) | with_reducible exact .s (.s (.s (.s .z))) | with_reducible exact .s (.s (.s (.s (.s .z))))); (first | with_reducible exact .z | with_reducible exact .s .z | with_reducible exact .s (.s .z) | with_reducible exact .s (.s (.s .z)) | with_reducible exact .s (.s (.s (.s .z))) | with_reducible exact .s (.s (.s (.s (.s .z))))); exact aggR.size; (first | exact Rg.cells_length _ | exact rfl); (first | exact Rg.cells_length _ | exact rfl); (first | exact Rg.one1 _ | exact rfl); exact rfl; exact rfl; intro w' HM'; clear HM; have HM := HM'; clear HM'; all_goals skip) | ((with_reducible apply own_put HM); exact rfl; exact rfl; (conv => lhs; whnf); (first | with_reducible exact .z | with_reducible exact .s .z | with_reducible exact .s (.s .z) | with_reducible exact .s (.s (.s .z)) | with_reducible exact .s (.s (.s (.s .z))) | with_reducible exact .s (.s (.s (.s (.s .z))))); (first | with_reducible exact .z | with_reducible exact .s .z | with_reducible exact .s (.s .z) | with_reducible exact .s (.s (.s .z)) | with_reducible exact .s (.s (.s (.s .z))) | with_reducible exact .s (.s (.s (.s (.s .z))))); (first | (with_reducible exact oneU8.size) | (with_reducible exact oneU16.size) | (with_reducible exact oneBool.size) | (with_reducible exact oneInt.size)); exact rfl; exact rfl; (show (_ : Nat) < 29; decide); exact rfl; intro w' HM'; clear HM; have HM := HM'; clear HM'; all_goals skip)
    | (go_at_call 24; (with_reducible refine (single_7 _ _).mono ?_); rintro e w' ⟨rfl, rfl⟩))
  refine bodyPost_ret (v := .agg (r.cells.set 0 (.int .u8 (v : Int))).toArray) (own_results HM Try.results20 _ rfl (by first | exact .z | exact .s .z) aggR) rfl ⟨rfl, Own.fin HM⟩
set_option maxRecDepth 100000 in
set_option maxHeartbeats 800000 in
theorem one_4 (r : Rg) (hr : r.Fits) (px : Nat) (w : World) : Calls Try.prog 16 #[r.v, .int .i64 4, .int .u8 (px : Int)] w fun e w' => e = .returned (.int .u8 (r.pair (rgIdx px) / 256 : Nat)) ∧ Below w.heap.size w w' := by
  obtain ⟨k, hk⟩ : ∃ k, Hid (rgIdx px = k) := ⟨_, rfl⟩
  obtain ⟨P, hP⟩ : ∃ P, Hid (r.pair k = P) := ⟨_, rfl⟩
  have P1 : P < 65536 := by rw [← hP.out]; exact r.pair_lt hr k
  obtain ⟨x, hx⟩ : ∃ x, Hid (wHigh P = x) := ⟨_, rfl⟩
  obtain ⟨y, hy⟩ : ∃ y, Hid (P % 256 = y) := ⟨_, rfl⟩
  have HR := Lib.hid hr
  clear hr
  have E : Hid (((r.pair (rgIdx px) / 256 : Nat) : Int) = (x : Int)) := by show _ = _; rw [hk.out, hP.out, ← hx.out]; rfl
  have HM := Lib.hid (Own.start w)
  have tg1 : Hid True := trivial
  have tg2 : Hid True := trivial
  go_enter Try.func16, Try.ntmps16
  go_wp2_with (first
    | ((with_reducible apply own_box HM); exact rfl; (conv => lhs; whnf); exact rfl; exact rfl; (first | (clear tg1; intro w' g1 HM') | (clear tg2; intro w' g2 HM') | (clear tg3; intro w' g3 HM') | (clear tg4; intro w' g4 HM') | intro w' g' HM'); clear HM; have HM := HM'; clear HM'; all_goals skip) | ((with_reducible apply own_get HM); exact rfl; exact rfl; (first | (with_reducible exact oneU8) | (with_reducible exact oneU16) | (with_reducible exact oneBool) | (with_reducible exact oneInt)); (first | with_reducible exact .z | with_reducible exact .s .z | with_reducible exact .s (.s .z) | with_reducible exact .s (.s (.s .z)) | with_reducible exact .s (.s (.s (.s .z))) | with_reducible exact .s (.s (.s (.s (.s .z))))); (conv => lhs; whnf); exact rfl; all_goals skip)
    | (go_at_call 24; (with_reducible refine (single_no4 _ _).mono ?_); rintro e w' ⟨rfl, rfl⟩))
  (refine own_region HM (by kernel_rfl) (by kernel_rfl) ?_; (try simp only [Act.put, List.setIfInBounds_toArray, List.set_cons_zero, List.set_cons_succ]); repeat ((fail_if_success (with_reducible refine wpQuiet_nil ?_)); first | go_big_quiet_skip | (go_big_quiet_want; first | ((with_reducible apply quiet_row); exact rfl; exact aggR; (first | with_reducible exact .z | with_reducible exact .s .z | with_reducible exact .s (.s .z) | with_reducible exact .s (.s (.s .z)) | with_reducible exact .s (.s (.s (.s .z))) | with_reducible exact .s (.s (.s (.s (.s .z))))); (first | exact Rg.cells_length _ | exact rfl); go_big_quiet_op; go_big_quiet_on) | ((with_reducible apply quiet_get); exact rfl; (first | (with_reducible exact oneU8) | (with_reducible exact oneU16) | (with_reducible exact oneBool)); (first | with_reducible exact .z | with_reducible exact .s .z | with_reducible exact .s (.s .z) | with_reducible exact .s (.s (.s .z)) | with_reducible exact .s (.s (.s (.s .z))) | with_reducible exact .s (.s (.s (.s (.s .z))))); exact rfl; go_big_quiet_op; go_big_quiet_on) | ((with_reducible apply quiet_load); exact rfl; (with_reducible exact aggAlt); (first | with_reducible exact .z | with_reducible exact .s .z | with_reducible exact .s (.s .z) | with_reducible exact .s (.s (.s .z)) | with_reducible exact .s (.s (.s (.s .z))) | with_reducible exact .s (.s (.s (.s (.s .z))))); exact Rg.altDrop _; exact Rg.altTake _; go_big_quiet_op; go_big_quiet_on) | ((with_reducible apply quiet_call); exact fun w => rfl; (focus (go_simp; all_goals with_reducible rfl)); (intro wq HQ; first | (with_reducible exact (index_at px k hk _).mono fun _ _ ⟨he, hw⟩ => ⟨he, hw ▸ Below.refl _ _⟩) | (with_reducible exact pair_at r HR.out k P hP _) | (with_reducible exact (split_at P x y P1 hx hy _).mono fun _ _ ⟨he, hw⟩ => ⟨he, hw ▸ Below.refl _ _⟩)); go_big_quiet_op; go_big_quiet_on) | (go_big_quiet_op; go_big_quiet_on) | (go_big_quiet_op; refine ⟨_, fun _ _ => rfl, ?_⟩; go_big_quiet_on))))
  refine wpQuiet_nil ?_
  intro w' HM'
  clear HM; have HM := HM'; clear HM'
  go_wp2_with fail
  go_ret
  exact ⟨by rw [E.out]; rfl, Own.fin HM⟩
set_option maxRecDepth 100000 in
set_option maxHeartbeats 1600000 in
theorem setOne_4 (r : Rg) (hr : r.Fits) (px : Nat) (v : Nat) (hv : v < 256) (w : World) : Calls Try.prog 20 #[r.v, .int .i64 4, .int .u8 (px : Int), .int .u8 (v : Int)] w fun e w' => e = .returned ((r.setPair (rgIdx px) (v * 256 + r.pair (rgIdx px) % 256)).v) ∧ Below w.heap.size w w' := by
  obtain ⟨k, hk⟩ : ∃ k, Hid (rgIdx px = k) := ⟨_, rfl⟩
  obtain ⟨P, hP⟩ : ∃ P, Hid (r.pair k = P) := ⟨_, rfl⟩
  have P1 : P < 65536 := by rw [← hP.out]; exact r.pair_lt hr k
  obtain ⟨x, hx⟩ : ∃ x, Hid (wHigh P = x) := ⟨_, rfl⟩
  obtain ⟨y, hy⟩ : ∃ y, Hid (P % 256 = y) := ⟨_, rfl⟩
  have HR := Lib.hid hr
  clear hr
  have x1 : x < 256 := by rw [← hx.out]; exact wHigh_lt _ P1
  have y1 : y < 256 := by have := hy.out; omega
  obtain ⟨J, hJ⟩ : ∃ J, Hid (v * 256 + y = J) := ⟨_, rfl⟩
  have J1 : J < 65536 := by have := hJ.out; omega
  obtain ⟨s, hs⟩ : ∃ s, Hid (r.setPair k J = s) := ⟨_, rfl⟩
  have E : Hid (r.setPair (rgIdx px) (v * 256 + r.pair (rgIdx px) % 256) = s) := by show _ = _; rw [hk.out, hP.out, ← hs.out, ← hJ.out, hy.out]
  rw [E.out]
  have HM := Lib.hid (Own.start w)
  have tg1 : Hid True := trivial
  have tg2 : Hid True := trivial
  go_enter Try.func20, Try.ntmps20
  go_wp2_with (first
    | ((with_reducible apply own_box HM); exact rfl; (conv => lhs; whnf); exact rfl; exact rfl; (first | (clear tg1; intro w' g1 HM') | (clear tg2; intro w' g2 HM') | (clear tg3; intro w' g3 HM') | (clear tg4; intro w' g4 HM') | intro w' g' HM'); clear HM; have HM := HM'; clear HM'; all_goals skip) | ((with_reducible apply own_alloc HM); exact rfl; (with_reducible exact zeroR); exact rfl; (first | (clear tg1; intro w' g1 HM') | (clear tg2; intro w' g2 HM') | (clear tg3; intro w' g3 HM') | (clear tg4; intro w' g4 HM') | intro w' g' HM'); clear HM; have HM := HM'; clear HM'; all_goals skip) | ((with_reducible apply own_row HM); exact rfl; exact rfl; exact aggR; (first | with_reducible exact .z | with_reducible exact .s .z | with_reducible exact .s (.s .z) | with_reducible exact .s (.s (.s .z)) | with_reducible exact .s (.s (.s (.s .z))) | with_reducible exact .s (.s (.s (.s (.s .z))))); exact rfl; (first | exact Rg.cells_length _ | exact rfl); all_goals skip) | ((with_reducible apply own_lay HM); exact rfl; exact rfl; exact rfl; (first | with_reducible exact .z | with_reducible exact .s .z | with_reducible exact .s (.s .z) | with_reducible exact .s (.s (.s .z)) | with_reducible exact .s (.s (.s (.s .z))) | with_reducible exact .s (.s (.s (.s (.s .z))))); (first | with_reducible exact .z | with_reducible exact .s .z | with_reducible exact .s (.s .z) | with_reducible exact .s (.s (.s .z)) | with_reducible exact .s (.s (.s (.s .z))) | with_reducible exact .s (.s (.s (.s (.s .z))))); exact aggR.size; (first | exact Rg.cells_length _ | exact rfl); (first | exact Rg.cells_length _ | exact rfl); (first | exact Rg.one1 _ | exact rfl); exact rfl; exact rfl; intro w' HM'; clear HM; have HM := HM'; clear HM'; all_goals skip) | ((with_reducible apply own_put HM); exact rfl; exact rfl; (conv => lhs; whnf); (first | with_reducible exact .z | with_reducible exact .s .z | with_reducible exact .s (.s .z) | with_reducible exact .s (.s (.s .z)) | with_reducible exact .s (.s (.s (.s .z))) | with_reducible exact .s (.s (.s (.s (.s .z))))); (first | with_reducible exact .z | with_reducible exact .s .z | with_reducible exact .s (.s .z) | with_reducible exact .s (.s (.s .z)) | with_reducible exact .s (.s (.s (.s .z))) | with_reducible exact .s (.s (.s (.s (.s .z))))); (first | (with_reducible exact oneU8.size) | (with_reducible exact oneU16.size) | (with_reducible exact oneBool.size) | (with_reducible exact oneInt.size)); exact rfl; exact rfl; (show (_ : Nat) < 29; decide); exact rfl; intro w' HM'; clear HM; have HM := HM'; clear HM'; all_goals skip)
    | (go_at_call 24; (with_reducible refine (single_no4 _ _).mono ?_); rintro e w' ⟨rfl, rfl⟩)
    | (go_at_call 10; (with_reducible refine (index_at px k hk _).mono ?_); rintro e w' ⟨rfl, rfl⟩)
    | (go_at_call 15; (with_reducible refine (pair_at r HR.out k P hP _).mono ?_); rintro e w' ⟨rfl, hb⟩; have HM' := Lib.hid (HM.out.call hb); clear HM hb; have HM := HM'; clear HM')
    | (go_at_call 25; (with_reducible refine (split_at P x y P1 hx hy _).mono ?_); rintro e w' ⟨rfl, rfl⟩))
  (refine own_tail 6 HM (by kernel_rfl) (by kernel_rfl) (by kernel_rfl) ?_; simp only [List.take_succ_cons, List.take_zero, List.drop_succ_cons, List.drop_zero]; (try simp only [Act.put, List.setIfInBounds_toArray, List.set_cons_zero, List.set_cons_succ]); repeat ((fail_if_success (with_reducible refine wpQuiet_nil ?_)); first | go_big_quiet_skip | (go_big_quiet_want; first | ((with_reducible apply quiet_row); exact rfl; exact aggR; (first | with_reducible exact .z | with_reducible exact .s .z | with_reducible exact .s (.s .z) | with_reducible exact .s (.s (.s .z)) | with_reducible exact .s (.s (.s (.s .z))) | with_reducible exact .s (.s (.s (.s (.s .z))))); (first | exact Rg.cells_length _ | exact rfl); go_big_quiet_op; go_big_quiet_on) | ((with_reducible apply quiet_get); exact rfl; (first | (with_reducible exact oneU8) | (with_reducible exact oneU16) | (with_reducible exact oneBool)); (first | with_reducible exact .z | with_reducible exact .s .z | with_reducible exact .s (.s .z) | with_reducible exact .s (.s (.s .z)) | with_reducible exact .s (.s (.s (.s .z))) | with_reducible exact .s (.s (.s (.s (.s .z))))); exact rfl; go_big_quiet_op; go_big_quiet_on) | ((with_reducible apply quiet_load); exact rfl; (with_reducible exact aggAlt); (first | with_reducible exact .z | with_reducible exact .s .z | with_reducible exact .s (.s .z) | with_reducible exact .s (.s (.s .z)) | with_reducible exact .s (.s (.s (.s .z))) | with_reducible exact .s (.s (.s (.s (.s .z))))); exact Rg.altDrop _; exact Rg.altTake _; go_big_quiet_op; go_big_quiet_on) | ((with_reducible apply quiet_call); exact fun w => rfl; (focus (go_simp; all_goals with_reducible rfl)); (intro wq HQ; first | (with_reducible exact (join_at v y J hv y1 hJ _).mono fun _ _ ⟨he, hw⟩ => ⟨he, hw ▸ Below.refl _ _⟩) | (with_reducible exact setPair_at r k J J1 s hs _)); go_big_quiet_op; go_big_quiet_on) | (go_big_quiet_op; go_big_quiet_on) | (go_big_quiet_op; refine ⟨_, fun _ _ => rfl, ?_⟩; go_big_quiet_on))))
  refine wpQuiet_nil ?_
  intro w' HM'
  clear HM; have HM := HM'; clear HM'
  go_wp2_with (first | ((with_reducible apply own_lay HM); exact rfl; exact rfl; exact rfl; (first | with_reducible exact .z | with_reducible exact .s .z | with_reducible exact .s (.s .z) | with_reducible exact .s (.s (.s .z)) | with_reducible exact .s (.s (.s (.s .z))) | with_reducible exact .s (.s (.s (.s (.s .z))))); (first | with_reducible exact .z | with_reducible exact .s .z | with_reducible exact .s (.s .z) | with_reducible exact .s (.s (.s .z)) | with_reducible exact .s (.s (.s (.s .z))) | with_reducible exact .s (.s (.s (.s (.s .z))))); exact aggR.size; (first | exact Rg.cells_length _ | exact rfl); (first | exact Rg.cells_length _ | exact rfl); (first | exact Rg.one1 _ | exact rfl); exact rfl; exact rfl; intro w' HM'; clear HM; have HM := HM'; clear HM'; all_goals skip))
  refine bodyPost_ret (v := .agg s.cells.toArray) (own_results HM Try.results20 _ rfl (by first | exact .z | exact .s .z) aggR) rfl ⟨rfl, Own.fin HM⟩
set_option maxRecDepth 100000 in
set_option maxHeartbeats 800000 in
theorem one_5 (r : Rg) (hr : r.Fits) (px : Nat) (w : World) : Calls Try.prog 16 #[r.v, .int .i64 5, .int .u8 (px : Int)] w fun e w' => e = .returned (.int .u8 (r.pair (rgIdx px) % 256 : Nat)) ∧ Below w.heap.size w w' := by
  obtain ⟨k, hk⟩ : ∃ k, Hid (rgIdx px = k) := ⟨_, rfl⟩
  obtain ⟨P, hP⟩ : ∃ P, Hid (r.pair k = P) := ⟨_, rfl⟩
  have P1 : P < 65536 := by rw [← hP.out]; exact r.pair_lt hr k
  obtain ⟨x, hx⟩ : ∃ x, Hid (wHigh P = x) := ⟨_, rfl⟩
  obtain ⟨y, hy⟩ : ∃ y, Hid (P % 256 = y) := ⟨_, rfl⟩
  have HR := Lib.hid hr
  clear hr
  have E : Hid (((r.pair (rgIdx px) % 256 : Nat) : Int) = (y : Int)) := by show _ = _; rw [hk.out, hP.out, ← hy.out]
  have HM := Lib.hid (Own.start w)
  have tg1 : Hid True := trivial
  have tg2 : Hid True := trivial
  go_enter Try.func16, Try.ntmps16
  go_wp2_with (first
    | ((with_reducible apply own_box HM); exact rfl; (conv => lhs; whnf); exact rfl; exact rfl; (first | (clear tg1; intro w' g1 HM') | (clear tg2; intro w' g2 HM') | (clear tg3; intro w' g3 HM') | (clear tg4; intro w' g4 HM') | intro w' g' HM'); clear HM; have HM := HM'; clear HM'; all_goals skip) | ((with_reducible apply own_get HM); exact rfl; exact rfl; (first | (with_reducible exact oneU8) | (with_reducible exact oneU16) | (with_reducible exact oneBool) | (with_reducible exact oneInt)); (first | with_reducible exact .z | with_reducible exact .s .z | with_reducible exact .s (.s .z) | with_reducible exact .s (.s (.s .z)) | with_reducible exact .s (.s (.s (.s .z))) | with_reducible exact .s (.s (.s (.s (.s .z))))); (conv => lhs; whnf); exact rfl; all_goals skip)
    | (go_at_call 24; (with_reducible refine (single_no5 _ _).mono ?_); rintro e w' ⟨rfl, rfl⟩))
  (refine own_region HM (by kernel_rfl) (by kernel_rfl) ?_; (try simp only [Act.put, List.setIfInBounds_toArray, List.set_cons_zero, List.set_cons_succ]); repeat ((fail_if_success (with_reducible refine wpQuiet_nil ?_)); first | go_big_quiet_skip | (go_big_quiet_want; first | ((with_reducible apply quiet_row); exact rfl; exact aggR; (first | with_reducible exact .z | with_reducible exact .s .z | with_reducible exact .s (.s .z) | with_reducible exact .s (.s (.s .z)) | with_reducible exact .s (.s (.s (.s .z))) | with_reducible exact .s (.s (.s (.s (.s .z))))); (first | exact Rg.cells_length _ | exact rfl); go_big_quiet_op; go_big_quiet_on) | ((with_reducible apply quiet_get); exact rfl; (first | (with_reducible exact oneU8) | (with_reducible exact oneU16) | (with_reducible exact oneBool)); (first | with_reducible exact .z | with_reducible exact .s .z | with_reducible exact .s (.s .z) | with_reducible exact .s (.s (.s .z)) | with_reducible exact .s (.s (.s (.s .z))) | with_reducible exact .s (.s (.s (.s (.s .z))))); exact rfl; go_big_quiet_op; go_big_quiet_on) | ((with_reducible apply quiet_load); exact rfl; (with_reducible exact aggAlt); (first | with_reducible exact .z | with_reducible exact .s .z | with_reducible exact .s (.s .z) | with_reducible exact .s (.s (.s .z)) | with_reducible exact .s (.s (.s (.s .z))) | with_reducible exact .s (.s (.s (.s (.s .z))))); exact Rg.altDrop _; exact Rg.altTake _; go_big_quiet_op; go_big_quiet_on) | ((with_reducible apply quiet_call); exact fun w => rfl; (focus (go_simp; all_goals with_reducible rfl)); (intro wq HQ; first | (with_reducible exact (index_at px k hk _).mono fun _ _ ⟨he, hw⟩ => ⟨he, hw ▸ Below.refl _ _⟩) | (with_reducible exact pair_at r HR.out k P hP _) | (with_reducible exact (split_at P x y P1 hx hy _).mono fun _ _ ⟨he, hw⟩ => ⟨he, hw ▸ Below.refl _ _⟩)); go_big_quiet_op; go_big_quiet_on) | (go_big_quiet_op; go_big_quiet_on) | (go_big_quiet_op; refine ⟨_, fun _ _ => rfl, ?_⟩; go_big_quiet_on))))
  refine wpQuiet_nil ?_
  intro w' HM'
  clear HM; have HM := HM'; clear HM'
  go_wp2_with fail
  go_ret
  exact ⟨by rw [E.out]; rfl, Own.fin HM⟩
set_option maxRecDepth 100000 in
set_option maxHeartbeats 1600000 in
theorem setOne_5 (r : Rg) (hr : r.Fits) (px : Nat) (v : Nat) (hv : v < 256) (w : World) : Calls Try.prog 20 #[r.v, .int .i64 5, .int .u8 (px : Int), .int .u8 (v : Int)] w fun e w' => e = .returned ((r.setPair (rgIdx px) (r.pair (rgIdx px) / 256 * 256 + v)).v) ∧ Below w.heap.size w w' := by
  obtain ⟨k, hk⟩ : ∃ k, Hid (rgIdx px = k) := ⟨_, rfl⟩
  obtain ⟨P, hP⟩ : ∃ P, Hid (r.pair k = P) := ⟨_, rfl⟩
  have P1 : P < 65536 := by rw [← hP.out]; exact r.pair_lt hr k
  obtain ⟨x, hx⟩ : ∃ x, Hid (wHigh P = x) := ⟨_, rfl⟩
  obtain ⟨y, hy⟩ : ∃ y, Hid (P % 256 = y) := ⟨_, rfl⟩
  have HR := Lib.hid hr
  clear hr
  have x1 : x < 256 := by rw [← hx.out]; exact wHigh_lt _ P1
  have y1 : y < 256 := by have := hy.out; omega
  obtain ⟨J, hJ⟩ : ∃ J, Hid (x * 256 + v = J) := ⟨_, rfl⟩
  have J1 : J < 65536 := by have := hJ.out; omega
  obtain ⟨s, hs⟩ : ∃ s, Hid (r.setPair k J = s) := ⟨_, rfl⟩
  have E : Hid (r.setPair (rgIdx px) (r.pair (rgIdx px) / 256 * 256 + v) = s) := by show _ = _; rw [hk.out, hP.out, ← hs.out, ← hJ.out, ← hx.out]; rfl
  rw [E.out]
  have HM := Lib.hid (Own.start w)
  have tg1 : Hid True := trivial
  have tg2 : Hid True := trivial
  go_enter Try.func20, Try.ntmps20
  go_wp2_with (first
    | ((with_reducible apply own_box HM); exact rfl; (conv => lhs; whnf); exact rfl; exact rfl; (first | (clear tg1; intro w' g1 HM') | (clear tg2; intro w' g2 HM') | (clear tg3; intro w' g3 HM') | (clear tg4; intro w' g4 HM') | intro w' g' HM'); clear HM; have HM := HM'; clear HM'; all_goals skip) | ((with_reducible apply own_alloc HM); exact rfl; (with_reducible exact zeroR); exact rfl; (first | (clear tg1; intro w' g1 HM') | (clear tg2; intro w' g2 HM') | (clear tg3; intro w' g3 HM') | (clear tg4; intro w' g4 HM') | intro w' g' HM'); clear HM; have HM := HM'; clear HM'; all_goals skip) | ((with_reducible apply own_row HM); exact rfl; exact rfl; exact aggR; (first | with_reducible exact .z | with_reducible exact .s .z | with_reducible exact .s (.s .z) | with_reducible exact .s (.s (.s .z)) | with_reducible exact .s (.s (.s (.s .z))) | with_reducible exact .s (.s (.s (.s (.s .z))))); exact rfl; (first | exact Rg.cells_length _ | exact rfl); all_goals skip) | ((with_reducible apply own_lay HM); exact rfl; exact rfl; exact rfl; (first | with_reducible exact .z | with_reducible exact .s .z | with_reducible exact .s (.s .z) | with_reducible exact .s (.s (.s .z)) | with_reducible exact .s (.s (.s (.s .z))) | with_reducible exact .s (.s (.s (.s (.s .z))))); (first | with_reducible exact .z | with_reducible exact .s .z | with_reducible exact .s (.s .z) | with_reducible exact .s (.s (.s .z)) | with_reducible exact .s (.s (.s (.s .z))) | with_reducible exact .s (.s (.s (.s (.s .z))))); exact aggR.size; (first | exact Rg.cells_length _ | exact rfl); (first | exact Rg.cells_length _ | exact rfl); (first | exact Rg.one1 _ | exact rfl); exact rfl; exact rfl; intro w' HM'; clear HM; have HM := HM'; clear HM'; all_goals skip) | ((with_reducible apply own_put HM); exact rfl; exact rfl; (conv => lhs; whnf); (first | with_reducible exact .z | with_reducible exact .s .z | with_reducible exact .s (.s .z) | with_reducible exact .s (.s (.s .z)) | with_reducible exact .s (.s (.s (.s .z))) | with_reducible exact .s (.s (.s (.s (.s .z))))); (first | with_reducible exact .z | with_reducible exact .s .z | with_reducible exact .s (.s .z) | with_reducible exact .s (.s (.s .z)) | with_reducible exact .s (.s (.s (.s .z))) | with_reducible exact .s (.s (.s (.s (.s .z))))); (first | (with_reducible exact oneU8.size) | (with_reducible exact oneU16.size) | (with_reducible exact oneBool.size) | (with_reducible exact oneInt.size)); exact rfl; exact rfl; (show (_ : Nat) < 29; decide); exact rfl; intro w' HM'; clear HM; have HM := HM'; clear HM'; all_goals skip)
    | (go_at_call 24; (with_reducible refine (single_no5 _ _).mono ?_); rintro e w' ⟨rfl, rfl⟩)
    | (go_at_call 10; (with_reducible refine (index_at px k hk _).mono ?_); rintro e w' ⟨rfl, rfl⟩)
    | (go_at_call 15; (with_reducible refine (pair_at r HR.out k P hP _).mono ?_); rintro e w' ⟨rfl, hb⟩; have HM' := Lib.hid (HM.out.call hb); clear HM hb; have HM := HM'; clear HM')
    | (go_at_call 25; (with_reducible refine (split_at P x y P1 hx hy _).mono ?_); rintro e w' ⟨rfl, rfl⟩))
  (refine own_tail 6 HM (by kernel_rfl) (by kernel_rfl) (by kernel_rfl) ?_; simp only [List.take_succ_cons, List.take_zero, List.drop_succ_cons, List.drop_zero]; (try simp only [Act.put, List.setIfInBounds_toArray, List.set_cons_zero, List.set_cons_succ]); repeat ((fail_if_success (with_reducible refine wpQuiet_nil ?_)); first | go_big_quiet_skip | (go_big_quiet_want; first | ((with_reducible apply quiet_row); exact rfl; exact aggR; (first | with_reducible exact .z | with_reducible exact .s .z | with_reducible exact .s (.s .z) | with_reducible exact .s (.s (.s .z)) | with_reducible exact .s (.s (.s (.s .z))) | with_reducible exact .s (.s (.s (.s (.s .z))))); (first | exact Rg.cells_length _ | exact rfl); go_big_quiet_op; go_big_quiet_on) | ((with_reducible apply quiet_get); exact rfl; (first | (with_reducible exact oneU8) | (with_reducible exact oneU16) | (with_reducible exact oneBool)); (first | with_reducible exact .z | with_reducible exact .s .z | with_reducible exact .s (.s .z) | with_reducible exact .s (.s (.s .z)) | with_reducible exact .s (.s (.s (.s .z))) | with_reducible exact .s (.s (.s (.s (.s .z))))); exact rfl; go_big_quiet_op; go_big_quiet_on) | ((with_reducible apply quiet_load); exact rfl; (with_reducible exact aggAlt); (first | with_reducible exact .z | with_reducible exact .s .z | with_reducible exact .s (.s .z) | with_reducible exact .s (.s (.s .z)) | with_reducible exact .s (.s (.s (.s .z))) | with_reducible exact .s (.s (.s (.s (.s .z))))); exact Rg.altDrop _; exact Rg.altTake _; go_big_quiet_op; go_big_quiet_on) | ((with_reducible apply quiet_call); exact fun w => rfl; (focus (go_simp; all_goals with_reducible rfl)); (intro wq HQ; first | (with_reducible exact (join_at x v J x1 hv hJ _).mono fun _ _ ⟨he, hw⟩ => ⟨he, hw ▸ Below.refl _ _⟩) | (with_reducible exact setPair_at r k J J1 s hs _)); go_big_quiet_op; go_big_quiet_on) | (go_big_quiet_op; go_big_quiet_on) | (go_big_quiet_op; refine ⟨_, fun _ _ => rfl, ?_⟩; go_big_quiet_on))))
  refine wpQuiet_nil ?_
  intro w' HM'
  clear HM; have HM := HM'; clear HM'
  go_wp2_with (first | ((with_reducible apply own_lay HM); exact rfl; exact rfl; exact rfl; (first | with_reducible exact .z | with_reducible exact .s .z | with_reducible exact .s (.s .z) | with_reducible exact .s (.s (.s .z)) | with_reducible exact .s (.s (.s (.s .z))) | with_reducible exact .s (.s (.s (.s (.s .z))))); (first | with_reducible exact .z | with_reducible exact .s .z | with_reducible exact .s (.s .z) | with_reducible exact .s (.s (.s .z)) | with_reducible exact .s (.s (.s (.s .z))) | with_reducible exact .s (.s (.s (.s (.s .z))))); exact aggR.size; (first | exact Rg.cells_length _ | exact rfl); (first | exact Rg.cells_length _ | exact rfl); (first | exact Rg.one1 _ | exact rfl); exact rfl; exact rfl; intro w' HM'; clear HM; have HM := HM'; clear HM'; all_goals skip))
  refine bodyPost_ret (v := .agg s.cells.toArray) (own_results HM Try.results20 _ rfl (by first | exact .z | exact .s .z) aggR) rfl ⟨rfl, Own.fin HM⟩
set_option maxRecDepth 100000 in
set_option maxHeartbeats 800000 in
theorem one_no (r : Rg) (hr : r.Fits) (n : Int) (hn : ¬ n = 0 ∧ ¬ n = 1 ∧ ¬ n = 2 ∧ ¬ n = 3 ∧ ¬ n = 7 ∧ ¬ n = 4 ∧ ¬ n = 5) (px : Nat) (w : World) : Calls Try.prog 16 #[r.v, .int .i64 n, .int .u8 (px : Int)] w fun e w' => e = .returned (.int .u8 0) ∧ Below w.heap.size w w' := by
  obtain ⟨h0, h1, h2, h3, h7, h4, h5⟩ := hn
  obtain ⟨k, hk⟩ : ∃ k, Hid (rgIdx px = k) := ⟨_, rfl⟩
  obtain ⟨P, hP⟩ : ∃ P, Hid (r.pair k = P) := ⟨_, rfl⟩
  have P1 : P < 65536 := by rw [← hP.out]; exact r.pair_lt hr k
  obtain ⟨x, hx⟩ : ∃ x, Hid (wHigh P = x) := ⟨_, rfl⟩
  obtain ⟨y, hy⟩ : ∃ y, Hid (P % 256 = y) := ⟨_, rfl⟩
  have HR := Lib.hid hr
  clear hr
  have HM := Lib.hid (Own.start w)
  have tg1 : Hid True := trivial
  have tg2 : Hid True := trivial
  go_enter Try.func16, Try.ntmps16
  go_wp2_with (first
    | ((with_reducible apply own_box HM); exact rfl; (conv => lhs; whnf); exact rfl; exact rfl; (first | (clear tg1; intro w' g1 HM') | (clear tg2; intro w' g2 HM') | (clear tg3; intro w' g3 HM') | (clear tg4; intro w' g4 HM') | intro w' g' HM'); clear HM; have HM := HM'; clear HM'; all_goals skip) | ((with_reducible apply own_get HM); exact rfl; exact rfl; (first | (with_reducible exact oneU8) | (with_reducible exact oneU16) | (with_reducible exact oneBool) | (with_reducible exact oneInt)); (first | with_reducible exact .z | with_reducible exact .s .z | with_reducible exact .s (.s .z) | with_reducible exact .s (.s (.s .z)) | with_reducible exact .s (.s (.s (.s .z))) | with_reducible exact .s (.s (.s (.s (.s .z))))); (conv => lhs; whnf); exact rfl; all_goals skip)
    | (go_at_call 24; (with_reducible refine (single_no _ n h0 h1 h2 h3 h7 _).mono ?_); rintro e w' ⟨rfl, rfl⟩))
  (refine own_region HM (by kernel_rfl) (by kernel_rfl) ?_; (try simp only [Act.put, List.setIfInBounds_toArray, List.set_cons_zero, List.set_cons_succ]); repeat ((fail_if_success (with_reducible refine wpQuiet_nil ?_)); first | go_big_quiet_skip | (go_big_quiet_want; first | ((with_reducible apply quiet_row); exact rfl; exact aggR; (first | with_reducible exact .z | with_reducible exact .s .z | with_reducible exact .s (.s .z) | with_reducible exact .s (.s (.s .z)) | with_reducible exact .s (.s (.s (.s .z))) | with_reducible exact .s (.s (.s (.s (.s .z))))); (first | exact Rg.cells_length _ | exact rfl); go_big_quiet_op; go_big_quiet_on) | ((with_reducible apply quiet_get); exact rfl; (first | (with_reducible exact oneU8) | (with_reducible exact oneU16) | (with_reducible exact oneBool)); (first | with_reducible exact .z | with_reducible exact .s .z | with_reducible exact .s (.s .z) | with_reducible exact .s (.s (.s .z)) | with_reducible exact .s (.s (.s (.s .z))) | with_reducible exact .s (.s (.s (.s (.s .z))))); exact rfl; go_big_quiet_op; go_big_quiet_on) | ((with_reducible apply quiet_load); exact rfl; (with_reducible exact aggAlt); (first | with_reducible exact .z | with_reducible exact .s .z | with_reducible exact .s (.s .z) | with_reducible exact .s (.s (.s .z)) | with_reducible exact .s (.s (.s (.s .z))) | with_reducible exact .s (.s (.s (.s (.s .z))))); exact Rg.altDrop _; exact Rg.altTake _; go_big_quiet_op; go_big_quiet_on) | ((with_reducible apply quiet_call); exact fun w => rfl; (focus (go_simp; all_goals with_reducible rfl)); (intro wq HQ; first | (with_reducible exact (index_at px k hk _).mono fun _ _ ⟨he, hw⟩ => ⟨he, hw ▸ Below.refl _ _⟩) | (with_reducible exact pair_at r HR.out k P hP _) | (with_reducible exact (split_at P x y P1 hx hy _).mono fun _ _ ⟨he, hw⟩ => ⟨he, hw ▸ Below.refl _ _⟩)); go_big_quiet_op; go_big_quiet_on) | (go_big_quiet_op; go_big_quiet_on) | (go_big_quiet_op; refine ⟨_, fun _ _ => rfl, ?_⟩; go_big_quiet_on))))
  refine wpQuiet_nil ?_
  intro w' HM'
  clear HM; have HM := HM'; clear HM'
  go_wp2_with fail
  go_ret
  exact ⟨rfl, Own.fin HM⟩
set_option maxRecDepth 100000 in
set_option maxHeartbeats 1600000 in
theorem setOne_no (r : Rg) (hr : r.Fits) (n : Int) (hn : ¬ n = 0 ∧ ¬ n = 1 ∧ ¬ n = 2 ∧ ¬ n = 3 ∧ ¬ n = 7 ∧ ¬ n = 4 ∧ ¬ n = 5) (px : Nat) (v : Nat) (_hv : v < 256) (w : World) : Calls Try.prog 20 #[r.v, .int .i64 n, .int .u8 (px : Int), .int .u8 (v : Int)] w fun e w' => e = .returned (r.v) ∧ Below w.heap.size w w' := by
  obtain ⟨h0, h1, h2, h3, h7, h4, h5⟩ := hn
  obtain ⟨k, hk⟩ : ∃ k, Hid (rgIdx px = k) := ⟨_, rfl⟩
  obtain ⟨P, hP⟩ : ∃ P, Hid (r.pair k = P) := ⟨_, rfl⟩
  have P1 : P < 65536 := by rw [← hP.out]; exact r.pair_lt hr k
  obtain ⟨x, hx⟩ : ∃ x, Hid (wHigh P = x) := ⟨_, rfl⟩
  obtain ⟨y, hy⟩ : ∃ y, Hid (P % 256 = y) := ⟨_, rfl⟩
  have HR := Lib.hid hr
  clear hr
  have HM := Lib.hid (Own.start w)
  have tg1 : Hid True := trivial
  have tg2 : Hid True := trivial
  go_enter Try.func20, Try.ntmps20
  go_wp2_with (first
    | ((with_reducible apply own_box HM); exact rfl; (conv => lhs; whnf); exact rfl; exact rfl; (first | (clear tg1; intro w' g1 HM') | (clear tg2; intro w' g2 HM') | (clear tg3; intro w' g3 HM') | (clear tg4; intro w' g4 HM') | intro w' g' HM'); clear HM; have HM := HM'; clear HM'; all_goals skip) | ((with_reducible apply own_alloc HM); exact rfl; (with_reducible exact zeroR); exact rfl; (first | (clear tg1; intro w' g1 HM') | (clear tg2; intro w' g2 HM') | (clear tg3; intro w' g3 HM') | (clear tg4; intro w' g4 HM') | intro w' g' HM'); clear HM; have HM := HM'; clear HM'; all_goals skip) | ((with_reducible apply own_row HM); exact rfl; exact rfl; exact aggR; (first | with_reducible exact .z | with_reducible exact .s .z | with_reducible exact .s (.s .z) | with_reducible exact .s (.s (.s .z)) | with_reducible exact .s (.s (.s (.s .z))) | with_reducible exact .s (.s (.s (.s (.s .z))))); exact rfl; (first | exact Rg.cells_length _ | exact rfl); all_goals skip) | ((with_reducible apply own_lay HM); exact rfl; exact rfl; exact rfl; (first | with_reducible exact .z | with_reducible exact .s .z | with_reducible exact .s (.s .z) | with_reducible exact .s (.s (.s .z)) | with_reducible exact .s (.s (.s (.s .z))) | with_reducible exact .s (.s (.s (.s (.s .z))))); (first | with_reducible exact .z | with_reducible exact .s .z | with_reducible exact .s (.s .z) | with_reducible exact .s (.s (.s .z)) | with_reducible exact .s (.s (.s (.s .z))) | with_reducible exact .s (.s (.s (.s (.s .z))))); exact aggR.size; (first | exact Rg.cells_length _ | exact rfl); (first | exact Rg.cells_length _ | exact rfl); (first | exact Rg.one1 _ | exact rfl); exact rfl; exact rfl; intro w' HM'; clear HM; have HM := HM'; clear HM'; all_goals skip) | ((with_reducible apply own_put HM); exact rfl; exact rfl; (conv => lhs; whnf); (first | with_reducible exact .z | with_reducible exact .s .z | with_reducible exact .s (.s .z) | with_reducible exact .s (.s (.s .z)) | with_reducible exact .s (.s (.s (.s .z))) | with_reducible exact .s (.s (.s (.s (.s .z))))); (first | with_reducible exact .z | with_reducible exact .s .z | with_reducible exact .s (.s .z) | with_reducible exact .s (.s (.s .z)) | with_reducible exact .s (.s (.s (.s .z))) | with_reducible exact .s (.s (.s (.s (.s .z))))); (first | (with_reducible exact oneU8.size) | (with_reducible exact oneU16.size) | (with_reducible exact oneBool.size) | (with_reducible exact oneInt.size)); exact rfl; exact rfl; (show (_ : Nat) < 29; decide); exact rfl; intro w' HM'; clear HM; have HM := HM'; clear HM'; all_goals skip)
    | (go_at_call 24; (with_reducible refine (single_no _ n h0 h1 h2 h3 h7 _).mono ?_); rintro e w' ⟨rfl, rfl⟩)
    | (go_at_call 10; (with_reducible refine (index_at px k hk _).mono ?_); rintro e w' ⟨rfl, rfl⟩)
    | (go_at_call 15; (with_reducible refine (pair_at r HR.out k P hP _).mono ?_); rintro e w' ⟨rfl, hb⟩; have HM' := Lib.hid (HM.out.call hb); clear HM hb; have HM := HM'; clear HM')
    | (go_at_call 25; (with_reducible refine (split_at P x y P1 hx hy _).mono ?_); rintro e w' ⟨rfl, rfl⟩))
  refine bodyPost_ret (v := .agg r.cells.toArray) (own_results HM Try.results20 _ rfl (by first | exact .z | exact .s .z) aggR) rfl ⟨rfl, Own.fin HM⟩

theorem one_at (r : Rg) (hr : r.Fits) (n : Int) (px O : Nat) (hO : Hid (r.one n px = O)) (w : World) : Calls Try.prog 16 #[r.v, .int .i64 n, .int .u8 (px : Int)] w fun e w' => e = .returned (.int .u8 (O : Int)) ∧ Below w.heap.size w w' := by
  rw [← hO.out]
  rcases one_cases n with rfl | rfl | rfl | rfl | rfl | rfl | rfl | hn
  · exact one_0 r px w
  · exact one_1 r px w
  · exact one_2 r px w
  · exact one_3 r px w
  · exact one_7 r px w
  · exact one_4 r hr px w
  · exact one_5 r hr px w
  · rw [r.one_no n px hn]; exact one_no r hr n hn px w
theorem setOne_at (r : Rg) (hr : r.Fits) (n : Int) (px v : Nat) (hv : v < 256) (s : Rg) (hs : Hid (r.setOne n px v = s)) (w : World) : Calls Try.prog 20 #[r.v, .int .i64 n, .int .u8 (px : Int), .int .u8 (v : Int)] w fun e w' => e = .returned s.v ∧ Below w.heap.size w w' := by
  rw [← hs.out]
  rcases one_cases n with rfl | rfl | rfl | rfl | rfl | rfl | rfl | hn
  · exact setOne_0 r px v hv w
  · exact setOne_1 r px v hv w
  · exact setOne_2 r px v hv w
  · exact setOne_3 r px v hv w
  · exact setOne_7 r px v hv w
  · exact setOne_4 r hr px v hv w
  · exact setOne_5 r hr px v hv w
  · rw [r.setOne_no n px v hn]; exact setOne_no r hr n hn px v hv w

end Go.Proofs.Ythehpkhhoimecaa
