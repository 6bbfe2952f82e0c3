import Derived.Test.YtljjgakfnajifaaGreatDoorZBase
namespace Go.Proofs.YtljjgakfnajifaaGreatDoor
open Go.RowKit
set_option maxRecDepth 100000 in
set_option maxHeartbeats 800000 in
theorem rget_A (r : Rg) (hb : r.a < 256) (w : World) : Calls Tryz.prog 58 #[r.v, .string ⟨#[65]⟩] w fun e w' => e = .returned (.int .i64 (r.a : Int)) ∧ Below w.heap.size w w' := by
  have hb1 : (r.a : Int) < 256 := by omega
  have HM := Lib.hid (Own.start w)
  have tg1 : Hid True := trivial
  have tg2 : Hid True := trivial
  go_enter Tryz.func58, Tryz.ntmps58
  go_wp2_with (first | ((with_reducible apply own_box HM); exact rfl; (conv => lhs; whnf); exact rfl; exact rfl; (first | (clear tg1 HM; intro w' g1 HM) | (clear tg2 HM; intro w' g2 HM) | (clear tg3 HM; intro w' g3 HM) | (clear tg4 HM; intro w' g4 HM) | (clear HM; intro w' g' HM)); all_goals skip) | ((with_reducible apply own_get HM); exact rfl; exact rfl; (with_reducible first | exact oneU8 | exact oneU16 | exact oneBool | exact oneInt); (with_reducible first | exact .z | exact .s .z | exact .s (.s .z) | exact .s (.s (.s .z)) | exact .s (.s (.s (.s .z)))); (conv => lhs; whnf); exact rfl; all_goals skip))
  go_ret
  exact ⟨rfl, Own.fin HM⟩
set_option maxRecDepth 100000 in
set_option maxHeartbeats 800000 in
theorem rget_F (r : Rg) (hb : r.f < 256) (w : World) : Calls Tryz.prog 58 #[r.v, .string ⟨#[70]⟩] w fun e w' => e = .returned (.int .i64 (r.f : Int)) ∧ Below w.heap.size w w' := by
  have hb1 : (r.f : Int) < 256 := by omega
  have HM := Lib.hid (Own.start w)
  have tg1 : Hid True := trivial
  have tg2 : Hid True := trivial
  go_enter Tryz.func58, Tryz.ntmps58
  go_wp2_with (first | ((with_reducible apply own_box HM); exact rfl; (conv => lhs; whnf); exact rfl; exact rfl; (first | (clear tg1 HM; intro w' g1 HM) | (clear tg2 HM; intro w' g2 HM) | (clear tg3 HM; intro w' g3 HM) | (clear tg4 HM; intro w' g4 HM) | (clear HM; intro w' g' HM)); all_goals skip) | ((with_reducible apply own_get HM); exact rfl; exact rfl; (with_reducible first | exact oneU8 | exact oneU16 | exact oneBool | exact oneInt); (with_reducible first | exact .z | exact .s .z | exact .s (.s .z) | exact .s (.s (.s .z)) | exact .s (.s (.s (.s .z)))); (conv => lhs; whnf); exact rfl; all_goals skip))
  go_ret
  exact ⟨rfl, Own.fin HM⟩
set_option maxRecDepth 100000 in
set_option maxHeartbeats 800000 in
theorem rget_B (r : Rg) (hb : r.b < 256) (w : World) : Calls Tryz.prog 58 #[r.v, .string ⟨#[66]⟩] w fun e w' => e = .returned (.int .i64 (r.b : Int)) ∧ Below w.heap.size w w' := by
  have hb1 : (r.b : Int) < 256 := by omega
  have HM := Lib.hid (Own.start w)
  have tg1 : Hid True := trivial
  have tg2 : Hid True := trivial
  go_enter Tryz.func58, Tryz.ntmps58
  go_wp2_with (first | ((with_reducible apply own_box HM); exact rfl; (conv => lhs; whnf); exact rfl; exact rfl; (first | (clear tg1 HM; intro w' g1 HM) | (clear tg2 HM; intro w' g2 HM) | (clear tg3 HM; intro w' g3 HM) | (clear tg4 HM; intro w' g4 HM) | (clear HM; intro w' g' HM)); all_goals skip) | ((with_reducible apply own_get HM); exact rfl; exact rfl; (with_reducible first | exact oneU8 | exact oneU16 | exact oneBool | exact oneInt); (with_reducible first | exact .z | exact .s .z | exact .s (.s .z) | exact .s (.s (.s .z)) | exact .s (.s (.s (.s .z)))); (conv => lhs; whnf); exact rfl; all_goals skip))
  go_ret
  exact ⟨rfl, Own.fin HM⟩
set_option maxRecDepth 100000 in
set_option maxHeartbeats 800000 in
theorem rget_C (r : Rg) (hb : r.c < 256) (w : World) : Calls Tryz.prog 58 #[r.v, .string ⟨#[67]⟩] w fun e w' => e = .returned (.int .i64 (r.c : Int)) ∧ Below w.heap.size w w' := by
  have hb1 : (r.c : Int) < 256 := by omega
  have HM := Lib.hid (Own.start w)
  have tg1 : Hid True := trivial
  have tg2 : Hid True := trivial
  go_enter Tryz.func58, Tryz.ntmps58
  go_wp2_with (first | ((with_reducible apply own_box HM); exact rfl; (conv => lhs; whnf); exact rfl; exact rfl; (first | (clear tg1 HM; intro w' g1 HM) | (clear tg2 HM; intro w' g2 HM) | (clear tg3 HM; intro w' g3 HM) | (clear tg4 HM; intro w' g4 HM) | (clear HM; intro w' g' HM)); all_goals skip) | ((with_reducible apply own_get HM); exact rfl; exact rfl; (with_reducible first | exact oneU8 | exact oneU16 | exact oneBool | exact oneInt); (with_reducible first | exact .z | exact .s .z | exact .s (.s .z) | exact .s (.s (.s .z)) | exact .s (.s (.s (.s .z)))); (conv => lhs; whnf); exact rfl; all_goals skip))
  go_ret
  exact ⟨rfl, Own.fin HM⟩
set_option maxRecDepth 100000 in
set_option maxHeartbeats 800000 in
theorem rget_D (r : Rg) (hb : r.d < 256) (w : World) : Calls Tryz.prog 58 #[r.v, .string ⟨#[68]⟩] w fun e w' => e = .returned (.int .i64 (r.d : Int)) ∧ Below w.heap.size w w' := by
  have hb1 : (r.d : Int) < 256 := by omega
  have HM := Lib.hid (Own.start w)
  have tg1 : Hid True := trivial
  have tg2 : Hid True := trivial
  go_enter Tryz.func58, Tryz.ntmps58
  go_wp2_with (first | ((with_reducible apply own_box HM); exact rfl; (conv => lhs; whnf); exact rfl; exact rfl; (first | (clear tg1 HM; intro w' g1 HM) | (clear tg2 HM; intro w' g2 HM) | (clear tg3 HM; intro w' g3 HM) | (clear tg4 HM; intro w' g4 HM) | (clear HM; intro w' g' HM)); all_goals skip) | ((with_reducible apply own_get HM); exact rfl; exact rfl; (with_reducible first | exact oneU8 | exact oneU16 | exact oneBool | exact oneInt); (with_reducible first | exact .z | exact .s .z | exact .s (.s .z) | exact .s (.s (.s .z)) | exact .s (.s (.s (.s .z)))); (conv => lhs; whnf); exact rfl; all_goals skip))
  go_ret
  exact ⟨rfl, Own.fin HM⟩
set_option maxRecDepth 100000 in
set_option maxHeartbeats 800000 in
theorem rget_E (r : Rg) (hb : r.e < 256) (w : World) : Calls Tryz.prog 58 #[r.v, .string ⟨#[69]⟩] w fun e w' => e = .returned (.int .i64 (r.e : Int)) ∧ Below w.heap.size w w' := by
  have hb1 : (r.e : Int) < 256 := by omega
  have HM := Lib.hid (Own.start w)
  have tg1 : Hid True := trivial
  have tg2 : Hid True := trivial
  go_enter Tryz.func58, Tryz.ntmps58
  go_wp2_with (first | ((with_reducible apply own_box HM); exact rfl; (conv => lhs; whnf); exact rfl; exact rfl; (first | (clear tg1 HM; intro w' g1 HM) | (clear tg2 HM; intro w' g2 HM) | (clear tg3 HM; intro w' g3 HM) | (clear tg4 HM; intro w' g4 HM) | (clear HM; intro w' g' HM)); all_goals skip) | ((with_reducible apply own_get HM); exact rfl; exact rfl; (with_reducible first | exact oneU8 | exact oneU16 | exact oneBool | exact oneInt); (with_reducible first | exact .z | exact .s .z | exact .s (.s .z) | exact .s (.s (.s .z)) | exact .s (.s (.s (.s .z)))); (conv => lhs; whnf); exact rfl; all_goals skip))
  go_ret
  exact ⟨rfl, Own.fin HM⟩
set_option maxRecDepth 100000 in
set_option maxHeartbeats 800000 in
theorem rget_H (r : Rg) (hb : r.h < 256) (w : World) : Calls Tryz.prog 58 #[r.v, .string ⟨#[72]⟩] w fun e w' => e = .returned (.int .i64 (r.h : Int)) ∧ Below w.heap.size w w' := by
  have hb1 : (r.h : Int) < 256 := by omega
  have HM := Lib.hid (Own.start w)
  have tg1 : Hid True := trivial
  have tg2 : Hid True := trivial
  go_enter Tryz.func58, Tryz.ntmps58
  go_wp2_with (first | ((with_reducible apply own_box HM); exact rfl; (conv => lhs; whnf); exact rfl; exact rfl; (first | (clear tg1 HM; intro w' g1 HM) | (clear tg2 HM; intro w' g2 HM) | (clear tg3 HM; intro w' g3 HM) | (clear tg4 HM; intro w' g4 HM) | (clear HM; intro w' g' HM)); all_goals skip) | ((with_reducible apply own_get HM); exact rfl; exact rfl; (with_reducible first | exact oneU8 | exact oneU16 | exact oneBool | exact oneInt); (with_reducible first | exact .z | exact .s .z | exact .s (.s .z) | exact .s (.s (.s .z)) | exact .s (.s (.s (.s .z)))); (conv => lhs; whnf); exact rfl; all_goals skip))
  go_ret
  exact ⟨rfl, Own.fin HM⟩
set_option maxRecDepth 100000 in
set_option maxHeartbeats 800000 in
theorem rget_L (r : Rg) (hb : r.l < 256) (w : World) : Calls Tryz.prog 58 #[r.v, .string ⟨#[76]⟩] w fun e w' => e = .returned (.int .i64 (r.l : Int)) ∧ Below w.heap.size w w' := by
  have hb1 : (r.l : Int) < 256 := by omega
  have HM := Lib.hid (Own.start w)
  have tg1 : Hid True := trivial
  have tg2 : Hid True := trivial
  go_enter Tryz.func58, Tryz.ntmps58
  go_wp2_with (first | ((with_reducible apply own_box HM); exact rfl; (conv => lhs; whnf); exact rfl; exact rfl; (first | (clear tg1 HM; intro w' g1 HM) | (clear tg2 HM; intro w' g2 HM) | (clear tg3 HM; intro w' g3 HM) | (clear tg4 HM; intro w' g4 HM) | (clear HM; intro w' g' HM)); all_goals skip) | ((with_reducible apply own_get HM); exact rfl; exact rfl; (with_reducible first | exact oneU8 | exact oneU16 | exact oneBool | exact oneInt); (with_reducible first | exact .z | exact .s .z | exact .s (.s .z) | exact .s (.s (.s .z)) | exact .s (.s (.s (.s .z)))); (conv => lhs; whnf); exact rfl; all_goals skip))
  go_ret
  exact ⟨rfl, Own.fin HM⟩
set_option maxRecDepth 100000 in
set_option maxHeartbeats 800000 in
theorem rget_IX (r : Rg) (hb : r.ix < 65536) (w : World) : Calls Tryz.prog 58 #[r.v, .string ⟨#[73, 88]⟩] w fun e w' => e = .returned (.int .i64 (r.ix : Int)) ∧ Below w.heap.size w w' := by
  have hb1 : (r.ix : Int) < 65536 := by omega
  have HM := Lib.hid (Own.start w)
  have tg1 : Hid True := trivial
  have tg2 : Hid True := trivial
  go_enter Tryz.func58, Tryz.ntmps58
  go_wp2_with (first | ((with_reducible apply own_box HM); exact rfl; (conv => lhs; whnf); exact rfl; exact rfl; (first | (clear tg1 HM; intro w' g1 HM) | (clear tg2 HM; intro w' g2 HM) | (clear tg3 HM; intro w' g3 HM) | (clear tg4 HM; intro w' g4 HM) | (clear HM; intro w' g' HM)); all_goals skip) | ((with_reducible apply own_get HM); exact rfl; exact rfl; (with_reducible first | exact oneU8 | exact oneU16 | exact oneBool | exact oneInt); (with_reducible first | exact .z | exact .s .z | exact .s (.s .z) | exact .s (.s (.s .z)) | exact .s (.s (.s (.s .z)))); (conv => lhs; whnf); exact rfl; all_goals skip))
  go_ret
  exact ⟨rfl, Own.fin HM⟩
set_option maxRecDepth 100000 in
set_option maxHeartbeats 800000 in
theorem rget_IY (r : Rg) (hb : r.iy < 65536) (w : World) : Calls Tryz.prog 58 #[r.v, .string ⟨#[73, 89]⟩] w fun e w' => e = .returned (.int .i64 (r.iy : Int)) ∧ Below w.heap.size w w' := by
  have hb1 : (r.iy : Int) < 65536 := by omega
  have HM := Lib.hid (Own.start w)
  have tg1 : Hid True := trivial
  have tg2 : Hid True := trivial
  go_enter Tryz.func58, Tryz.ntmps58
  go_wp2_with (first | ((with_reducible apply own_box HM); exact rfl; (conv => lhs; whnf); exact rfl; exact rfl; (first | (clear tg1 HM; intro w' g1 HM) | (clear tg2 HM; intro w' g2 HM) | (clear tg3 HM; intro w' g3 HM) | (clear tg4 HM; intro w' g4 HM) | (clear HM; intro w' g' HM)); all_goals skip) | ((with_reducible apply own_get HM); exact rfl; exact rfl; (with_reducible first | exact oneU8 | exact oneU16 | exact oneBool | exact oneInt); (with_reducible first | exact .z | exact .s .z | exact .s (.s .z) | exact .s (.s (.s .z)) | exact .s (.s (.s (.s .z)))); (conv => lhs; whnf); exact rfl; all_goals skip))
  go_ret
  exact ⟨rfl, Own.fin HM⟩
set_option maxRecDepth 100000 in
set_option maxHeartbeats 800000 in
theorem rget_SP (r : Rg) (hb : r.sp < 65536) (w : World) : Calls Tryz.prog 58 #[r.v, .string ⟨#[83, 80]⟩] w fun e w' => e = .returned (.int .i64 (r.sp : Int)) ∧ Below w.heap.size w w' := by
  have hb1 : (r.sp : Int) < 65536 := by omega
  have HM := Lib.hid (Own.start w)
  have tg1 : Hid True := trivial
  have tg2 : Hid True := trivial
  go_enter Tryz.func58, Tryz.ntmps58
  go_wp2_with (first | ((with_reducible apply own_box HM); exact rfl; (conv => lhs; whnf); exact rfl; exact rfl; (first | (clear tg1 HM; intro w' g1 HM) | (clear tg2 HM; intro w' g2 HM) | (clear tg3 HM; intro w' g3 HM) | (clear tg4 HM; intro w' g4 HM) | (clear HM; intro w' g' HM)); all_goals skip) | ((with_reducible apply own_get HM); exact rfl; exact rfl; (with_reducible first | exact oneU8 | exact oneU16 | exact oneBool | exact oneInt); (with_reducible first | exact .z | exact .s .z | exact .s (.s .z) | exact .s (.s (.s .z)) | exact .s (.s (.s (.s .z)))); (conv => lhs; whnf); exact rfl; all_goals skip))
  go_ret
  exact ⟨rfl, Own.fin HM⟩
set_option maxRecDepth 100000 in
set_option maxHeartbeats 800000 in
theorem rget_IXH (r : Rg) (hb : r.ix < 65536) (w : World) : Calls Tryz.prog 58 #[r.v, .string ⟨#[73, 88, 72]⟩] w fun e w' => e = .returned (.int .i64 ((r.ix / 256 : Nat) : Int)) ∧ Below w.heap.size w w' := by
  have hb1 : (r.ix : Int) < 65536 := by omega
  have HM := Lib.hid (Own.start w)
  have tg1 : Hid True := trivial
  have tg2 : Hid True := trivial
  go_enter Tryz.func58, Tryz.ntmps58
  go_wp2_with (first | ((with_reducible apply own_box HM); exact rfl; (conv => lhs; whnf); exact rfl; exact rfl; (first | (clear tg1 HM; intro w' g1 HM) | (clear tg2 HM; intro w' g2 HM) | (clear tg3 HM; intro w' g3 HM) | (clear tg4 HM; intro w' g4 HM) | (clear HM; intro w' g' HM)); all_goals skip) | ((with_reducible apply own_get HM); exact rfl; exact rfl; (with_reducible first | exact oneU8 | exact oneU16 | exact oneBool | exact oneInt); (with_reducible first | exact .z | exact .s .z | exact .s (.s .z) | exact .s (.s (.s .z)) | exact .s (.s (.s (.s .z)))); (conv => lhs; whnf); exact rfl; all_goals skip))
  go_ret
  exact ⟨congrArg (fun z : Int => (Ending.returned (.int .i64 z) : Ending)) (show (r.ix : Int) / 256 = ((r.ix / 256 : Nat) : Int) by omega), Own.fin HM⟩
set_option maxRecDepth 100000 in
set_option maxHeartbeats 800000 in
theorem rget_IXL (r : Rg) (hb : r.ix < 65536) (w : World) : Calls Tryz.prog 58 #[r.v, .string ⟨#[73, 88, 76]⟩] w fun e w' => e = .returned (.int .i64 ((r.ix % 256 : Nat) : Int)) ∧ Below w.heap.size w w' := by
  have hb1 : (r.ix : Int) < 65536 := by omega
  have HM := Lib.hid (Own.start w)
  have tg1 : Hid True := trivial
  have tg2 : Hid True := trivial
  go_enter Tryz.func58, Tryz.ntmps58
  go_wp2_with (first | ((with_reducible apply own_box HM); exact rfl; (conv => lhs; whnf); exact rfl; exact rfl; (first | (clear tg1 HM; intro w' g1 HM) | (clear tg2 HM; intro w' g2 HM) | (clear tg3 HM; intro w' g3 HM) | (clear tg4 HM; intro w' g4 HM) | (clear HM; intro w' g' HM)); all_goals skip) | ((with_reducible apply own_get HM); exact rfl; exact rfl; (with_reducible first | exact oneU8 | exact oneU16 | exact oneBool | exact oneInt); (with_reducible first | exact .z | exact .s .z | exact .s (.s .z) | exact .s (.s (.s .z)) | exact .s (.s (.s (.s .z)))); (conv => lhs; whnf); exact rfl; all_goals skip))
  go_ret
  exact ⟨congrArg (fun z : Int => (Ending.returned (.int .i64 z) : Ending)) (show (r.ix : Int) % 256 = ((r.ix % 256 : Nat) : Int) by omega), Own.fin HM⟩
set_option maxRecDepth 100000 in
set_option maxHeartbeats 800000 in
theorem rget_IYH (r : Rg) (hb : r.iy < 65536) (w : World) : Calls Tryz.prog 58 #[r.v, .string ⟨#[73, 89, 72]⟩] w fun e w' => e = .returned (.int .i64 ((r.iy / 256 : Nat) : Int)) ∧ Below w.heap.size w w' := by
  have hb1 : (r.iy : Int) < 65536 := by omega
  have HM := Lib.hid (Own.start w)
  have tg1 : Hid True := trivial
  have tg2 : Hid True := trivial
  go_enter Tryz.func58, Tryz.ntmps58
  go_wp2_with (first | ((with_reducible apply own_box HM); exact rfl; (conv => lhs; whnf); exact rfl; exact rfl; (first | (clear tg1 HM; intro w' g1 HM) | (clear tg2 HM; intro w' g2 HM) | (clear tg3 HM; intro w' g3 HM) | (clear tg4 HM; intro w' g4 HM) | (clear HM; intro w' g' HM)); all_goals skip) | ((with_reducible apply own_get HM); exact rfl; exact rfl; (with_reducible first | exact oneU8 | exact oneU16 | exact oneBool | exact oneInt); (with_reducible first | exact .z | exact .s .z | exact .s (.s .z) | exact .s (.s (.s .z)) | exact .s (.s (.s (.s .z)))); (conv => lhs; whnf); exact rfl; all_goals skip))
  go_ret
  exact ⟨congrArg (fun z : Int => (Ending.returned (.int .i64 z) : Ending)) (show (r.iy : Int) / 256 = ((r.iy / 256 : Nat) : Int) by omega), Own.fin HM⟩
set_option maxRecDepth 100000 in
set_option maxHeartbeats 800000 in
theorem rget_IYL (r : Rg) (hb : r.iy < 65536) (w : World) : Calls Tryz.prog 58 #[r.v, .string ⟨#[73, 89, 76]⟩] w fun e w' => e = .returned (.int .i64 ((r.iy % 256 : Nat) : Int)) ∧ Below w.heap.size w w' := by
  have hb1 : (r.iy : Int) < 65536 := by omega
  have HM := Lib.hid (Own.start w)
  have tg1 : Hid True := trivial
  have tg2 : Hid True := trivial
  go_enter Tryz.func58, Tryz.ntmps58
  go_wp2_with (first | ((with_reducible apply own_box HM); exact rfl; (conv => lhs; whnf); exact rfl; exact rfl; (first | (clear tg1 HM; intro w' g1 HM) | (clear tg2 HM; intro w' g2 HM) | (clear tg3 HM; intro w' g3 HM) | (clear tg4 HM; intro w' g4 HM) | (clear HM; intro w' g' HM)); all_goals skip) | ((with_reducible apply own_get HM); exact rfl; exact rfl; (with_reducible first | exact oneU8 | exact oneU16 | exact oneBool | exact oneInt); (with_reducible first | exact .z | exact .s .z | exact .s (.s .z) | exact .s (.s (.s .z)) | exact .s (.s (.s (.s .z)))); (conv => lhs; whnf); exact rfl; all_goals skip))
  go_ret
  exact ⟨congrArg (fun z : Int => (Ending.returned (.int .i64 z) : Ending)) (show (r.iy : Int) % 256 = ((r.iy % 256 : Nat) : Int) by omega), Own.fin HM⟩
set_option maxRecDepth 100000 in
set_option maxHeartbeats 800000 in
theorem rset_A (r : Rg) (v : Nat) (hv : v < 256) (w : World) : Calls Tryz.prog 116 #[r.v, .string ⟨#[65]⟩, .int .i64 (v : Int)] w fun e w' => e = .returned (({ r with a := v } : Rg).v) ∧ Below w.heap.size w w' := by
  have hv1 : (v : Int) % 256 = (v : Int) := by omega
  have hv2 : (v : Int) < 256 := by omega
  clear hv
  have HM := Lib.hid (Own.start w)
  have tg1 : Hid True := trivial
  have tg2 : Hid True := trivial
  go_enter Tryz.func116, Tryz.ntmps116
  go_wp2_with (first | ((with_reducible apply own_box HM); exact rfl; (conv => lhs; whnf); exact rfl; exact rfl; (first | (clear tg1 HM; intro w' g1 HM) | (clear tg2 HM; intro w' g2 HM) | (clear tg3 HM; intro w' g3 HM) | (clear tg4 HM; intro w' g4 HM) | (clear HM; intro w' g' HM)); all_goals skip) | ((with_reducible apply own_alloc HM); exact rfl; (with_reducible exact zeroR); exact rfl; (first | (clear tg1 HM; intro w' g1 HM) | (clear tg2 HM; intro w' g2 HM) | (clear tg3 HM; intro w' g3 HM) | (clear tg4 HM; intro w' g4 HM) | (clear HM; intro w' g' HM)); all_goals skip) | ((with_reducible apply own_row HM); exact rfl; exact rfl; exact aggR; (with_reducible first | exact .z | exact .s .z | exact .s (.s .z) | exact .s (.s (.s .z)) | exact .s (.s (.s (.s .z)))); exact rfl; (first | exact Rg.cells_length _ | exact rfl); all_goals skip) | ((with_reducible apply own_lay HM); exact rfl; exact rfl; exact rfl; (with_reducible first | exact .z | exact .s .z | exact .s (.s .z) | exact .s (.s (.s .z)) | exact .s (.s (.s (.s .z)))); (with_reducible first | exact .z | exact .s .z | exact .s (.s .z) | exact .s (.s (.s .z)) | exact .s (.s (.s (.s .z)))); exact aggR.size; (first | exact Rg.cells_length _ | exact rfl); (first | exact Rg.cells_length _ | exact rfl); (first | exact Rg.one1 _ | exact rfl); exact rfl; exact rfl; clear HM; intro w' HM; all_goals skip) | ((with_reducible apply own_put HM); exact rfl; exact rfl; (conv => lhs; whnf); (with_reducible first | exact .z | exact .s .z | exact .s (.s .z) | exact .s (.s (.s .z)) | exact .s (.s (.s (.s .z)))); (with_reducible first | exact .z | exact .s .z | exact .s (.s .z) | exact .s (.s (.s .z)) | exact .s (.s (.s (.s .z)))); (first | (with_reducible exact oneU8.size) | (with_reducible exact oneU16.size) | (with_reducible exact oneBool.size) | (with_reducible exact oneInt.size)); exact rfl; exact rfl; (show (_ : Nat) < 29; decide); exact rfl; clear HM; intro w' HM; all_goals skip))
  refine bodyPost_ret (v := .agg (r.cells.set 0 (.int .u8 (v : Int))).toArray) (own_results HM Tryz.results116 _ rfl (by first | exact .z | exact .s .z) aggR) rfl ⟨rfl, Own.fin HM⟩
set_option maxRecDepth 100000 in
set_option maxHeartbeats 800000 in
theorem rset_F (r : Rg) (v : Nat) (hv : v < 256) (w : World) : Calls Tryz.prog 116 #[r.v, .string ⟨#[70]⟩, .int .i64 (v : Int)] w fun e w' => e = .returned (({ r with f := v } : Rg).v) ∧ Below w.heap.size w w' := by
  have hv1 : (v : Int) % 256 = (v : Int) := by omega
  have hv2 : (v : Int) < 256 := by omega
  clear hv
  have HM := Lib.hid (Own.start w)
  have tg1 : Hid True := trivial
  have tg2 : Hid True := trivial
  go_enter Tryz.func116, Tryz.ntmps116
  go_wp2_with (first | ((with_reducible apply own_box HM); exact rfl; (conv => lhs; whnf); exact rfl; exact rfl; (first | (clear tg1 HM; intro w' g1 HM) | (clear tg2 HM; intro w' g2 HM) | (clear tg3 HM; intro w' g3 HM) | (clear tg4 HM; intro w' g4 HM) | (clear HM; intro w' g' HM)); all_goals skip) | ((with_reducible apply own_alloc HM); exact rfl; (with_reducible exact zeroR); exact rfl; (first | (clear tg1 HM; intro w' g1 HM) | (clear tg2 HM; intro w' g2 HM) | (clear tg3 HM; intro w' g3 HM) | (clear tg4 HM; intro w' g4 HM) | (clear HM; intro w' g' HM)); all_goals skip) | ((with_reducible apply own_row HM); exact rfl; exact rfl; exact aggR; (with_reducible first | exact .z | exact .s .z | exact .s (.s .z) | exact .s (.s (.s .z)) | exact .s (.s (.s (.s .z)))); exact rfl; (first | exact Rg.cells_length _ | exact rfl); all_goals skip) | ((with_reducible apply own_lay HM); exact rfl; exact rfl; exact rfl; (with_reducible first | exact .z | exact .s .z | exact .s (.s .z) | exact .s (.s (.s .z)) | exact .s (.s (.s (.s .z)))); (with_reducible first | exact .z | exact .s .z | exact .s (.s .z) | exact .s (.s (.s .z)) | exact .s (.s (.s (.s .z)))); exact aggR.size; (first | exact Rg.cells_length _ | exact rfl); (first | exact Rg.cells_length _ | exact rfl); (first | exact Rg.one1 _ | exact rfl); exact rfl; exact rfl; clear HM; intro w' HM; all_goals skip) | ((with_reducible apply own_put HM); exact rfl; exact rfl; (conv => lhs; whnf); (with_reducible first | exact .z | exact .s .z | exact .s (.s .z) | exact .s (.s (.s .z)) | exact .s (.s (.s (.s .z)))); (with_reducible first | exact .z | exact .s .z | exact .s (.s .z) | exact .s (.s (.s .z)) | exact .s (.s (.s (.s .z)))); (first | (with_reducible exact oneU8.size) | (with_reducible exact oneU16.size) | (with_reducible exact oneBool.size) | (with_reducible exact oneInt.size)); exact rfl; exact rfl; (show (_ : Nat) < 29; decide); exact rfl; clear HM; intro w' HM; all_goals skip))
  refine bodyPost_ret (v := .agg (r.cells.set 1 (.int .u8 (v : Int))).toArray) (own_results HM Tryz.results116 _ rfl (by first | exact .z | exact .s .z) aggR) rfl ⟨rfl, Own.fin HM⟩
set_option maxRecDepth 100000 in
set_option maxHeartbeats 800000 in
theorem rset_B (r : Rg) (v : Nat) (hv : v < 256) (w : World) : Calls Tryz.prog 116 #[r.v, .string ⟨#[66]⟩, .int .i64 (v : Int)] w fun e w' => e = .returned (({ r with b := v } : Rg).v) ∧ Below w.heap.size w w' := by
  have hv1 : (v : Int) % 256 = (v : Int) := by omega
  have hv2 : (v : Int) < 256 := by omega
  clear hv
  have HM := Lib.hid (Own.start w)
  have tg1 : Hid True := trivial
  have tg2 : Hid True := trivial
  go_enter Tryz.func116, Tryz.ntmps116
  go_wp2_with (first | ((with_reducible apply own_box HM); exact rfl; (conv => lhs; whnf); exact rfl; exact rfl; (first | (clear tg1 HM; intro w' g1 HM) | (clear tg2 HM; intro w' g2 HM) | (clear tg3 HM; intro w' g3 HM) | (clear tg4 HM; intro w' g4 HM) | (clear HM; intro w' g' HM)); all_goals skip) | ((with_reducible apply own_alloc HM); exact rfl; (with_reducible exact zeroR); exact rfl; (first | (clear tg1 HM; intro w' g1 HM) | (clear tg2 HM; intro w' g2 HM) | (clear tg3 HM; intro w' g3 HM) | (clear tg4 HM; intro w' g4 HM) | (clear HM; intro w' g' HM)); all_goals skip) | ((with_reducible apply own_row HM); exact rfl; exact rfl; exact aggR; (with_reducible first | exact .z | exact .s .z | exact .s (.s .z) | exact .s (.s (.s .z)) | exact .s (.s (.s (.s .z)))); exact rfl; (first | exact Rg.cells_length _ | exact rfl); all_goals skip) | ((with_reducible apply own_lay HM); exact rfl; exact rfl; exact rfl; (with_reducible first | exact .z | exact .s .z | exact .s (.s .z) | exact .s (.s (.s .z)) | exact .s (.s (.s (.s .z)))); (with_reducible first | exact .z | exact .s .z | exact .s (.s .z) | exact .s (.s (.s .z)) | exact .s (.s (.s (.s .z)))); exact aggR.size; (first | exact Rg.cells_length _ | exact rfl); (first | exact Rg.cells_length _ | exact rfl); (first | exact Rg.one1 _ | exact rfl); exact rfl; exact rfl; clear HM; intro w' HM; all_goals skip) | ((with_reducible apply own_put HM); exact rfl; exact rfl; (conv => lhs; whnf); (with_reducible first | exact .z | exact .s .z | exact .s (.s .z) | exact .s (.s (.s .z)) | exact .s (.s (.s (.s .z)))); (with_reducible first | exact .z | exact .s .z | exact .s (.s .z) | exact .s (.s (.s .z)) | exact .s (.s (.s (.s .z)))); (first | (with_reducible exact oneU8.size) | (with_reducible exact oneU16.size) | (with_reducible exact oneBool.size) | (with_reducible exact oneInt.size)); exact rfl; exact rfl; (show (_ : Nat) < 29; decide); exact rfl; clear HM; intro w' HM; all_goals skip))
  refine bodyPost_ret (v := .agg (r.cells.set 2 (.int .u8 (v : Int))).toArray) (own_results HM Tryz.results116 _ rfl (by first | exact .z | exact .s .z) aggR) rfl ⟨rfl, Own.fin HM⟩
set_option maxRecDepth 100000 in
set_option maxHeartbeats 800000 in
theorem rset_C (r : Rg) (v : Nat) (hv : v < 256) (w : World) : Calls Tryz.prog 116 #[r.v, .string ⟨#[67]⟩, .int .i64 (v : Int)] w fun e w' => e = .returned (({ r with c := v } : Rg).v) ∧ Below w.heap.size w w' := by
  have hv1 : (v : Int) % 256 = (v : Int) := by omega
  have hv2 : (v : Int) < 256 := by omega
  clear hv
  have HM := Lib.hid (Own.start w)
  have tg1 : Hid True := trivial
  have tg2 : Hid True := trivial
  go_enter Tryz.func116, Tryz.ntmps116
  go_wp2_with (first | ((with_reducible apply own_box HM); exact rfl; (conv => lhs; whnf); exact rfl; exact rfl; (first | (clear tg1 HM; intro w' g1 HM) | (clear tg2 HM; intro w' g2 HM) | (clear tg3 HM; intro w' g3 HM) | (clear tg4 HM; intro w' g4 HM) | (clear HM; intro w' g' HM)); all_goals skip) | ((with_reducible apply own_alloc HM); exact rfl; (with_reducible exact zeroR); exact rfl; (first | (clear tg1 HM; intro w' g1 HM) | (clear tg2 HM; intro w' g2 HM) | (clear tg3 HM; intro w' g3 HM) | (clear tg4 HM; intro w' g4 HM) | (clear HM; intro w' g' HM)); all_goals skip) | ((with_reducible apply own_row HM); exact rfl; exact rfl; exact aggR; (with_reducible first | exact .z | exact .s .z | exact .s (.s .z) | exact .s (.s (.s .z)) | exact .s (.s (.s (.s .z)))); exact rfl; (first | exact Rg.cells_length _ | exact rfl); all_goals skip) | ((with_reducible apply own_lay HM); exact rfl; exact rfl; exact rfl; (with_reducible first | exact .z | exact .s .z | exact .s (.s .z) | exact .s (.s (.s .z)) | exact .s (.s (.s (.s .z)))); (with_reducible first | exact .z | exact .s .z | exact .s (.s .z) | exact .s (.s (.s .z)) | exact .s (.s (.s (.s .z)))); exact aggR.size; (first | exact Rg.cells_length _ | exact rfl); (first | exact Rg.cells_length _ | exact rfl); (first | exact Rg.one1 _ | exact rfl); exact rfl; exact rfl; clear HM; intro w' HM; all_goals skip) | ((with_reducible apply own_put HM); exact rfl; exact rfl; (conv => lhs; whnf); (with_reducible first | exact .z | exact .s .z | exact .s (.s .z) | exact .s (.s (.s .z)) | exact .s (.s (.s (.s .z)))); (with_reducible first | exact .z | exact .s .z | exact .s (.s .z) | exact .s (.s (.s .z)) | exact .s (.s (.s (.s .z)))); (first | (with_reducible exact oneU8.size) | (with_reducible exact oneU16.size) | (with_reducible exact oneBool.size) | (with_reducible exact oneInt.size)); exact rfl; exact rfl; (show (_ : Nat) < 29; decide); exact rfl; clear HM; intro w' HM; all_goals skip))
  refine bodyPost_ret (v := .agg (r.cells.set 3 (.int .u8 (v : Int))).toArray) (own_results HM Tryz.results116 _ rfl (by first | exact .z | exact .s .z) aggR) rfl ⟨rfl, Own.fin HM⟩
set_option maxRecDepth 100000 in
set_option maxHeartbeats 800000 in
theorem rset_D (r : Rg) (v : Nat) (hv : v < 256) (w : World) : Calls Tryz.prog 116 #[r.v, .string ⟨#[68]⟩, .int .i64 (v : Int)] w fun e w' => e = .returned (({ r with d := v } : Rg).v) ∧ Below w.heap.size w w' := by
  have hv1 : (v : Int) % 256 = (v : Int) := by omega
  have hv2 : (v : Int) < 256 := by omega
  clear hv
  have HM := Lib.hid (Own.start w)
  have tg1 : Hid True := trivial
  have tg2 : Hid True := trivial
  go_enter Tryz.func116, Tryz.ntmps116
  go_wp2_with (first | ((with_reducible apply own_box HM); exact rfl; (conv => lhs; whnf); exact rfl; exact rfl; (first | (clear tg1 HM; intro w' g1 HM) | (clear tg2 HM; intro w' g2 HM) | (clear tg3 HM; intro w' g3 HM) | (clear tg4 HM; intro w' g4 HM) | (clear HM; intro w' g' HM)); all_goals skip) | ((with_reducible apply own_alloc HM); exact rfl; (with_reducible exact zeroR); exact rfl; (first | (clear tg1 HM; intro w' g1 HM) | (clear tg2 HM; intro w' g2 HM) | (clear tg3 HM; intro w' g3 HM) | (clear tg4 HM; intro w' g4 HM) | (clear HM; intro w' g' HM)); all_goals skip) | ((with_reducible apply own_row HM); exact rfl; exact rfl; exact aggR; (with_reducible first | exact .z | exact .s .z | exact .s (.s .z) | exact .s (.s (.s .z)) | exact .s (.s (.s (.s .z)))); exact rfl; (first | exact Rg.cells_length _ | exact rfl); all_goals skip) | ((with_reducible apply own_lay HM); exact rfl; exact rfl; exact rfl; (with_reducible first | exact .z | exact .s .z | exact .s (.s .z) | exact .s (.s (.s .z)) | exact .s (.s (.s (.s .z)))); (with_reducible first | exact .z | exact .s .z | exact .s (.s .z) | exact .s (.s (.s .z)) | exact .s (.s (.s (.s .z)))); exact aggR.size; (first | exact Rg.cells_length _ | exact rfl); (first | exact Rg.cells_length _ | exact rfl); (first | exact Rg.one1 _ | exact rfl); exact rfl; exact rfl; clear HM; intro w' HM; all_goals skip) | ((with_reducible apply own_put HM); exact rfl; exact rfl; (conv => lhs; whnf); (with_reducible first | exact .z | exact .s .z | exact .s (.s .z) | exact .s (.s (.s .z)) | exact .s (.s (.s (.s .z)))); (with_reducible first | exact .z | exact .s .z | exact .s (.s .z) | exact .s (.s (.s .z)) | exact .s (.s (.s (.s .z)))); (first | (with_reducible exact oneU8.size) | (with_reducible exact oneU16.size) | (with_reducible exact oneBool.size) | (with_reducible exact oneInt.size)); exact rfl; exact rfl; (show (_ : Nat) < 29; decide); exact rfl; clear HM; intro w' HM; all_goals skip))
  refine bodyPost_ret (v := .agg (r.cells.set 4 (.int .u8 (v : Int))).toArray) (own_results HM Tryz.results116 _ rfl (by first | exact .z | exact .s .z) aggR) rfl ⟨rfl, Own.fin HM⟩
set_option maxRecDepth 100000 in
set_option maxHeartbeats 800000 in
theorem rset_E (r : Rg) (v : Nat) (hv : v < 256) (w : World) : Calls Tryz.prog 116 #[r.v, .string ⟨#[69]⟩, .int .i64 (v : Int)] w fun e w' => e = .returned (({ r with e := v } : Rg).v) ∧ Below w.heap.size w w' := by
  have hv1 : (v : Int) % 256 = (v : Int) := by omega
  have hv2 : (v : Int) < 256 := by omega
  clear hv
  have HM := Lib.hid (Own.start w)
  have tg1 : Hid True := trivial
  have tg2 : Hid True := trivial
  go_enter Tryz.func116, Tryz.ntmps116
  go_wp2_with (first | ((with_reducible apply own_box HM); exact rfl; (conv => lhs; whnf); exact rfl; exact rfl; (first | (clear tg1 HM; intro w' g1 HM) | (clear tg2 HM; intro w' g2 HM) | (clear tg3 HM; intro w' g3 HM) | (clear tg4 HM; intro w' g4 HM) | (clear HM; intro w' g' HM)); all_goals skip) | ((with_reducible apply own_alloc HM); exact rfl; (with_reducible exact zeroR); exact rfl; (first | (clear tg1 HM; intro w' g1 HM) | (clear tg2 HM; intro w' g2 HM) | (clear tg3 HM; intro w' g3 HM) | (clear tg4 HM; intro w' g4 HM) | (clear HM; intro w' g' HM)); all_goals skip) | ((with_reducible apply own_row HM); exact rfl; exact rfl; exact aggR; (with_reducible first | exact .z | exact .s .z | exact .s (.s .z) | exact .s (.s (.s .z)) | exact .s (.s (.s (.s .z)))); exact rfl; (first | exact Rg.cells_length _ | exact rfl); all_goals skip) | ((with_reducible apply own_lay HM); exact rfl; exact rfl; exact rfl; (with_reducible first | exact .z | exact .s .z | exact .s (.s .z) | exact .s (.s (.s .z)) | exact .s (.s (.s (.s .z)))); (with_reducible first | exact .z | exact .s .z | exact .s (.s .z) | exact .s (.s (.s .z)) | exact .s (.s (.s (.s .z)))); exact aggR.size; (first | exact Rg.cells_length _ | exact rfl); (first | exact Rg.cells_length _ | exact rfl); (first | exact Rg.one1 _ | exact rfl); exact rfl; exact rfl; clear HM; intro w' HM; all_goals skip) | ((with_reducible apply own_put HM); exact rfl; exact rfl; (conv => lhs; whnf); (with_reducible first | exact .z | exact .s .z | exact .s (.s .z) | exact .s (.s (.s .z)) | exact .s (.s (.s (.s .z)))); (with_reducible first | exact .z | exact .s .z | exact .s (.s .z) | exact .s (.s (.s .z)) | exact .s (.s (.s (.s .z)))); (first | (with_reducible exact oneU8.size) | (with_reducible exact oneU16.size) | (with_reducible exact oneBool.size) | (with_reducible exact oneInt.size)); exact rfl; exact rfl; (show (_ : Nat) < 29; decide); exact rfl; clear HM; intro w' HM; all_goals skip))
  refine bodyPost_ret (v := .agg (r.cells.set 5 (.int .u8 (v : Int))).toArray) (own_results HM Tryz.results116 _ rfl (by first | exact .z | exact .s .z) aggR) rfl ⟨rfl, Own.fin HM⟩
set_option maxRecDepth 100000 in
set_option maxHeartbeats 800000 in
theorem rset_H (r : Rg) (v : Nat) (hv : v < 256) (w : World) : Calls Tryz.prog 116 #[r.v, .string ⟨#[72]⟩, .int .i64 (v : Int)] w fun e w' => e = .returned (({ r with h := v } : Rg).v) ∧ Below w.heap.size w w' := by
  have hv1 : (v : Int) % 256 = (v : Int) := by omega
  have hv2 : (v : Int) < 256 := by omega
  clear hv
  have HM := Lib.hid (Own.start w)
  have tg1 : Hid True := trivial
  have tg2 : Hid True := trivial
  go_enter Tryz.func116, Tryz.ntmps116
  go_wp2_with (first | ((with_reducible apply own_box HM); exact rfl; (conv => lhs; whnf); exact rfl; exact rfl; (first | (clear tg1 HM; intro w' g1 HM) | (clear tg2 HM; intro w' g2 HM) | (clear tg3 HM; intro w' g3 HM) | (clear tg4 HM; intro w' g4 HM) | (clear HM; intro w' g' HM)); all_goals skip) | ((with_reducible apply own_alloc HM); exact rfl; (with_reducible exact zeroR); exact rfl; (first | (clear tg1 HM; intro w' g1 HM) | (clear tg2 HM; intro w' g2 HM) | (clear tg3 HM; intro w' g3 HM) | (clear tg4 HM; intro w' g4 HM) | (clear HM; intro w' g' HM)); all_goals skip) | ((with_reducible apply own_row HM); exact rfl; exact rfl; exact aggR; (with_reducible first | exact .z | exact .s .z | exact .s (.s .z) | exact .s (.s (.s .z)) | exact .s (.s (.s (.s .z)))); exact rfl; (first | exact Rg.cells_length _ | exact rfl); all_goals skip) | ((with_reducible apply own_lay HM); exact rfl; exact rfl; exact rfl; (with_reducible first | exact .z | exact .s .z | exact .s (.s .z) | exact .s (.s (.s .z)) | exact .s (.s (.s (.s .z)))); (with_reducible first | exact .z | exact .s .z | exact .s (.s .z) | exact .s (.s (.s .z)) | exact .s (.s (.s (.s .z)))); exact aggR.size; (first | exact Rg.cells_length _ | exact rfl); (first | exact Rg.cells_length _ | exact rfl); (first | exact Rg.one1 _ | exact rfl); exact rfl; exact rfl; clear HM; intro w' HM; all_goals skip) | ((with_reducible apply own_put HM); exact rfl; exact rfl; (conv => lhs; whnf); (with_reducible first | exact .z | exact .s .z | exact .s (.s .z) | exact .s (.s (.s .z)) | exact .s (.s (.s (.s .z)))); (with_reducible first | exact .z | exact .s .z | exact .s (.s .z) | exact .s (.s (.s .z)) | exact .s (.s (.s (.s .z)))); (first | (with_reducible exact oneU8.size) | (with_reducible exact oneU16.size) | (with_reducible exact oneBool.size) | (with_reducible exact oneInt.size)); exact rfl; exact rfl; (show (_ : Nat) < 29; decide); exact rfl; clear HM; intro w' HM; all_goals skip))
  refine bodyPost_ret (v := .agg (r.cells.set 6 (.int .u8 (v : Int))).toArray) (own_results HM Tryz.results116 _ rfl (by first | exact .z | exact .s .z) aggR) rfl ⟨rfl, Own.fin HM⟩
set_option maxRecDepth 100000 in
set_option maxHeartbeats 800000 in
theorem rset_L (r : Rg) (v : Nat) (hv : v < 256) (w : World) : Calls Tryz.prog 116 #[r.v, .string ⟨#[76]⟩, .int .i64 (v : Int)] w fun e w' => e = .returned (({ r with l := v } : Rg).v) ∧ Below w.heap.size w w' := by
  have hv1 : (v : Int) % 256 = (v : Int) := by omega
  have hv2 : (v : Int) < 256 := by omega
  clear hv
  have HM := Lib.hid (Own.start w)
  have tg1 : Hid True := trivial
  have tg2 : Hid True := trivial
  go_enter Tryz.func116, Tryz.ntmps116
  go_wp2_with (first | ((with_reducible apply own_box HM); exact rfl; (conv => lhs; whnf); exact rfl; exact rfl; (first | (clear tg1 HM; intro w' g1 HM) | (clear tg2 HM; intro w' g2 HM) | (clear tg3 HM; intro w' g3 HM) | (clear tg4 HM; intro w' g4 HM) | (clear HM; intro w' g' HM)); all_goals skip) | ((with_reducible apply own_alloc HM); exact rfl; (with_reducible exact zeroR); exact rfl; (first | (clear tg1 HM; intro w' g1 HM) | (clear tg2 HM; intro w' g2 HM) | (clear tg3 HM; intro w' g3 HM) | (clear tg4 HM; intro w' g4 HM) | (clear HM; intro w' g' HM)); all_goals skip) | ((with_reducible apply own_row HM); exact rfl; exact rfl; exact aggR; (with_reducible first | exact .z | exact .s .z | exact .s (.s .z) | exact .s (.s (.s .z)) | exact .s (.s (.s (.s .z)))); exact rfl; (first | exact Rg.cells_length _ | exact rfl); all_goals skip) | ((with_reducible apply own_lay HM); exact rfl; exact rfl; exact rfl; (with_reducible first | exact .z | exact .s .z | exact .s (.s .z) | exact .s (.s (.s .z)) | exact .s (.s (.s (.s .z)))); (with_reducible first | exact .z | exact .s .z | exact .s (.s .z) | exact .s (.s (.s .z)) | exact .s (.s (.s (.s .z)))); exact aggR.size; (first | exact Rg.cells_length _ | exact rfl); (first | exact Rg.cells_length _ | exact rfl); (first | exact Rg.one1 _ | exact rfl); exact rfl; exact rfl; clear HM; intro w' HM; all_goals skip) | ((with_reducible apply own_put HM); exact rfl; exact rfl; (conv => lhs; whnf); (with_reducible first | exact .z | exact .s .z | exact .s (.s .z) | exact .s (.s (.s .z)) | exact .s (.s (.s (.s .z)))); (with_reducible first | exact .z | exact .s .z | exact .s (.s .z) | exact .s (.s (.s .z)) | exact .s (.s (.s (.s .z)))); (first | (with_reducible exact oneU8.size) | (with_reducible exact oneU16.size) | (with_reducible exact oneBool.size) | (with_reducible exact oneInt.size)); exact rfl; exact rfl; (show (_ : Nat) < 29; decide); exact rfl; clear HM; intro w' HM; all_goals skip))
  refine bodyPost_ret (v := .agg (r.cells.set 7 (.int .u8 (v : Int))).toArray) (own_results HM Tryz.results116 _ rfl (by first | exact .z | exact .s .z) aggR) rfl ⟨rfl, Own.fin HM⟩
set_option maxRecDepth 100000 in
set_option maxHeartbeats 800000 in
theorem rset_IX (r : Rg) (v : Nat) (hv : v < 65536) (w : World) : Calls Tryz.prog 116 #[r.v, .string ⟨#[73, 88]⟩, .int .i64 (v : Int)] w fun e w' => e = .returned (({ r with ix := v } : Rg).v) ∧ Below w.heap.size w w' := by
  have hv1 : (v : Int) % 65536 = (v : Int) := by omega
  have hv2 : (v : Int) < 65536 := by omega
  clear hv
  have HM := Lib.hid (Own.start w)
  have tg1 : Hid True := trivial
  have tg2 : Hid True := trivial
  go_enter Tryz.func116, Tryz.ntmps116
  go_wp2_with (first | ((with_reducible apply own_box HM); exact rfl; (conv => lhs; whnf); exact rfl; exact rfl; (first | (clear tg1 HM; intro w' g1 HM) | (clear tg2 HM; intro w' g2 HM) | (clear tg3 HM; intro w' g3 HM) | (clear tg4 HM; intro w' g4 HM) | (clear HM; intro w' g' HM)); all_goals skip) | ((with_reducible apply own_alloc HM); exact rfl; (with_reducible exact zeroR); exact rfl; (first | (clear tg1 HM; intro w' g1 HM) | (clear tg2 HM; intro w' g2 HM) | (clear tg3 HM; intro w' g3 HM) | (clear tg4 HM; intro w' g4 HM) | (clear HM; intro w' g' HM)); all_goals skip) | ((with_reducible apply own_row HM); exact rfl; exact rfl; exact aggR; (with_reducible first | exact .z | exact .s .z | exact .s (.s .z) | exact .s (.s (.s .z)) | exact .s (.s (.s (.s .z)))); exact rfl; (first | exact Rg.cells_length _ | exact rfl); all_goals skip) | ((with_reducible apply own_lay HM); exact rfl; exact rfl; exact rfl; (with_reducible first | exact .z | exact .s .z | exact .s (.s .z) | exact .s (.s (.s .z)) | exact .s (.s (.s (.s .z)))); (with_reducible first | exact .z | exact .s .z | exact .s (.s .z) | exact .s (.s (.s .z)) | exact .s (.s (.s (.s .z)))); exact aggR.size; (first | exact Rg.cells_length _ | exact rfl); (first | exact Rg.cells_length _ | exact rfl); (first | exact Rg.one1 _ | exact rfl); exact rfl; exact rfl; clear HM; intro w' HM; all_goals skip) | ((with_reducible apply own_put HM); exact rfl; exact rfl; (conv => lhs; whnf); (with_reducible first | exact .z | exact .s .z | exact .s (.s .z) | exact .s (.s (.s .z)) | exact .s (.s (.s (.s .z)))); (with_reducible first | exact .z | exact .s .z | exact .s (.s .z) | exact .s (.s (.s .z)) | exact .s (.s (.s (.s .z)))); (first | (with_reducible exact oneU8.size) | (with_reducible exact oneU16.size) | (with_reducible exact oneBool.size) | (with_reducible exact oneInt.size)); exact rfl; exact rfl; (show (_ : Nat) < 29; decide); exact rfl; clear HM; intro w' HM; all_goals skip))
  refine bodyPost_ret (v := .agg (r.cells.set 16 (.int .u16 (v : Int))).toArray) (own_results HM Tryz.results116 _ rfl (by first | exact .z | exact .s .z) aggR) rfl ⟨rfl, Own.fin HM⟩
set_option maxRecDepth 100000 in
set_option maxHeartbeats 800000 in
theorem rset_IY (r : Rg) (v : Nat) (hv : v < 65536) (w : World) : Calls Tryz.prog 116 #[r.v, .string ⟨#[73, 89]⟩, .int .i64 (v : Int)] w fun e w' => e = .returned (({ r with iy := v } : Rg).v) ∧ Below w.heap.size w w' := by
  have hv1 : (v : Int) % 65536 = (v : Int) := by omega
  have hv2 : (v : Int) < 65536 := by omega
  clear hv
  have HM := Lib.hid (Own.start w)
  have tg1 : Hid True := trivial
  have tg2 : Hid True := trivial
  go_enter Tryz.func116, Tryz.ntmps116
  go_wp2_with (first | ((with_reducible apply own_box HM); exact rfl; (conv => lhs; whnf); exact rfl; exact rfl; (first | (clear tg1 HM; intro w' g1 HM) | (clear tg2 HM; intro w' g2 HM) | (clear tg3 HM; intro w' g3 HM) | (clear tg4 HM; intro w' g4 HM) | (clear HM; intro w' g' HM)); all_goals skip) | ((with_reducible apply own_alloc HM); exact rfl; (with_reducible exact zeroR); exact rfl; (first | (clear tg1 HM; intro w' g1 HM) | (clear tg2 HM; intro w' g2 HM) | (clear tg3 HM; intro w' g3 HM) | (clear tg4 HM; intro w' g4 HM) | (clear HM; intro w' g' HM)); all_goals skip) | ((with_reducible apply own_row HM); exact rfl; exact rfl; exact aggR; (with_reducible first | exact .z | exact .s .z | exact .s (.s .z) | exact .s (.s (.s .z)) | exact .s (.s (.s (.s .z)))); exact rfl; (first | exact Rg.cells_length _ | exact rfl); all_goals skip) | ((with_reducible apply own_lay HM); exact rfl; exact rfl; exact rfl; (with_reducible first | exact .z | exact .s .z | exact .s (.s .z) | exact .s (.s (.s .z)) | exact .s (.s (.s (.s .z)))); (with_reducible first | exact .z | exact .s .z | exact .s (.s .z) | exact .s (.s (.s .z)) | exact .s (.s (.s (.s .z)))); exact aggR.size; (first | exact Rg.cells_length _ | exact rfl); (first | exact Rg.cells_length _ | exact rfl); (first | exact Rg.one1 _ | exact rfl); exact rfl; exact rfl; clear HM; intro w' HM; all_goals skip) | ((with_reducible apply own_put HM); exact rfl; exact rfl; (conv => lhs; whnf); (with_reducible first | exact .z | exact .s .z | exact .s (.s .z) | exact .s (.s (.s .z)) | exact .s (.s (.s (.s .z)))); (with_reducible first | exact .z | exact .s .z | exact .s (.s .z) | exact .s (.s (.s .z)) | exact .s (.s (.s (.s .z)))); (first | (with_reducible exact oneU8.size) | (with_reducible exact oneU16.size) | (with_reducible exact oneBool.size) | (with_reducible exact oneInt.size)); exact rfl; exact rfl; (show (_ : Nat) < 29; decide); exact rfl; clear HM; intro w' HM; all_goals skip))
  refine bodyPost_ret (v := .agg (r.cells.set 17 (.int .u16 (v : Int))).toArray) (own_results HM Tryz.results116 _ rfl (by first | exact .z | exact .s .z) aggR) rfl ⟨rfl, Own.fin HM⟩
set_option maxRecDepth 100000 in
set_option maxHeartbeats 800000 in
theorem rset_SP (r : Rg) (v : Nat) (hv : v < 65536) (w : World) : Calls Tryz.prog 116 #[r.v, .string ⟨#[83, 80]⟩, .int .i64 (v : Int)] w fun e w' => e = .returned (({ r with sp := v } : Rg).v) ∧ Below w.heap.size w w' := by
  have hv1 : (v : Int) % 65536 = (v : Int) := by omega
  have hv2 : (v : Int) < 65536 := by omega
  clear hv
  have HM := Lib.hid (Own.start w)
  have tg1 : Hid True := trivial
  have tg2 : Hid True := trivial
  go_enter Tryz.func116, Tryz.ntmps116
  go_wp2_with (first | ((with_reducible apply own_box HM); exact rfl; (conv => lhs; whnf); exact rfl; exact rfl; (first | (clear tg1 HM; intro w' g1 HM) | (clear tg2 HM; intro w' g2 HM) | (clear tg3 HM; intro w' g3 HM) | (clear tg4 HM; intro w' g4 HM) | (clear HM; intro w' g' HM)); all_goals skip) | ((with_reducible apply own_alloc HM); exact rfl; (with_reducible exact zeroR); exact rfl; (first | (clear tg1 HM; intro w' g1 HM) | (clear tg2 HM; intro w' g2 HM) | (clear tg3 HM; intro w' g3 HM) | (clear tg4 HM; intro w' g4 HM) | (clear HM; intro w' g' HM)); all_goals skip) | ((with_reducible apply own_row HM); exact rfl; exact rfl; exact aggR; (with_reducible first | exact .z | exact .s .z | exact .s (.s .z) | exact .s (.s (.s .z)) | exact .s (.s (.s (.s .z)))); exact rfl; (first | exact Rg.cells_length _ | exact rfl); all_goals skip) | ((with_reducible apply own_lay HM); exact rfl; exact rfl; exact rfl; (with_reducible first | exact .z | exact .s .z | exact .s (.s .z) | exact .s (.s (.s .z)) | exact .s (.s (.s (.s .z)))); (with_reducible first | exact .z | exact .s .z | exact .s (.s .z) | exact .s (.s (.s .z)) | exact .s (.s (.s (.s .z)))); exact aggR.size; (first | exact Rg.cells_length _ | exact rfl); (first | exact Rg.cells_length _ | exact rfl); (first | exact Rg.one1 _ | exact rfl); exact rfl; exact rfl; clear HM; intro w' HM; all_goals skip) | ((with_reducible apply own_put HM); exact rfl; exact rfl; (conv => lhs; whnf); (with_reducible first | exact .z | exact .s .z | exact .s (.s .z) | exact .s (.s (.s .z)) | exact .s (.s (.s (.s .z)))); (with_reducible first | exact .z | exact .s .z | exact .s (.s .z) | exact .s (.s (.s .z)) | exact .s (.s (.s (.s .z)))); (first | (with_reducible exact oneU8.size) | (with_reducible exact oneU16.size) | (with_reducible exact oneBool.size) | (with_reducible exact oneInt.size)); exact rfl; exact rfl; (show (_ : Nat) < 29; decide); exact rfl; clear HM; intro w' HM; all_goals skip))
  refine bodyPost_ret (v := .agg (r.cells.set 18 (.int .u16 (v : Int))).toArray) (own_results HM Tryz.results116 _ rfl (by first | exact .z | exact .s .z) aggR) rfl ⟨rfl, Own.fin HM⟩
set_option maxRecDepth 100000 in
set_option maxHeartbeats 800000 in
theorem rset_IXH (r : Rg) (hb : r.ix < 65536) (v : Nat) (hv : v < 256) (w : World) : Calls Tryz.prog 116 #[r.v, .string ⟨#[73, 88, 72]⟩, .int .i64 (v : Int)] w fun e w' => e = .returned (({ r with ix := v * 256 + r.ix % 256 } : Rg).v) ∧ Below w.heap.size w w' := by
  have hb1 : (r.ix : Int) < 65536 := by omega
  have hv1 : (v : Int) % 256 = (v : Int) := by omega
  have hv2 : (v : Int) < 256 := by omega
  obtain ⟨J, hJ⟩ : ∃ J, J = v * 256 + r.ix % 256 := ⟨_, rfl⟩
  rw [← hJ]
  have J1 : (J : Int) < 65536 := by omega
  have e1 : (v : Int) * 256 + (r.ix : Int) % 256 = (J : Int) := by omega
  clear hJ hv hb
  have HM := Lib.hid (Own.start w)
  have tg1 : Hid True := trivial
  have tg2 : Hid True := trivial
  go_enter Tryz.func116, Tryz.ntmps116
  go_wp2_with (first | ((with_reducible apply own_box HM); exact rfl; (conv => lhs; whnf); exact rfl; exact rfl; (first | (clear tg1 HM; intro w' g1 HM) | (clear tg2 HM; intro w' g2 HM) | (clear tg3 HM; intro w' g3 HM) | (clear tg4 HM; intro w' g4 HM) | (clear HM; intro w' g' HM)); all_goals skip) | ((with_reducible apply own_alloc HM); exact rfl; (with_reducible exact zeroR); exact rfl; (first | (clear tg1 HM; intro w' g1 HM) | (clear tg2 HM; intro w' g2 HM) | (clear tg3 HM; intro w' g3 HM) | (clear tg4 HM; intro w' g4 HM) | (clear HM; intro w' g' HM)); all_goals skip) | ((with_reducible apply own_row HM); exact rfl; exact rfl; exact aggR; (with_reducible first | exact .z | exact .s .z | exact .s (.s .z) | exact .s (.s (.s .z)) | exact .s (.s (.s (.s .z)))); exact rfl; (first | exact Rg.cells_length _ | exact rfl); all_goals skip) | ((with_reducible apply own_lay HM); exact rfl; exact rfl; exact rfl; (with_reducible first | exact .z | exact .s .z | exact .s (.s .z) | exact .s (.s (.s .z)) | exact .s (.s (.s (.s .z)))); (with_reducible first | exact .z | exact .s .z | exact .s (.s .z) | exact .s (.s (.s .z)) | exact .s (.s (.s (.s .z)))); exact aggR.size; (first | exact Rg.cells_length _ | exact rfl); (first | exact Rg.cells_length _ | exact rfl); (first | exact Rg.one1 _ | exact rfl); exact rfl; exact rfl; clear HM; intro w' HM; all_goals skip) | ((with_reducible apply own_get HM); exact rfl; exact rfl; (with_reducible first | exact oneU8 | exact oneU16 | exact oneBool | exact oneInt); (with_reducible first | exact .z | exact .s .z | exact .s (.s .z) | exact .s (.s (.s .z)) | exact .s (.s (.s (.s .z)))); (conv => lhs; whnf); exact rfl; all_goals skip) | ((with_reducible apply own_put HM); exact rfl; exact rfl; (conv => lhs; whnf); (with_reducible first | exact .z | exact .s .z | exact .s (.s .z) | exact .s (.s (.s .z)) | exact .s (.s (.s (.s .z)))); (with_reducible first | exact .z | exact .s .z | exact .s (.s .z) | exact .s (.s (.s .z)) | exact .s (.s (.s (.s .z)))); (first | (with_reducible exact oneU8.size) | (with_reducible exact oneU16.size) | (with_reducible exact oneBool.size) | (with_reducible exact oneInt.size)); exact rfl; exact rfl; (show (_ : Nat) < 29; decide); exact rfl; clear HM; intro w' HM; all_goals skip))
  refine bodyPost_ret (v := .agg (r.cells.set 16 (.int .u16 (J : Int))).toArray) (own_results HM Tryz.results116 _ rfl (by first | exact .z | exact .s .z) aggR) rfl ⟨rfl, Own.fin HM⟩
set_option maxRecDepth 100000 in
set_option maxHeartbeats 800000 in
theorem rset_IXL (r : Rg) (hb : r.ix < 65536) (v : Nat) (hv : v < 256) (w : World) : Calls Tryz.prog 116 #[r.v, .string ⟨#[73, 88, 76]⟩, .int .i64 (v : Int)] w fun e w' => e = .returned (({ r with ix := r.ix / 256 * 256 + v } : Rg).v) ∧ Below w.heap.size w w' := by
  have hb1 : (r.ix : Int) < 65536 := by omega
  have hv1 : (v : Int) % 256 = (v : Int) := by omega
  have hv2 : (v : Int) < 256 := by omega
  obtain ⟨J, hJ⟩ : ∃ J, J = r.ix / 256 * 256 + v := ⟨_, rfl⟩
  rw [← hJ]
  have J1 : (J : Int) < 65536 := by omega
  have e1 : (r.ix : Int) / 256 * 256 + (v : Int) = (J : Int) := by omega
  clear hJ hv hb
  have HM := Lib.hid (Own.start w)
  have tg1 : Hid True := trivial
  have tg2 : Hid True := trivial
  go_enter Tryz.func116, Tryz.ntmps116
  go_wp2_with (first | ((with_reducible apply own_box HM); exact rfl; (conv => lhs; whnf); exact rfl; exact rfl; (first | (clear tg1 HM; intro w' g1 HM) | (clear tg2 HM; intro w' g2 HM) | (clear tg3 HM; intro w' g3 HM) | (clear tg4 HM; intro w' g4 HM) | (clear HM; intro w' g' HM)); all_goals skip) | ((with_reducible apply own_alloc HM); exact rfl; (with_reducible exact zeroR); exact rfl; (first | (clear tg1 HM; intro w' g1 HM) | (clear tg2 HM; intro w' g2 HM) | (clear tg3 HM; intro w' g3 HM) | (clear tg4 HM; intro w' g4 HM) | (clear HM; intro w' g' HM)); all_goals skip) | ((with_reducible apply own_row HM); exact rfl; exact rfl; exact aggR; (with_reducible first | exact .z | exact .s .z | exact .s (.s .z) | exact .s (.s (.s .z)) | exact .s (.s (.s (.s .z)))); exact rfl; (first | exact Rg.cells_length _ | exact rfl); all_goals skip) | ((with_reducible apply own_lay HM); exact rfl; exact rfl; exact rfl; (with_reducible first | exact .z | exact .s .z | exact .s (.s .z) | exact .s (.s (.s .z)) | exact .s (.s (.s (.s .z)))); (with_reducible first | exact .z | exact .s .z | exact .s (.s .z) | exact .s (.s (.s .z)) | exact .s (.s (.s (.s .z)))); exact aggR.size; (first | exact Rg.cells_length _ | exact rfl); (first | exact Rg.cells_length _ | exact rfl); (first | exact Rg.one1 _ | exact rfl); exact rfl; exact rfl; clear HM; intro w' HM; all_goals skip) | ((with_reducible apply own_get HM); exact rfl; exact rfl; (with_reducible first | exact oneU8 | exact oneU16 | exact oneBool | exact oneInt); (with_reducible first | exact .z | exact .s .z | exact .s (.s .z) | exact .s (.s (.s .z)) | exact .s (.s (.s (.s .z)))); (conv => lhs; whnf); exact rfl; all_goals skip) | ((with_reducible apply own_put HM); exact rfl; exact rfl; (conv => lhs; whnf); (with_reducible first | exact .z | exact .s .z | exact .s (.s .z) | exact .s (.s (.s .z)) | exact .s (.s (.s (.s .z)))); (with_reducible first | exact .z | exact .s .z | exact .s (.s .z) | exact .s (.s (.s .z)) | exact .s (.s (.s (.s .z)))); (first | (with_reducible exact oneU8.size) | (with_reducible exact oneU16.size) | (with_reducible exact oneBool.size) | (with_reducible exact oneInt.size)); exact rfl; exact rfl; (show (_ : Nat) < 29; decide); exact rfl; clear HM; intro w' HM; all_goals skip))
  refine bodyPost_ret (v := .agg (r.cells.set 16 (.int .u16 (J : Int))).toArray) (own_results HM Tryz.results116 _ rfl (by first | exact .z | exact .s .z) aggR) rfl ⟨rfl, Own.fin HM⟩
set_option maxRecDepth 100000 in
set_option maxHeartbeats 800000 in
theorem rset_IYH (r : Rg) (hb : r.iy < 65536) (v : Nat) (hv : v < 256) (w : World) : Calls Tryz.prog 116 #[r.v, .string ⟨#[73, 89, 72]⟩, .int .i64 (v : Int)] w fun e w' => e = .returned (({ r with iy := v * 256 + r.iy % 256 } : Rg).v) ∧ Below w.heap.size w w' := by
  have hb1 : (r.iy : Int) < 65536 := by omega
  have hv1 : (v : Int) % 256 = (v : Int) := by omega
  have hv2 : (v : Int) < 256 := by omega
  obtain ⟨J, hJ⟩ : ∃ J, J = v * 256 + r.iy % 256 := ⟨_, rfl⟩
  rw [← hJ]
  have J1 : (J : Int) < 65536 := by omega
  have e1 : (v : Int) * 256 + (r.iy : Int) % 256 = (J : Int) := by omega
  clear hJ hv hb
  have HM := Lib.hid (Own.start w)
  have tg1 : Hid True := trivial
  have tg2 : Hid True := trivial
  go_enter Tryz.func116, Tryz.ntmps116
  go_wp2_with (first | ((with_reducible apply own_box HM); exact rfl; (conv => lhs; whnf); exact rfl; exact rfl; (first | (clear tg1 HM; intro w' g1 HM) | (clear tg2 HM; intro w' g2 HM) | (clear tg3 HM; intro w' g3 HM) | (clear tg4 HM; intro w' g4 HM) | (clear HM; intro w' g' HM)); all_goals skip) | ((with_reducible apply own_alloc HM); exact rfl; (with_reducible exact zeroR); exact rfl; (first | (clear tg1 HM; intro w' g1 HM) | (clear tg2 HM; intro w' g2 HM) | (clear tg3 HM; intro w' g3 HM) | (clear tg4 HM; intro w' g4 HM) | (clear HM; intro w' g' HM)); all_goals skip) | ((with_reducible apply own_row HM); exact rfl; exact rfl; exact aggR; (with_reducible first | exact .z | exact .s .z | exact .s (.s .z) | exact .s (.s (.s .z)) | exact .s (.s (.s (.s .z)))); exact rfl; (first | exact Rg.cells_length _ | exact rfl); all_goals skip) | ((with_reducible apply own_lay HM); exact rfl; exact rfl; exact rfl; (with_reducible first | exact .z | exact .s .z | exact .s (.s .z) | exact .s (.s (.s .z)) | exact .s (.s (.s (.s .z)))); (with_reducible first | exact .z | exact .s .z | exact .s (.s .z) | exact .s (.s (.s .z)) | exact .s (.s (.s (.s .z)))); exact aggR.size; (first | exact Rg.cells_length _ | exact rfl); (first | exact Rg.cells_length _ | exact rfl); (first | exact Rg.one1 _ | exact rfl); exact rfl; exact rfl; clear HM; intro w' HM; all_goals skip) | ((with_reducible apply own_get HM); exact rfl; exact rfl; (with_reducible first | exact oneU8 | exact oneU16 | exact oneBool | exact oneInt); (with_reducible first | exact .z | exact .s .z | exact .s (.s .z) | exact .s (.s (.s .z)) | exact .s (.s (.s (.s .z)))); (conv => lhs; whnf); exact rfl; all_goals skip) | ((with_reducible apply own_put HM); exact rfl; exact rfl; (conv => lhs; whnf); (with_reducible first | exact .z | exact .s .z | exact .s (.s .z) | exact .s (.s (.s .z)) | exact .s (.s (.s (.s .z)))); (with_reducible first | exact .z | exact .s .z | exact .s (.s .z) | exact .s (.s (.s .z)) | exact .s (.s (.s (.s .z)))); (first | (with_reducible exact oneU8.size) | (with_reducible exact oneU16.size) | (with_reducible exact oneBool.size) | (with_reducible exact oneInt.size)); exact rfl; exact rfl; (show (_ : Nat) < 29; decide); exact rfl; clear HM; intro w' HM; all_goals skip))
  refine bodyPost_ret (v := .agg (r.cells.set 17 (.int .u16 (J : Int))).toArray) (own_results HM Tryz.results116 _ rfl (by first | exact .z | exact .s .z) aggR) rfl ⟨rfl, Own.fin HM⟩
set_option maxRecDepth 100000 in
set_option maxHeartbeats 800000 in
theorem rset_IYL (r : Rg) (hb : r.iy < 65536) (v : Nat) (hv : v < 256) (w : World) : Calls Tryz.prog 116 #[r.v, .string ⟨#[73, 89, 76]⟩, .int .i64 (v : Int)] w fun e w' => e = .returned (({ r with iy := r.iy / 256 * 256 + v } : Rg).v) ∧ Below w.heap.size w w' := by
  have hb1 : (r.iy : Int) < 65536 := by omega
  have hv1 : (v : Int) % 256 = (v : Int) := by omega
  have hv2 : (v : Int) < 256 := by omega
  obtain ⟨J, hJ⟩ : ∃ J, J = r.iy / 256 * 256 + v := ⟨_, rfl⟩
  rw [← hJ]
  have J1 : (J : Int) < 65536 := by omega
  have e1 : (r.iy : Int) / 256 * 256 + (v : Int) = (J : Int) := by omega
  clear hJ hv hb
  have HM := Lib.hid (Own.start w)
  have tg1 : Hid True := trivial
  have tg2 : Hid True := trivial
  go_enter Tryz.func116, Tryz.ntmps116
  go_wp2_with (first | ((with_reducible apply own_box HM); exact rfl; (conv => lhs; whnf); exact rfl; exact rfl; (first | (clear tg1 HM; intro w' g1 HM) | (clear tg2 HM; intro w' g2 HM) | (clear tg3 HM; intro w' g3 HM) | (clear tg4 HM; intro w' g4 HM) | (clear HM; intro w' g' HM)); all_goals skip) | ((with_reducible apply own_alloc HM); exact rfl; (with_reducible exact zeroR); exact rfl; (first | (clear tg1 HM; intro w' g1 HM) | (clear tg2 HM; intro w' g2 HM) | (clear tg3 HM; intro w' g3 HM) | (clear tg4 HM; intro w' g4 HM) | (clear HM; intro w' g' HM)); all_goals skip) | ((with_reducible apply own_row HM); exact rfl; exact rfl; exact aggR; (with_reducible first | exact .z | exact .s .z | exact .s (.s .z) | exact .s (.s (.s .z)) | exact .s (.s (.s (.s .z)))); exact rfl; (first | exact Rg.cells_length _ | exact rfl); all_goals skip) | ((with_reducible apply own_lay HM); exact rfl; exact rfl; exact rfl; (with_reducible first | exact .z | exact .s .z | exact .s (.s .z) | exact .s (.s (.s .z)) | exact .s (.s (.s (.s .z)))); (with_reducible first | exact .z | exact .s .z | exact .s (.s .z) | exact .s (.s (.s .z)) | exact .s (.s (.s (.s .z)))); exact aggR.size; (first | exact Rg.cells_length _ | exact rfl); (first | exact Rg.cells_length _ | exact rfl); (first | exact Rg.one1 _ | exact rfl); exact rfl; exact rfl; clear HM; intro w' HM; all_goals skip) | ((with_reducible apply own_get HM); exact rfl; exact rfl; (with_reducible first | exact oneU8 | exact oneU16 | exact oneBool | exact oneInt); (with_reducible first | exact .z | exact .s .z | exact .s (.s .z) | exact .s (.s (.s .z)) | exact .s (.s (.s (.s .z)))); (conv => lhs; whnf); exact rfl; all_goals skip) | ((with_reducible apply own_put HM); exact rfl; exact rfl; (conv => lhs; whnf); (with_reducible first | exact .z | exact .s .z | exact .s (.s .z) | exact .s (.s (.s .z)) | exact .s (.s (.s (.s .z)))); (with_reducible first | exact .z | exact .s .z | exact .s (.s .z) | exact .s (.s (.s .z)) | exact .s (.s (.s (.s .z)))); (first | (with_reducible exact oneU8.size) | (with_reducible exact oneU16.size) | (with_reducible exact oneBool.size) | (with_reducible exact oneInt.size)); exact rfl; exact rfl; (show (_ : Nat) < 29; decide); exact rfl; clear HM; intro w' HM; all_goals skip))
  refine bodyPost_ret (v := .agg (r.cells.set 17 (.int .u16 (J : Int))).toArray) (own_results HM Tryz.results116 _ rfl (by first | exact .z | exact .s .z) aggR) rfl ⟨rfl, Own.fin HM⟩
end Go.Proofs.YtljjgakfnajifaaGreatDoor
