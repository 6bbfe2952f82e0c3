/-
  What a dump keeps is the same port. No program in it.
-/
import Derived.Test.YtbjghlcdbmooaaaPoActs
namespace Go.Proofs.Ytbjghlcdbmooaaa
open Go.RowKit

theorem dump_last {s : Pt} (h : s.Sz) (i : Nat) : s.dump.getD (16427 + i) 0 = [s.ad % 256, s.ad / 256, s.co, s.lo, cond s.se 1 0, s.bu].getD i 0 := by
  unfold Pt.dump
  simp only [List.getD_eq_getElem?_getD]
  rw [List.getElem?_append_right (by rw [h.1]; omega), List.getElem?_append_right (by rw [h.1, h.2.1]; omega), List.getElem?_append_right (by rw [h.1, h.2.1, h.2.2]; omega), h.1, h.2.1, h.2.2]
  rw [show 16427 + i - 16384 - 32 - 11 = i by omega]
theorem dump_vr {s : Pt} (h : s.Sz) : s.dump.take 16384 = s.vr := List.take_left' h.1
theorem dump_cr {s : Pt} (h : s.Sz) : (s.dump.drop 16384).take 32 = s.cr := by
  unfold Pt.dump
  rw [List.drop_left' h.1, List.take_left' h.2.1]
theorem dump_rg {s : Pt} (h : s.Sz) : (s.dump.drop 16416).take 11 = s.rg := by
  unfold Pt.dump
  rw [← List.append_assoc, List.drop_left' (by rw [List.length_append, h.1, h.2.1]), List.take_left' h.2.2]
theorem load_dump {s : Pt} (h : s.Ok) : Pt.load s.dump = s := by
  have l0 : s.dump.getD 16427 0 = s.ad % 256 := dump_last h.sz 0
  have l1 : s.dump.getD 16428 0 = s.ad / 256 := dump_last h.sz 1
  have l2 : s.dump.getD 16429 0 = s.co := dump_last h.sz 2
  have l3 : s.dump.getD 16430 0 = s.lo := dump_last h.sz 3
  have l4 : s.dump.getD 16431 0 = cond s.se 1 0 := dump_last h.sz 4
  have l5 : s.dump.getD 16432 0 = s.bu := dump_last h.sz 5
  unfold Pt.load
  rw [dump_vr h.sz, dump_cr h.sz, dump_rg h.sz, l0, l1, l2, l3, l4, l5, Nat.mod_add_div]
  have e : decide (cond s.se 1 0 = 1) = s.se := by cases s.se <;> rfl
  rw [e]
theorem dump_right {s : Pt} (h : s.Ok) : Pt.Right s.dump := by
  have l1 : s.dump.getD 16428 0 = s.ad / 256 := dump_last h.sz 1
  have l2 : s.dump.getD 16429 0 = s.co := dump_last h.sz 2
  have l4 : s.dump.getD 16431 0 = cond s.se 1 0 := dump_last h.sz 4
  refine ⟨Pt.dump_length h, by rw [dump_cr h.sz]; exact h.c6, ?_, ?_, ?_⟩
  · rw [l1]; have := h.ad; omega
  · rw [l2]; exact h.co
  · rw [l4]; cases s.se <;> decide
/-- registers that there aren't change nothing -/
theorem reg_stays {s : Pt} {n v : Nat} (hv : v = 139 + n % 5) (hse : s.se = false) : ((s.control n).control v).rg = s.rg := by
  have e1 : s.control n = s.first n := by unfold Pt.control; exact if_pos hse
  rw [e1]
  have e2 : (s.first n).control v = (s.first n).second v := by
    unfold Pt.control
    rw [if_neg (show ¬ (s.first n).se = false from Bool.noConfusion), if_neg (by omega), if_neg (by omega)]
  rw [e2]; rfl
theorem eq11_same (x0 x1 x2 x3 x4 x5 x6 x7 x8 x9 x10 : Int) (w : World) :
    (Op.equalIn 10000 30 (.agg #[.int .u8 x0, .int .u8 x1, .int .u8 x2, .int .u8 x3, .int .u8 x4, .int .u8 x5, .int .u8 x6, .int .u8 x7, .int .u8 x8, .int .u8 x9, .int .u8 x10]) (.agg #[.int .u8 x0, .int .u8 x1, .int .u8 x2, .int .u8 x3, .int .u8 x4, .int .u8 x5, .int .u8 x6, .int .u8 x7, .int .u8 x8, .int .u8 x9, .int .u8 x10])).run Try.prog w = .ok true w := by
  unfold Op.equalIn
  simp only [Sem.run_bind, Try.runUnderlying30, Result.andThen_ok]
  have hr : List.range' 0 11 = [0, 1, 2, 3, 4, 5, 6, 7, 8, 9, 10] := rfl
  have e (a b : Int) (w : World) : (Op.equalIn 9999 5 (.int .u8 a) (.int .u8 b)).run Try.prog w = .ok (a == b) w := run_equalIn_int w 9998 5 .u8 .u8 a b Try.underlying5
  simp [go_sem, hr, e]
theorem eq11_n8 (l : List Nat) (hl : l.length = 11) (w : World) : (Op.equalIn 10000 30 (.agg (n8 l).toArray) (.agg (n8 l).toArray)).run Try.prog w = .ok true w := by
  match l, hl with
  | [x0, x1, x2, x3, x4, x5, x6, x7, x8, x9, x10], _ => exact eq11_same x0 x1 x2 x3 x4 x5 x6 x7 x8 x9 x10 w

end Go.Proofs.Ytbjghlcdbmooaaa
