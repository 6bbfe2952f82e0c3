/-
  The law BackNames returns true.
-/
import Derived.Test.YtnkckdlolieojaaBaAlive
namespace Go.Proofs.Ytnkckdlolieojaa
open Go.RowKit
theorem src_1 (w : World) : Calls Try.prog 8 #[.agg #[.int .u8 64, .int .u8 0, .int .u8 0, .int .u8 0, .int .u8 0, .int .u8 0, .int .u8 0, .int .u8 0, .int .u8 9, .int .u8 3, .int .u8 0], .int .i64 15, .int .i64 9] w fun e w' => e = .returned (.tuple #[.int .i64 9, .int .i64 18]) ∧ Below w.heap.size w w' :=
  source_in 64 0 0 0 0 0 0 0 9 3 0 15 9 (by decide) (by decide) (by decide) (by decide) (by decide) 9 18 15 9 rfl rfl rfl rfl w
theorem src_2 (w : World) : Calls Try.prog 8 #[.agg #[.int .u8 128, .int .u8 0, .int .u8 0, .int .u8 0, .int .u8 0, .int .u8 0, .int .u8 0, .int .u8 0, .int .u8 9, .int .u8 100, .int .u8 0], .int .i64 191, .int .i64 200] w fun e w' => e = .returned (.tuple #[.int .i64 191, .int .i64 191]) ∧ Below w.heap.size w w' :=
  source_in 128 0 0 0 0 0 0 0 9 100 0 191 200 (by decide) (by decide) (by decide) (by decide) (by decide) 191 191 191 200 rfl rfl rfl rfl w
theorem src_3 (w : World) : Calls Try.prog 8 #[.agg #[.int .u8 0, .int .u8 0, .int .u8 0, .int .u8 0, .int .u8 0, .int .u8 0, .int .u8 0, .int .u8 0, .int .u8 0, .int .u8 100, .int .u8 0], .int .i64 191, .int .i64 0] w fun e w' => e = .returned (.tuple #[.int .i64 0, .int .i64 67]) ∧ Below w.heap.size w w' :=
  source_in 0 0 0 0 0 0 0 0 0 100 0 191 0 (by decide) (by decide) (by decide) (by decide) (by decide) 0 67 191 0 rfl rfl rfl rfl w
theorem blt_1 (w : World) : (Instr.build 24 #[(0, .int .u8 64), (8, .int .u8 9), (9, .int .u8 3)]).run Try.prog w = .ok (.agg #[.int .u8 64, .int .u8 0, .int .u8 0, .int .u8 0, .int .u8 0, .int .u8 0, .int .u8 0, .int .u8 0, .int .u8 9, .int .u8 3, .int .u8 0]) w := by kernel_rfl
theorem blt_2 (w : World) : (Instr.build 24 #[(0, .int .u8 128), (8, .int .u8 9), (9, .int .u8 100)]).run Try.prog w = .ok (.agg #[.int .u8 128, .int .u8 0, .int .u8 0, .int .u8 0, .int .u8 0, .int .u8 0, .int .u8 0, .int .u8 0, .int .u8 9, .int .u8 100, .int .u8 0]) w := by kernel_rfl
theorem blt_3 (w : World) : (Instr.build 24 #[(9, .int .u8 100)]).run Try.prog w = .ok (.agg #[.int .u8 0, .int .u8 0, .int .u8 0, .int .u8 0, .int .u8 0, .int .u8 0, .int .u8 0, .int .u8 0, .int .u8 0, .int .u8 100, .int .u8 0]) w := by kernel_rfl
theorem blt_0 (w : World) : (Instr.build 24 #[]).run Try.prog w = .ok (.agg #[.int .u8 0, .int .u8 0, .int .u8 0, .int .u8 0, .int .u8 0, .int .u8 0, .int .u8 0, .int .u8 0, .int .u8 0, .int .u8 0, .int .u8 0]) w := by kernel_rfl

theorem src_0 (w : World) : Calls Try.prog 8 #[.agg #[.int .u8 0, .int .u8 0, .int .u8 0, .int .u8 0, .int .u8 0, .int .u8 0, .int .u8 0, .int .u8 0, .int .u8 0, .int .u8 0, .int .u8 0], .int .i64 192, .int .i64 7] w fun e w' => e = .returned (.tuple #[.int .i64 0, .int .i64 0]) ∧ Below w.heap.size w w' :=
  source_o 0 0 0 0 0 0 0 0 0 0 0 192 7 (by decide) w
theorem line_0 (w : World) : Calls Try.prog 10 #[.slice none 0 0, .agg #[.int .u8 0, .int .u8 0, .int .u8 0, .int .u8 0, .int .u8 0, .int .u8 0, .int .u8 0, .int .u8 0, .int .u8 0, .int .u8 0, .int .u8 0], .int .i64 (-1)] w fun e w' => e = .returned (gV (fun _ => 0) (fun _ => false)) ∧ Below w.heap.size w w' :=
  line_o none 0 0 0 0 0 0 0 0 0 0 0 0 0 (-1) (by decide) w
set_option maxRecDepth 100000 in
set_option maxHeartbeats 1600000 in
theorem names_any (w : World) : Calls Try.prog 3 #[] w fun e w' => e = .returned (.bool true) ∧ Below w.heap.size w w' := by
  have HM := Lib.hid (Own.start w)
  have hs1 := Lib.hid (same_g (fun _ => 0) (fun _ => false))
  go_enter Try.func3, Try.ntmps3
  go_wp2_with (first
    | ((with_reducible apply built_by blt_1); exact rfl; (focus (go_simp; done)); exact rfl; all_goals skip) | ((with_reducible apply built_by blt_2); exact rfl; (focus (go_simp; done)); exact rfl; all_goals skip) | ((with_reducible apply built_by blt_3); exact rfl; (focus (go_simp; done)); exact rfl; all_goals skip) | ((with_reducible apply built_by blt_0); exact rfl; (focus (go_simp; done)); exact rfl; all_goals skip) | ((with_reducible apply built_by built_g); exact rfl; (focus (go_simp; done)); exact rfl; all_goals skip)
    | (go_at_call 8; (with_reducible refine (src_1 _).mono ?_); rintro e w' ⟨rfl, hb⟩; have HM' := Lib.hid (HM.out.call hb); clear HM hb; have HM := HM'; clear HM') | (go_at_call 8; (with_reducible refine (src_2 _).mono ?_); rintro e w' ⟨rfl, hb⟩; have HM' := Lib.hid (HM.out.call hb); clear HM hb; have HM := HM'; clear HM') | (go_at_call 8; (with_reducible refine (src_3 _).mono ?_); rintro e w' ⟨rfl, hb⟩; have HM' := Lib.hid (HM.out.call hb); clear HM hb; have HM := HM'; clear HM') | (go_at_call 8; (with_reducible refine (src_0 _).mono ?_); rintro e w' ⟨rfl, hb⟩; have HM' := Lib.hid (HM.out.call hb); clear HM hb; have HM := HM'; clear HM') | (go_at_call 9; (with_reducible refine (alive_any _).mono ?_); rintro e w' ⟨rfl, hb⟩; have HM' := Lib.hid (HM.out.call hb); clear HM hb; have HM := HM'; clear HM')
    | (go_at_call 10; (with_reducible refine (line_0 _).mono ?_); rintro e w' ⟨rfl, hb⟩; have HM' := Lib.hid (HM.out.call hb); clear HM hb; have HM := HM'; clear HM'; have hs0 := hs1.out))
  go_ret
  exact ⟨rfl, Own.fin HM⟩

end Go.Proofs.Ytnkckdlolieojaa
