/-
  The law SpriteNames returns true.
-/
import Derived.Test.YtcefgcoibppdaaaSpAlive
namespace Go.Proofs.Ytcefgcoibppdaaa
open Go.RowKit
theorem blt_0 (w : World) : (Instr.build 26 #[]).run Try.prog w = .ok (.agg #[.int .u8 0, .int .u8 0, .int .u8 0, .int .u8 0, .int .u8 0, .int .u8 0, .int .u8 0, .int .u8 0, .int .u8 0, .int .u8 0, .int .u8 0]) w := by kernel_rfl
theorem blt_1 (w : World) : (Instr.build 26 #[(1, .int .u8 1)]).run Try.prog w = .ok (.agg #[.int .u8 0, .int .u8 1, .int .u8 0, .int .u8 0, .int .u8 0, .int .u8 0, .int .u8 0, .int .u8 0, .int .u8 0, .int .u8 0, .int .u8 0]) w := by kernel_rfl
theorem blt_2 (w : World) : (Instr.build 26 #[(1, .int .u8 2)]).run Try.prog w = .ok (.agg #[.int .u8 0, .int .u8 2, .int .u8 0, .int .u8 0, .int .u8 0, .int .u8 0, .int .u8 0, .int .u8 0, .int .u8 0, .int .u8 0, .int .u8 0]) w := by kernel_rfl
theorem blt_3 (w : World) : (Instr.build 26 #[(1, .int .u8 3)]).run Try.prog w = .ok (.agg #[.int .u8 0, .int .u8 3, .int .u8 0, .int .u8 0, .int .u8 0, .int .u8 0, .int .u8 0, .int .u8 0, .int .u8 0, .int .u8 0, .int .u8 0]) w := by kernel_rfl
theorem hgt_0 (w : World) : Calls Try.prog 10 #[.agg #[.int .u8 0, .int .u8 0, .int .u8 0, .int .u8 0, .int .u8 0, .int .u8 0, .int .u8 0, .int .u8 0, .int .u8 0, .int .u8 0, .int .u8 0]] w fun e w' => e = .returned (.int .i64 8) ∧ Below w.heap.size w w' := height_at 0 0 0 0 0 0 0 0 0 0 0 (by decide) 8 rfl w
theorem hgt_1 (w : World) : Calls Try.prog 10 #[.agg #[.int .u8 0, .int .u8 1, .int .u8 0, .int .u8 0, .int .u8 0, .int .u8 0, .int .u8 0, .int .u8 0, .int .u8 0, .int .u8 0, .int .u8 0]] w fun e w' => e = .returned (.int .i64 16) ∧ Below w.heap.size w w' := height_at 0 1 0 0 0 0 0 0 0 0 0 (by decide) 16 rfl w
theorem hgt_2 (w : World) : Calls Try.prog 10 #[.agg #[.int .u8 0, .int .u8 2, .int .u8 0, .int .u8 0, .int .u8 0, .int .u8 0, .int .u8 0, .int .u8 0, .int .u8 0, .int .u8 0, .int .u8 0]] w fun e w' => e = .returned (.int .i64 16) ∧ Below w.heap.size w w' := height_at 0 2 0 0 0 0 0 0 0 0 0 (by decide) 16 rfl w
theorem hgt_3 (w : World) : Calls Try.prog 10 #[.agg #[.int .u8 0, .int .u8 3, .int .u8 0, .int .u8 0, .int .u8 0, .int .u8 0, .int .u8 0, .int .u8 0, .int .u8 0, .int .u8 0, .int .u8 0]] w fun e w' => e = .returned (.int .i64 32) ∧ Below w.heap.size w w' := height_at 0 3 0 0 0 0 0 0 0 0 0 (by decide) 32 rfl w
theorem L_n0 : spL 16384 (fun _ => 0) 0 126 1 = List.range 64 := by decide +kernel
theorem on_n0 (a : Option Addr) (cap : Nat) (w : World) (hV : ByteRow w a 16384 (fun _ => 0)) :
    Calls Try.prog 8 #[.slice a 16384 cap, .agg #[.int .u8 0, .int .u8 0, .int .u8 0, .int .u8 0, .int .u8 0, .int .u8 126, .int .u8 0, .int .u8 0, .int .u8 0, .int .u8 0, .int .u8 0], .int .i64 1] w fun e w' => ∃ p c, e = .returned (.tuple #[.slice p 8 c, .bool true]) ∧ Below w.heap.size w w' :=
  (on_in a 16384 cap (fun _ => 0) 0 0 0 0 0 126 0 0 0 0 0 1 (by decide) (by decide) (by decide) (by decide) _ L_n0 w hV).mono fun _ _ ⟨p, c, h1, _, h2⟩ => ⟨p, c, h1, h2⟩
theorem L_n1 : spL 16384 (fun _ => 0) 0 126 0 = [] := by decide +kernel
theorem on_n1 (a : Option Addr) (cap : Nat) (w : World) (hV : ByteRow w a 16384 (fun _ => 0)) :
    Calls Try.prog 8 #[.slice a 16384 cap, .agg #[.int .u8 0, .int .u8 0, .int .u8 0, .int .u8 0, .int .u8 0, .int .u8 126, .int .u8 0, .int .u8 0, .int .u8 0, .int .u8 0, .int .u8 0], .int .i64 0] w fun e w' => ∃ p c, e = .returned (.tuple #[.slice p 0 c, .bool false]) ∧ Below w.heap.size w w' :=
  (on_in a 16384 cap (fun _ => 0) 0 0 0 0 0 126 0 0 0 0 0 0 (by decide) (by decide) (by decide) (by decide) _ L_n1 w hV).mono fun _ _ ⟨p, c, h1, _, h2⟩ => ⟨p, c, h1, h2⟩
theorem on_n2 (a : Option Addr) (cap : Nat) (w : World) :
    Calls Try.prog 8 #[.slice a 16384 cap, .agg #[.int .u8 0, .int .u8 0, .int .u8 0, .int .u8 0, .int .u8 0, .int .u8 126, .int .u8 0, .int .u8 0, .int .u8 0, .int .u8 0, .int .u8 0], .int .i64 192] w fun e w' => ∃ p c, e = .returned (.tuple #[.slice p 0 c, .bool false]) ∧ Below w.heap.size w w' :=
  on_o a 16384 cap 0 0 0 0 0 126 0 0 0 0 0 192 (by decide) w
set_option maxRecDepth 100000 in
set_option maxHeartbeats 3200000 in
theorem names_any (w : World) : Calls Try.prog 3 #[] w fun e w' => e = .returned (.bool true) ∧ Below w.heap.size w w' := by
  have HM := Lib.hid (Own.start w)
  have hmk := Lib.hid (made_bytes 16384 (by decide))
  have LX : Hid (∀ i : Nat, (fun _ : Nat => 0) i < 256) := Lib.hid (fun _ => by show 0 < 256; decide)
  go_enter Try.func3, Try.ntmps3
  go_upto_region 5 with (first
    | ((with_reducible apply own_makes (cs := b8 16384 (fun _ => 0)) (e := 5) (n := 16384) HM); exact rfl; exact rfl; exact rfl; exact hmk.out; exact rfl; clear HM; intro w' g1 HM)
    | ((with_reducible apply built_by blt_5); exact rfl; (focus (go_simp; done)); exact rfl; all_goals skip) | (go_at_call 8; (with_reducible refine (on_n0 _ 16384 _ (HM.out.byteRow (n := 16384) (xs := fun _ => 0) .z LX.out)).mono ?_); rintro e w' ⟨p, cp, rfl, hb⟩; have HM' := Lib.hid (HM.out.call hb); clear HM hb; have HM := HM'; clear HM') | (go_at_call 8; (with_reducible refine (on_n1 _ 16384 _ (HM.out.byteRow (n := 16384) (xs := fun _ => 0) .z LX.out)).mono ?_); rintro e w' ⟨p, cp, rfl, hb⟩; have HM' := Lib.hid (HM.out.call hb); clear HM hb; have HM := HM'; clear HM') | (go_at_call 8; (with_reducible refine (on_n2 _ 16384 _).mono ?_); rintro e w' ⟨p, cp, rfl, hb⟩; have HM' := Lib.hid (HM.out.call hb); clear HM hb; have HM := HM'; clear HM'))
  clear hmk
  go_wp2_with (first
    | ((with_reducible apply built_by blt_0); exact rfl; (focus (go_simp; done)); exact rfl; all_goals skip) | ((with_reducible apply built_by blt_1); exact rfl; (focus (go_simp; done)); exact rfl; all_goals skip) | ((with_reducible apply built_by blt_2); exact rfl; (focus (go_simp; done)); exact rfl; all_goals skip) | ((with_reducible apply built_by blt_3); exact rfl; (focus (go_simp; done)); exact rfl; all_goals skip)
    | (go_at_call 10; (with_reducible refine (hgt_0 _).mono ?_); rintro e w' ⟨rfl, hb⟩; have HM' := Lib.hid (HM.out.call hb); clear HM hb; have HM := HM'; clear HM') | (go_at_call 10; (with_reducible refine (hgt_1 _).mono ?_); rintro e w' ⟨rfl, hb⟩; have HM' := Lib.hid (HM.out.call hb); clear HM hb; have HM := HM'; clear HM') | (go_at_call 10; (with_reducible refine (hgt_2 _).mono ?_); rintro e w' ⟨rfl, hb⟩; have HM' := Lib.hid (HM.out.call hb); clear HM hb; have HM := HM'; clear HM') | (go_at_call 10; (with_reducible refine (hgt_3 _).mono ?_); rintro e w' ⟨rfl, hb⟩; have HM' := Lib.hid (HM.out.call hb); clear HM hb; have HM := HM'; clear HM')
    | (go_at_call 9; (with_reducible refine (alive_any _).mono ?_); rintro e w' ⟨rfl, hb⟩; have HM' := Lib.hid (HM.out.call hb); clear HM hb; have HM := HM'; clear HM'))
  go_ret
  exact ⟨rfl, Own.fin HM⟩

end Go.Proofs.Ytcefgcoibppdaaa
