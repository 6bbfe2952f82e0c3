/-
  The example of the chapter.
-/
import Derived.Test.YtcggfpmappfieaaTiCode
import Derived.Test.YtcggfpmappfieaaMade
import Derived.Laws.StructEq
namespace Go.Proofs.Ytcggfpmappfieaa
open Go.RowKit

theorem same8_run (x0 x1 x2 x3 x4 x5 x6 x7 : Int) (w : World) : (Op.equalIn 10000 26 (.agg #[.int .u8 x0, .int .u8 x1, .int .u8 x2, .int .u8 x3, .int .u8 x4, .int .u8 x5, .int .u8 x6, .int .u8 x7]) (.agg #[.int .u8 x0, .int .u8 x1, .int .u8 x2, .int .u8 x3, .int .u8 x4, .int .u8 x5, .int .u8 x6, .int .u8 x7])).run Try.prog w = .ok true w := by
  unfold Op.equalIn
  simp only [Sem.run_bind, Try.runUnderlying26, Result.andThen_ok]
  have hr : List.range' 0 8 = [0, 1, 2, 3, 4, 5, 6, 7] := rfl
  have e (a b : Int) (w : World) : (Op.equalIn 9999 5 (.int .u8 a) (.int .u8 b)).run Try.prog w = .ok (a == b) w := run_equalIn_int w 9998 5 .u8 .u8 a b Try.underlying5
  simp [go_sem, hr, e]
theorem made_1 (v : Int) (w : World) : (Instr.buildSlice 22 1 #[(0, .int .u8 v)]).run Try.prog w = .ok (.slice (some ⟨w.heap.size, 0, none⟩) 1 1) (w.alloc (.cells [Value.int .u8 v].toArray 5)) := by kernel_rfl
theorem row_al (a : Option Addr) (cap : Nat) (w : World) (hV : ByteRow w a 1 (fun _ => 128)) :
    Calls Try.prog 9 #[.slice a 1 cap, .int .i64 0, .int .i64 0, .bool false] w fun e w' => e = .returned (.agg #[.int .u8 1, .int .u8 0, .int .u8 0, .int .u8 0, .int .u8 0, .int .u8 0, .int .u8 0, .int .u8 0]) ∧ Below w.heap.size w w' :=
  row_f a 1 cap (fun _ => 128) 0 0 0 0 0 128 0 0 0 1 0 0 0 0 0 0 0 rfl rfl rfl rfl rfl rfl rfl rfl rfl rfl rfl rfl rfl rfl rfl w hV
theorem at_al (a : Option Addr) (cap : Nat) (w : World) (hV : ByteRow w a 1 (fun _ => 5)) : Calls Try.prog 10 #[.slice a 1 cap, .int .i64 16384] w fun e w' => e = .returned (.int .u8 5) ∧ Below w.heap.size w w' :=
  (at_at a 1 cap (fun _ => 5) 16384 0 5 rfl rfl w hV).mono fun _ _ ⟨he, hw⟩ => ⟨he, hw ▸ Below.refl _ _⟩
set_option maxHeartbeats 1600000 in
theorem alive_any (w : World) : Calls Try.prog 8 #[] w fun e w' => e = .returned (.bool true) ∧ Below w.heap.size w w' := by
  have HM := Lib.hid (Own.start w)
  have h128 : ∀ w, (Instr.buildSlice 22 1 #[(0, .int .u8 128)]).run Try.prog w = _ := made_1 128
  have h5 : ∀ w, (Instr.buildSlice 22 1 #[(0, .int .u8 5)]).run Try.prog w = _ := made_1 5
  have H128 := Lib.hid h128
  have H5 := Lib.hid h5
  have hs := Lib.hid (same8_run 1 0 0 0 0 0 0 0)
  have L128 : Hid (∀ i, (fun _ : Nat => 128) i < 256) := Lib.hid fun _ => by show 128 < 256; decide
  have L5 : Hid (∀ i, (fun _ : Nat => 5) i < 256) := Lib.hid fun _ => by show 5 < 256; decide
  clear h128 h5
  go_enter Try.func8, Try.ntmps8
  go_wp2_with (first
    | ((with_reducible apply own_made (cs := b8 1 (fun _ => 128)) (e := 5) HM); exact rfl; exact H128.out; (focus (first | exact rfl | (go_simp; done))); exact rfl; intro w' g' HM'; clear HM; have HM := HM'; clear HM') | ((with_reducible apply own_made (cs := b8 1 (fun _ => 5)) (e := 5) HM); exact rfl; exact H5.out; (focus (first | exact rfl | (go_simp; done))); exact rfl; intro w' g' HM'; clear HM; have HM := HM'; clear HM')
    | (go_at_call 9; (with_reducible refine (row_al _ 1 _ (HM.out.byteRow (n := 1) (xs := fun _ => 128) .z L128.out)).mono ?_); rintro e w' ⟨rfl, hb⟩; have HM' := Lib.hid (HM.out.call hb); clear HM hb; have HM := HM'; clear HM'; have hs0 := hs.out)
    | (go_at_call 10; (with_reducible refine (at_al _ 1 _ (HM.out.byteRow (n := 1) (xs := fun _ => 5) .z L5.out)).mono ?_); clear hs0; rintro e w' ⟨rfl, hb⟩; have HM' := Lib.hid (HM.out.call hb); clear HM hb; have HM := HM'; clear HM'))
  go_ret
  exact ⟨rfl, Own.fin HM⟩

end Go.Proofs.Ytcggfpmappfieaa
