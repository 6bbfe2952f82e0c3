/-
  The law TileNames returns true.
-/
import Derived.Test.YtcggfpmappfieaaTiAlive
import Derived.Deep.Cut
import Derived.Deep.CutRange
namespace Go.Proofs.Ytcggfpmappfieaa
open Go.RowKit
theorem row_n1 (a : Option Addr) (cap : Nat) (w : World) (hV : ByteRow w a 64 (upd (upd (fun _ => 0) 36 1) 39 1)) :
    Calls Try.prog 9 #[.slice a 64 cap, .int .i64 1, .int .i64 1, .bool false] w fun e w' => e = .returned (.agg #[.int .u8 0, .int .u8 0, .int .u8 0, .int .u8 0, .int .u8 0, .int .u8 0, .int .u8 0, .int .u8 9]) ∧ Below w.heap.size w w' :=
  row_f a 64 cap (upd (upd (fun _ => 0) 36 1) 39 1) 1 1 1 1 36 1 0 0 1 0 0 0 0 0 0 0 9 rfl rfl rfl rfl rfl rfl rfl rfl rfl rfl rfl rfl rfl rfl rfl w hV
theorem row_n2 (a : Option Addr) (cap : Nat) (w : World) (hV : ByteRow w a 64 (upd (upd (fun _ => 0) 36 1) 39 1)) :
    Calls Try.prog 9 #[.slice a 64 cap, .int .i64 1, .int .i64 1, .bool true] w fun e w' => e = .returned (.agg #[.int .u8 9, .int .u8 0, .int .u8 0, .int .u8 0, .int .u8 0, .int .u8 0, .int .u8 0, .int .u8 0]) ∧ Below w.heap.size w w' :=
  row_t a 64 cap (upd (upd (fun _ => 0) 36 1) 39 1) 1 1 1 1 36 1 0 0 1 0 0 0 0 0 0 0 9 rfl rfl rfl rfl rfl rfl rfl rfl rfl rfl rfl rfl rfl rfl rfl w hV
/-- four bytes -/
def four : Nat → Nat := fun i => if i < 2 then 0 else 255
theorem entry_n (a : Option Addr) (cap : Nat) (w : World) (hV : ByteRow w a 4 four) : Calls Try.prog 7 #[.slice a 4 cap, .int .i64 0, .int .i64 0, .int .i64 1] w fun e w' => e = .returned (.tuple #[.int .i64 511, .int .u8 15]) ∧ Below w.heap.size w w' :=
  (entry_at a 4 cap four 0 0 1 0 0 1 2 2 3 255 255 511 15 rfl rfl rfl rfl rfl rfl rfl rfl rfl rfl w hV).mono fun _ _ ⟨he, hw⟩ => ⟨he, hw ▸ Below.refl _ _⟩
theorem at_n0 (w : World) : Calls Try.prog 10 #[.slice none 0 0, .int .i64 3] w fun e w' => e = .returned (.int .u8 0) ∧ Below w.heap.size w w' :=
  (at_at none 0 0 (fun _ => 0) 3 3 0 rfl rfl w (ByteRow.nil _ _ _)).mono fun _ _ ⟨he, hw⟩ => ⟨he, hw ▸ Below.refl _ _⟩
theorem at_n7 (a : Option Addr) (cap : Nat) (w : World) (hV : ByteRow w a 1 (fun _ => 7)) : Calls Try.prog 10 #[.slice a 1 cap, .int .i64 (-16384)] w fun e w' => e = .returned (.int .u8 7) ∧ Below w.heap.size w w' :=
  (at_at a 1 cap (fun _ => 7) (-16384) 0 7 (by show (-16384 : Int) % 16384 = 0; decide) rfl w hV).mono fun _ _ ⟨he, hw⟩ => ⟨he, hw ▸ Below.refl _ _⟩
set_option maxRecDepth 100000 in
set_option maxHeartbeats 3200000 in
theorem names_any (w : World) : Calls Try.prog 3 #[] w fun e w' => e = .returned (.bool true) ∧ Below w.heap.size w w' := by
  have HM := Lib.hid (Own.start w)
  have hmk := Lib.hid (made_bytes 64 (by decide))
  have H4 : Hid (∀ w, (Instr.buildSlice 22 4 #[(0, .int .u8 0), (1, .int .u8 0), (2, .int .u8 255), (3, .int .u8 255)]).run Try.prog w = .ok (.slice (some ⟨w.heap.size, 0, none⟩) 4 4) (w.alloc (.cells (b8 4 four).toArray 5))) := Lib.hid (fun w => by kernel_rfl)
  have H7 : Hid (∀ w, (Instr.buildSlice 22 1 #[(0, .int .u8 7)]).run Try.prog w = .ok (.slice (some ⟨w.heap.size, 0, none⟩) 1 1) (w.alloc (.cells (b8 1 (fun _ => 7)).toArray 5))) := Lib.hid (fun w => by kernel_rfl)
  have L4 : Hid (∀ i, four i < 256) := Lib.hid fun i => by unfold four; split <;> decide
  have L7 : Hid (∀ i, (fun _ : Nat => 7) i < 256) := Lib.hid fun _ => by show 7 < 256; decide
  have LX : Hid (∀ i, (upd (upd (fun _ => 0) 36 1) 39 1) i < 256) := Lib.hid (upd_lt (upd_lt (fun _ => by show 0 < 256; decide) 36 (by decide)) 39 (by decide))
  have hs1 := Lib.hid (same8_run 0 0 0 0 0 0 0 9)
  have hs2 := Lib.hid (same8_run 9 0 0 0 0 0 0 0)
  go_enter Try.func3, Try.ntmps3
  go_upto_region 5 with (first
    | ((with_reducible apply own_makes (cs := b8 64 (fun _ => 0)) (e := 5) (n := 64) HM); exact rfl; exact rfl; exact rfl; exact hmk.out; exact rfl; clear HM; intro w' g1 HM)
    | ((with_reducible apply own_b8 (i := 36) (v := 1) HM); exact rfl; exact rfl; exact rfl; exact oneU8; decide; exact rfl; exact rfl; clear HM; intro w' HM) | ((with_reducible apply own_b8 (i := 39) (v := 1) HM); exact rfl; exact rfl; exact rfl; exact oneU8; decide; exact rfl; exact rfl; clear HM; intro w' HM) | ((with_reducible apply own_made (cs := b8 4 four) (e := 5) (n := 4) HM); exact rfl; exact H4.out; (focus (first | exact rfl | (go_simp; done))); exact rfl; intro w' g' HM'; clear HM; have HM := HM'; clear HM')
    | (go_at_call 7; (with_reducible refine (entry_n _ 4 _ (HM.out.byteRow (n := 4) (xs := four) .z L4.out)).mono ?_); rintro e w' ⟨rfl, hb⟩; have HM' := Lib.hid (HM.out.call hb); clear HM hb; have HM := HM'; clear HM'))
  go_wp2_with (first
    | ((with_reducible apply own_made (cs := b8 1 (fun _ => 7)) (e := 5) (n := 1) HM); exact rfl; exact H7.out; (focus (first | exact rfl | (go_simp; done))); exact rfl; intro w' g' HM'; clear HM; have HM := HM'; clear HM')
    | (go_at_call 8; (with_reducible refine (alive_any _).mono ?_); rintro e w' ⟨rfl, hb⟩; have HM' := Lib.hid (HM.out.call hb); clear HM hb; have HM := HM'; clear HM')
    | (go_at_call 9; (with_reducible refine (row_n1 _ 64 _ (HM.out.byteRow (n := 64) (xs := upd (upd (fun _ => 0) 36 1) 39 1) (.s .z) LX.out)).mono ?_); rintro e w' ⟨rfl, hb⟩; have HM' := Lib.hid (HM.out.call hb); clear HM hb; have HM := HM'; clear HM'; have hs0 := hs1.out)
    | (go_at_call 9; clear hs0; (with_reducible refine (row_n2 _ 64 _ (HM.out.byteRow (n := 64) (xs := upd (upd (fun _ => 0) 36 1) 39 1) (.s .z) LX.out)).mono ?_); rintro e w' ⟨rfl, hb⟩; have HM' := Lib.hid (HM.out.call hb); clear HM hb; have HM := HM'; clear HM'; have hs0 := hs2.out)
    | (go_at_call 10; (try clear hs0); first | ((with_reducible refine (at_n0 _).mono ?_); rintro e w' ⟨rfl, hb⟩; have HM' := Lib.hid (HM.out.call hb); clear HM hb; have HM := HM'; clear HM') | ((with_reducible refine (at_n7 _ 1 _ (HM.out.byteRow (n := 1) (xs := fun _ => 7) .z L7.out)).mono ?_); rintro e w' ⟨rfl, hb⟩; have HM' := Lib.hid (HM.out.call hb); clear HM hb; have HM := HM'; clear HM')))
  go_ret
  exact ⟨rfl, Own.fin HM⟩

end Go.Proofs.Ytcggfpmappfieaa
