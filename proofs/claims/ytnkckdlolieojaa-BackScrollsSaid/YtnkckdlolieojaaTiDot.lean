/-
  The document's Dot.
-/
import Derived.Test.YtnkckdlolieojaaTiRef
import Derived.Test.YtnkckdlolieojaaDotV
import Derived.Deep.Cut
import Derived.Deep.CutRange
namespace Go.Proofs.Ytnkckdlolieojaa
open Go.RowKit


set_option maxHeartbeats 800000 in
theorem rdot_0 (a : Option Addr) (n cap : Nat) (xs : Nat → Nat) (tile row T R : Int) (f b0 b1 b2 b3 d : Nat) (hT : Hid (tile % 512 = T)) (hR : Hid (row % 8 = R)) (hf : Hid (32 * T + 4 * R = (f : Int))) (hb0 : Hid (vget n xs f = b0)) (hb1 : Hid (vget n xs (f + 1) = b1)) (hb2 : Hid (vget n xs (f + 2) = b2)) (hb3 : Hid (vget n xs (f + 3) = b3)) (hd : Hid (dotV b0 b1 b2 b3 128 = d)) (w : World) (hV : ByteRow w a n xs) :
    Calls Try.prog 19 #[.slice a n cap, .int .i64 tile, .int .i64 row, .int .i64 0] w fun e w' => e = .returned (.int .u8 (d : Int)) ∧ w = w' := by
  have ef := hf.out
  have T0 : 0 ≤ T := by have := hT.out; omega
  have T1 : T < 512 := by have := hT.out; omega
  have R0 : 0 ≤ R := by have := hR.out; omega
  have R1 : R < 8 := by have := hR.out; omega
  have f1 : (f : Int) ≤ 16380 := by omega
  have hk0 : Hid ((f : Int) % 16384 = ((f : Nat) : Int)) := by show _ = _; omega
  have hk1 : Hid (((f : Int) + 1) % 16384 = ((f + 1 : Nat) : Int)) := by show _ = _; omega
  have hk2 : Hid (((f : Int) + 2) % 16384 = ((f + 2 : Nat) : Int)) := by show _ = _; omega
  have hk3 : Hid (((f : Int) + 3) % 16384 = ((f + 3 : Nat) : Int)) := by show _ = _; omega
  have B0 : b0 < 256 := by rw [← hb0.out]; exact vget_lt hV _
  have B1 : b1 < 256 := by rw [← hb1.out]; exact vget_lt hV _
  have B2 : b2 < 256 := by rw [← hb2.out]; exact vget_lt hV _
  have B3 : b3 < 256 := by rw [← hb3.out]; exact vget_lt hV _
  go_enter Try.func19, Try.ntmps19
  go_upto_region 3 with (first | (go_at_call 20; (with_reducible refine (rmod_at tile 512 T (by decide) (by decide) hT _).mono ?_); rintro e w' ⟨rfl, rfl⟩) | (go_at_call 20; (with_reducible refine (rmod_at row 8 R (by decide) (by decide) hR _).mono ?_); rintro e w' ⟨rfl, rfl⟩))
  obtain ⟨c0, hc0⟩ : ∃ c, b0 / 128 % 2 = c := ⟨_, rfl⟩
  obtain ⟨c1, hc1⟩ : ∃ c, b1 / 128 % 2 = c := ⟨_, rfl⟩
  obtain ⟨c2, hc2⟩ : ∃ c, b2 / 128 % 2 = c := ⟨_, rfl⟩
  obtain ⟨c3, hc3⟩ : ∃ c, b3 / 128 % 2 = c := ⟨_, rfl⟩
  have C0 : c0 < 2 := by omega
  have C1 : c1 < 2 := by omega
  have C2 : c2 < 2 := by omega
  have C3 : c3 < 2 := by omega
  have HD : Hid ((d : Int) = c0 + 2 * c1 + 4 * c2 + 8 * c3) := by
    show (d : Int) = _
    rw [← hd.out, ← hc0, ← hc1, ← hc2, ← hc3]; unfold dotV; omega
  have E0 : (b0 : Int) / 128 % 2 = c0 := by omega
  have E1 : (b1 : Int) / 128 % 2 = c1 := by omega
  have E2 : (b2 : Int) / 128 % 2 = c2 := by omega
  have E3 : (b3 : Int) / 128 % 2 = c3 := by omega
  clear hd hf hT hR T0 T1 R0 R1 ef hc0 hc1 hc2 hc3
  go_wp2_with fail
  go_loopw [10, 11] (fun ov pv wr => wr = w ∧ ∃ (x q : Int), ov = .int .u8 x ∧ pv = .int .i64 q ∧ Hid ((q = 3 ∧ x = 0) ∨ (q = 2 ∧ x = c3) ∨ (q = 1 ∧ x = 2 * (c3 : Int) + c2) ∨ (q = 0 ∧ x = 4 * (c3 : Int) + 2 * c2 + c1) ∨ (q = -1 ∧ x = 8 * (c3 : Int) + 4 * c2 + 2 * c1 + c0))) (fun _ pv _ => (1 + intOf pv).toNat)
  case atStart => exact ⟨rfl, 0, 3, rfl, rfl, .inl ⟨rfl, rfl⟩⟩
  case round =>
    obtain ⟨rfl, x, q, rfl, rfl, hx⟩ := hrel
    rcases hx.out with ⟨rfl, rfl⟩ | ⟨rfl, rfl⟩ | ⟨rfl, rfl⟩ | ⟨rfl, rfl⟩ | ⟨rfl, rfl⟩
    · go_wp2_with (first | (go_at_call 23; (with_reducible refine (rat_at a n cap xs _ (f + 3) _ hk3 hb3 _ hV).mono ?_); rintro e w' ⟨rfl, rfl⟩))
      go_roundw
      case rel => exact ⟨by trivial, _, _, rfl, rfl, by show (_ ∨ _); omega⟩
      case measure => simp [intOf]
    · go_wp2_with (first | (go_at_call 23; (with_reducible refine (rat_at a n cap xs _ (f + 2) _ hk2 hb2 _ hV).mono ?_); rintro e w' ⟨rfl, rfl⟩))
      go_roundw
      case rel => exact ⟨by trivial, _, _, rfl, rfl, by show (_ ∨ _); omega⟩
      case measure => simp [intOf]
    · go_wp2_with (first | (go_at_call 23; (with_reducible refine (rat_at a n cap xs _ (f + 1) _ hk1 hb1 _ hV).mono ?_); rintro e w' ⟨rfl, rfl⟩))
      go_roundw
      case rel => exact ⟨by trivial, _, _, rfl, rfl, by show (_ ∨ _); omega⟩
      case measure => simp [intOf]
    · go_wp2_with (first | (go_at_call 23; (with_reducible refine (rat_at a n cap xs _ f _ hk0 hb0 _ hV).mono ?_); rintro e w' ⟨rfl, rfl⟩))
      go_roundw
      case rel => exact ⟨by trivial, _, _, rfl, rfl, by show (_ ∨ _); omega⟩
      case measure => simp [intOf]
    · go_wp2_with fail
      go_ret
      exact ⟨congrArg (fun z => Ending.returned (.int .u8 z)) (by have := HD.out; omega), rfl⟩

set_option maxHeartbeats 800000 in
theorem rdot_1 (a : Option Addr) (n cap : Nat) (xs : Nat → Nat) (tile row T R : Int) (f b0 b1 b2 b3 d : Nat) (hT : Hid (tile % 512 = T)) (hR : Hid (row % 8 = R)) (hf : Hid (32 * T + 4 * R = (f : Int))) (hb0 : Hid (vget n xs f = b0)) (hb1 : Hid (vget n xs (f + 1) = b1)) (hb2 : Hid (vget n xs (f + 2) = b2)) (hb3 : Hid (vget n xs (f + 3) = b3)) (hd : Hid (dotV b0 b1 b2 b3 64 = d)) (w : World) (hV : ByteRow w a n xs) :
    Calls Try.prog 19 #[.slice a n cap, .int .i64 tile, .int .i64 row, .int .i64 1] w fun e w' => e = .returned (.int .u8 (d : Int)) ∧ w = w' := by
  have ef := hf.out
  have T0 : 0 ≤ T := by have := hT.out; omega
  have T1 : T < 512 := by have := hT.out; omega
  have R0 : 0 ≤ R := by have := hR.out; omega
  have R1 : R < 8 := by have := hR.out; omega
  have f1 : (f : Int) ≤ 16380 := by omega
  have hk0 : Hid ((f : Int) % 16384 = ((f : Nat) : Int)) := by show _ = _; omega
  have hk1 : Hid (((f : Int) + 1) % 16384 = ((f + 1 : Nat) : Int)) := by show _ = _; omega
  have hk2 : Hid (((f : Int) + 2) % 16384 = ((f + 2 : Nat) : Int)) := by show _ = _; omega
  have hk3 : Hid (((f : Int) + 3) % 16384 = ((f + 3 : Nat) : Int)) := by show _ = _; omega
  have B0 : b0 < 256 := by rw [← hb0.out]; exact vget_lt hV _
  have B1 : b1 < 256 := by rw [← hb1.out]; exact vget_lt hV _
  have B2 : b2 < 256 := by rw [← hb2.out]; exact vget_lt hV _
  have B3 : b3 < 256 := by rw [← hb3.out]; exact vget_lt hV _
  go_enter Try.func19, Try.ntmps19
  go_upto_region 3 with (first | (go_at_call 20; (with_reducible refine (rmod_at tile 512 T (by decide) (by decide) hT _).mono ?_); rintro e w' ⟨rfl, rfl⟩) | (go_at_call 20; (with_reducible refine (rmod_at row 8 R (by decide) (by decide) hR _).mono ?_); rintro e w' ⟨rfl, rfl⟩))
  obtain ⟨c0, hc0⟩ : ∃ c, b0 / 64 % 2 = c := ⟨_, rfl⟩
  obtain ⟨c1, hc1⟩ : ∃ c, b1 / 64 % 2 = c := ⟨_, rfl⟩
  obtain ⟨c2, hc2⟩ : ∃ c, b2 / 64 % 2 = c := ⟨_, rfl⟩
  obtain ⟨c3, hc3⟩ : ∃ c, b3 / 64 % 2 = c := ⟨_, rfl⟩
  have C0 : c0 < 2 := by omega
  have C1 : c1 < 2 := by omega
  have C2 : c2 < 2 := by omega
  have C3 : c3 < 2 := by omega
  have HD : Hid ((d : Int) = c0 + 2 * c1 + 4 * c2 + 8 * c3) := by
    show (d : Int) = _
    rw [← hd.out, ← hc0, ← hc1, ← hc2, ← hc3]; unfold dotV; omega
  have E0 : (b0 : Int) / 64 % 2 = c0 := by omega
  have E1 : (b1 : Int) / 64 % 2 = c1 := by omega
  have E2 : (b2 : Int) / 64 % 2 = c2 := by omega
  have E3 : (b3 : Int) / 64 % 2 = c3 := by omega
  clear hd hf hT hR T0 T1 R0 R1 ef hc0 hc1 hc2 hc3
  go_wp2_with fail
  go_loopw [10, 11] (fun ov pv wr => wr = w ∧ ∃ (x q : Int), ov = .int .u8 x ∧ pv = .int .i64 q ∧ Hid ((q = 3 ∧ x = 0) ∨ (q = 2 ∧ x = c3) ∨ (q = 1 ∧ x = 2 * (c3 : Int) + c2) ∨ (q = 0 ∧ x = 4 * (c3 : Int) + 2 * c2 + c1) ∨ (q = -1 ∧ x = 8 * (c3 : Int) + 4 * c2 + 2 * c1 + c0))) (fun _ pv _ => (1 + intOf pv).toNat)
  case atStart => exact ⟨rfl, 0, 3, rfl, rfl, .inl ⟨rfl, rfl⟩⟩
  case round =>
    obtain ⟨rfl, x, q, rfl, rfl, hx⟩ := hrel
    rcases hx.out with ⟨rfl, rfl⟩ | ⟨rfl, rfl⟩ | ⟨rfl, rfl⟩ | ⟨rfl, rfl⟩ | ⟨rfl, rfl⟩
    · go_wp2_with (first | (go_at_call 23; (with_reducible refine (rat_at a n cap xs _ (f + 3) _ hk3 hb3 _ hV).mono ?_); rintro e w' ⟨rfl, rfl⟩))
      go_roundw
      case rel => exact ⟨by trivial, _, _, rfl, rfl, by show (_ ∨ _); omega⟩
      case measure => simp [intOf]
    · go_wp2_with (first | (go_at_call 23; (with_reducible refine (rat_at a n cap xs _ (f + 2) _ hk2 hb2 _ hV).mono ?_); rintro e w' ⟨rfl, rfl⟩))
      go_roundw
      case rel => exact ⟨by trivial, _, _, rfl, rfl, by show (_ ∨ _); omega⟩
      case measure => simp [intOf]
    · go_wp2_with (first | (go_at_call 23; (with_reducible refine (rat_at a n cap xs _ (f + 1) _ hk1 hb1 _ hV).mono ?_); rintro e w' ⟨rfl, rfl⟩))
      go_roundw
      case rel => exact ⟨by trivial, _, _, rfl, rfl, by show (_ ∨ _); omega⟩
      case measure => simp [intOf]
    · go_wp2_with (first | (go_at_call 23; (with_reducible refine (rat_at a n cap xs _ f _ hk0 hb0 _ hV).mono ?_); rintro e w' ⟨rfl, rfl⟩))
      go_roundw
      case rel => exact ⟨by trivial, _, _, rfl, rfl, by show (_ ∨ _); omega⟩
      case measure => simp [intOf]
    · go_wp2_with fail
      go_ret
      exact ⟨congrArg (fun z => Ending.returned (.int .u8 z)) (by have := HD.out; omega), rfl⟩

set_option maxHeartbeats 800000 in
theorem rdot_2 (a : Option Addr) (n cap : Nat) (xs : Nat → Nat) (tile row T R : Int) (f b0 b1 b2 b3 d : Nat) (hT : Hid (tile % 512 = T)) (hR : Hid (row % 8 = R)) (hf : Hid (32 * T + 4 * R = (f : Int))) (hb0 : Hid (vget n xs f = b0)) (hb1 : Hid (vget n xs (f + 1) = b1)) (hb2 : Hid (vget n xs (f + 2) = b2)) (hb3 : Hid (vget n xs (f + 3) = b3)) (hd : Hid (dotV b0 b1 b2 b3 32 = d)) (w : World) (hV : ByteRow w a n xs) :
    Calls Try.prog 19 #[.slice a n cap, .int .i64 tile, .int .i64 row, .int .i64 2] w fun e w' => e = .returned (.int .u8 (d : Int)) ∧ w = w' := by
  have ef := hf.out
  have T0 : 0 ≤ T := by have := hT.out; omega
  have T1 : T < 512 := by have := hT.out; omega
  have R0 : 0 ≤ R := by have := hR.out; omega
  have R1 : R < 8 := by have := hR.out; omega
  have f1 : (f : Int) ≤ 16380 := by omega
  have hk0 : Hid ((f : Int) % 16384 = ((f : Nat) : Int)) := by show _ = _; omega
  have hk1 : Hid (((f : Int) + 1) % 16384 = ((f + 1 : Nat) : Int)) := by show _ = _; omega
  have hk2 : Hid (((f : Int) + 2) % 16384 = ((f + 2 : Nat) : Int)) := by show _ = _; omega
  have hk3 : Hid (((f : Int) + 3) % 16384 = ((f + 3 : Nat) : Int)) := by show _ = _; omega
  have B0 : b0 < 256 := by rw [← hb0.out]; exact vget_lt hV _
  have B1 : b1 < 256 := by rw [← hb1.out]; exact vget_lt hV _
  have B2 : b2 < 256 := by rw [← hb2.out]; exact vget_lt hV _
  have B3 : b3 < 256 := by rw [← hb3.out]; exact vget_lt hV _
  go_enter Try.func19, Try.ntmps19
  go_upto_region 3 with (first | (go_at_call 20; (with_reducible refine (rmod_at tile 512 T (by decide) (by decide) hT _).mono ?_); rintro e w' ⟨rfl, rfl⟩) | (go_at_call 20; (with_reducible refine (rmod_at row 8 R (by decide) (by decide) hR _).mono ?_); rintro e w' ⟨rfl, rfl⟩))
  obtain ⟨c0, hc0⟩ : ∃ c, b0 / 32 % 2 = c := ⟨_, rfl⟩
  obtain ⟨c1, hc1⟩ : ∃ c, b1 / 32 % 2 = c := ⟨_, rfl⟩
  obtain ⟨c2, hc2⟩ : ∃ c, b2 / 32 % 2 = c := ⟨_, rfl⟩
  obtain ⟨c3, hc3⟩ : ∃ c, b3 / 32 % 2 = c := ⟨_, rfl⟩
  have C0 : c0 < 2 := by omega
  have C1 : c1 < 2 := by omega
  have C2 : c2 < 2 := by omega
  have C3 : c3 < 2 := by omega
  have HD : Hid ((d : Int) = c0 + 2 * c1 + 4 * c2 + 8 * c3) := by
    show (d : Int) = _
    rw [← hd.out, ← hc0, ← hc1, ← hc2, ← hc3]; unfold dotV; omega
  have E0 : (b0 : Int) / 32 % 2 = c0 := by omega
  have E1 : (b1 : Int) / 32 % 2 = c1 := by omega
  have E2 : (b2 : Int) / 32 % 2 = c2 := by omega
  have E3 : (b3 : Int) / 32 % 2 = c3 := by omega
  clear hd hf hT hR T0 T1 R0 R1 ef hc0 hc1 hc2 hc3
  go_wp2_with fail
  go_loopw [10, 11] (fun ov pv wr => wr = w ∧ ∃ (x q : Int), ov = .int .u8 x ∧ pv = .int .i64 q ∧ Hid ((q = 3 ∧ x = 0) ∨ (q = 2 ∧ x = c3) ∨ (q = 1 ∧ x = 2 * (c3 : Int) + c2) ∨ (q = 0 ∧ x = 4 * (c3 : Int) + 2 * c2 + c1) ∨ (q = -1 ∧ x = 8 * (c3 : Int) + 4 * c2 + 2 * c1 + c0))) (fun _ pv _ => (1 + intOf pv).toNat)
  case atStart => exact ⟨rfl, 0, 3, rfl, rfl, .inl ⟨rfl, rfl⟩⟩
  case round =>
    obtain ⟨rfl, x, q, rfl, rfl, hx⟩ := hrel
    rcases hx.out with ⟨rfl, rfl⟩ | ⟨rfl, rfl⟩ | ⟨rfl, rfl⟩ | ⟨rfl, rfl⟩ | ⟨rfl, rfl⟩
    · go_wp2_with (first | (go_at_call 23; (with_reducible refine (rat_at a n cap xs _ (f + 3) _ hk3 hb3 _ hV).mono ?_); rintro e w' ⟨rfl, rfl⟩))
      go_roundw
      case rel => exact ⟨by trivial, _, _, rfl, rfl, by show (_ ∨ _); omega⟩
      case measure => simp [intOf]
    · go_wp2_with (first | (go_at_call 23; (with_reducible refine (rat_at a n cap xs _ (f + 2) _ hk2 hb2 _ hV).mono ?_); rintro e w' ⟨rfl, rfl⟩))
      go_roundw
      case rel => exact ⟨by trivial, _, _, rfl, rfl, by show (_ ∨ _); omega⟩
      case measure => simp [intOf]
    · go_wp2_with (first | (go_at_call 23; (with_reducible refine (rat_at a n cap xs _ (f + 1) _ hk1 hb1 _ hV).mono ?_); rintro e w' ⟨rfl, rfl⟩))
      go_roundw
      case rel => exact ⟨by trivial, _, _, rfl, rfl, by show (_ ∨ _); omega⟩
      case measure => simp [intOf]
    · go_wp2_with (first | (go_at_call 23; (with_reducible refine (rat_at a n cap xs _ f _ hk0 hb0 _ hV).mono ?_); rintro e w' ⟨rfl, rfl⟩))
      go_roundw
      case rel => exact ⟨by trivial, _, _, rfl, rfl, by show (_ ∨ _); omega⟩
      case measure => simp [intOf]
    · go_wp2_with fail
      go_ret
      exact ⟨congrArg (fun z => Ending.returned (.int .u8 z)) (by have := HD.out; omega), rfl⟩

set_option maxHeartbeats 800000 in
theorem rdot_3 (a : Option Addr) (n cap : Nat) (xs : Nat → Nat) (tile row T R : Int) (f b0 b1 b2 b3 d : Nat) (hT : Hid (tile % 512 = T)) (hR : Hid (row % 8 = R)) (hf : Hid (32 * T + 4 * R = (f : Int))) (hb0 : Hid (vget n xs f = b0)) (hb1 : Hid (vget n xs (f + 1) = b1)) (hb2 : Hid (vget n xs (f + 2) = b2)) (hb3 : Hid (vget n xs (f + 3) = b3)) (hd : Hid (dotV b0 b1 b2 b3 16 = d)) (w : World) (hV : ByteRow w a n xs) :
    Calls Try.prog 19 #[.slice a n cap, .int .i64 tile, .int .i64 row, .int .i64 3] w fun e w' => e = .returned (.int .u8 (d : Int)) ∧ w = w' := by
  have ef := hf.out
  have T0 : 0 ≤ T := by have := hT.out; omega
  have T1 : T < 512 := by have := hT.out; omega
  have R0 : 0 ≤ R := by have := hR.out; omega
  have R1 : R < 8 := by have := hR.out; omega
  have f1 : (f : Int) ≤ 16380 := by omega
  have hk0 : Hid ((f : Int) % 16384 = ((f : Nat) : Int)) := by show _ = _; omega
  have hk1 : Hid (((f : Int) + 1) % 16384 = ((f + 1 : Nat) : Int)) := by show _ = _; omega
  have hk2 : Hid (((f : Int) + 2) % 16384 = ((f + 2 : Nat) : Int)) := by show _ = _; omega
  have hk3 : Hid (((f : Int) + 3) % 16384 = ((f + 3 : Nat) : Int)) := by show _ = _; omega
  have B0 : b0 < 256 := by rw [← hb0.out]; exact vget_lt hV _
  have B1 : b1 < 256 := by rw [← hb1.out]; exact vget_lt hV _
  have B2 : b2 < 256 := by rw [← hb2.out]; exact vget_lt hV _
  have B3 : b3 < 256 := by rw [← hb3.out]; exact vget_lt hV _
  go_enter Try.func19, Try.ntmps19
  go_upto_region 3 with (first | (go_at_call 20; (with_reducible refine (rmod_at tile 512 T (by decide) (by decide) hT _).mono ?_); rintro e w' ⟨rfl, rfl⟩) | (go_at_call 20; (with_reducible refine (rmod_at row 8 R (by decide) (by decide) hR _).mono ?_); rintro e w' ⟨rfl, rfl⟩))
  obtain ⟨c0, hc0⟩ : ∃ c, b0 / 16 % 2 = c := ⟨_, rfl⟩
  obtain ⟨c1, hc1⟩ : ∃ c, b1 / 16 % 2 = c := ⟨_, rfl⟩
  obtain ⟨c2, hc2⟩ : ∃ c, b2 / 16 % 2 = c := ⟨_, rfl⟩
  obtain ⟨c3, hc3⟩ : ∃ c, b3 / 16 % 2 = c := ⟨_, rfl⟩
  have C0 : c0 < 2 := by omega
  have C1 : c1 < 2 := by omega
  have C2 : c2 < 2 := by omega
  have C3 : c3 < 2 := by omega
  have HD : Hid ((d : Int) = c0 + 2 * c1 + 4 * c2 + 8 * c3) := by
    show (d : Int) = _
    rw [← hd.out, ← hc0, ← hc1, ← hc2, ← hc3]; unfold dotV; omega
  have E0 : (b0 : Int) / 16 % 2 = c0 := by omega
  have E1 : (b1 : Int) / 16 % 2 = c1 := by omega
  have E2 : (b2 : Int) / 16 % 2 = c2 := by omega
  have E3 : (b3 : Int) / 16 % 2 = c3 := by omega
  clear hd hf hT hR T0 T1 R0 R1 ef hc0 hc1 hc2 hc3
  go_wp2_with fail
  go_loopw [10, 11] (fun ov pv wr => wr = w ∧ ∃ (x q : Int), ov = .int .u8 x ∧ pv = .int .i64 q ∧ Hid ((q = 3 ∧ x = 0) ∨ (q = 2 ∧ x = c3) ∨ (q = 1 ∧ x = 2 * (c3 : Int) + c2) ∨ (q = 0 ∧ x = 4 * (c3 : Int) + 2 * c2 + c1) ∨ (q = -1 ∧ x = 8 * (c3 : Int) + 4 * c2 + 2 * c1 + c0))) (fun _ pv _ => (1 + intOf pv).toNat)
  case atStart => exact ⟨rfl, 0, 3, rfl, rfl, .inl ⟨rfl, rfl⟩⟩
  case round =>
    obtain ⟨rfl, x, q, rfl, rfl, hx⟩ := hrel
    rcases hx.out with ⟨rfl, rfl⟩ | ⟨rfl, rfl⟩ | ⟨rfl, rfl⟩ | ⟨rfl, rfl⟩ | ⟨rfl, rfl⟩
    · go_wp2_with (first | (go_at_call 23; (with_reducible refine (rat_at a n cap xs _ (f + 3) _ hk3 hb3 _ hV).mono ?_); rintro e w' ⟨rfl, rfl⟩))
      go_roundw
      case rel => exact ⟨by trivial, _, _, rfl, rfl, by show (_ ∨ _); omega⟩
      case measure => simp [intOf]
    · go_wp2_with (first | (go_at_call 23; (with_reducible refine (rat_at a n cap xs _ (f + 2) _ hk2 hb2 _ hV).mono ?_); rintro e w' ⟨rfl, rfl⟩))
      go_roundw
      case rel => exact ⟨by trivial, _, _, rfl, rfl, by show (_ ∨ _); omega⟩
      case measure => simp [intOf]
    · go_wp2_with (first | (go_at_call 23; (with_reducible refine (rat_at a n cap xs _ (f + 1) _ hk1 hb1 _ hV).mono ?_); rintro e w' ⟨rfl, rfl⟩))
      go_roundw
      case rel => exact ⟨by trivial, _, _, rfl, rfl, by show (_ ∨ _); omega⟩
      case measure => simp [intOf]
    · go_wp2_with (first | (go_at_call 23; (with_reducible refine (rat_at a n cap xs _ f _ hk0 hb0 _ hV).mono ?_); rintro e w' ⟨rfl, rfl⟩))
      go_roundw
      case rel => exact ⟨by trivial, _, _, rfl, rfl, by show (_ ∨ _); omega⟩
      case measure => simp [intOf]
    · go_wp2_with fail
      go_ret
      exact ⟨congrArg (fun z => Ending.returned (.int .u8 z)) (by have := HD.out; omega), rfl⟩

set_option maxHeartbeats 800000 in
theorem rdot_4 (a : Option Addr) (n cap : Nat) (xs : Nat → Nat) (tile row T R : Int) (f b0 b1 b2 b3 d : Nat) (hT : Hid (tile % 512 = T)) (hR : Hid (row % 8 = R)) (hf : Hid (32 * T + 4 * R = (f : Int))) (hb0 : Hid (vget n xs f = b0)) (hb1 : Hid (vget n xs (f + 1) = b1)) (hb2 : Hid (vget n xs (f + 2) = b2)) (hb3 : Hid (vget n xs (f + 3) = b3)) (hd : Hid (dotV b0 b1 b2 b3 8 = d)) (w : World) (hV : ByteRow w a n xs) :
    Calls Try.prog 19 #[.slice a n cap, .int .i64 tile, .int .i64 row, .int .i64 4] w fun e w' => e = .returned (.int .u8 (d : Int)) ∧ w = w' := by
  have ef := hf.out
  have T0 : 0 ≤ T := by have := hT.out; omega
  have T1 : T < 512 := by have := hT.out; omega
  have R0 : 0 ≤ R := by have := hR.out; omega
  have R1 : R < 8 := by have := hR.out; omega
  have f1 : (f : Int) ≤ 16380 := by omega
  have hk0 : Hid ((f : Int) % 16384 = ((f : Nat) : Int)) := by show _ = _; omega
  have hk1 : Hid (((f : Int) + 1) % 16384 = ((f + 1 : Nat) : Int)) := by show _ = _; omega
  have hk2 : Hid (((f : Int) + 2) % 16384 = ((f + 2 : Nat) : Int)) := by show _ = _; omega
  have hk3 : Hid (((f : Int) + 3) % 16384 = ((f + 3 : Nat) : Int)) := by show _ = _; omega
  have B0 : b0 < 256 := by rw [← hb0.out]; exact vget_lt hV _
  have B1 : b1 < 256 := by rw [← hb1.out]; exact vget_lt hV _
  have B2 : b2 < 256 := by rw [← hb2.out]; exact vget_lt hV _
  have B3 : b3 < 256 := by rw [← hb3.out]; exact vget_lt hV _
  go_enter Try.func19, Try.ntmps19
  go_upto_region 3 with (first | (go_at_call 20; (with_reducible refine (rmod_at tile 512 T (by decide) (by decide) hT _).mono ?_); rintro e w' ⟨rfl, rfl⟩) | (go_at_call 20; (with_reducible refine (rmod_at row 8 R (by decide) (by decide) hR _).mono ?_); rintro e w' ⟨rfl, rfl⟩))
  obtain ⟨c0, hc0⟩ : ∃ c, b0 / 8 % 2 = c := ⟨_, rfl⟩
  obtain ⟨c1, hc1⟩ : ∃ c, b1 / 8 % 2 = c := ⟨_, rfl⟩
  obtain ⟨c2, hc2⟩ : ∃ c, b2 / 8 % 2 = c := ⟨_, rfl⟩
  obtain ⟨c3, hc3⟩ : ∃ c, b3 / 8 % 2 = c := ⟨_, rfl⟩
  have C0 : c0 < 2 := by omega
  have C1 : c1 < 2 := by omega
  have C2 : c2 < 2 := by omega
  have C3 : c3 < 2 := by omega
  have HD : Hid ((d : Int) = c0 + 2 * c1 + 4 * c2 + 8 * c3) := by
    show (d : Int) = _
    rw [← hd.out, ← hc0, ← hc1, ← hc2, ← hc3]; unfold dotV; omega
  have E0 : (b0 : Int) / 8 % 2 = c0 := by omega
  have E1 : (b1 : Int) / 8 % 2 = c1 := by omega
  have E2 : (b2 : Int) / 8 % 2 = c2 := by omega
  have E3 : (b3 : Int) / 8 % 2 = c3 := by omega
  clear hd hf hT hR T0 T1 R0 R1 ef hc0 hc1 hc2 hc3
  go_wp2_with fail
  go_loopw [10, 11] (fun ov pv wr => wr = w ∧ ∃ (x q : Int), ov = .int .u8 x ∧ pv = .int .i64 q ∧ Hid ((q = 3 ∧ x = 0) ∨ (q = 2 ∧ x = c3) ∨ (q = 1 ∧ x = 2 * (c3 : Int) + c2) ∨ (q = 0 ∧ x = 4 * (c3 : Int) + 2 * c2 + c1) ∨ (q = -1 ∧ x = 8 * (c3 : Int) + 4 * c2 + 2 * c1 + c0))) (fun _ pv _ => (1 + intOf pv).toNat)
  case atStart => exact ⟨rfl, 0, 3, rfl, rfl, .inl ⟨rfl, rfl⟩⟩
  case round =>
    obtain ⟨rfl, x, q, rfl, rfl, hx⟩ := hrel
    rcases hx.out with ⟨rfl, rfl⟩ | ⟨rfl, rfl⟩ | ⟨rfl, rfl⟩ | ⟨rfl, rfl⟩ | ⟨rfl, rfl⟩
    · go_wp2_with (first | (go_at_call 23; (with_reducible refine (rat_at a n cap xs _ (f + 3) _ hk3 hb3 _ hV).mono ?_); rintro e w' ⟨rfl, rfl⟩))
      go_roundw
      case rel => exact ⟨by trivial, _, _, rfl, rfl, by show (_ ∨ _); omega⟩
      case measure => simp [intOf]
    · go_wp2_with (first | (go_at_call 23; (with_reducible refine (rat_at a n cap xs _ (f + 2) _ hk2 hb2 _ hV).mono ?_); rintro e w' ⟨rfl, rfl⟩))
      go_roundw
      case rel => exact ⟨by trivial, _, _, rfl, rfl, by show (_ ∨ _); omega⟩
      case measure => simp [intOf]
    · go_wp2_with (first | (go_at_call 23; (with_reducible refine (rat_at a n cap xs _ (f + 1) _ hk1 hb1 _ hV).mono ?_); rintro e w' ⟨rfl, rfl⟩))
      go_roundw
      case rel => exact ⟨by trivial, _, _, rfl, rfl, by show (_ ∨ _); omega⟩
      case measure => simp [intOf]
    · go_wp2_with (first | (go_at_call 23; (with_reducible refine (rat_at a n cap xs _ f _ hk0 hb0 _ hV).mono ?_); rintro e w' ⟨rfl, rfl⟩))
      go_roundw
      case rel => exact ⟨by trivial, _, _, rfl, rfl, by show (_ ∨ _); omega⟩
      case measure => simp [intOf]
    · go_wp2_with fail
      go_ret
      exact ⟨congrArg (fun z => Ending.returned (.int .u8 z)) (by have := HD.out; omega), rfl⟩

set_option maxHeartbeats 800000 in
theorem rdot_5 (a : Option Addr) (n cap : Nat) (xs : Nat → Nat) (tile row T R : Int) (f b0 b1 b2 b3 d : Nat) (hT : Hid (tile % 512 = T)) (hR : Hid (row % 8 = R)) (hf : Hid (32 * T + 4 * R = (f : Int))) (hb0 : Hid (vget n xs f = b0)) (hb1 : Hid (vget n xs (f + 1) = b1)) (hb2 : Hid (vget n xs (f + 2) = b2)) (hb3 : Hid (vget n xs (f + 3) = b3)) (hd : Hid (dotV b0 b1 b2 b3 4 = d)) (w : World) (hV : ByteRow w a n xs) :
    Calls Try.prog 19 #[.slice a n cap, .int .i64 tile, .int .i64 row, .int .i64 5] w fun e w' => e = .returned (.int .u8 (d : Int)) ∧ w = w' := by
  have ef := hf.out
  have T0 : 0 ≤ T := by have := hT.out; omega
  have T1 : T < 512 := by have := hT.out; omega
  have R0 : 0 ≤ R := by have := hR.out; omega
  have R1 : R < 8 := by have := hR.out; omega
  have f1 : (f : Int) ≤ 16380 := by omega
  have hk0 : Hid ((f : Int) % 16384 = ((f : Nat) : Int)) := by show _ = _; omega
  have hk1 : Hid (((f : Int) + 1) % 16384 = ((f + 1 : Nat) : Int)) := by show _ = _; omega
  have hk2 : Hid (((f : Int) + 2) % 16384 = ((f + 2 : Nat) : Int)) := by show _ = _; omega
  have hk3 : Hid (((f : Int) + 3) % 16384 = ((f + 3 : Nat) : Int)) := by show _ = _; omega
  have B0 : b0 < 256 := by rw [← hb0.out]; exact vget_lt hV _
  have B1 : b1 < 256 := by rw [← hb1.out]; exact vget_lt hV _
  have B2 : b2 < 256 := by rw [← hb2.out]; exact vget_lt hV _
  have B3 : b3 < 256 := by rw [← hb3.out]; exact vget_lt hV _
  go_enter Try.func19, Try.ntmps19
  go_upto_region 3 with (first | (go_at_call 20; (with_reducible refine (rmod_at tile 512 T (by decide) (by decide) hT _).mono ?_); rintro e w' ⟨rfl, rfl⟩) | (go_at_call 20; (with_reducible refine (rmod_at row 8 R (by decide) (by decide) hR _).mono ?_); rintro e w' ⟨rfl, rfl⟩))
  obtain ⟨c0, hc0⟩ : ∃ c, b0 / 4 % 2 = c := ⟨_, rfl⟩
  obtain ⟨c1, hc1⟩ : ∃ c, b1 / 4 % 2 = c := ⟨_, rfl⟩
  obtain ⟨c2, hc2⟩ : ∃ c, b2 / 4 % 2 = c := ⟨_, rfl⟩
  obtain ⟨c3, hc3⟩ : ∃ c, b3 / 4 % 2 = c := ⟨_, rfl⟩
  have C0 : c0 < 2 := by omega
  have C1 : c1 < 2 := by omega
  have C2 : c2 < 2 := by omega
  have C3 : c3 < 2 := by omega
  have HD : Hid ((d : Int) = c0 + 2 * c1 + 4 * c2 + 8 * c3) := by
    show (d : Int) = _
    rw [← hd.out, ← hc0, ← hc1, ← hc2, ← hc3]; unfold dotV; omega
  have E0 : (b0 : Int) / 4 % 2 = c0 := by omega
  have E1 : (b1 : Int) / 4 % 2 = c1 := by omega
  have E2 : (b2 : Int) / 4 % 2 = c2 := by omega
  have E3 : (b3 : Int) / 4 % 2 = c3 := by omega
  clear hd hf hT hR T0 T1 R0 R1 ef hc0 hc1 hc2 hc3
  go_wp2_with fail
  go_loopw [10, 11] (fun ov pv wr => wr = w ∧ ∃ (x q : Int), ov = .int .u8 x ∧ pv = .int .i64 q ∧ Hid ((q = 3 ∧ x = 0) ∨ (q = 2 ∧ x = c3) ∨ (q = 1 ∧ x = 2 * (c3 : Int) + c2) ∨ (q = 0 ∧ x = 4 * (c3 : Int) + 2 * c2 + c1) ∨ (q = -1 ∧ x = 8 * (c3 : Int) + 4 * c2 + 2 * c1 + c0))) (fun _ pv _ => (1 + intOf pv).toNat)
  case atStart => exact ⟨rfl, 0, 3, rfl, rfl, .inl ⟨rfl, rfl⟩⟩
  case round =>
    obtain ⟨rfl, x, q, rfl, rfl, hx⟩ := hrel
    rcases hx.out with ⟨rfl, rfl⟩ | ⟨rfl, rfl⟩ | ⟨rfl, rfl⟩ | ⟨rfl, rfl⟩ | ⟨rfl, rfl⟩
    · go_wp2_with (first | (go_at_call 23; (with_reducible refine (rat_at a n cap xs _ (f + 3) _ hk3 hb3 _ hV).mono ?_); rintro e w' ⟨rfl, rfl⟩))
      go_roundw
      case rel => exact ⟨by trivial, _, _, rfl, rfl, by show (_ ∨ _); omega⟩
      case measure => simp [intOf]
    · go_wp2_with (first | (go_at_call 23; (with_reducible refine (rat_at a n cap xs _ (f + 2) _ hk2 hb2 _ hV).mono ?_); rintro e w' ⟨rfl, rfl⟩))
      go_roundw
      case rel => exact ⟨by trivial, _, _, rfl, rfl, by show (_ ∨ _); omega⟩
      case measure => simp [intOf]
    · go_wp2_with (first | (go_at_call 23; (with_reducible refine (rat_at a n cap xs _ (f + 1) _ hk1 hb1 _ hV).mono ?_); rintro e w' ⟨rfl, rfl⟩))
      go_roundw
      case rel => exact ⟨by trivial, _, _, rfl, rfl, by show (_ ∨ _); omega⟩
      case measure => simp [intOf]
    · go_wp2_with (first | (go_at_call 23; (with_reducible refine (rat_at a n cap xs _ f _ hk0 hb0 _ hV).mono ?_); rintro e w' ⟨rfl, rfl⟩))
      go_roundw
      case rel => exact ⟨by trivial, _, _, rfl, rfl, by show (_ ∨ _); omega⟩
      case measure => simp [intOf]
    · go_wp2_with fail
      go_ret
      exact ⟨congrArg (fun z => Ending.returned (.int .u8 z)) (by have := HD.out; omega), rfl⟩

set_option maxHeartbeats 800000 in
theorem rdot_6 (a : Option Addr) (n cap : Nat) (xs : Nat → Nat) (tile row T R : Int) (f b0 b1 b2 b3 d : Nat) (hT : Hid (tile % 512 = T)) (hR : Hid (row % 8 = R)) (hf : Hid (32 * T + 4 * R = (f : Int))) (hb0 : Hid (vget n xs f = b0)) (hb1 : Hid (vget n xs (f + 1) = b1)) (hb2 : Hid (vget n xs (f + 2) = b2)) (hb3 : Hid (vget n xs (f + 3) = b3)) (hd : Hid (dotV b0 b1 b2 b3 2 = d)) (w : World) (hV : ByteRow w a n xs) :
    Calls Try.prog 19 #[.slice a n cap, .int .i64 tile, .int .i64 row, .int .i64 6] w fun e w' => e = .returned (.int .u8 (d : Int)) ∧ w = w' := by
  have ef := hf.out
  have T0 : 0 ≤ T := by have := hT.out; omega
  have T1 : T < 512 := by have := hT.out; omega
  have R0 : 0 ≤ R := by have := hR.out; omega
  have R1 : R < 8 := by have := hR.out; omega
  have f1 : (f : Int) ≤ 16380 := by omega
  have hk0 : Hid ((f : Int) % 16384 = ((f : Nat) : Int)) := by show _ = _; omega
  have hk1 : Hid (((f : Int) + 1) % 16384 = ((f + 1 : Nat) : Int)) := by show _ = _; omega
  have hk2 : Hid (((f : Int) + 2) % 16384 = ((f + 2 : Nat) : Int)) := by show _ = _; omega
  have hk3 : Hid (((f : Int) + 3) % 16384 = ((f + 3 : Nat) : Int)) := by show _ = _; omega
  have B0 : b0 < 256 := by rw [← hb0.out]; exact vget_lt hV _
  have B1 : b1 < 256 := by rw [← hb1.out]; exact vget_lt hV _
  have B2 : b2 < 256 := by rw [← hb2.out]; exact vget_lt hV _
  have B3 : b3 < 256 := by rw [← hb3.out]; exact vget_lt hV _
  go_enter Try.func19, Try.ntmps19
  go_upto_region 3 with (first | (go_at_call 20; (with_reducible refine (rmod_at tile 512 T (by decide) (by decide) hT _).mono ?_); rintro e w' ⟨rfl, rfl⟩) | (go_at_call 20; (with_reducible refine (rmod_at row 8 R (by decide) (by decide) hR _).mono ?_); rintro e w' ⟨rfl, rfl⟩))
  obtain ⟨c0, hc0⟩ : ∃ c, b0 / 2 % 2 = c := ⟨_, rfl⟩
  obtain ⟨c1, hc1⟩ : ∃ c, b1 / 2 % 2 = c := ⟨_, rfl⟩
  obtain ⟨c2, hc2⟩ : ∃ c, b2 / 2 % 2 = c := ⟨_, rfl⟩
  obtain ⟨c3, hc3⟩ : ∃ c, b3 / 2 % 2 = c := ⟨_, rfl⟩
  have C0 : c0 < 2 := by omega
  have C1 : c1 < 2 := by omega
  have C2 : c2 < 2 := by omega
  have C3 : c3 < 2 := by omega
  have HD : Hid ((d : Int) = c0 + 2 * c1 + 4 * c2 + 8 * c3) := by
    show (d : Int) = _
    rw [← hd.out, ← hc0, ← hc1, ← hc2, ← hc3]; unfold dotV; omega
  have E0 : (b0 : Int) / 2 % 2 = c0 := by omega
  have E1 : (b1 : Int) / 2 % 2 = c1 := by omega
  have E2 : (b2 : Int) / 2 % 2 = c2 := by omega
  have E3 : (b3 : Int) / 2 % 2 = c3 := by omega
  clear hd hf hT hR T0 T1 R0 R1 ef hc0 hc1 hc2 hc3
  go_wp2_with fail
  go_loopw [10, 11] (fun ov pv wr => wr = w ∧ ∃ (x q : Int), ov = .int .u8 x ∧ pv = .int .i64 q ∧ Hid ((q = 3 ∧ x = 0) ∨ (q = 2 ∧ x = c3) ∨ (q = 1 ∧ x = 2 * (c3 : Int) + c2) ∨ (q = 0 ∧ x = 4 * (c3 : Int) + 2 * c2 + c1) ∨ (q = -1 ∧ x = 8 * (c3 : Int) + 4 * c2 + 2 * c1 + c0))) (fun _ pv _ => (1 + intOf pv).toNat)
  case atStart => exact ⟨rfl, 0, 3, rfl, rfl, .inl ⟨rfl, rfl⟩⟩
  case round =>
    obtain ⟨rfl, x, q, rfl, rfl, hx⟩ := hrel
    rcases hx.out with ⟨rfl, rfl⟩ | ⟨rfl, rfl⟩ | ⟨rfl, rfl⟩ | ⟨rfl, rfl⟩ | ⟨rfl, rfl⟩
    · go_wp2_with (first | (go_at_call 23; (with_reducible refine (rat_at a n cap xs _ (f + 3) _ hk3 hb3 _ hV).mono ?_); rintro e w' ⟨rfl, rfl⟩))
      go_roundw
      case rel => exact ⟨by trivial, _, _, rfl, rfl, by show (_ ∨ _); omega⟩
      case measure => simp [intOf]
    · go_wp2_with (first | (go_at_call 23; (with_reducible refine (rat_at a n cap xs _ (f + 2) _ hk2 hb2 _ hV).mono ?_); rintro e w' ⟨rfl, rfl⟩))
      go_roundw
      case rel => exact ⟨by trivial, _, _, rfl, rfl, by show (_ ∨ _); omega⟩
      case measure => simp [intOf]
    · go_wp2_with (first | (go_at_call 23; (with_reducible refine (rat_at a n cap xs _ (f + 1) _ hk1 hb1 _ hV).mono ?_); rintro e w' ⟨rfl, rfl⟩))
      go_roundw
      case rel => exact ⟨by trivial, _, _, rfl, rfl, by show (_ ∨ _); omega⟩
      case measure => simp [intOf]
    · go_wp2_with (first | (go_at_call 23; (with_reducible refine (rat_at a n cap xs _ f _ hk0 hb0 _ hV).mono ?_); rintro e w' ⟨rfl, rfl⟩))
      go_roundw
      case rel => exact ⟨by trivial, _, _, rfl, rfl, by show (_ ∨ _); omega⟩
      case measure => simp [intOf]
    · go_wp2_with fail
      go_ret
      exact ⟨congrArg (fun z => Ending.returned (.int .u8 z)) (by have := HD.out; omega), rfl⟩

set_option maxHeartbeats 800000 in
theorem rdot_7 (a : Option Addr) (n cap : Nat) (xs : Nat → Nat) (tile row T R : Int) (f b0 b1 b2 b3 d : Nat) (hT : Hid (tile % 512 = T)) (hR : Hid (row % 8 = R)) (hf : Hid (32 * T + 4 * R = (f : Int))) (hb0 : Hid (vget n xs f = b0)) (hb1 : Hid (vget n xs (f + 1) = b1)) (hb2 : Hid (vget n xs (f + 2) = b2)) (hb3 : Hid (vget n xs (f + 3) = b3)) (hd : Hid (dotV b0 b1 b2 b3 1 = d)) (w : World) (hV : ByteRow w a n xs) :
    Calls Try.prog 19 #[.slice a n cap, .int .i64 tile, .int .i64 row, .int .i64 7] w fun e w' => e = .returned (.int .u8 (d : Int)) ∧ w = w' := by
  have ef := hf.out
  have T0 : 0 ≤ T := by have := hT.out; omega
  have T1 : T < 512 := by have := hT.out; omega
  have R0 : 0 ≤ R := by have := hR.out; omega
  have R1 : R < 8 := by have := hR.out; omega
  have f1 : (f : Int) ≤ 16380 := by omega
  have hk0 : Hid ((f : Int) % 16384 = ((f : Nat) : Int)) := by show _ = _; omega
  have hk1 : Hid (((f : Int) + 1) % 16384 = ((f + 1 : Nat) : Int)) := by show _ = _; omega
  have hk2 : Hid (((f : Int) + 2) % 16384 = ((f + 2 : Nat) : Int)) := by show _ = _; omega
  have hk3 : Hid (((f : Int) + 3) % 16384 = ((f + 3 : Nat) : Int)) := by show _ = _; omega
  have B0 : b0 < 256 := by rw [← hb0.out]; exact vget_lt hV _
  have B1 : b1 < 256 := by rw [← hb1.out]; exact vget_lt hV _
  have B2 : b2 < 256 := by rw [← hb2.out]; exact vget_lt hV _
  have B3 : b3 < 256 := by rw [← hb3.out]; exact vget_lt hV _
  go_enter Try.func19, Try.ntmps19
  go_upto_region 3 with (first | (go_at_call 20; (with_reducible refine (rmod_at tile 512 T (by decide) (by decide) hT _).mono ?_); rintro e w' ⟨rfl, rfl⟩) | (go_at_call 20; (with_reducible refine (rmod_at row 8 R (by decide) (by decide) hR _).mono ?_); rintro e w' ⟨rfl, rfl⟩))
  obtain ⟨c0, hc0⟩ : ∃ c, b0 / 1 % 2 = c := ⟨_, rfl⟩
  obtain ⟨c1, hc1⟩ : ∃ c, b1 / 1 % 2 = c := ⟨_, rfl⟩
  obtain ⟨c2, hc2⟩ : ∃ c, b2 / 1 % 2 = c := ⟨_, rfl⟩
  obtain ⟨c3, hc3⟩ : ∃ c, b3 / 1 % 2 = c := ⟨_, rfl⟩
  have C0 : c0 < 2 := by omega
  have C1 : c1 < 2 := by omega
  have C2 : c2 < 2 := by omega
  have C3 : c3 < 2 := by omega
  have HD : Hid ((d : Int) = c0 + 2 * c1 + 4 * c2 + 8 * c3) := by
    show (d : Int) = _
    rw [← hd.out, ← hc0, ← hc1, ← hc2, ← hc3]; unfold dotV; omega
  have E0 : (b0 : Int) / 1 % 2 = c0 := by omega
  have E1 : (b1 : Int) / 1 % 2 = c1 := by omega
  have E2 : (b2 : Int) / 1 % 2 = c2 := by omega
  have E3 : (b3 : Int) / 1 % 2 = c3 := by omega
  clear hd hf hT hR T0 T1 R0 R1 ef hc0 hc1 hc2 hc3
  have M0 : (b0 : Int) % 2 = c0 := by omega
  have M1 : (b1 : Int) % 2 = c1 := by omega
  have M2 : (b2 : Int) % 2 = c2 := by omega
  have M3 : (b3 : Int) % 2 = c3 := by omega
  go_wp2_with fail
  go_loopw [10, 11] (fun ov pv wr => wr = w ∧ ∃ (x q : Int), ov = .int .u8 x ∧ pv = .int .i64 q ∧ Hid ((q = 3 ∧ x = 0) ∨ (q = 2 ∧ x = c3) ∨ (q = 1 ∧ x = 2 * (c3 : Int) + c2) ∨ (q = 0 ∧ x = 4 * (c3 : Int) + 2 * c2 + c1) ∨ (q = -1 ∧ x = 8 * (c3 : Int) + 4 * c2 + 2 * c1 + c0))) (fun _ pv _ => (1 + intOf pv).toNat)
  case atStart => exact ⟨rfl, 0, 3, rfl, rfl, .inl ⟨rfl, rfl⟩⟩
  case round =>
    obtain ⟨rfl, x, q, rfl, rfl, hx⟩ := hrel
    rcases hx.out with ⟨rfl, rfl⟩ | ⟨rfl, rfl⟩ | ⟨rfl, rfl⟩ | ⟨rfl, rfl⟩ | ⟨rfl, rfl⟩
    · go_wp2_with (first | (go_at_call 23; (with_reducible refine (rat_at a n cap xs _ (f + 3) _ hk3 hb3 _ hV).mono ?_); rintro e w' ⟨rfl, rfl⟩))
      go_roundw
      case rel => exact ⟨by trivial, _, _, rfl, rfl, by show (_ ∨ _); omega⟩
      case measure => simp [intOf]
    · go_wp2_with (first | (go_at_call 23; (with_reducible refine (rat_at a n cap xs _ (f + 2) _ hk2 hb2 _ hV).mono ?_); rintro e w' ⟨rfl, rfl⟩))
      go_roundw
      case rel => exact ⟨by trivial, _, _, rfl, rfl, by show (_ ∨ _); omega⟩
      case measure => simp [intOf]
    · go_wp2_with (first | (go_at_call 23; (with_reducible refine (rat_at a n cap xs _ (f + 1) _ hk1 hb1 _ hV).mono ?_); rintro e w' ⟨rfl, rfl⟩))
      go_roundw
      case rel => exact ⟨by trivial, _, _, rfl, rfl, by show (_ ∨ _); omega⟩
      case measure => simp [intOf]
    · go_wp2_with (first | (go_at_call 23; (with_reducible refine (rat_at a n cap xs _ f _ hk0 hb0 _ hV).mono ?_); rintro e w' ⟨rfl, rfl⟩))
      go_roundw
      case rel => exact ⟨by trivial, _, _, rfl, rfl, by show (_ ∨ _); omega⟩
      case measure => simp [intOf]
    · go_wp2_with fail
      go_ret
      exact ⟨congrArg (fun z => Ending.returned (.int .u8 z)) (by have := HD.out; omega), rfl⟩

end Go.Proofs.Ytnkckdlolieojaa
