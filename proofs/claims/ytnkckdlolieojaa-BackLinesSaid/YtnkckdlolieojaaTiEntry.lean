/-
  The document's Entry.
-/
import Derived.Test.YtnkckdlolieojaaTiRef
namespace Go.Proofs.Ytnkckdlolieojaa
open Go.RowKit

set_option maxHeartbeats 800000 in
theorem rentry_at (a : Option Addr) (n cap : Nat) (xs : Nat → Nat) (base line column B L C q : Int) (k0 k1 b0 b1 e h : Nat) (hB : Hid (base % 16384 = B)) (hL : Hid (line % 16384 = L)) (hC : Hid (column % 16384 = C)) (hq : Hid (B + 64 * L + 2 * C = q)) (hk0 : Hid (q % 16384 = (k0 : Int))) (hk1 : Hid ((q + 1) % 16384 = (k1 : Int))) (hb0 : Hid (vget n xs k0 = b0)) (hb1 : Hid (vget n xs k1 = b1)) (he : Hid ((b0 + 256 * b1) % 512 = e)) (hh : Hid ((b0 + 256 * b1) / 512 % 16 = h)) (w : World) (hV : ByteRow w a n xs) :
    Calls Try.prog 18 #[.slice a n cap, .int .i64 base, .int .i64 line, .int .i64 column] w fun e_ w' => e_ = .returned (.tuple #[.int .i64 (e : Int), .int .u8 (h : Int)]) ∧ w = w' := by
  have eq := hq.out
  have X0 : 0 ≤ B ∧ B < 16384 ∧ 0 ≤ L ∧ L < 16384 ∧ 0 ≤ C ∧ C < 16384 := by have := hB.out; have := hL.out; have := hC.out; omega
  obtain ⟨X1, X2, X3, X4, X5, X6⟩ := X0
  have X7 : 0 ≤ q ∧ q ≤ 1100000 := by omega
  obtain ⟨X8, X9⟩ := X7
  have B0 : b0 < 256 := by rw [← hb0.out]; exact vget_lt hV _
  have B1 : b1 < 256 := by rw [← hb1.out]; exact vget_lt hV _
  obtain ⟨m, hm⟩ : ∃ m : Nat, b0 + 256 * b1 = m := ⟨_, rfl⟩
  have M0 : (b0 : Int) + 256 * (b1 : Int) = (m : Int) := by omega
  have M1 : (m : Int) < 65536 := by omega
  have M2 : (m : Int).tmod 512 = (e : Int) := by rw [Int.tmod_eq_emod_of_nonneg (by omega)]; have := he.out; omega
  have M3 : (m : Int) / 512 % 16 = (h : Int) := by have := hh.out; omega
  have M5 : IntKind.u8.wrap (h : Int) = (h : Int) := by rw [IntKind.wrap_u8]; have := hh.out; omega
  clear hm hq
  go_enter Try.func18, Try.ntmps18
  go_wp2_with (first | (go_at_call 20; (with_reducible refine (rmod_at base 16384 B (by decide) (by decide) hB _).mono ?_); rintro e w' ⟨rfl, rfl⟩) | (go_at_call 20; (with_reducible refine (rmod_at line 16384 L (by decide) (by decide) hL _).mono ?_); rintro e w' ⟨rfl, rfl⟩) | (go_at_call 20; (with_reducible refine (rmod_at column 16384 C (by decide) (by decide) hC _).mono ?_); rintro e w' ⟨rfl, rfl⟩) | (go_at_call 23; (with_reducible refine (rat_at a n cap xs q k0 b0 hk0 hb0 _ hV).mono ?_); rintro e w' ⟨rfl, rfl⟩) | (go_at_call 23; (with_reducible refine (rat_at a n cap xs (q + 1) k1 b1 hk1 hb1 _ hV).mono ?_); rintro e w' ⟨rfl, rfl⟩))
  go_ret2
  exact ⟨rfl, rfl⟩

end Go.Proofs.Ytnkckdlolieojaa
