/-
  Package noise's Period, by one contract: the first time that the row is itself again; and noiseAlive, the law's helper, answers true.
-/
import Derived.Test.YtelncbajkbgepaaNoiseMove
namespace Go.Proofs.Ytelncbajkbgepaa
open Go.RowKit

/-- n is the first time that the row is itself again -/
def FirstBack (x : Int) (wh : Bool) (n : Nat) : Prop := 1 ≤ n ∧ n < 65536 ∧ goOf x wh n = x ∧ ∀ k, 1 ≤ k → k < n → goOf x wh k ≠ x

theorem period_none (wh : Bool) (w : World) :
    Calls Try.prog 11 #[.bool wh, .int .u16 0] w fun e w' => e = .returned (.int .i64 0) ∧ w = w' := by
  go_enter Try.func11, Try.ntmps11
  go_wp2
  go_ret
  exact ⟨rfl, rfl⟩

set_option maxHeartbeats 800000 in
theorem period_any (x : Int) (wh : Bool) (h0 : 0 < x) (h1 : x < 65536) (n : Nat) (hn : Hid (FirstBack x wh n)) (w : World) :
    Calls Try.prog 11 #[.bool wh, .int .u16 x] w fun e w' => e = .returned (.int .i64 n) ∧ w = w' := by
  have hx : ¬ x = 0 := by omega
  have h00 : 0 ≤ x := by omega
  go_enter Try.func11, Try.ntmps11
  go_wp2_with (go_at_call 16; refine (move_any x wh h00 h1 _).mono ?_; rintro e w' ⟨rfl, rfl⟩)
  go_loop [5, 6] (fun m a => ∃ k : Nat, 1 ≤ k ∧ k ≤ n ∧ m = .int .i64 k ∧ a = .int .u16 (goOf x wh k)) (fun m _ => n - (intOf m).toNat)
  case atStart => exact ⟨1, Nat.le_refl _, hn.out.1, rfl, rfl⟩
  case round =>
    obtain ⟨k, hk1, hk, rfl, rfl⟩ := hrel
    have hn1 : n < 65536 := hn.out.2.1
    have bd := goOf_bd x wh h00 h1 k
    by_cases hlt : k < n
    · have hne : ¬ goOf x wh k = x := hn.out.2.2.2 k hk1 hlt
      have hno : (goOf x wh k == x) = false := by simpa using hne
      go_wp2_with (go_at_call 16; refine (move_any (goOf x wh k) wh bd.1 bd.2 _).mono ?_; rintro e w' ⟨rfl, rfl⟩)
      go_round
      case rel => exact ⟨k + 1, by omega, by omega, by go_num, rfl⟩
      case measure => simp [intOf]; omega
    · obtain rfl : k = n := by omega
      have he : goOf x wh k = x := hn.out.2.2.1
      rw [he]
      clear he bd
      go_wp2_with fail
      go_ret
      exact ⟨rfl, rfl⟩

theorem first16 : FirstBack 32768 false 16 := by
  refine ⟨by omega, by omega, by decide, ?_⟩
  intro k h1 h2
  have : k = 1 ∨ k = 2 ∨ k = 3 ∨ k = 4 ∨ k = 5 ∨ k = 6 ∨ k = 7 ∨ k = 8 ∨ k = 9 ∨ k = 10 ∨ k = 11 ∨ k = 12 ∨ k = 13 ∨ k = 14 ∨ k = 15 := by omega
  rcases this with rfl | rfl | rfl | rfl | rfl | rfl | rfl | rfl | rfl | rfl | rfl | rfl | rfl | rfl | rfl <;> decide

set_option maxHeartbeats 800000 in
theorem noiseAlive_any (w : World) : Calls Try.prog 9 #[] w fun e w' => e = .returned (.bool true) ∧ w = w' := by
  go_enter Try.func9, Try.ntmps9
  go_wp2
  go_loop [1, 2] (fun a m => ∃ k : Nat, k ≤ 16 ∧ m = .int .i64 k ∧ a = .int .u16 (goOf 32768 false k)) (fun _ m => 16 - (intOf m).toNat)
  case atStart => exact ⟨0, by omega, rfl, rfl⟩
  case round =>
    obtain ⟨k, hk, rfl, rfl⟩ := hrel
    have bd := goOf_bd 32768 false (by omega) (by omega) k
    by_cases hlt : k < 16
    · go_wp2_with (go_at_call 16; refine (move_any (goOf 32768 false k) false bd.1 bd.2 _).mono ?_; rintro e w' ⟨rfl, rfl⟩)
      go_round
      case rel => exact ⟨k + 1, by omega, by go_num, rfl⟩
      case measure => simp [intOf]; omega
    · obtain rfl : k = 16 := by omega
      rw [show goOf 32768 false 16 = 32768 by decide]
      clear bd
      go_wp2_with (first
        | (go_at_call_of 16 (Value.int .u16 32768); refine (move_at 32768 false 16384 (by omega) (by omega) (show _ = _ by decide) _).mono ?_; rintro e w' ⟨rfl, rfl⟩)
        | (go_at_call_of 16 (Value.int .u16 9); refine (move_at 9 true 4 (by omega) (by omega) (show _ = _ by decide) _).mono ?_; rintro e w' ⟨rfl, rfl⟩)
        | (go_at_call 11; refine (period_any 32768 false (by omega) (by omega) 16 first16 _).mono ?_; rintro e w' ⟨rfl, rfl⟩))
      go_ret
      exact ⟨rfl, rfl⟩

end Go.Proofs.Ytelncbajkbgepaa
