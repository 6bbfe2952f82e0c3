/-
  The law NoiseMoves returns true for any row, either way, and writes nothing that was there.
-/
import Derived.Test.YtelncbajkbgepaaNoisePeriod
import Derived.Test.YtelncbajkbgepaaNoiseNumber
namespace Go.Proofs.Ytelncbajkbgepaa
open Go.RowKit

theorem moves_none (wh : Bool) (w : World) :
    Calls Try.prog 5 #[.int .u16 0, .bool wh] w fun e w' => e = .returned (.bool true) ∧ Below w.heap.size w w' := by
  have H0 : Hid (Below w.heap.size w w) := Below.refl _ _
  go_enter Try.func5, Try.ntmps5
  go_wp2_with (first
    | (go_at_call 9; refine (noiseAlive_any _).mono ?_; rintro e w1 ⟨rfl, rfl⟩)
    | (go_at_call 16; refine (move_any 0 wh (by omega) (by omega) _).mono ?_; rintro e w1 ⟨rfl, rfl⟩)
    | (go_at_call 17; refine (rmove_any 0 wh (by omega) (by omega) _).mono ?_; rintro e w1 ⟨rfl, hb⟩; have HB := Lib.hid hb; clear hb)
    | (go_at_call 11; refine (period_none wh _).mono ?_; rintro e w2 ⟨rfl, rfl⟩))
  go_ret
  exact ⟨rfl, HB.out⟩

set_option maxRecDepth 100000 in
set_option maxHeartbeats 1600000 in
theorem moves_some (x : Int) (wh : Bool) (h0 : 0 < x) (h1 : x < 65536) (w : World) :
    Calls Try.prog 5 #[.int .u16 x, .bool wh] w fun e w' => e = .returned (.bool true) ∧ Below w.heap.size w w' := by
  obtain ⟨n, n1, n2, n3, n4⟩ := comes_back x wh h0 h1
  have HF : Hid (FirstBack x wh n) := ⟨n1, n2, n3, n4⟩
  have h00 : 0 ≤ x := by omega
  have hx : ¬ x = 0 := by omega
  have hx' : (x == 0) = false := by simpa using hx
  obtain ⟨Y, hY⟩ : ∃ Y, Y = moveOf x wh := ⟨_, rfl⟩
  have HY : Hid (moveOf x wh = Y) := hY.symm
  have HN3 := Lib.hid n3
  have HN4 := Lib.hid n4
  obtain ⟨N, hN⟩ : ∃ N : Int, N = (n : Int) := ⟨_, rfl⟩
  have N1 : 1 ≤ N := by omega
  have N2 : N < 65536 := by omega
  have HNN := Lib.hid hN
  clear hY n3 n4 n2 n1 hN
  go_enter Try.func5, Try.ntmps5
  go_wp2_with (first
    | (go_at_call 9; refine (noiseAlive_any _).mono ?_; rintro e w1 ⟨rfl, rfl⟩)
    | (go_at_call 16; refine (move_at x wh Y h00 h1 HY _).mono ?_; rintro e w1 ⟨rfl, rfl⟩)
    | (go_at_call 17; rw [← HY.out]; refine (rmove_any x wh h00 h1 _).mono ?_; rw [HY.out]; rintro e w1 ⟨rfl, hb⟩; have HB := Lib.hid hb; clear hb)
    | (go_at_call 11; refine (period_any x wh h0 h1 n HF _).mono ?_; rw [← HNN.out]; rintro e w2 ⟨rfl, rfl⟩))
  go_loop [6, 7] (fun a i => ∃ k : Int, 1 ≤ k ∧ k ≤ N + 1 ∧ i = .int .i64 k ∧ a = .int .u16 (goOf x wh (k - 1).toNat)) (fun _ i => (N + 1 - intOf i).toNat)
  case atStart => exact ⟨1, by omega, by omega, rfl, rfl⟩
  case round =>
    obtain ⟨k, hk1, hk, rfl, rfl⟩ := hrel
    obtain ⟨j, hj⟩ : ∃ j, j = (k - 1).toNat := ⟨_, rfl⟩
    rw [← hj]
    have HJ := Lib.hid hj
    clear hj
    by_cases hlt : k ≤ N
    · have bd := goOf_bd x wh h00 h1 j
      have ht : (goOf x wh (j + 1) == x) = (k == N) := by
        have hj := HJ.out
        have hN := HNN.out
        by_cases he : j + 1 = n
        · have e1 : goOf x wh (j + 1) = x := by rw [he]; exact HN3.out
          have e2 : (k == N) = true := by rw [beq_iff_eq]; omega
          rw [e1, e2, beq_self_eq_true]
        · have e1 := HN4.out (j + 1) (by omega) (by omega)
          have e2 : (k == N) = false := by rw [beq_eq_false_iff_ne]; omega
          rw [e2, beq_eq_false_iff_ne]; exact e1
      obtain ⟨Z, hZ⟩ : ∃ Z, Z = goOf x wh (j + 1) := ⟨_, rfl⟩
      have HZ : Hid (moveOf (goOf x wh j) wh = Z) := hZ.symm
      have HZ2 : Hid (goOf x wh (k + 1 - 1).toNat = Z) := by
        show _ = _
        rw [hZ, show (k + 1 - 1).toNat = j + 1 by have := HJ.out; omega]
      rw [← hZ] at ht
      clear hZ
      obtain ⟨b, hb⟩ : ∃ b, b = (k == N) := ⟨_, rfl⟩
      rw [← hb] at ht
      have hb' := hb.symm
      clear hb
      cases b
      all_goals
        go_wp2_with (go_at_call 16; refine (move_at (goOf x wh j) wh Z bd.1 bd.2 HZ _).mono ?_; rintro e w' ⟨rfl, rfl⟩)
        go_round
        case rel => exact ⟨k + 1, by omega, by omega, rfl, by rw [HZ2.out]⟩
        case measure => simp [intOf]; omega
    · have he : goOf x wh j = x := by
        have hj := HJ.out
        have hN := HNN.out
        rw [show j = n by omega]; exact HN3.out
      rw [he]
      clear he
      go_wp2_with fail
      go_ret
      exact ⟨rfl, HB.out⟩

theorem moves_any (x : Int) (wh : Bool) (h0 : 0 ≤ x) (h1 : x < 65536) (w : World) :
    Calls Try.prog 5 #[.int .u16 x, .bool wh] w fun e w' => e = .returned (.bool true) ∧ Below w.heap.size w w' := by
  by_cases hx : x = 0
  · subst hx; exact moves_none wh w
  · exact moves_some x wh (by omega) h1 w

end Go.Proofs.Ytelncbajkbgepaa
