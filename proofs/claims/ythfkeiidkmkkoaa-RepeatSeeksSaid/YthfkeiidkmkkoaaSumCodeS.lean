/-
  Package sums' smallest functions, each by one contract.
-/
import Derived.Test.YthfkeiidkmkkoaaSumSpec
import Derived.Laws.BitsAll
namespace Go.Proofs.Ythfkeiidkmkkoaa
open Go.RowKit

theorem ret_pair {a b : Int} {v f : Nat} (h : a = (v : Int)) (h' : b = (f : Int)) : (Ending.returned (.tuple #[.int .u8 a, .int .u8 b]) : Ending) = .returned (.tuple #[.int .u8 (v : Int), .int .u8 (f : Int)]) := by rw [h, h']
theorem ret_byte {a : Int} {v : Nat} (h : a = (v : Int)) : (Ending.returned (.int .u8 a) : Ending) = .returned (.int .u8 (v : Int)) := by rw [h]
theorem ret_truth {a b : Bool} (h : a = b) : (Ending.returned (.bool a) : Ending) = .returned (.bool b) := by rw [h]
theorem and8i {a b : Nat} (h : a < 256) : ((a &&& b : Nat) : Int) < 256 := by have := and8 (b := b) h; omega
theorem and8i' {a b : Nat} (h : b < 256) : ((a &&& b : Nat) : Int) < 256 := by have := and8' (a := a) h; omega
theorem or8i {a b : Nat} (h : a < 256) (h' : b < 256) : ((a ||| b : Nat) : Int) < 256 := by have := or8 h h'; omega
theorem xor8i {a b : Nat} (h : a < 256) (h' : b < 256) : ((a ^^^ b : Nat) : Int) < 256 := by have := xor8 h h'; omega

/-- a table of bytes in a text -/
theorem idx_text {s : ByteArray} {r : Nat → Nat} (hr : allB 256 (fun v => Nat.beq (s.data.getD v 0).toNat (r v)) = true) (v : Nat) (h : v < 256) (h' : v < s.size) : (s[v]'h').toNat = r v := by
  have e := Nat.eq_of_beq_eq_true (allB_at hr v h)
  have hv : v < s.data.size := h'
  have e2 : (s[v]'h') = s.data.getD v 0 := by
    show s.data[v] = _
    rw [Array.getD_eq_getD_getElem?, Array.getElem?_eq_getElem hv]; rfl
  rw [e2, e]
theorem wrap64_small (n : Nat) (h : n ≤ 8) : wrap64 (n : Int) = n := by unfold wrap64; omega

set_option maxRecDepth 1000000 in
set_option maxHeartbeats 3200000 in
theorem ones_any (v : Nat) (h : v < 256) (w : World) : Calls Try.prog 27 #[.int .u8 (v : Int)] w fun e w' => e = .returned (.int .i64 ((nOnes 8 v : Nat) : Int)) ∧ w = w' := by
  obtain ⟨n, hn⟩ : ∃ n, n = nOnes 8 v := ⟨_, rfl⟩
  have l : n ≤ 8 := by
    rw [hn]
    simpa using allB_at (show allB 256 (fun v => Nat.ble (nOnes 8 v) 8) = true by decide +kernel) v h
  rw [← hn]
  have HN := Lib.hid hn.symm
  clear hn
  go_enter Try.func27, Try.ntmps27
  go_wp2
  go_ret
  refine ⟨congrArg (fun x => Ending.returned (Value.int .i64 x)) ?_, rfl⟩
  rw [← wrap64_small n l, ← HN.out]
  refine congrArg (fun x : Nat => wrap64 (x : Int)) ?_
  exact idx_text (by kernel_rfl) v h _

theorem ones_le (v : Nat) (h : v < 256) : nOnes 8 v ≤ 8 := by
  have := allB_at (show allB 256 (fun v => Nat.ble (nOnes 8 v) 8) = true by decide +kernel) v h
  simpa using this

theorem parity_any (v : Nat) (h : v < 256) (w : World) : Calls Try.prog 19 #[.int .u8 (v : Int)] w fun e w' => e = .returned (.bool (nPar v)) ∧ w = w' := by
  obtain ⟨n, hn⟩ : ∃ n, n = nOnes 8 v := ⟨_, rfl⟩
  have l : n ≤ 8 := hn ▸ ones_le v h
  have HN := Lib.hid hn
  have hp : nPar v = Nat.beq (Nat.mod n 2) 0 := by rw [hn]; rfl
  rw [hp]
  clear hp hn
  have hb : bits .and .i64 (n : Int) 1 = (n : Int) % 2 := by
    have : n = 0 ∨ n = 1 ∨ n = 2 ∨ n = 3 ∨ n = 4 ∨ n = 5 ∨ n = 6 ∨ n = 7 ∨ n = 8 := by omega
    rcases this with rfl | rfl | rfl | rfl | rfl | rfl | rfl | rfl | rfl <;> decide +kernel
  go_enter Try.func19, Try.ntmps19
  go_wp2_with (go_at_call 27; refine (ones_any v h _).mono ?_; rintro e w' ⟨rfl, rfl⟩; rw [← HN.out])
  go_ret
  refine ⟨ret_truth ?_, rfl⟩
  rw [Bool.eq_iff_iff, Nat.beq_eq]
  show _ ↔ n % 2 = 0
  simp
  omega

theorem parity_at (v : Nat) (p : Bool) (h : v < 256) (hp : Hid (nPar v = p)) (w : World) : Calls Try.prog 19 #[.int .u8 (v : Int)] w fun e w' => e = .returned (.bool p) ∧ w = w' := by
  rw [← hp.out]; exact parity_any v h w

theorem when_any (on : Bool) (n : Nat) (w : World) : Calls Try.prog 28 #[.bool on, .int .u8 (n : Int)] w fun e w' => e = .returned (.int .u8 ((cond on n 0 : Nat) : Int)) ∧ w = w' := by
  cases on
  all_goals
    go_enter Try.func28, Try.ntmps28
    go_wp2
    go_ret
    exact ⟨rfl, rfl⟩
theorem when_at (on : Bool) (n : Nat) (b : Bool) (r : Nat) (hb : on = b) (hr : Hid (cond b n 0 = r)) (w : World) : Calls Try.prog 28 #[.bool on, .int .u8 (n : Int)] w fun e w' => e = .returned (.int .u8 (r : Int)) ∧ w = w' := by
  rw [hb, ← hr.out]; exact when_any b n w

theorem shape_any (v : Nat) (h : v < 256) (w : World) : Calls Try.prog 20 #[.int .u8 (v : Int)] w fun e w' => e = .returned (.int .u8 ((nShape v : Nat) : Int)) ∧ w = w' := by
  have HS := Lib.hid (shape_bits v h)
  obtain ⟨r, hr⟩ : ∃ r, cond (Nat.beq v 0) 64 0 = r := ⟨_, rfl⟩
  rw [hr] at HS
  have HR := Lib.hid hr
  have r1 : r < 256 := by rw [← hr]; cases Nat.beq v 0 <;> decide
  clear hr
  go_enter Try.func20, Try.ntmps20
  go_wp2_with (go_at_call 28; refine (when_at _ 64 (Nat.beq v 0) r (by rw [Bool.eq_iff_iff, beq_iff_eq, Nat.beq_eq]; omega) HR _).mono ?_; rintro e w' ⟨rfl, rfl⟩)
  go_ret
  refine ⟨ret_byte ?_, rfl⟩
  rw [← HS.out]
  simp (disch := (focus repeat' (first | assumption | omega | exact Int.natCast_nonneg _ | with_reducible apply or8i | with_reducible apply xor8i | with_reducible apply or8 | with_reducible apply xor8 | ((with_reducible apply and8i'); omega) | ((with_reducible apply and8'); omega) | with_reducible apply and8i | with_reducible apply and8))) only [u8_and, u8_or, Int.reduceToNat, Int.toNat_natCast]
  rfl
theorem shape_at (v r : Nat) (h : v < 256) (hr : Hid (nShape v = r)) (w : World) : Calls Try.prog 20 #[.int .u8 (v : Int)] w fun e w' => e = .returned (.int .u8 (r : Int)) ∧ w = w' := by
  rw [← hr.out]; exact shape_any v h w

end Go.Proofs.Ythfkeiidkmkkoaa
