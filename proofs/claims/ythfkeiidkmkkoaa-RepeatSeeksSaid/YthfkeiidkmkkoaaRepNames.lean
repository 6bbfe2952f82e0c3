/-
  The law RepeatNames and repeatAlive return true, and write nothing.
-/
import Derived.Test.YthfkeiidkmkkoaaRepCode
namespace Go.Proofs.Ythfkeiidkmkkoaa
open Go.RowKit

theorem sk_one (w : World) : Calls Try.prog 9 #[.int .u8 5, .int .u8 5, .int .u8 0, .int .u16 1] w fun e w' => e = .returned (.tuple #[.int .u8 70, .bool false]) ∧ w = w' :=
  seek_at 5 5 0 1 70 true false (by omega) (by omega) (by omega) (Lib.hid (by simp)) (Lib.hid (by decide +kernel)) (Lib.hid (by decide +kernel)) _
theorem sk_two (w : World) : Calls Try.prog 9 #[.int .u8 0, .int .u8 1, .int .u8 1, .int .u16 0] w fun e w' => e = .returned (.tuple #[.int .u8 187, .bool false]) ∧ w = w' :=
  seek_at 0 1 1 0 187 false false (by omega) (by omega) (by omega) (Lib.hid (by simp)) (Lib.hid (by decide +kernel)) (Lib.hid (by decide +kernel)) _
theorem sk_three (w : World) : Calls Try.prog 9 #[.int .u8 1, .int .u8 2, .int .u8 0, .int .u16 9] w fun e w' => e = .returned (.tuple #[.int .u8 ((rSeekF 1 2 0 true : Nat) : Int), .bool true]) ∧ w = w' :=
  seek_at 1 2 0 9 _ true true (by omega) (by omega) (by omega) (Lib.hid (by simp)) (Lib.hid rfl) (Lib.hid (by decide +kernel)) _
theorem ld_one (w : World) : Calls Try.prog 12 #[.int .u8 2, .int .u8 0, .int .u8 0, .int .u16 0] w fun e w' => e = .returned (.int .u8 32) ∧ w = w' :=
  load_at 2 0 0 0 32 false (by omega) (Lib.hid (by simp)) (Lib.hid (by decide +kernel)) _
theorem ld_two (w : World) : Calls Try.prog 12 #[.int .u8 8, .int .u8 0, .int .u8 255, .int .u16 1] w fun e w' => e = .returned (.int .u8 205) ∧ w = w' :=
  load_at 8 0 255 1 205 true (by omega) (Lib.hid (by simp)) (Lib.hid (by decide +kernel)) _
theorem pt_one (w : World) : Calls Try.prog 11 #[.int .u8 128, .int .u8 128, .int .u8 0] w fun e w' => e = .returned (.int .u8 87) ∧ w = w' :=
  port_at 128 128 0 87 (by omega) (by omega) (by omega) (Lib.hid (by decide +kernel)) _

theorem repeatAlive_any (w : World) : Calls Try.prog 10 #[] w fun e w' => e = .returned (.bool true) ∧ w = w' := by
  go_enter Try.func10, Try.ntmps10
  go_wp2_with (first
    | (go_at_call 9; (with_reducible refine (sk_one _).mono ?_); rintro e w' ⟨rfl, rfl⟩)
    | (go_at_call 12; (with_reducible refine (ld_one _).mono ?_); rintro e w' ⟨rfl, rfl⟩))
  go_ret
  exact ⟨rfl, rfl⟩

theorem names_any (w : World) : Calls Try.prog 3 #[] w fun e w' => e = .returned (.bool true) ∧ Below w.heap.size w w' := by
  obtain ⟨k, hk⟩ : ∃ k, rSeekF 1 2 0 true = k := ⟨_, rfl⟩
  have S3 := sk_three
  rw [hk] at S3
  have S3 := Lib.hid S3
  clear hk
  go_enter Try.func3, Try.ntmps3
  go_wp2_with (first
    | (go_at_call 10; refine (repeatAlive_any _).mono ?_; rintro e w' ⟨rfl, rfl⟩)
    | (go_at_call 9; first | ((with_reducible refine (sk_two _).mono ?_); rintro e w' ⟨rfl, rfl⟩) | ((with_reducible refine (S3.out _).mono ?_); rintro e w' ⟨rfl, rfl⟩))
    | (go_at_call 11; (with_reducible refine (pt_one _).mono ?_); rintro e w' ⟨rfl, rfl⟩)
    | (go_at_call 12; (with_reducible refine (ld_two _).mono ?_); rintro e w' ⟨rfl, rfl⟩))
  go_ret
  exact ⟨rfl, Below.refl _ _⟩

theorem repeatAlive_bl (w : World) : Calls Try.prog 10 #[] w fun e w' => e = .returned (.bool true) ∧ Below w.heap.size w w' :=
  (repeatAlive_any w).mono fun _ _ ⟨he, h⟩ => ⟨he, by subst h; exact Below.refl _ _⟩
theorem load_bl (a v f left r : Nat) (p : Bool) (hf : f < 256) (hp : Hid ((p = true) ↔ left ≠ 0)) (hr : Hid (rLoad a v f p = r)) (w : World) :
    Calls Try.prog 12 #[.int .u8 (a : Int), .int .u8 (v : Int), .int .u8 (f : Int), .int .u16 (left : Int)] w fun e w' => e = .returned (.int .u8 (r : Int)) ∧ Below w.heap.size w w' :=
  (load_at a v f left r p hf hp hr w).mono fun _ _ ⟨he, h⟩ => ⟨he, by subst h; exact Below.refl _ _⟩
theorem port_bl (v m b r : Nat) (hv : v < 256) (hm : m < 256) (hb : b < 256) (hr : Hid (rPort v m b = r)) (w : World) :
    Calls Try.prog 11 #[.int .u8 (v : Int), .int .u8 (m : Int), .int .u8 (b : Int)] w fun e w' => e = .returned (.int .u8 (r : Int)) ∧ Below w.heap.size w w' :=
  (port_at v m b r hv hm hb hr w).mono fun _ _ ⟨he, h⟩ => ⟨he, by subst h; exact Below.refl _ _⟩

end Go.Proofs.Ythfkeiidkmkkoaa
