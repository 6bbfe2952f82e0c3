/-
  The document's Modulo and At.
-/
import Derived.Test.YtcefgcoibppdaaaVram
namespace Go.Proofs.Ytcefgcoibppdaaa
open Go.RowKit

theorem tmod_way (n b m : Int) (hb : 0 < b) (h : n % b = m) : (n.tmod b < 0 ∧ n.tmod b + b = m) ∨ (n.tmod b = m ∧ 0 ≤ m) := by
  have m0 : 0 ≤ m := by rw [← h]; exact Int.emod_nonneg _ (by omega)
  have m1 : m < b := by rw [← h]; exact Int.emod_lt_of_pos _ hb
  have e : n.tmod b = n % b - ((if 0 ≤ n ∨ b ∣ n then 0 else b.natAbs : Nat) : Int) := Int.tmod_eq_emod
  rw [h] at e
  split at e
  · right; exact ⟨by omega, m0⟩
  · left; omega

theorem rmod_at (n b m : Int) (hb : 0 < b) (hb2 : b ≤ 59736) (h : Hid (n % b = m)) (w : World) :
    Calls Try.prog 27 #[.int .i64 n, .int .i64 b] w fun e w' => e = .returned (.int .i64 m) ∧ w = w' := by
  have e := h.out
  have m0 : 0 ≤ m := by rw [← e]; exact Int.emod_nonneg _ (by omega)
  have m1 : m < b := by rw [← e]; exact Int.emod_lt_of_pos _ hb
  have hb0 : ¬ b = 0 := by omega
  rcases tmod_way n b m hb e with hq | hq
  · obtain ⟨q, hq1⟩ : ∃ q, n.tmod b = q := ⟨_, rfl⟩
    have q1 : q < 0 := by omega
    have q2 : q + b = m := by omega
    have q3 : -59736 ≤ q := by omega
    clear h e hq
    go_enter Try.func27, Try.ntmps27
    go_wp2
    go_ret
    exact ⟨rfl, rfl⟩
  · obtain ⟨hq1, hq2⟩ := hq
    clear h e
    go_enter Try.func27, Try.ntmps27
    go_wp2
    go_ret
    exact ⟨rfl, rfl⟩

set_option maxRecDepth 100000 in
theorem rat_at (a : Option Addr) (n cap : Nat) (xs : Nat → Nat) (p : Int) (k v : Nat) (hk : Hid (p % 16384 = (k : Int))) (hv : Hid (vget n xs k = v)) (w : World) (hV : ByteRow w a n xs) :
    Calls Try.prog 21 #[.slice a n cap, .int .i64 p] w fun e w' => e = .returned (.int .u8 (v : Int)) ∧ w = w' := by
  have h := hv.out
  have HK := hk
  have k1 : (k : Int) < 16384 := by have := hk.out; omega
  unfold vget at h
  by_cases hlt : k < n
  · rw [if_pos hlt] at h
    obtain ⟨g, o, rfl, hg, hc⟩ := hV (by omega)
    have hc' := (hc k hlt).1
    rw [h] at hc'
    have hlt' : (k : Int) < (n : Int) := by omega
    clear h hc hk hv hV hlt
    go_enter Try.func21, Try.ntmps21
    go_wp2_with (first | (go_at_call 27; (with_reducible refine (rmod_at p 16384 k (by decide) (by decide) HK _).mono ?_); rintro e w' ⟨rfl, rfl⟩))
    go_ret
    exact ⟨rfl, rfl⟩
  · rw [if_neg hlt] at h
    have hge : (n : Int) ≤ (k : Int) := by omega
    subst h
    clear hk hv hV hlt
    go_enter Try.func21, Try.ntmps21
    go_wp2_with (first | (go_at_call 27; (with_reducible refine (rmod_at p 16384 k (by decide) (by decide) HK _).mono ?_); rintro e w' ⟨rfl, rfl⟩))
    go_ret
    exact ⟨rfl, rfl⟩

end Go.Proofs.Ytcefgcoibppdaaa
