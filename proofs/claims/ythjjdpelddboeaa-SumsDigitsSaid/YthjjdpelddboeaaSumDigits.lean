/-
  The law SumsDigits returns true for any two numbers, and writes nothing.
-/
import Derived.Test.YthjjdpelddboeaaSumNames
import Derived.Test.YthjjdpelddboeaaSumCode4
import Derived.Test.YthjjdpelddboeaaSumChkE
namespace Go.Proofs.Ythjjdpelddboeaa
open Go.RowKit

set_option maxRecDepth 100000 in
set_option maxHeartbeats 3200000 in
theorem up_walk (a b : Nat) (ha : a < 100) (hb : b < 100) (w : World) :
    Calls Try.prog 8 #[.int .i64 (a : Int), .int .i64 (b : Int), .bool false] w fun e w' => e = .returned (.bool true) ∧ Below w.heap.size w w' := by
  obtain ⟨x, hx⟩ : ∃ x, nDig a = x := ⟨_, rfl⟩
  obtain ⟨y, hy⟩ : ∃ y, nDig b = y := ⟨_, rfl⟩
  have x1 : x < 256 := by rw [← hx]; show a / 10 * 16 + a % 10 < 256; omega
  have y1 : y < 256 := by rw [← hy]; show b / 10 * 16 + b % 10 < 256; omega
  have ex : (a : Int) / 10 * 16 + (a : Int) % 10 = (x : Int) := by (have h : a / 10 * 16 + a % 10 = x := hx); omega
  have ey : (b : Int) / 10 * 16 + (b : Int) % 10 = (y : Int) := by (have h : b / 10 * 16 + b % 10 = y := hy); omega
  obtain ⟨v, hv⟩ : ∃ v, Hid (nAddV x y (Bool.toNat false) = v) := ⟨_, rfl⟩
  obtain ⟨f, hf⟩ : ∃ f, Hid (nAddF x y (Bool.toNat false) = f) := ⟨_, rfl⟩
  obtain ⟨v', hv'⟩ : ∃ v, Hid (nSubV x y (Bool.toNat false) = v) := ⟨_, rfl⟩
  obtain ⟨f', hf'⟩ : ∃ f, Hid (nSubF x y (Bool.toNat false) = f) := ⟨_, rfl⟩
  obtain ⟨d, hd⟩ : ∃ d, nDig ((a + b) % 100) = d := ⟨_, rfl⟩
  obtain ⟨n, hn⟩ : ∃ n, (a + b) % 100 = n := ⟨_, rfl⟩
  obtain ⟨on, ho⟩ : ∃ on, Nat.ble 100 (a + b) = on := ⟨_, rfl⟩
  have hm := up_at a b x y v f d on ha hb hx hy hv.out hf.out hd ho
  have f1 : f < 256 := by rw [← hf.out]; exact nAddF_lt _ _ _
  have v1 : v < 256 := by rw [← hv.out]; exact nAddV_lt _ _ _
  obtain ⟨g, hg⟩ : ∃ g, Hid (nDaaF v f = g) := ⟨_, rfl⟩
  have g1 : g < 256 := by rw [← hg.out]; exact nDaaF_lt _ _
  rw [hg.out] at hm
  have hw : Hid (nDaaV v f = d) := hm.1
  have en : ((a : Int) + (b : Int)).tmod 100 = (n : Int) := by rw [Int.tmod_eq_emod_of_nonneg (by omega)]; omega
  have n1 : (n : Int) < 100 := by omega
  rw [hn] at hd
  have ed : (n : Int) / 10 * 16 + (n : Int) % 10 = (d : Int) := by (have h : n / 10 * 16 + n % 10 = d := hd); omega
  have d1 : (d : Int) < 256 := by omega
  have a1 : (a : Int) < 100 := by omega
  have b1 : (b : Int) < 100 := by omega
  have ta : (a : Int).tdiv 10 = (a : Int) / 10 := Int.tdiv_eq_ediv_of_nonneg (by omega)
  have tb : (b : Int).tdiv 10 = (b : Int) / 10 := Int.tdiv_eq_ediv_of_nonneg (by omega)
  have tn : (n : Int).tdiv 10 = (n : Int) / 10 := Int.tdiv_eq_ediv_of_nonneg (by omega)
  have sa : (a : Int).tmod 10 = (a : Int) % 10 := Int.tmod_eq_emod_of_nonneg (by omega)
  have sb : (b : Int).tmod 10 = (b : Int) % 10 := Int.tmod_eq_emod_of_nonneg (by omega)
  have sn : (n : Int).tmod 10 = (n : Int) % 10 := Int.tmod_eq_emod_of_nonneg (by omega)
  have hb8 : bits .and .u8 (g : Int) 1 = ((g &&& 1 : Nat) : Int) := by rw [u8_and _ _ (by omega) (by omega) (by omega) (by omega), Int.toNat_natCast]; rfl
  rw [hm.2] at hb8
  by_cases hc : (99 : Int) < (a : Int) + (b : Int)
  case' pos =>
    have e : on = true := by rw [← ho, Nat.ble_eq]; omega
  case' neg =>
    have e : on = false := by rw [← ho, ← Bool.not_eq_true, Nat.ble_eq]; omega
  all_goals
    subst e
    simp only [cond_true, cond_false, Int.natCast_zero, Int.natCast_one] at hb8
    clear hm ho hd hn hx hy ha hb
    go_enter Try.func8, Try.ntmps8
    go_wp2_with (first
      | (go_at_call 13; refine (sumsAlive_any _).mono ?_; rintro e w' ⟨rfl, rfl⟩)
      | (go_at_call 16; (with_reducible refine (add_at x y false v f x1 y1 hv hf _).mono ?_); rintro e w' ⟨rfl, rfl⟩)
      | (go_at_call 11; (with_reducible refine (sub_at x y false v' f' x1 y1 hv' hf' _).mono ?_); rintro e w' ⟨rfl, rfl⟩)
      | (go_at_call 33; refine (daa_at v f d g v1 f1 hw hg _).mono ?_; rintro e w' ⟨rfl, rfl⟩))
    go_ret
    first | exact ⟨rfl, Below.refl _ _⟩ | exact ⟨ret_truth (by simp; omega), Below.refl _ _⟩

set_option maxRecDepth 100000 in
set_option maxHeartbeats 3200000 in
theorem down_walk (a b : Nat) (ha : a < 100) (hb : b < 100) (w : World) :
    Calls Try.prog 8 #[.int .i64 (a : Int), .int .i64 (b : Int), .bool true] w fun e w' => e = .returned (.bool true) ∧ Below w.heap.size w w' := by
  obtain ⟨x, hx⟩ : ∃ x, nDig a = x := ⟨_, rfl⟩
  obtain ⟨y, hy⟩ : ∃ y, nDig b = y := ⟨_, rfl⟩
  have x1 : x < 256 := by rw [← hx]; show a / 10 * 16 + a % 10 < 256; omega
  have y1 : y < 256 := by rw [← hy]; show b / 10 * 16 + b % 10 < 256; omega
  have ex : (a : Int) / 10 * 16 + (a : Int) % 10 = (x : Int) := by (have h : a / 10 * 16 + a % 10 = x := hx); omega
  have ey : (b : Int) / 10 * 16 + (b : Int) % 10 = (y : Int) := by (have h : b / 10 * 16 + b % 10 = y := hy); omega
  obtain ⟨v, hv⟩ : ∃ v, Hid (nAddV x y (Bool.toNat false) = v) := ⟨_, rfl⟩
  obtain ⟨f, hf⟩ : ∃ f, Hid (nAddF x y (Bool.toNat false) = f) := ⟨_, rfl⟩
  obtain ⟨v', hv'⟩ : ∃ v, Hid (nSubV x y (Bool.toNat false) = v) := ⟨_, rfl⟩
  obtain ⟨f', hf'⟩ : ∃ f, Hid (nSubF x y (Bool.toNat false) = f) := ⟨_, rfl⟩
  obtain ⟨d, hd⟩ : ∃ d, nDig ((a + 100 - b) % 100) = d := ⟨_, rfl⟩
  obtain ⟨n, hn⟩ : ∃ n, (a + 100 - b) % 100 = n := ⟨_, rfl⟩
  obtain ⟨on, ho⟩ : ∃ on, Nat.ble (a + 1) b = on := ⟨_, rfl⟩
  have hm := down_at a b x y v' f' d on ha hb hx hy hv'.out hf'.out hd ho
  have f1 : f' < 256 := by rw [← hf'.out]; exact nSubF_lt _ _ _
  have v1 : v' < 256 := by rw [← hv'.out]; exact nSubV_lt _ _ _
  obtain ⟨g, hg⟩ : ∃ g, Hid (nDaaF v' f' = g) := ⟨_, rfl⟩
  have g1 : g < 256 := by rw [← hg.out]; exact nDaaF_lt _ _
  rw [hg.out] at hm
  have hw : Hid (nDaaV v' f' = d) := hm.1
  have en : ((a : Int) - (b : Int) + 100).tmod 100 = (n : Int) := by rw [Int.tmod_eq_emod_of_nonneg (by omega)]; omega
  have n1 : (n : Int) < 100 := by omega
  rw [hn] at hd
  have ed : (n : Int) / 10 * 16 + (n : Int) % 10 = (d : Int) := by (have h : n / 10 * 16 + n % 10 = d := hd); omega
  have d1 : (d : Int) < 256 := by omega
  have a1 : (a : Int) < 100 := by omega
  have b1 : (b : Int) < 100 := by omega
  have ta : (a : Int).tdiv 10 = (a : Int) / 10 := Int.tdiv_eq_ediv_of_nonneg (by omega)
  have tb : (b : Int).tdiv 10 = (b : Int) / 10 := Int.tdiv_eq_ediv_of_nonneg (by omega)
  have tn : (n : Int).tdiv 10 = (n : Int) / 10 := Int.tdiv_eq_ediv_of_nonneg (by omega)
  have sa : (a : Int).tmod 10 = (a : Int) % 10 := Int.tmod_eq_emod_of_nonneg (by omega)
  have sb : (b : Int).tmod 10 = (b : Int) % 10 := Int.tmod_eq_emod_of_nonneg (by omega)
  have sn : (n : Int).tmod 10 = (n : Int) % 10 := Int.tmod_eq_emod_of_nonneg (by omega)
  have hb8 : bits .and .u8 (g : Int) 1 = ((g &&& 1 : Nat) : Int) := by rw [u8_and _ _ (by omega) (by omega) (by omega) (by omega), Int.toNat_natCast]; rfl
  rw [hm.2] at hb8
  by_cases hc : (a : Int) < (b : Int)
  case' pos =>
    have e : on = true := by rw [← ho, Nat.ble_eq]; omega
  case' neg =>
    have e : on = false := by rw [← ho, ← Bool.not_eq_true, Nat.ble_eq]; omega
  all_goals
    subst e
    simp only [cond_true, cond_false, Int.natCast_zero, Int.natCast_one] at hb8
    clear hm ho hd hn hx hy ha hb
    go_enter Try.func8, Try.ntmps8
    go_wp2_with (first
      | (go_at_call 13; refine (sumsAlive_any _).mono ?_; rintro e w' ⟨rfl, rfl⟩)
      | (go_at_call 16; (with_reducible refine (add_at x y false v f x1 y1 hv hf _).mono ?_); rintro e w' ⟨rfl, rfl⟩)
      | (go_at_call 11; (with_reducible refine (sub_at x y false v' f' x1 y1 hv' hf' _).mono ?_); rintro e w' ⟨rfl, rfl⟩)
      | (go_at_call 33; refine (daa_at v' f' d g v1 f1 hw hg _).mono ?_; rintro e w' ⟨rfl, rfl⟩))
    go_ret
    first | exact ⟨rfl, Below.refl _ _⟩ | exact ⟨ret_truth (by simp; omega), Below.refl _ _⟩

theorem digits_any (a b : Int) (less : Bool) (w : World) :
    Calls Try.prog 8 #[.int .i64 a, .int .i64 b, .bool less] w fun e w' => e = .returned (.bool true) ∧ Below w.heap.size w w' := by
  have hc : a < 0 ∨ 99 < a ∨ (0 ≤ a ∧ a ≤ 99 ∧ b < 0) ∨ (0 ≤ a ∧ a ≤ 99 ∧ 99 < b) ∨ (0 ≤ a ∧ a ≤ 99 ∧ 0 ≤ b ∧ b ≤ 99) := by omega
  rcases hc with h | h | ⟨h, h', h2⟩ | ⟨h, h', h2⟩ | ⟨h, h', h2, h3⟩
  case inr.inr.inr.inr =>
    obtain ⟨A, rfl⟩ := Int.eq_ofNat_of_zero_le h
    obtain ⟨B, rfl⟩ := Int.eq_ofNat_of_zero_le h2
    cases less
    · exact up_walk A B (by omega) (by omega) w
    · exact down_walk A B (by omega) (by omega) w
  all_goals
    go_enter Try.func8, Try.ntmps8
    go_wp2_with (go_at_call 13; refine (sumsAlive_any _).mono ?_; rintro e w' ⟨rfl, rfl⟩)
    go_ret
    exact ⟨rfl, Below.refl _ _⟩

end Go.Proofs.Ythjjdpelddboeaa
