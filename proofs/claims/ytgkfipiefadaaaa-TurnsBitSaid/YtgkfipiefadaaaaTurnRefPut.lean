/-
  The document's Put, by one contract.
-/
import Derived.Test.YtgkfipiefadaaaaTurnRefMore
namespace Go.Proofs.Ytgkfipiefadaaaa
open Go.RowKit

theorem put_step (k j v : Nat) (on : Bool) (r m : Nat) (hk : k < 8) (hj : j < 8) (hv : v < 256) (hr : tPut k v on = r) (hm : r / 2 ^ (j + 1) = m) :
    (j = k → r / 2 ^ j = 2 * m + on.toNat) ∧ (j ≠ k → r / 2 ^ j = 2 * m + v / 2 ^ j % 2) := by
  have h := put_round k j v on hk hj hv
  rw [hr] at h
  have e : r / 2 ^ (j + 1) = r / 2 ^ j / 2 := by rw [Nat.pow_succ, Nat.div_div_eq_div_mul]
  rw [e] at hm
  refine ⟨fun hjk => ?_, fun hjk => ?_⟩
  · rw [show Nat.beq j k = true from by rw [Nat.beq_eq]; exact hjk] at h
    have h' : r / 2 ^ j % 2 = on.toNat := h
    omega
  · rw [show Nat.beq j k = false from by rw [← Bool.not_eq_true, Nat.beq_eq]; exact hjk] at h
    have h' : r / 2 ^ j % 2 = v / 2 ^ j % 2 := h
    omega
theorem rel_byte {a : Int} {v : Nat} (h : a = (v : Int)) : (Value.int .u8 a) = .int .u8 (v : Int) := by rw [h]

set_option maxHeartbeats 3200000 in
theorem rput_at (n : Int) (k v r : Nat) (on : Bool) (hk : n % 8 = (k : Int)) (hv : v < 256) (hr : Hid (tPut k v on = r)) (w : World) :
    Calls Try.prog 18 #[.int .i64 n, .int .u8 (v : Int), .bool on] w fun e w' => e = .returned (.int .u8 (r : Int)) ∧ w = w' := by
  have k1 : k < 8 := by omega
  have r1 : r < 256 := by rw [← hr.out]; exact tPut_lt k v on k1 hv
  have HK := Lib.hid hk
  have HK1 := Lib.hid k1
  have HR1 := Lib.hid r1
  clear hk k1 r1
  go_enter Try.func18, Try.ntmps18
  go_wp2
  go_loopw [7, 8] (fun o i wr => ∃ j m : Nat, j ≤ 8 ∧ i = .int .i64 ((j : Int) - 1) ∧ o = .int .u8 m ∧ Hid (r / 2 ^ j = m) ∧ w = wr) (fun _ i _ => (intOf i + 1).toNat)
  case atStart => exact ⟨8, 0, by omega, rfl, rfl, by have := HR1.out; show r / 256 = 0; omega, rfl⟩
  case round =>
    obtain ⟨j, m, hj, rfl, rfl, HB, rfl⟩ := hrel
    have hm : (m : Int) < 256 := by
      have h1 := HB.out
      have h2 := HR1.out
      have h3 : r / 2 ^ j ≤ r := Nat.div_le_self _ _
      omega
    have hj9 : j = 0 ∨ j = 1 ∨ j = 2 ∨ j = 3 ∨ j = 4 ∨ j = 5 ∨ j = 6 ∨ j = 7 ∨ j = 8 := by omega
    clear hj
    rcases hj9 with rfl | rfl | rfl | rfl | rfl | rfl | rfl | rfl | rfl
    · have e : m = r := by rw [← HB.out, Nat.pow_zero, Nat.div_one]
      subst e
      go_wp2
      go_ret
      exact ⟨rfl, rfl⟩
    · obtain ⟨m', HB2⟩ : ∃ m' : Nat, Hid (r / 2 ^ 0 = m') := ⟨_, Lib.hid rfl⟩
      have hs := put_step k 0 v on r m HK1.out (by omega) hv hr.out HB.out
      rw [HB2.out] at hs
      have hm2 : (m' : Int) < 256 := by
        have h1 := HB2.out
        have h2 := HR1.out
        have h3 : r / 2 ^ 0 ≤ r := Nat.div_le_self _ _
        omega
      obtain ⟨t, ht⟩ : ∃ t : Nat, v / 2 ^ 0 % 2 = t := ⟨_, rfl⟩
      by_cases hjk : (0 : Nat) = k
      · have hs1 := hs.1 hjk
        clear hs ht
        subst hjk
        cases on
        all_goals
          simp only [Bool.toNat_true, Bool.toNat_false] at hs1
          have hs2 := congrArg (fun n : Nat => (n : Int)) hs1
          clear hs1
          go_wp2_with (go_at_call 25; refine (low8_at n 0 HK.out _).mono ?_; rintro e w' ⟨rfl, rfl⟩)
          go_roundw
          case rel => exact ⟨0, m', by omega, by go_num, rel_byte (by simp at hs2; omega), HB2, trivial⟩
          case measure => simp [intOf]
      · have hs1 := hs.2 hjk
        rw [ht] at hs1
        have hd : ((0 : Int) == (k : Int)) = false := by rw [← Bool.not_eq_true, beq_iff_eq]; omega
        have hd2 : ¬ (0 : Int) = (k : Int) := by omega
        have hq : (v : Int) % 2 = (t : Int) := by omega
        have ht1 : (t : Int) ≤ 1 := by omega
        have hs2 : 2 * (m : Int) + (t : Int) = (m' : Int) := by omega
        clear hs ht hjk hs1
        go_wp2_with (go_at_call 25; refine (low8_at n k HK.out _).mono ?_; rintro e w' ⟨rfl, rfl⟩)
        go_roundw
        case rel => exact ⟨0, m', by omega, by go_num, rel_byte rfl, HB2, trivial⟩
        case measure => simp [intOf]
    · obtain ⟨m', HB2⟩ : ∃ m' : Nat, Hid (r / 2 ^ 1 = m') := ⟨_, Lib.hid rfl⟩
      have hs := put_step k 1 v on r m HK1.out (by omega) hv hr.out HB.out
      rw [HB2.out] at hs
      have hm2 : (m' : Int) < 256 := by
        have h1 := HB2.out
        have h2 := HR1.out
        have h3 : r / 2 ^ 1 ≤ r := Nat.div_le_self _ _
        omega
      obtain ⟨t, ht⟩ : ∃ t : Nat, v / 2 ^ 1 % 2 = t := ⟨_, rfl⟩
      by_cases hjk : (1 : Nat) = k
      · have hs1 := hs.1 hjk
        clear hs ht
        subst hjk
        cases on
        all_goals
          simp only [Bool.toNat_true, Bool.toNat_false] at hs1
          have hs2 := congrArg (fun n : Nat => (n : Int)) hs1
          clear hs1
          go_wp2_with (go_at_call 25; refine (low8_at n 1 HK.out _).mono ?_; rintro e w' ⟨rfl, rfl⟩)
          go_roundw
          case rel => exact ⟨1, m', by omega, by go_num, rel_byte (by simp at hs2; omega), HB2, trivial⟩
          case measure => simp [intOf]
      · have hs1 := hs.2 hjk
        rw [ht] at hs1
        have hd : ((1 : Int) == (k : Int)) = false := by rw [← Bool.not_eq_true, beq_iff_eq]; omega
        have hd2 : ¬ (1 : Int) = (k : Int) := by omega
        have hq : (v : Int) / 2 % 2 = (t : Int) := by omega
        have ht1 : (t : Int) ≤ 1 := by omega
        have hs2 : 2 * (m : Int) + (t : Int) = (m' : Int) := by omega
        clear hs ht hjk hs1
        go_wp2_with (go_at_call 25; refine (low8_at n k HK.out _).mono ?_; rintro e w' ⟨rfl, rfl⟩)
        go_roundw
        case rel => exact ⟨1, m', by omega, by go_num, rel_byte rfl, HB2, trivial⟩
        case measure => simp [intOf]
    · obtain ⟨m', HB2⟩ : ∃ m' : Nat, Hid (r / 2 ^ 2 = m') := ⟨_, Lib.hid rfl⟩
      have hs := put_step k 2 v on r m HK1.out (by omega) hv hr.out HB.out
      rw [HB2.out] at hs
      have hm2 : (m' : Int) < 256 := by
        have h1 := HB2.out
        have h2 := HR1.out
        have h3 : r / 2 ^ 2 ≤ r := Nat.div_le_self _ _
        omega
      obtain ⟨t, ht⟩ : ∃ t : Nat, v / 2 ^ 2 % 2 = t := ⟨_, rfl⟩
      by_cases hjk : (2 : Nat) = k
      · have hs1 := hs.1 hjk
        clear hs ht
        subst hjk
        cases on
        all_goals
          simp only [Bool.toNat_true, Bool.toNat_false] at hs1
          have hs2 := congrArg (fun n : Nat => (n : Int)) hs1
          clear hs1
          go_wp2_with (go_at_call 25; refine (low8_at n 2 HK.out _).mono ?_; rintro e w' ⟨rfl, rfl⟩)
          go_roundw
          case rel => exact ⟨2, m', by omega, by go_num, rel_byte (by simp at hs2; omega), HB2, trivial⟩
          case measure => simp [intOf]
      · have hs1 := hs.2 hjk
        rw [ht] at hs1
        have hd : ((2 : Int) == (k : Int)) = false := by rw [← Bool.not_eq_true, beq_iff_eq]; omega
        have hd2 : ¬ (2 : Int) = (k : Int) := by omega
        have hq : (v : Int) / 4 % 2 = (t : Int) := by omega
        have ht1 : (t : Int) ≤ 1 := by omega
        have hs2 : 2 * (m : Int) + (t : Int) = (m' : Int) := by omega
        clear hs ht hjk hs1
        go_wp2_with (go_at_call 25; refine (low8_at n k HK.out _).mono ?_; rintro e w' ⟨rfl, rfl⟩)
        go_roundw
        case rel => exact ⟨2, m', by omega, by go_num, rel_byte rfl, HB2, trivial⟩
        case measure => simp [intOf]
    · obtain ⟨m', HB2⟩ : ∃ m' : Nat, Hid (r / 2 ^ 3 = m') := ⟨_, Lib.hid rfl⟩
      have hs := put_step k 3 v on r m HK1.out (by omega) hv hr.out HB.out
      rw [HB2.out] at hs
      have hm2 : (m' : Int) < 256 := by
        have h1 := HB2.out
        have h2 := HR1.out
        have h3 : r / 2 ^ 3 ≤ r := Nat.div_le_self _ _
        omega
      obtain ⟨t, ht⟩ : ∃ t : Nat, v / 2 ^ 3 % 2 = t := ⟨_, rfl⟩
      by_cases hjk : (3 : Nat) = k
      · have hs1 := hs.1 hjk
        clear hs ht
        subst hjk
        cases on
        all_goals
          simp only [Bool.toNat_true, Bool.toNat_false] at hs1
          have hs2 := congrArg (fun n : Nat => (n : Int)) hs1
          clear hs1
          go_wp2_with (go_at_call 25; refine (low8_at n 3 HK.out _).mono ?_; rintro e w' ⟨rfl, rfl⟩)
          go_roundw
          case rel => exact ⟨3, m', by omega, by go_num, rel_byte (by simp at hs2; omega), HB2, trivial⟩
          case measure => simp [intOf]
      · have hs1 := hs.2 hjk
        rw [ht] at hs1
        have hd : ((3 : Int) == (k : Int)) = false := by rw [← Bool.not_eq_true, beq_iff_eq]; omega
        have hd2 : ¬ (3 : Int) = (k : Int) := by omega
        have hq : (v : Int) / 8 % 2 = (t : Int) := by omega
        have ht1 : (t : Int) ≤ 1 := by omega
        have hs2 : 2 * (m : Int) + (t : Int) = (m' : Int) := by omega
        clear hs ht hjk hs1
        go_wp2_with (go_at_call 25; refine (low8_at n k HK.out _).mono ?_; rintro e w' ⟨rfl, rfl⟩)
        go_roundw
        case rel => exact ⟨3, m', by omega, by go_num, rel_byte rfl, HB2, trivial⟩
        case measure => simp [intOf]
    · obtain ⟨m', HB2⟩ : ∃ m' : Nat, Hid (r / 2 ^ 4 = m') := ⟨_, Lib.hid rfl⟩
      have hs := put_step k 4 v on r m HK1.out (by omega) hv hr.out HB.out
      rw [HB2.out] at hs
      have hm2 : (m' : Int) < 256 := by
        have h1 := HB2.out
        have h2 := HR1.out
        have h3 : r / 2 ^ 4 ≤ r := Nat.div_le_self _ _
        omega
      obtain ⟨t, ht⟩ : ∃ t : Nat, v / 2 ^ 4 % 2 = t := ⟨_, rfl⟩
      by_cases hjk : (4 : Nat) = k
      · have hs1 := hs.1 hjk
        clear hs ht
        subst hjk
        cases on
        all_goals
          simp only [Bool.toNat_true, Bool.toNat_false] at hs1
          have hs2 := congrArg (fun n : Nat => (n : Int)) hs1
          clear hs1
          go_wp2_with (go_at_call 25; refine (low8_at n 4 HK.out _).mono ?_; rintro e w' ⟨rfl, rfl⟩)
          go_roundw
          case rel => exact ⟨4, m', by omega, by go_num, rel_byte (by simp at hs2; omega), HB2, trivial⟩
          case measure => simp [intOf]
      · have hs1 := hs.2 hjk
        rw [ht] at hs1
        have hd : ((4 : Int) == (k : Int)) = false := by rw [← Bool.not_eq_true, beq_iff_eq]; omega
        have hd2 : ¬ (4 : Int) = (k : Int) := by omega
        have hq : (v : Int) / 16 % 2 = (t : Int) := by omega
        have ht1 : (t : Int) ≤ 1 := by omega
        have hs2 : 2 * (m : Int) + (t : Int) = (m' : Int) := by omega
        clear hs ht hjk hs1
        go_wp2_with (go_at_call 25; refine (low8_at n k HK.out _).mono ?_; rintro e w' ⟨rfl, rfl⟩)
        go_roundw
        case rel => exact ⟨4, m', by omega, by go_num, rel_byte rfl, HB2, trivial⟩
        case measure => simp [intOf]
    · obtain ⟨m', HB2⟩ : ∃ m' : Nat, Hid (r / 2 ^ 5 = m') := ⟨_, Lib.hid rfl⟩
      have hs := put_step k 5 v on r m HK1.out (by omega) hv hr.out HB.out
      rw [HB2.out] at hs
      have hm2 : (m' : Int) < 256 := by
        have h1 := HB2.out
        have h2 := HR1.out
        have h3 : r / 2 ^ 5 ≤ r := Nat.div_le_self _ _
        omega
      obtain ⟨t, ht⟩ : ∃ t : Nat, v / 2 ^ 5 % 2 = t := ⟨_, rfl⟩
      by_cases hjk : (5 : Nat) = k
      · have hs1 := hs.1 hjk
        clear hs ht
        subst hjk
        cases on
        all_goals
          simp only [Bool.toNat_true, Bool.toNat_false] at hs1
          have hs2 := congrArg (fun n : Nat => (n : Int)) hs1
          clear hs1
          go_wp2_with (go_at_call 25; refine (low8_at n 5 HK.out _).mono ?_; rintro e w' ⟨rfl, rfl⟩)
          go_roundw
          case rel => exact ⟨5, m', by omega, by go_num, rel_byte (by simp at hs2; omega), HB2, trivial⟩
          case measure => simp [intOf]
      · have hs1 := hs.2 hjk
        rw [ht] at hs1
        have hd : ((5 : Int) == (k : Int)) = false := by rw [← Bool.not_eq_true, beq_iff_eq]; omega
        have hd2 : ¬ (5 : Int) = (k : Int) := by omega
        have hq : (v : Int) / 32 % 2 = (t : Int) := by omega
        have ht1 : (t : Int) ≤ 1 := by omega
        have hs2 : 2 * (m : Int) + (t : Int) = (m' : Int) := by omega
        clear hs ht hjk hs1
        go_wp2_with (go_at_call 25; refine (low8_at n k HK.out _).mono ?_; rintro e w' ⟨rfl, rfl⟩)
        go_roundw
        case rel => exact ⟨5, m', by omega, by go_num, rel_byte rfl, HB2, trivial⟩
        case measure => simp [intOf]
    · obtain ⟨m', HB2⟩ : ∃ m' : Nat, Hid (r / 2 ^ 6 = m') := ⟨_, Lib.hid rfl⟩
      have hs := put_step k 6 v on r m HK1.out (by omega) hv hr.out HB.out
      rw [HB2.out] at hs
      have hm2 : (m' : Int) < 256 := by
        have h1 := HB2.out
        have h2 := HR1.out
        have h3 : r / 2 ^ 6 ≤ r := Nat.div_le_self _ _
        omega
      obtain ⟨t, ht⟩ : ∃ t : Nat, v / 2 ^ 6 % 2 = t := ⟨_, rfl⟩
      by_cases hjk : (6 : Nat) = k
      · have hs1 := hs.1 hjk
        clear hs ht
        subst hjk
        cases on
        all_goals
          simp only [Bool.toNat_true, Bool.toNat_false] at hs1
          have hs2 := congrArg (fun n : Nat => (n : Int)) hs1
          clear hs1
          go_wp2_with (go_at_call 25; refine (low8_at n 6 HK.out _).mono ?_; rintro e w' ⟨rfl, rfl⟩)
          go_roundw
          case rel => exact ⟨6, m', by omega, by go_num, rel_byte (by simp at hs2; omega), HB2, trivial⟩
          case measure => simp [intOf]
      · have hs1 := hs.2 hjk
        rw [ht] at hs1
        have hd : ((6 : Int) == (k : Int)) = false := by rw [← Bool.not_eq_true, beq_iff_eq]; omega
        have hd2 : ¬ (6 : Int) = (k : Int) := by omega
        have hq : (v : Int) / 64 % 2 = (t : Int) := by omega
        have ht1 : (t : Int) ≤ 1 := by omega
        have hs2 : 2 * (m : Int) + (t : Int) = (m' : Int) := by omega
        clear hs ht hjk hs1
        go_wp2_with (go_at_call 25; refine (low8_at n k HK.out _).mono ?_; rintro e w' ⟨rfl, rfl⟩)
        go_roundw
        case rel => exact ⟨6, m', by omega, by go_num, rel_byte rfl, HB2, trivial⟩
        case measure => simp [intOf]
    · obtain ⟨m', HB2⟩ : ∃ m' : Nat, Hid (r / 2 ^ 7 = m') := ⟨_, Lib.hid rfl⟩
      have hs := put_step k 7 v on r m HK1.out (by omega) hv hr.out HB.out
      rw [HB2.out] at hs
      have hm2 : (m' : Int) < 256 := by
        have h1 := HB2.out
        have h2 := HR1.out
        have h3 : r / 2 ^ 7 ≤ r := Nat.div_le_self _ _
        omega
      obtain ⟨t, ht⟩ : ∃ t : Nat, v / 2 ^ 7 % 2 = t := ⟨_, rfl⟩
      by_cases hjk : (7 : Nat) = k
      · have hs1 := hs.1 hjk
        clear hs ht
        subst hjk
        cases on
        all_goals
          simp only [Bool.toNat_true, Bool.toNat_false] at hs1
          have hs2 := congrArg (fun n : Nat => (n : Int)) hs1
          clear hs1
          go_wp2_with (go_at_call 25; refine (low8_at n 7 HK.out _).mono ?_; rintro e w' ⟨rfl, rfl⟩)
          go_roundw
          case rel => exact ⟨7, m', by omega, by go_num, rel_byte (by simp at hs2; omega), HB2, trivial⟩
          case measure => simp [intOf]
      · have hs1 := hs.2 hjk
        rw [ht] at hs1
        have hd : ((7 : Int) == (k : Int)) = false := by rw [← Bool.not_eq_true, beq_iff_eq]; omega
        have hd2 : ¬ (7 : Int) = (k : Int) := by omega
        have hq : (v : Int) / 128 % 2 = (t : Int) := by omega
        have ht1 : (t : Int) ≤ 1 := by omega
        have hs2 : 2 * (m : Int) + (t : Int) = (m' : Int) := by omega
        clear hs ht hjk hs1
        go_wp2_with (go_at_call 25; refine (low8_at n k HK.out _).mono ?_; rintro e w' ⟨rfl, rfl⟩)
        go_roundw
        case rel => exact ⟨7, m', by omega, by go_num, rel_byte rfl, HB2, trivial⟩
        case measure => simp [intOf]

end Go.Proofs.Ytgkfipiefadaaaa
