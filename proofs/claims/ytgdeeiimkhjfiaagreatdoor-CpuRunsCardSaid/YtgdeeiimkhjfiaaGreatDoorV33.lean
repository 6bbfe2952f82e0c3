import Derived.Test.YtgdeeiimkhjfiaaGreatDoorV32
set_option maxRecDepth 100000
set_option maxHeartbeats 6400000
namespace Go.Proofs.YtgdeeiimkhjfiaaGreatDoor
open Go.RowKit
section
variable {W0 w : World} {x b tq n c : Nat} {s : Cs} {ix : Bool} {pg : Int} {l : Zj}
theorem zm (v m : Nat) (q : Int) (b : Bool) (hq : q = ((v / m % 2 : Nat) : Int)) (hb : Nat.beq (v / m % 2) 1 = b) : (q == 1) = b := by
 rw [← hb, Bool.eq_iff_iff, beq_iff_eq, Nat.beq_eq]; omega
theorem Zdz (n : Int) (k v f b g : Nat) (hk : n % 8 = (k : Int)) (hv : v < 256) (hf : f < 256) (hb : b < 256) (hg : Hid (Jj k v f b = g)) (w : World) :
  CB 105 #[.int .i64 n, .int .u8 (v : Int), .int .u8 (f : Int), .int .u8 (b : Int)] w (.int .u8 (g : Int)) := by
 have hc8 : k = 0 ∨ k = 1 ∨ k = 2 ∨ k = 3 ∨ k = 4 ∨ k = 5 ∨ k = 6 ∨ k = 7 := by omega
 have q1 : ((f : Int) % 2 == 1) = Zf 1 f := ZS f 1 _ (by omega)
 have q32 : ((b : Int) / 32 % 2 == 1) = Zf 32 b := ZS b 32 _ (by omega)
 have q8 : ((b : Int) / 8 % 2 == 1) = Zf 8 b := ZS b 8 _ (by omega)
 obtain ⟨c, hc⟩ : ∃ c, Zf 1 f = c := ⟨_, rfl⟩
 obtain ⟨y, hy⟩ : ∃ y, Zf 32 b = y := ⟨_, rfl⟩
 obtain ⟨x, hx⟩ : ∃ x, Zf 8 b = x := ⟨_, rfl⟩
 obtain ⟨o, ho⟩ : ∃ o, tOn k v = o := ⟨_, rfl⟩
 have hg2 := hg.out
 unfold Jj at hg2
 rw [hc, hy, hx, ho] at hg2
 rw [hc] at q1
 rw [hy] at q32
 rw [hx] at q8
 have HK := Zb hk
 have HO := Zb ho
 have HM := Zb (Own.start w)
 clear hg hc hy hx hk ho
 have HG := Zb hg2
 clear hg2
 rcases hc8 with rfl | rfl | rfl | rfl | rfl | rfl | rfl | rfl
 ·have qv : ((v : Int) % 2 == 1) = o := zm v 1 _ o (by omega) HO.out
  cases o
  ·have HQ : Hid (Zq false true y true x true false c = g) := HG
   clear HG
   go_enter Tryz.func105, Tryz.ntmps105
   go_wp2_with (first | (refine b7 ?_; clear HM; intro w' g' HM) | refine b8 ?_ | (refine a12 ?_; clear HM; intro w' HM) | (go_at_call 169; refine (ZA n 0 HK.out _).mono ?_; rintro e w' ⟨rfl, rfl⟩) | (go_at_call 86; refine (Zs false true y true x true false c g HQ _).mono ?_; rintro e w' ⟨rfl, hbl⟩; have HM' := Zb (HM.out.call hbl); clear HM hbl; have HM := HM'; clear HM'))
   go_ret
   exact ⟨rfl, Own.fin HM⟩
  ·have HQ : Hid (Zq false false y true x false false c = g) := HG
   clear HG
   go_enter Tryz.func105, Tryz.ntmps105
   go_wp2_with (first | (refine b7 ?_; clear HM; intro w' g' HM) | refine b8 ?_ | (refine a12 ?_; clear HM; intro w' HM) | (go_at_call 169; refine (ZA n 0 HK.out _).mono ?_; rintro e w' ⟨rfl, rfl⟩) | (go_at_call 86; refine (Zs false false y true x false false c g HQ _).mono ?_; rintro e w' ⟨rfl, hbl⟩; have HM' := Zb (HM.out.call hbl); clear HM hbl; have HM := HM'; clear HM'))
   go_ret
   exact ⟨rfl, Own.fin HM⟩
 ·have qv : ((v : Int) / 2 % 2 == 1) = o := zm v 2 _ o (by omega) HO.out
  cases o
  ·have HQ : Hid (Zq false true y true x true false c = g) := HG
   clear HG
   go_enter Tryz.func105, Tryz.ntmps105
   go_wp2_with (first | (refine b7 ?_; clear HM; intro w' g' HM) | refine b8 ?_ | (refine a12 ?_; clear HM; intro w' HM) | (go_at_call 169; refine (ZA n 1 HK.out _).mono ?_; rintro e w' ⟨rfl, rfl⟩) | (go_at_call 86; refine (Zs false true y true x true false c g HQ _).mono ?_; rintro e w' ⟨rfl, hbl⟩; have HM' := Zb (HM.out.call hbl); clear HM hbl; have HM := HM'; clear HM'))
   go_ret
   exact ⟨rfl, Own.fin HM⟩
  ·have HQ : Hid (Zq false false y true x false false c = g) := HG
   clear HG
   go_enter Tryz.func105, Tryz.ntmps105
   go_wp2_with (first | (refine b7 ?_; clear HM; intro w' g' HM) | refine b8 ?_ | (refine a12 ?_; clear HM; intro w' HM) | (go_at_call 169; refine (ZA n 1 HK.out _).mono ?_; rintro e w' ⟨rfl, rfl⟩) | (go_at_call 86; refine (Zs false false y true x false false c g HQ _).mono ?_; rintro e w' ⟨rfl, hbl⟩; have HM' := Zb (HM.out.call hbl); clear HM hbl; have HM := HM'; clear HM'))
   go_ret
   exact ⟨rfl, Own.fin HM⟩
 ·have qv : ((v : Int) / 4 % 2 == 1) = o := zm v 4 _ o (by omega) HO.out
  cases o
  ·have HQ : Hid (Zq false true y true x true false c = g) := HG
   clear HG
   go_enter Tryz.func105, Tryz.ntmps105
   go_wp2_with (first | (refine b7 ?_; clear HM; intro w' g' HM) | refine b8 ?_ | (refine a12 ?_; clear HM; intro w' HM) | (go_at_call 169; refine (ZA n 2 HK.out _).mono ?_; rintro e w' ⟨rfl, rfl⟩) | (go_at_call 86; refine (Zs false true y true x true false c g HQ _).mono ?_; rintro e w' ⟨rfl, hbl⟩; have HM' := Zb (HM.out.call hbl); clear HM hbl; have HM := HM'; clear HM'))
   go_ret
   exact ⟨rfl, Own.fin HM⟩
  ·have HQ : Hid (Zq false false y true x false false c = g) := HG
   clear HG
   go_enter Tryz.func105, Tryz.ntmps105
   go_wp2_with (first | (refine b7 ?_; clear HM; intro w' g' HM) | refine b8 ?_ | (refine a12 ?_; clear HM; intro w' HM) | (go_at_call 169; refine (ZA n 2 HK.out _).mono ?_; rintro e w' ⟨rfl, rfl⟩) | (go_at_call 86; refine (Zs false false y true x false false c g HQ _).mono ?_; rintro e w' ⟨rfl, hbl⟩; have HM' := Zb (HM.out.call hbl); clear HM hbl; have HM := HM'; clear HM'))
   go_ret
   exact ⟨rfl, Own.fin HM⟩
 ·have qv : ((v : Int) / 8 % 2 == 1) = o := zm v 8 _ o (by omega) HO.out
  cases o
  ·have HQ : Hid (Zq false true y true x true false c = g) := HG
   clear HG
   go_enter Tryz.func105, Tryz.ntmps105
   go_wp2_with (first | (refine b7 ?_; clear HM; intro w' g' HM) | refine b8 ?_ | (refine a12 ?_; clear HM; intro w' HM) | (go_at_call 169; refine (ZA n 3 HK.out _).mono ?_; rintro e w' ⟨rfl, rfl⟩) | (go_at_call 86; refine (Zs false true y true x true false c g HQ _).mono ?_; rintro e w' ⟨rfl, hbl⟩; have HM' := Zb (HM.out.call hbl); clear HM hbl; have HM := HM'; clear HM'))
   go_ret
   exact ⟨rfl, Own.fin HM⟩
  ·have HQ : Hid (Zq false false y true x false false c = g) := HG
   clear HG
   go_enter Tryz.func105, Tryz.ntmps105
   go_wp2_with (first | (refine b7 ?_; clear HM; intro w' g' HM) | refine b8 ?_ | (refine a12 ?_; clear HM; intro w' HM) | (go_at_call 169; refine (ZA n 3 HK.out _).mono ?_; rintro e w' ⟨rfl, rfl⟩) | (go_at_call 86; refine (Zs false false y true x false false c g HQ _).mono ?_; rintro e w' ⟨rfl, hbl⟩; have HM' := Zb (HM.out.call hbl); clear HM hbl; have HM := HM'; clear HM'))
   go_ret
   exact ⟨rfl, Own.fin HM⟩
 ·have qv : ((v : Int) / 16 % 2 == 1) = o := zm v 16 _ o (by omega) HO.out
  cases o
  ·have HQ : Hid (Zq false true y true x true false c = g) := HG
   clear HG
   go_enter Tryz.func105, Tryz.ntmps105
   go_wp2_with (first | (refine b7 ?_; clear HM; intro w' g' HM) | refine b8 ?_ | (refine a12 ?_; clear HM; intro w' HM) | (go_at_call 169; refine (ZA n 4 HK.out _).mono ?_; rintro e w' ⟨rfl, rfl⟩) | (go_at_call 86; refine (Zs false true y true x true false c g HQ _).mono ?_; rintro e w' ⟨rfl, hbl⟩; have HM' := Zb (HM.out.call hbl); clear HM hbl; have HM := HM'; clear HM'))
   go_ret
   exact ⟨rfl, Own.fin HM⟩
  ·have HQ : Hid (Zq false false y true x false false c = g) := HG
   clear HG
   go_enter Tryz.func105, Tryz.ntmps105
   go_wp2_with (first | (refine b7 ?_; clear HM; intro w' g' HM) | refine b8 ?_ | (refine a12 ?_; clear HM; intro w' HM) | (go_at_call 169; refine (ZA n 4 HK.out _).mono ?_; rintro e w' ⟨rfl, rfl⟩) | (go_at_call 86; refine (Zs false false y true x false false c g HQ _).mono ?_; rintro e w' ⟨rfl, hbl⟩; have HM' := Zb (HM.out.call hbl); clear HM hbl; have HM := HM'; clear HM'))
   go_ret
   exact ⟨rfl, Own.fin HM⟩
 ·have qv : ((v : Int) / 32 % 2 == 1) = o := zm v 32 _ o (by omega) HO.out
  cases o
  ·have HQ : Hid (Zq false true y true x true false c = g) := HG
   clear HG
   go_enter Tryz.func105, Tryz.ntmps105
   go_wp2_with (first | (refine b7 ?_; clear HM; intro w' g' HM) | refine b8 ?_ | (refine a12 ?_; clear HM; intro w' HM) | (go_at_call 169; refine (ZA n 5 HK.out _).mono ?_; rintro e w' ⟨rfl, rfl⟩) | (go_at_call 86; refine (Zs false true y true x true false c g HQ _).mono ?_; rintro e w' ⟨rfl, hbl⟩; have HM' := Zb (HM.out.call hbl); clear HM hbl; have HM := HM'; clear HM'))
   go_ret
   exact ⟨rfl, Own.fin HM⟩
  ·have HQ : Hid (Zq false false y true x false false c = g) := HG
   clear HG
   go_enter Tryz.func105, Tryz.ntmps105
   go_wp2_with (first | (refine b7 ?_; clear HM; intro w' g' HM) | refine b8 ?_ | (refine a12 ?_; clear HM; intro w' HM) | (go_at_call 169; refine (ZA n 5 HK.out _).mono ?_; rintro e w' ⟨rfl, rfl⟩) | (go_at_call 86; refine (Zs false false y true x false false c g HQ _).mono ?_; rintro e w' ⟨rfl, hbl⟩; have HM' := Zb (HM.out.call hbl); clear HM hbl; have HM := HM'; clear HM'))
   go_ret
   exact ⟨rfl, Own.fin HM⟩
 ·have qv : ((v : Int) / 64 % 2 == 1) = o := zm v 64 _ o (by omega) HO.out
  cases o
  ·have HQ : Hid (Zq false true y true x true false c = g) := HG
   clear HG
   go_enter Tryz.func105, Tryz.ntmps105
   go_wp2_with (first | (refine b7 ?_; clear HM; intro w' g' HM) | refine b8 ?_ | (refine a12 ?_; clear HM; intro w' HM) | (go_at_call 169; refine (ZA n 6 HK.out _).mono ?_; rintro e w' ⟨rfl, rfl⟩) | (go_at_call 86; refine (Zs false true y true x true false c g HQ _).mono ?_; rintro e w' ⟨rfl, hbl⟩; have HM' := Zb (HM.out.call hbl); clear HM hbl; have HM := HM'; clear HM'))
   go_ret
   exact ⟨rfl, Own.fin HM⟩
  ·have HQ : Hid (Zq false false y true x false false c = g) := HG
   clear HG
   go_enter Tryz.func105, Tryz.ntmps105
   go_wp2_with (first | (refine b7 ?_; clear HM; intro w' g' HM) | refine b8 ?_ | (refine a12 ?_; clear HM; intro w' HM) | (go_at_call 169; refine (ZA n 6 HK.out _).mono ?_; rintro e w' ⟨rfl, rfl⟩) | (go_at_call 86; refine (Zs false false y true x false false c g HQ _).mono ?_; rintro e w' ⟨rfl, hbl⟩; have HM' := Zb (HM.out.call hbl); clear HM hbl; have HM := HM'; clear HM'))
   go_ret
   exact ⟨rfl, Own.fin HM⟩
 ·have qv : ((v : Int) / 128 % 2 == 1) = o := zm v 128 _ o (by omega) HO.out
  cases o
  ·have HQ : Hid (Zq false true y true x true false c = g) := HG
   clear HG
   go_enter Tryz.func105, Tryz.ntmps105
   go_wp2_with (first | (refine b7 ?_; clear HM; intro w' g' HM) | refine b8 ?_ | (refine a12 ?_; clear HM; intro w' HM) | (go_at_call 169; refine (ZA n 7 HK.out _).mono ?_; rintro e w' ⟨rfl, rfl⟩) | (go_at_call 86; refine (Zs false true y true x true false c g HQ _).mono ?_; rintro e w' ⟨rfl, hbl⟩; have HM' := Zb (HM.out.call hbl); clear HM hbl; have HM := HM'; clear HM'))
   go_ret
   exact ⟨rfl, Own.fin HM⟩
  ·have HQ : Hid (Zq true false y true x false false c = g) := HG
   clear HG
   go_enter Tryz.func105, Tryz.ntmps105
   go_wp2_with (first | (refine b7 ?_; clear HM; intro w' g' HM) | refine b8 ?_ | (refine a12 ?_; clear HM; intro w' HM) | (go_at_call 169; refine (ZA n 7 HK.out _).mono ?_; rintro e w' ⟨rfl, rfl⟩) | (go_at_call 86; refine (Zs true false y true x false false c g HQ _).mono ?_; rintro e w' ⟨rfl, hbl⟩; have HM' := Zb (HM.out.call hbl); clear HM hbl; have HM := HM'; clear HM'))
   go_ret
   exact ⟨rfl, Own.fin HM⟩
theorem YX (k j v : Nat) (on : Bool) (r m : Nat) (hk : k < 8) (hj : j < 8) (hv : v < 256) (hr : KU k v on = r) (hm : r / 2 ^ (j + 1) = m) :
  (j = k → r / 2 ^ j = 2 * m + on.toNat) ∧ (j ≠ k → r / 2 ^ j = 2 * m + v / 2 ^ j % 2) := by
 have h := Zdy k j v on hk hj hv
 rw [hr] at h
 have e : r / 2 ^ (j + 1) = r / 2 ^ j / 2 := by rw [Nat.pow_succ, Nat.div_div_eq_div_mul]
 rw [e] at hm
 refine ⟨fun hjk => ?_, fun hjk => ?_⟩
 ·rw [show Nat.beq j k = true from by rw [Nat.beq_eq]; exact hjk] at h
  have h' : r / 2 ^ j % 2 = on.toNat := h
  omega
 ·rw [show Nat.beq j k = false from by rw [← Bool.not_eq_true, Nat.beq_eq]; exact hjk] at h
  have h' : r / 2 ^ j % 2 = v / 2 ^ j % 2 := h
  omega
theorem ZV {a : Int} {v : Nat} (h : a = (v : Int)) : (Value.int .u8 a) = .int .u8 (v : Int) := by rw [h]
theorem ZdA (n : Int) (k v r : Nat) (on : Bool) (hk : n % 8 = (k : Int)) (hv : v < 256) (hr : Hid (KU k v on = r)) (w : World) :
  CW 106 #[.int .i64 n, .int .u8 (v : Int), .bool on] w (.int .u8 (r : Int)) := by
 have k1 : k < 8 := by omega
 have r1 : r < 256 := by rw [← hr.out]; exact Kt k v on k1 hv
 have HK := Zb hk
 have HK1 := Zb k1
 have HR1 := Zb r1
 clear hk k1 r1
 go_enter Tryz.func106, Tryz.ntmps106
 go_wp2
 go_loopw [7, 8] (fun o i wr => ∃ j m : Nat, j ≤ 8 ∧ i = .int .i64 ((j : Int) - 1) ∧ o = .int .u8 m ∧ Hid (r / 2 ^ j = m) ∧ w = wr) (fun _ i _ => (intOf i + 1).toNat)
 case atStart => exact ⟨8, 0, by omega, rfl, rfl, by have := HR1.out; show r / 256 = 0; omega, rfl⟩
 case round =>
  obtain ⟨j, m, hj, rfl, rfl, HB, rfl⟩ := hrel
  have hm : (m : Int) < 256 := by
   have h1 := HB.out
   have h2 := HR1.out
   have h3 : r / 2 ^ j ≤ r := Nat.div_le_self _ _
   omega
  have hj9 : j = 0 ∨ j = 1 ∨ j = 2 ∨ j = 3 ∨ j = 4 ∨ j = 5 ∨ j = 6 ∨ j = 7 ∨ j = 8 := by omega
  clear hj
  rcases hj9 with rfl | rfl | rfl | rfl | rfl | rfl | rfl | rfl | rfl
  ·have e : m = r := by rw [← HB.out, Nat.pow_zero, Nat.div_one]
   subst e
   go_wp2
   go_ret
   exact ⟨rfl, rfl⟩
  ·obtain ⟨m', HB2⟩ : ∃ m' : Nat, Hid (r / 2 ^ 0 = m') := ⟨_, Zb rfl⟩
   have hs := YX k 0 v on r m HK1.out (by omega) hv hr.out HB.out
   rw [HB2.out] at hs
   have hm2 : (m' : Int) < 256 := by
    have h1 := HB2.out
    have h2 := HR1.out
    have h3 : r / 2 ^ 0 ≤ r := Nat.div_le_self _ _
    omega
   obtain ⟨t, ht⟩ : ∃ t : Nat, v / 2 ^ 0 % 2 = t := ⟨_, rfl⟩
   by_cases hjk : (0 : Nat) = k
   ·have hs1 := hs.1 hjk
    clear hs ht
    subst hjk
    cases on
    all_goals
     simp only [Bool.toNat_true, Bool.toNat_false] at hs1
     have hs2 := congrArg (fun n : Nat => (n : Int)) hs1
     clear hs1
     go_wp2_with (go_at_call 169; refine (ZA n 0 HK.out _).mono ?_; rintro e w' ⟨rfl, rfl⟩)
     go_roundw
     case rel => exact ⟨0, m', by omega, by go_num, ZV (by simp at hs2; omega), HB2, trivial⟩
     case measure => simp [intOf]
   ·have hs1 := hs.2 hjk
    rw [ht] at hs1
    have hd : ((0 : Int) == (k : Int)) = false := by rw [← Bool.not_eq_true, beq_iff_eq]; omega
    have hd2 : ¬ (0 : Int) = (k : Int) := by omega
    have hq : (v : Int) % 2 = (t : Int) := by omega
    have ht1 : (t : Int) ≤ 1 := by omega
    have hs2 : 2 * (m : Int) + (t : Int) = (m' : Int) := by omega
    clear hs ht hjk hs1
    go_wp2_with (go_at_call 169; refine (ZA n k HK.out _).mono ?_; rintro e w' ⟨rfl, rfl⟩)
    go_roundw
    case rel => exact ⟨0, m', by omega, by go_num, ZV rfl, HB2, trivial⟩
    case measure => simp [intOf]
  ·obtain ⟨m', HB2⟩ : ∃ m' : Nat, Hid (r / 2 ^ 1 = m') := ⟨_, Zb rfl⟩
   have hs := YX k 1 v on r m HK1.out (by omega) hv hr.out HB.out
   rw [HB2.out] at hs
   have hm2 : (m' : Int) < 256 := by
    have h1 := HB2.out
    have h2 := HR1.out
    have h3 : r / 2 ^ 1 ≤ r := Nat.div_le_self _ _
    omega
   obtain ⟨t, ht⟩ : ∃ t : Nat, v / 2 ^ 1 % 2 = t := ⟨_, rfl⟩
   by_cases hjk : (1 : Nat) = k
   ·have hs1 := hs.1 hjk
    clear hs ht
    subst hjk
    cases on
    all_goals
     simp only [Bool.toNat_true, Bool.toNat_false] at hs1
     have hs2 := congrArg (fun n : Nat => (n : Int)) hs1
     clear hs1
     go_wp2_with (go_at_call 169; refine (ZA n 1 HK.out _).mono ?_; rintro e w' ⟨rfl, rfl⟩)
     go_roundw
     case rel => exact ⟨1, m', by omega, by go_num, ZV (by simp at hs2; omega), HB2, trivial⟩
     case measure => simp [intOf]
   ·have hs1 := hs.2 hjk
    rw [ht] at hs1
    have hd : ((1 : Int) == (k : Int)) = false := by rw [← Bool.not_eq_true, beq_iff_eq]; omega
    have hd2 : ¬ (1 : Int) = (k : Int) := by omega
    have hq : (v : Int) / 2 % 2 = (t : Int) := by omega
    have ht1 : (t : Int) ≤ 1 := by omega
    have hs2 : 2 * (m : Int) + (t : Int) = (m' : Int) := by omega
    clear hs ht hjk hs1
    go_wp2_with (go_at_call 169; refine (ZA n k HK.out _).mono ?_; rintro e w' ⟨rfl, rfl⟩)
    go_roundw
    case rel => exact ⟨1, m', by omega, by go_num, ZV rfl, HB2, trivial⟩
    case measure => simp [intOf]
  ·obtain ⟨m', HB2⟩ : ∃ m' : Nat, Hid (r / 2 ^ 2 = m') := ⟨_, Zb rfl⟩
   have hs := YX k 2 v on r m HK1.out (by omega) hv hr.out HB.out
   rw [HB2.out] at hs
   have hm2 : (m' : Int) < 256 := by
    have h1 := HB2.out
    have h2 := HR1.out
    have h3 : r / 2 ^ 2 ≤ r := Nat.div_le_self _ _
    omega
   obtain ⟨t, ht⟩ : ∃ t : Nat, v / 2 ^ 2 % 2 = t := ⟨_, rfl⟩
   by_cases hjk : (2 : Nat) = k
   ·have hs1 := hs.1 hjk
    clear hs ht
    subst hjk
    cases on
    all_goals
     simp only [Bool.toNat_true, Bool.toNat_false] at hs1
     have hs2 := congrArg (fun n : Nat => (n : Int)) hs1
     clear hs1
     go_wp2_with (go_at_call 169; refine (ZA n 2 HK.out _).mono ?_; rintro e w' ⟨rfl, rfl⟩)
     go_roundw
     case rel => exact ⟨2, m', by omega, by go_num, ZV (by simp at hs2; omega), HB2, trivial⟩
     case measure => simp [intOf]
   ·have hs1 := hs.2 hjk
    rw [ht] at hs1
    have hd : ((2 : Int) == (k : Int)) = false := by rw [← Bool.not_eq_true, beq_iff_eq]; omega
    have hd2 : ¬ (2 : Int) = (k : Int) := by omega
    have hq : (v : Int) / 4 % 2 = (t : Int) := by omega
    have ht1 : (t : Int) ≤ 1 := by omega
    have hs2 : 2 * (m : Int) + (t : Int) = (m' : Int) := by omega
    clear hs ht hjk hs1
    go_wp2_with (go_at_call 169; refine (ZA n k HK.out _).mono ?_; rintro e w' ⟨rfl, rfl⟩)
    go_roundw
    case rel => exact ⟨2, m', by omega, by go_num, ZV rfl, HB2, trivial⟩
    case measure => simp [intOf]
  ·obtain ⟨m', HB2⟩ : ∃ m' : Nat, Hid (r / 2 ^ 3 = m') := ⟨_, Zb rfl⟩
   have hs := YX k 3 v on r m HK1.out (by omega) hv hr.out HB.out
   rw [HB2.out] at hs
   have hm2 : (m' : Int) < 256 := by
    have h1 := HB2.out
    have h2 := HR1.out
    have h3 : r / 2 ^ 3 ≤ r := Nat.div_le_self _ _
    omega
   obtain ⟨t, ht⟩ : ∃ t : Nat, v / 2 ^ 3 % 2 = t := ⟨_, rfl⟩
   by_cases hjk : (3 : Nat) = k
   ·have hs1 := hs.1 hjk
    clear hs ht
    subst hjk
    cases on
    all_goals
     simp only [Bool.toNat_true, Bool.toNat_false] at hs1
     have hs2 := congrArg (fun n : Nat => (n : Int)) hs1
     clear hs1
     go_wp2_with (go_at_call 169; refine (ZA n 3 HK.out _).mono ?_; rintro e w' ⟨rfl, rfl⟩)
     go_roundw
     case rel => exact ⟨3, m', by omega, by go_num, ZV (by simp at hs2; omega), HB2, trivial⟩
     case measure => simp [intOf]
   ·have hs1 := hs.2 hjk
    rw [ht] at hs1
    have hd : ((3 : Int) == (k : Int)) = false := by rw [← Bool.not_eq_true, beq_iff_eq]; omega
    have hd2 : ¬ (3 : Int) = (k : Int) := by omega
    have hq : (v : Int) / 8 % 2 = (t : Int) := by omega
    have ht1 : (t : Int) ≤ 1 := by omega
    have hs2 : 2 * (m : Int) + (t : Int) = (m' : Int) := by omega
    clear hs ht hjk hs1
    go_wp2_with (go_at_call 169; refine (ZA n k HK.out _).mono ?_; rintro e w' ⟨rfl, rfl⟩)
    go_roundw
    case rel => exact ⟨3, m', by omega, by go_num, ZV rfl, HB2, trivial⟩
    case measure => simp [intOf]
  ·obtain ⟨m', HB2⟩ : ∃ m' : Nat, Hid (r / 2 ^ 4 = m') := ⟨_, Zb rfl⟩
   have hs := YX k 4 v on r m HK1.out (by omega) hv hr.out HB.out
   rw [HB2.out] at hs
   have hm2 : (m' : Int) < 256 := by
    have h1 := HB2.out
    have h2 := HR1.out
    have h3 : r / 2 ^ 4 ≤ r := Nat.div_le_self _ _
    omega
   obtain ⟨t, ht⟩ : ∃ t : Nat, v / 2 ^ 4 % 2 = t := ⟨_, rfl⟩
   by_cases hjk : (4 : Nat) = k
   ·have hs1 := hs.1 hjk
    clear hs ht
    subst hjk
    cases on
    all_goals
     simp only [Bool.toNat_true, Bool.toNat_false] at hs1
     have hs2 := congrArg (fun n : Nat => (n : Int)) hs1
     clear hs1
     go_wp2_with (go_at_call 169; refine (ZA n 4 HK.out _).mono ?_; rintro e w' ⟨rfl, rfl⟩)
     go_roundw
     case rel => exact ⟨4, m', by omega, by go_num, ZV (by simp at hs2; omega), HB2, trivial⟩
     case measure => simp [intOf]
   ·have hs1 := hs.2 hjk
    rw [ht] at hs1
    have hd : ((4 : Int) == (k : Int)) = false := by rw [← Bool.not_eq_true, beq_iff_eq]; omega
    have hd2 : ¬ (4 : Int) = (k : Int) := by omega
    have hq : (v : Int) / 16 % 2 = (t : Int) := by omega
    have ht1 : (t : Int) ≤ 1 := by omega
    have hs2 : 2 * (m : Int) + (t : Int) = (m' : Int) := by omega
    clear hs ht hjk hs1
    go_wp2_with (go_at_call 169; refine (ZA n k HK.out _).mono ?_; rintro e w' ⟨rfl, rfl⟩)
    go_roundw
    case rel => exact ⟨4, m', by omega, by go_num, ZV rfl, HB2, trivial⟩
    case measure => simp [intOf]
  ·obtain ⟨m', HB2⟩ : ∃ m' : Nat, Hid (r / 2 ^ 5 = m') := ⟨_, Zb rfl⟩
   have hs := YX k 5 v on r m HK1.out (by omega) hv hr.out HB.out
   rw [HB2.out] at hs
   have hm2 : (m' : Int) < 256 := by
    have h1 := HB2.out
    have h2 := HR1.out
    have h3 : r / 2 ^ 5 ≤ r := Nat.div_le_self _ _
    omega
   obtain ⟨t, ht⟩ : ∃ t : Nat, v / 2 ^ 5 % 2 = t := ⟨_, rfl⟩
   by_cases hjk : (5 : Nat) = k
   ·have hs1 := hs.1 hjk
    clear hs ht
    subst hjk
    cases on
    all_goals
     simp only [Bool.toNat_true, Bool.toNat_false] at hs1
     have hs2 := congrArg (fun n : Nat => (n : Int)) hs1
     clear hs1
     go_wp2_with (go_at_call 169; refine (ZA n 5 HK.out _).mono ?_; rintro e w' ⟨rfl, rfl⟩)
     go_roundw
     case rel => exact ⟨5, m', by omega, by go_num, ZV (by simp at hs2; omega), HB2, trivial⟩
     case measure => simp [intOf]
   ·have hs1 := hs.2 hjk
    rw [ht] at hs1
    have hd : ((5 : Int) == (k : Int)) = false := by rw [← Bool.not_eq_true, beq_iff_eq]; omega
    have hd2 : ¬ (5 : Int) = (k : Int) := by omega
    have hq : (v : Int) / 32 % 2 = (t : Int) := by omega
    have ht1 : (t : Int) ≤ 1 := by omega
    have hs2 : 2 * (m : Int) + (t : Int) = (m' : Int) := by omega
    clear hs ht hjk hs1
    go_wp2_with (go_at_call 169; refine (ZA n k HK.out _).mono ?_; rintro e w' ⟨rfl, rfl⟩)
    go_roundw
    case rel => exact ⟨5, m', by omega, by go_num, ZV rfl, HB2, trivial⟩
    case measure => simp [intOf]
  ·obtain ⟨m', HB2⟩ : ∃ m' : Nat, Hid (r / 2 ^ 6 = m') := ⟨_, Zb rfl⟩
   have hs := YX k 6 v on r m HK1.out (by omega) hv hr.out HB.out
   rw [HB2.out] at hs
   have hm2 : (m' : Int) < 256 := by
    have h1 := HB2.out
    have h2 := HR1.out
    have h3 : r / 2 ^ 6 ≤ r := Nat.div_le_self _ _
    omega
   obtain ⟨t, ht⟩ : ∃ t : Nat, v / 2 ^ 6 % 2 = t := ⟨_, rfl⟩
   by_cases hjk : (6 : Nat) = k
   ·have hs1 := hs.1 hjk
    clear hs ht
    subst hjk
    cases on
    all_goals
     simp only [Bool.toNat_true, Bool.toNat_false] at hs1
     have hs2 := congrArg (fun n : Nat => (n : Int)) hs1
     clear hs1
     go_wp2_with (go_at_call 169; refine (ZA n 6 HK.out _).mono ?_; rintro e w' ⟨rfl, rfl⟩)
     go_roundw
     case rel => exact ⟨6, m', by omega, by go_num, ZV (by simp at hs2; omega), HB2, trivial⟩
     case measure => simp [intOf]
   ·have hs1 := hs.2 hjk
    rw [ht] at hs1
    have hd : ((6 : Int) == (k : Int)) = false := by rw [← Bool.not_eq_true, beq_iff_eq]; omega
    have hd2 : ¬ (6 : Int) = (k : Int) := by omega
    have hq : (v : Int) / 64 % 2 = (t : Int) := by omega
    have ht1 : (t : Int) ≤ 1 := by omega
    have hs2 : 2 * (m : Int) + (t : Int) = (m' : Int) := by omega
    clear hs ht hjk hs1
    go_wp2_with (go_at_call 169; refine (ZA n k HK.out _).mono ?_; rintro e w' ⟨rfl, rfl⟩)
    go_roundw
    case rel => exact ⟨6, m', by omega, by go_num, ZV rfl, HB2, trivial⟩
    case measure => simp [intOf]
  ·obtain ⟨m', HB2⟩ : ∃ m' : Nat, Hid (r / 2 ^ 7 = m') := ⟨_, Zb rfl⟩
   have hs := YX k 7 v on r m HK1.out (by omega) hv hr.out HB.out
   rw [HB2.out] at hs
   have hm2 : (m' : Int) < 256 := by
    have h1 := HB2.out
    have h2 := HR1.out
    have h3 : r / 2 ^ 7 ≤ r := Nat.div_le_self _ _
    omega
   obtain ⟨t, ht⟩ : ∃ t : Nat, v / 2 ^ 7 % 2 = t := ⟨_, rfl⟩
   by_cases hjk : (7 : Nat) = k
   ·have hs1 := hs.1 hjk
    clear hs ht
    subst hjk
    cases on
    all_goals
     simp only [Bool.toNat_true, Bool.toNat_false] at hs1
     have hs2 := congrArg (fun n : Nat => (n : Int)) hs1
     clear hs1
     go_wp2_with (go_at_call 169; refine (ZA n 7 HK.out _).mono ?_; rintro e w' ⟨rfl, rfl⟩)
     go_roundw
     case rel => exact ⟨7, m', by omega, by go_num, ZV (by simp at hs2; omega), HB2, trivial⟩
     case measure => simp [intOf]
   ·have hs1 := hs.2 hjk
    rw [ht] at hs1
    have hd : ((7 : Int) == (k : Int)) = false := by rw [← Bool.not_eq_true, beq_iff_eq]; omega
    have hd2 : ¬ (7 : Int) = (k : Int) := by omega
    have hq : (v : Int) / 128 % 2 = (t : Int) := by omega
    have ht1 : (t : Int) ≤ 1 := by omega
    have hs2 : 2 * (m : Int) + (t : Int) = (m' : Int) := by omega
    clear hs ht hjk hs1
    go_wp2_with (go_at_call 169; refine (ZA n k HK.out _).mono ?_; rintro e w' ⟨rfl, rfl⟩)
    go_roundw
    case rel => exact ⟨7, m', by omega, by go_num, ZV rfl, HB2, trivial⟩
    case measure => simp [intOf]
theorem UU (f : Nat) (b7 b6 b5 b4 b3 b2 b1 b0 : Bool) (h : f < 256) (hr : Hid (Zf 128 f = b7 ∧ Zf 64 f = b6 ∧ Zf 32 f = b5 ∧ Zf 16 f = b4 ∧ Zf 8 f = b3 ∧ Zf 4 f = b2 ∧ Zf 2 f = b1 ∧ Zf 1 f = b0)) (w : World) :
  Calls Tryz.prog 164 #[.int .u8 (f : Int)] w fun e w' =>
  e = .returned (.agg #[.bool b7, .bool b6, .bool b5, .bool b4, .bool b3, .bool b2, .bool b1, .bool b0]) ∧ Below w.heap.size w w' := by
 obtain ⟨rfl, rfl, rfl, rfl, rfl, rfl, rfl, rfl⟩ := hr.out; exact WA f h w
theorem ZdB (v : Nat) (p : Bool) (h : v < 256) (hp : Hid (Jt v = p)) (w : World) : CW 104 #[.int .u8 (v : Int)] w (.bool p) := by
 rw [← hp.out]; exact JS v h w
theorem Zfy (a v f left r : Nat) (p : Bool) (hf : f < 256) (ha : a < 256) (hv : v < 256) (hp : Hid ((p = true) ↔ left ≠ 0)) (hr : Hid (Wh a v f p = r)) (w : World) :
  CB 174 #[.int .u8 (a : Int), .int .u8 (v : Int), .int .u8 (f : Int), .int .u16 (left : Int)] w (.int .u8 (r : Int)) := by
 have HM := Zb (Own.start w)
 obtain ⟨n, hn⟩ : ∃ n, Zkl a v = n := ⟨_, rfl⟩
 have n1 : n < 256 := hn ▸ Zbr _ _
 have e1 : ((a : Int) + (v : Int)).tmod 256 = (n : Int) := by have h : (a + v) % 256 = n := hn; rw [Int.tmod_eq_emod_of_nonneg (by omega)]; omega
 obtain ⟨yb7, b6, b5, b4, b3, b2, b1, b0, hb⟩ : ∃ s z b5 b4 b3 p b1 b0, Hid (Zf 128 f = s ∧ Zf 64 f = z ∧ Zf 32 f = b5 ∧ Zf 16 f = b4 ∧ Zf 8 f = b3 ∧ Zf 4 f = p ∧ Zf 2 f = b1 ∧ Zf 1 f = b0) := ⟨_, _, _, _, _, _, _, _, rfl, rfl, rfl, rfl, rfl, rfl, rfl, rfl⟩
 obtain ⟨y, hy⟩ : ∃ y, Zf 2 n = y := ⟨_, rfl⟩
 obtain ⟨x, hx⟩ : ∃ x, Zf 8 n = x := ⟨_, rfl⟩
 have e2 : ((n : Int) / 2 % 2 == 1) = y := by rw [← hy]; exact ZS n 2 _ (by omega)
 have e3 : ((n : Int) / 8 % 2 == 1) = x := by rw [← hx]; exact ZS n 8 _ (by omega)
 have e4 : decide (0 < left) = p := by rw [Bool.eq_iff_iff, decide_eq_true_eq, hp.out]; omega
 have HG : Hid (Zq yb7 b6 y false x p false b0 = r) := by
  show _ = _
  rw [← hr.out]
  unfold Wh
  rw [hn, hy, hx, hb.out.1, hb.out.2.1, hb.out.2.2.2.2.2.2.2]
 clear hr hn hy hx hp
 go_enter Tryz.func174, Tryz.ntmps174
 go_wp2_with (first | (refine b7 ?_; clear HM; intro w' g' HM) | refine b8 ?_ | (refine a12 ?_; clear HM; intro w' HM) | (go_at_call 164; (with_reducible refine (UU f yb7 b6 b5 b4 b3 b2 b1 b0 hf hb _).mono ?_); rintro e w' ⟨rfl, hbl⟩; have HM' := Zb (HM.out.call hbl); clear HM hbl; have HM := HM'; clear HM') | (go_at_call 86; (with_reducible refine (Zs yb7 b6 y false x p false b0 r HG _).mono ?_); rintro e w' ⟨rfl, hbl⟩; have HM' := Zb (HM.out.call hbl); clear HM hbl; have HM := HM'; clear HM'))
 go_ret
 exact ⟨rfl, Own.fin HM⟩
theorem k61 {P : Prop} (h : P := by
 go_ret2
 refine ⟨?_, Own.fin HM⟩
 rw [← HO.out]
 cases p <;> first | rfl | contradiction) : P := h
theorem Zfz (a v f left r : Nat) (p o : Bool) (ha : a < 256) (hv : v < 256) (hf : f < 256) (hp : Hid ((p = true) ↔ left ≠ 0)) (hr : Hid (KK a v f p = r)) (ho : Hid (JM a v p = o)) (w : World) :
  CB 175 #[.int .u8 (a : Int), .int .u8 (v : Int), .int .u8 (f : Int), .int .u16 (left : Int)] w (.tuple #[.int .u8 (r : Int), .bool o]) := by
 have HM := Zb (Own.start w)
 have tg1 : Hid True := trivial
 have tg2 : Hid True := trivial
 obtain ⟨m, hm⟩ : ∃ m, Hid (ZY a v 0 = m) := ⟨_, rfl⟩
 obtain ⟨g, hg⟩ : ∃ g, Hid (ZU a v 0 = g) := ⟨_, rfl⟩
 have m1 : m < 256 := by rw [← hm.out]; exact Yn _ _ _
 have g1 : g < 256 := by rw [← hg.out]; exact YM _ _ _
 obtain ⟨yb7, b6, b5, b4, b3, b2, b1, b0, hb⟩ : ∃ s z b5 b4 b3 p b1 b0, Hid (Zf 128 g = s ∧ Zf 64 g = z ∧ Zf 32 g = b5 ∧ Zf 16 g = b4 ∧ Zf 8 g = b3 ∧ Zf 4 g = p ∧ Zf 2 g = b1 ∧ Zf 1 g = b0) := ⟨_, _, _, _, _, _, _, _, rfl, rfl, rfl, rfl, rfl, rfl, rfl, rfl⟩
 obtain ⟨n, hn⟩ : ∃ n, rLess m b4 = n := ⟨_, rfl⟩
 have n1 : n < 256 := hn ▸ ye _ _ m1
 obtain ⟨y, hy⟩ : ∃ y, Zf 2 n = y := ⟨_, rfl⟩
 obtain ⟨x, hx⟩ : ∃ x, Zf 8 n = x := ⟨_, rfl⟩
 obtain ⟨c, hc⟩ : ∃ c, Zf 1 f = c := ⟨_, rfl⟩
 have e2 : ((n : Int) / 2 % 2 == 1) = y := by rw [← hy]; exact ZS n 2 _ (by omega)
 have e3 : ((n : Int) / 8 % 2 == 1) = x := by rw [← hx]; exact ZS n 8 _ (by omega)
 have e4 : decide (0 < left) = p := by rw [Bool.eq_iff_iff, decide_eq_true_eq, hp.out]; omega
 have e5 : ((f : Int) % 2 == 1) = c := by rw [← hc]; exact ZS f 1 _ (by omega)
 have HG : Hid (Zq yb7 b6 y b4 x p true c = r) := by
  show _ = _
  rw [← hr.out]
  unfold KK
  rw [hm.out, hg.out]
  unfold rSeek
  rw [hb.out.2.2.2.1, hn, hy, hx, hb.out.1, hb.out.2.1, hc]
 have HO : Hid (and p (!(Nat.beq a v)) = o) := ho
 obtain ⟨z, hz⟩ : ∃ z, (!(Nat.beq a v)) = z := ⟨_, rfl⟩
 have e6 : ((a : Int) != (v : Int)) = z := by rw [← hz, bne, show ((a : Int) == (v : Int)) = Nat.beq a v from ZeL a v]
 rw [hz] at HO
 have hl : b4 = false ∧ (m : Int) = (n : Int) ∨ b4 = true ∧ ((m : Int) + 255).tmod 256 = (n : Int) := by
  cases b4
  ·exact .inl ⟨rfl, congrArg _ (show m = n from hn)⟩
  ·refine .inr ⟨rfl, ?_⟩
   have h : (m + 255) % 256 = n := hn
   rw [Int.tmod_eq_emod_of_nonneg (by omega)]; omega
 clear hr ho hn hy hx hc hz hp
 rcases hl with ⟨rfl, hl⟩ | ⟨rfl, hl⟩
 ·obtain rfl : m = n := by omega
  go_enter Tryz.func175, Tryz.ntmps175
  go_wp2_with (first | (refine b7 ?_; (first | (clear tg1 HM; intro w' g1 HM) | (clear tg2 HM; intro w' g2 HM) | (clear HM; intro w' g' HM))) | refine b8 ?_ | (refine a12 ?_; clear HM; intro w' HM) | (go_at_call 108; refine (JQ a v false m g ha hv hm hg _).mono ?_; rintro e w' ⟨rfl, hbl⟩; have HM' := Zb (HM.out.call hbl); clear HM hbl; have HM := HM'; clear HM') | (go_at_call 164; (with_reducible refine (UU g yb7 b6 b5 false b3 b2 b1 b0 g1 hb _).mono ?_); rintro e w' ⟨rfl, hbl⟩; have HM' := Zb (HM.out.call hbl); clear HM hbl; have HM := HM'; clear HM') | (go_at_call 86; (with_reducible refine (Zs yb7 b6 y false x p true c r HG _).mono ?_); rintro e w' ⟨rfl, hbl⟩; have HM' := Zb (HM.out.call hbl); clear HM hbl; have HM := HM'; clear HM'))
  all_goals
   exact k61
 ·go_enter Tryz.func175, Tryz.ntmps175
  go_wp2_with (first | (refine b7 ?_; (first | (clear tg1 HM; intro w' g1 HM) | (clear tg2 HM; intro w' g2 HM) | (clear HM; intro w' g' HM))) | refine b8 ?_ | (refine a12 ?_; clear HM; intro w' HM) | (go_at_call 108; refine (JQ a v false m g ha hv hm hg _).mono ?_; rintro e w' ⟨rfl, hbl⟩; have HM' := Zb (HM.out.call hbl); clear HM hbl; have HM := HM'; clear HM') | (go_at_call 164; (with_reducible refine (UU g yb7 b6 b5 true b3 b2 b1 b0 g1 hb _).mono ?_); rintro e w' ⟨rfl, hbl⟩; have HM' := Zb (HM.out.call hbl); clear HM hbl; have HM := HM'; clear HM') | (go_at_call 86; (with_reducible refine (Zs yb7 b6 y true x p true c r HG _).mono ?_); rintro e w' ⟨rfl, hbl⟩; have HM' := Zb (HM.out.call hbl); clear HM hbl; have HM := HM'; clear HM'))
  all_goals
   exact k61
theorem ve (v m b r : Nat) (hv : v < 256) (hm : m < 256) (hb : b < 256) (hr : Hid (Ku v m b = r)) (w : World) :
  CB 176 #[.int .u8 (v : Int), .int .u8 (m : Int), .int .u8 (b : Int)] w (.int .u8 (r : Int)) := by
 have HM := Zb (Own.start w)
 obtain ⟨t, ht⟩ : ∃ t, v + m = t := ⟨_, rfl⟩
 have t1 : t < 511 := by omega
 have e1 : (v : Int) + (m : Int) = (t : Int) := by omega
 obtain ⟨k, hk⟩ : ∃ k, Nat.ble 256 (Nat.add v m) = k := ⟨_, rfl⟩
 have e2 : decide ((255 : Int) < (t : Int)) = k := by rw [Bool.eq_iff_iff, decide_eq_true_eq, ← hk, Nat.ble_eq]; show _ ↔ 256 ≤ v + m; omega
 obtain ⟨j, hj⟩ : ∃ j, t % 8 = j := ⟨_, rfl⟩
 have j1 : j < 8 := by omega
 have e3 : (t : Int).tmod 8 = (j : Int) := by rw [Int.tmod_eq_emod_of_nonneg (by omega)]; omega
 obtain ⟨x, hx⟩ : ∃ x, b ^^^ j = x := ⟨_, rfl⟩
 have x1 : x < 256 := by rw [← hx]; exact Nat.xor_lt_two_pow (n := 8) hb (by omega)
 have e4 : bits .xor .u8 (b : Int) (j : Int) = (x : Int) := by rw [u8_xor_nat b j hb (by omega), hx]
 obtain ⟨o, ho⟩ : ∃ o, Hid (Jt x = o) := ⟨_, rfl⟩
 obtain ⟨s, z, y, c, hs⟩ : ∃ s z y x, Hid (nS b = s ∧ nZ b = z ∧ Zf 32 b = y ∧ Zf 8 b = x) := ⟨_, _, _, _, rfl, rfl, rfl, rfl⟩
 obtain ⟨d, hd⟩ : ∃ d, Zf 128 v = d := ⟨_, rfl⟩
 have e5 : decide ((128 : Int) ≤ (v : Int)) = d := by
  rw [← hd, Bool.eq_iff_iff, decide_eq_true_eq]; unfold Zf; rw [Nat.beq_eq]; show _ ↔ v / 128 % 2 = 1; omega
 have HG : Hid (Zq s z y k c o d k = r) := by
  show _ = _
  rw [← hr.out]
  unfold Ku
  rw [hk, hd, hs.out.1, hs.out.2.1, hs.out.2.2.1, hs.out.2.2.2, show Jt (Nat.xor b (Nat.mod (Nat.add v m) 8)) = o by show Jt (b ^^^ (v + m) % 8) = o; rw [ht, hj, hx]; exact ho.out]
 clear hr hk ht hj hx hd
 go_enter Tryz.func176, Tryz.ntmps176
 go_wp2_with (first | (refine b7 ?_; clear HM; intro w' g' HM) | refine b8 ?_ | (refine a12 ?_; clear HM; intro w' HM) | (go_at_call 85; (with_reducible refine (Z3 b s z y c hb hs _).mono ?_); rintro e w' ⟨rfl, hbl⟩; have HM' := Zb (HM.out.call hbl); clear HM hbl; have HM := HM'; clear HM') | (go_at_call 104; (with_reducible refine (ZdB x o x1 ho _).mono ?_); rintro e w' ⟨rfl, rfl⟩) | (go_at_call 86; (with_reducible refine (Zs s z y k c o d k r HG _).mono ?_); rintro e w' ⟨rfl, hbl⟩; have HM' := Zb (HM.out.call hbl); clear HM hbl; have HM := HM'; clear HM'))
 go_ret
 exact ⟨rfl, Own.fin HM⟩
end
end Go.Proofs.YtgdeeiimkhjfiaaGreatDoor
