import Derived.Test.YtgdeeiimkhjfiaaGreatDoorV31
import Derived.Deep.QuietTactic
set_option maxRecDepth 100000
set_option maxHeartbeats 6400000
namespace Go.Proofs.YtgdeeiimkhjfiaaGreatDoor
open Go.RowKit
section
variable {W0 w : World} {x b tq n c : Nat} {s : Cs} {ix : Bool} {pg : Int} {l : Zj}
def Zkg (op : Nat) : Nat → Bool := if op = 4 then on4 else if op = 5 then on5 else on6
theorem Zdv (on : Nat → Bool) (a b k : Nat) : Wb on a b (k + 1) = 2 * Wb on a b k + cond (on (a / 2 ^ (7 - k) % 2 + b / 2 ^ (7 - k) % 2)) 1 0 := rfl
theorem k12 {P : Prop} (h : P := by
 go_quiet (fail)
 go_wp2_with fail
 go_meet
 exact ⟨by rw [← HX.out, Int.natCast_add], ⟨HB.out.os, HB.out.tape, HB.out.output, HB.out.size, HB.out.block⟩⟩) : P := h
theorem VF (op : Nat) (hop : op = 4 ∨ op = 5 ∨ op = 6) (a b v g : Nat) (ha : a < 256) (hb : b < 256) (hv : Hid (Wb (Zkg op) a b 8 = v)) (hg : Hid (nBitsF v (Nat.beq op 4) = g)) (w : World) :
  CB 168 #[.int .i64 (op : Int), .int .u8 (a : Int), .int .u8 (b : Int)] w (.tuple #[.int .u8 (v : Int), .int .u8 (g : Int)]) := by
 have ya0 : (a : Int) < 256 := by omega
 have b0 : (b : Int) < 256 := by omega
 clear ha hb
 go_enter Tryz.func168, Tryz.ntmps168
 go_wp2
 go_loopw [8, 9] (fun o i wr => ∃ k m : Nat, k ≤ 8 ∧ i = .int .i64 (7 - (k : Int)) ∧ o = .int .u8 m ∧ Hid (Wb (Zkg op) a b k = m) ∧ Hid (Below w.heap.size w wr)) (fun _ i _ => (intOf i + 1).toNat)
 case atStart => exact ⟨0, 0, by omega, rfl, rfl, rfl, Below.refl _ _⟩
 case round =>
  obtain ⟨k, m, hk, rfl, rfl, HR, HB⟩ := hrel
  by_cases hlt : (k : Int) < 8
  ·have h0 : (0 : Int) ≤ 7 - (k : Int) := by omega
   have HS : Hid (Wb (Zkg op) a b (k + 1) = 2 * m + cond (Zkg op (a / 2 ^ (7 - k) % 2 + b / 2 ^ (7 - k) % 2)) 1 0) := by show _ = _; rw [Zdv, HR.out]
   have hm : (m : Int) < 128 := by
    have h1 := Zdu (Zkg op) a b k
    exact k59
   clear HR
   obtain ⟨A, hA⟩ : ∃ A, a / 2 ^ (7 - k) % 2 = A := ⟨_, rfl⟩
   obtain ⟨B, hB⟩ : ∃ B, b / 2 ^ (7 - k) % 2 = B := ⟨_, rfl⟩
   rw [hA, hB] at HS
   obtain ⟨X, hX⟩ : ∃ X, A + B = X := ⟨_, rfl⟩
   rw [hX] at HS
   have HX := Zb hX
   have A2 : A < 2 := by omega
   have B2 : B < 2 := by omega
   have X2 : (X : Int) ≤ 2 := by omega
   have HA := Zb hA
   have HB' := Zb hB
   clear hA hB hX
   go_wp2_with fail
   go_cut [10] from 16 to 26 (fun s10 wx => s10 = .int .i64 (X : Int) ∧ Hid (Below w.heap.size w wx))
   case first =>
    have hcases : k = 0 ∨ k = 1 ∨ k = 2 ∨ k = 3 ∨ k = 4 ∨ k = 5 ∨ k = 6 ∨ k = 7 := by omega
    rcases hcases with rfl | rfl | rfl | rfl | rfl | rfl | rfl | rfl
    ·simp only [Int.natCast_zero, Int.sub_zero] at h0 hlt ⊢
     have a2 : (a : Int) / 128 % 2 = (A : Int) := by (have h := HA.out; simp at h; omega)
     have b2 : (b : Int) / 128 % 2 = (B : Int) := by (have h := HB'.out; simp at h; omega)
     have a3 : ((a : Int) / 128).tmod 2 = (a : Int) / 128 % 2 := Int.tmod_eq_emod_of_nonneg (by omega)
     have b3 : ((b : Int) / 128).tmod 2 = (b : Int) / 128 % 2 := Int.tmod_eq_emod_of_nonneg (by omega)
     exact k12
    ·simp at h0 hlt ⊢
     have a2 : (a : Int) / 64 % 2 = (A : Int) := by (have h := HA.out; simp at h; omega)
     have b2 : (b : Int) / 64 % 2 = (B : Int) := by (have h := HB'.out; simp at h; omega)
     have a3 : ((a : Int) / 64).tmod 2 = (a : Int) / 64 % 2 := Int.tmod_eq_emod_of_nonneg (by omega)
     have b3 : ((b : Int) / 64).tmod 2 = (b : Int) / 64 % 2 := Int.tmod_eq_emod_of_nonneg (by omega)
     exact k12
    ·simp at h0 hlt ⊢
     have a2 : (a : Int) / 32 % 2 = (A : Int) := by (have h := HA.out; simp at h; omega)
     have b2 : (b : Int) / 32 % 2 = (B : Int) := by (have h := HB'.out; simp at h; omega)
     have a3 : ((a : Int) / 32).tmod 2 = (a : Int) / 32 % 2 := Int.tmod_eq_emod_of_nonneg (by omega)
     have b3 : ((b : Int) / 32).tmod 2 = (b : Int) / 32 % 2 := Int.tmod_eq_emod_of_nonneg (by omega)
     exact k12
    ·simp at h0 hlt ⊢
     have a2 : (a : Int) / 16 % 2 = (A : Int) := by (have h := HA.out; simp at h; omega)
     have b2 : (b : Int) / 16 % 2 = (B : Int) := by (have h := HB'.out; simp at h; omega)
     have a3 : ((a : Int) / 16).tmod 2 = (a : Int) / 16 % 2 := Int.tmod_eq_emod_of_nonneg (by omega)
     have b3 : ((b : Int) / 16).tmod 2 = (b : Int) / 16 % 2 := Int.tmod_eq_emod_of_nonneg (by omega)
     exact k12
    ·simp at h0 hlt ⊢
     have a2 : (a : Int) / 8 % 2 = (A : Int) := by (have h := HA.out; simp at h; omega)
     have b2 : (b : Int) / 8 % 2 = (B : Int) := by (have h := HB'.out; simp at h; omega)
     have a3 : ((a : Int) / 8).tmod 2 = (a : Int) / 8 % 2 := Int.tmod_eq_emod_of_nonneg (by omega)
     have b3 : ((b : Int) / 8).tmod 2 = (b : Int) / 8 % 2 := Int.tmod_eq_emod_of_nonneg (by omega)
     exact k12
    ·simp at h0 hlt ⊢
     have a2 : (a : Int) / 4 % 2 = (A : Int) := by (have h := HA.out; simp at h; omega)
     have b2 : (b : Int) / 4 % 2 = (B : Int) := by (have h := HB'.out; simp at h; omega)
     have a3 : ((a : Int) / 4).tmod 2 = (a : Int) / 4 % 2 := Int.tmod_eq_emod_of_nonneg (by omega)
     have b3 : ((b : Int) / 4).tmod 2 = (b : Int) / 4 % 2 := Int.tmod_eq_emod_of_nonneg (by omega)
     exact k12
    ·simp at h0 hlt ⊢
     have a2 : (a : Int) / 2 % 2 = (A : Int) := by (have h := HA.out; simp at h; omega)
     have b2 : (b : Int) / 2 % 2 = (B : Int) := by (have h := HB'.out; simp at h; omega)
     have a3 : ((a : Int) / 2).tmod 2 = (a : Int) / 2 % 2 := Int.tmod_eq_emod_of_nonneg (by omega)
     have b3 : ((b : Int) / 2).tmod 2 = (b : Int) / 2 % 2 := Int.tmod_eq_emod_of_nonneg (by omega)
     exact k12
    ·simp at h0 hlt ⊢
     have a2 : (a : Int) % 2 = (A : Int) := by (have h := HA.out; simp at h; omega)
     have b2 : (b : Int) % 2 = (B : Int) := by (have h := HB'.out; simp at h; omega)
     have a3 : ((a : Int)).tmod 2 = (a : Int) % 2 := Int.tmod_eq_emod_of_nonneg (by omega)
     have b3 : ((b : Int)).tmod 2 = (b : Int) % 2 := Int.tmod_eq_emod_of_nonneg (by omega)
     exact k12
   case rest =>
    obtain ⟨rfl, HB2⟩ := hcut
    clear HB HX HA HB' A2 B2
    have hX : X = 0 ∨ X = 1 ∨ X = 2 := by omega
    rcases hop with rfl | rfl | rfl
    all_goals rcases hX with rfl | rfl | rfl
    all_goals
     first
      | have HS3 : Hid (Wb _ a b (k + 1) = 2 * m + 1) := HS
      | have HS3 : Hid (Wb _ a b (k + 1) = 2 * m) := HS
     clear HS
     go_wp2
     go_roundw
     case' rel => refine ⟨k + 1, _, by omega, by go_num, ?_, HS3.out, HB2⟩
     case' measure => simp [intOf]; omega
     first | (rw [Int.natCast_add, Int.natCast_mul]; rfl) | (rw [Int.natCast_mul]; rfl)
  ·have e8 : k = 8 := by omega
   have e : m = v := by rw [← HR.out, e8]; exact hv.out
   subst e
   have HM := Zb (show Own w wr [] from ⟨HB.out, by simp, .nil⟩)
   have m1 : m < 256 := by
    have h := Zdu (Zkg op) a b 8
    rw [hv.out] at h
    exact h
   obtain ⟨s, z, y, x, hs⟩ : ∃ s z y x, Hid (nS m = s ∧ nZ m = z ∧ Zf 32 m = y ∧ Zf 8 m = x) := ⟨_, _, _, _, rfl, rfl, rfl, rfl⟩
   obtain ⟨p, hp⟩ : ∃ p, Hid (Jt m = p) := ⟨_, rfl⟩
   have h4 : ((op : Int) == 4) = Nat.beq op 4 := ZeL op 4
   obtain ⟨H, hH⟩ : ∃ H, Nat.beq op 4 = H := ⟨_, rfl⟩
   rw [hH] at h4 hg
   have HG : Hid (Zq s z y H x p false false = g) := by
    show _ = _
    obtain ⟨rfl, rfl, rfl, rfl⟩ := hs.out
    rw [← hg.out, ← hp.out]; rfl
   clear hH HR hv hg hop HB hk e8
   go_wp2_with (first | (refine b7 ?_; clear HM; intro w' g' HM) | refine b8 ?_ | (refine a12 ?_; clear HM; intro w' HM) | (go_at_call 85; (with_reducible refine (Z3 m s z y x m1 hs _).mono ?_); rintro e w' ⟨rfl, hb⟩; replace HM := Zb (HM.out.call hb); clear hb) | (go_at_call 104; (with_reducible refine (JF m p m1 hp _).mono ?_); rintro e w' ⟨rfl, rfl⟩) | (go_at_call 86; (with_reducible refine (Zs s z y H x p false false g HG _).mono ?_); rintro e w' ⟨rfl, hb⟩; replace HM := Zb (HM.out.call hb); clear hb))
   go_ret2
   exact ⟨Yk rfl rfl, Own.fin HM⟩
theorem VG (op : Nat) (a b v g : Nat) (ha : a < 256) (hb : b < 256) (w : World)
  (h : (op = 4 ∧ a &&& b = v ∧ nBitsF v true = g) ∨ (op = 5 ∧ a ^^^ b = v ∧ nBitsF v false = g) ∨ (op = 6 ∧ a ||| b = v ∧ nBitsF v false = g)) :
  CB 168 #[.int .i64 (op : Int), .int .u8 (a : Int), .int .u8 (b : Int)] w (.tuple #[.int .u8 (v : Int), .int .u8 (g : Int)]) := by
 rcases h with ⟨rfl, h1, h2⟩ | ⟨rfl, h1, h2⟩ | ⟨rfl, h1, h2⟩
 ·exact VF 4 (by omega) a b v g ha hb (by show _ = _; rw [← h1]; exact log4 a b ha hb) h2 w
 ·exact VF 5 (by omega) a b v g ha hb (by show _ = _; rw [← h1]; exact log5 a b ha hb) h2 w
 ·exact VF 6 (by omega) a b v g ha hb (by show _ = _; rw [← h1]; exact log6 a b ha hb) h2 w
theorem tmod8 (op : Int) (k : Nat) (h : op % 8 = (k : Int)) : op.tmod 8 = (k : Int) ∨ (op.tmod 8 = (k : Int) - 8 ∧ (k : Int) ≠ 0) := by
 rw [Int.tmod_eq_emod, h]
 split
 ·left; simp
 ·rename_i hn
  right
  refine ⟨rfl, fun h0 => hn (.inr (Int.dvd_of_emod_eq_zero (by omega)))⟩
theorem Zdw (op : Int) (k a b f v g : Nat) (hk : op % 8 = (k : Int)) (ha : a < 256) (hb : b < 256) (hf : f < 256) (hv : Hid (Zeb k a b f = v)) (hg : Hid (Zec k a b f = g)) (w : World) :
  CB 97 #[.int .i64 op, .int .u8 (a : Int), .int .u8 (b : Int), .int .u8 (f : Int)] w (.tuple #[.int .u8 (v : Int), .int .u8 (g : Int)]) := by
 have HM := Zb (Own.start w)
 have ht := tmod8 op k hk
 have hc : k = 0 ∨ k = 1 ∨ k = 2 ∨ k = 3 ∨ k = 4 ∨ k = 5 ∨ k = 6 ∨ k = 7 := by omega
 clear hk
 have q1 : ((f : Int) % 2 == 1) = Zf 1 f := ZS f 1 _ (by omega)
 unfold Zeb at hv
 unfold Zec at hg
 obtain ⟨c, hcc⟩ : ∃ c, Zf 1 f = c := ⟨_, rfl⟩
 rw [hcc] at q1 hv hg
 clear hcc
 have f0 : (f : Int) < 256 := by omega
 clear hf
 rcases hc with rfl | rfl | rfl | rfl | rfl | rfl | rfl | rfl
 ·have hv' : Hid (Yw a b (Bool.toNat false) = v) := hv
  have hg' : Hid (Yp a b (Bool.toNat false) = g) := hg
  clear hv hg
  have ht' : op.tmod 8 = 0 := by omega
  clear ht
  have ht := ht'
  clear ht'
  go_enter Tryz.func97, Tryz.ntmps97
  go_wp2_with (go_at_call 163; refine (jI a b false v g ha hb hv' hg' _).mono ?_; rintro e w' ⟨rfl, hbl⟩; have HM' := Zb (HM.out.call hbl); clear HM hbl; have HM := HM'; clear HM')
  go_ret2
  exact ⟨Yk rfl rfl, Own.fin HM⟩
 ·have hv' : Hid (Yw a b (Bool.toNat c) = v) := hv
  have hg' : Hid (Yp a b (Bool.toNat c) = g) := hg
  clear hv hg
  have ht' : op.tmod 8 = 1 ∨ op.tmod 8 = -7 := by omega
  clear ht
  rcases ht' with ht | ht
  all_goals
   go_enter Tryz.func97, Tryz.ntmps97
   go_wp2_with (go_at_call 163; refine (jI a b c v g ha hb hv' hg' _).mono ?_; rintro e w' ⟨rfl, hbl⟩; have HM' := Zb (HM.out.call hbl); clear HM hbl; have HM := HM'; clear HM')
   go_ret2
   exact ⟨Yk rfl rfl, Own.fin HM⟩
 ·have hv' : Hid (ZY a b (Bool.toNat false) = v) := hv
  have hg' : Hid (ZU a b (Bool.toNat false) = g) := hg
  clear hv hg
  have ht' : op.tmod 8 = 2 ∨ op.tmod 8 = -6 := by omega
  clear ht
  rcases ht' with ht | ht
  all_goals
   go_enter Tryz.func97, Tryz.ntmps97
   go_wp2_with (go_at_call 108; refine (JQ a b false v g ha hb hv' hg' _).mono ?_; rintro e w' ⟨rfl, hbl⟩; have HM' := Zb (HM.out.call hbl); clear HM hbl; have HM := HM'; clear HM')
   go_ret2
   exact ⟨Yk rfl rfl, Own.fin HM⟩
 ·have hv' : Hid (ZY a b (Bool.toNat c) = v) := hv
  have hg' : Hid (ZU a b (Bool.toNat c) = g) := hg
  clear hv hg
  have ht' : op.tmod 8 = 3 ∨ op.tmod 8 = -5 := by omega
  clear ht
  rcases ht' with ht | ht
  all_goals
   go_enter Tryz.func97, Tryz.ntmps97
   go_wp2_with (go_at_call 108; refine (JQ a b c v g ha hb hv' hg' _).mono ?_; rintro e w' ⟨rfl, hbl⟩; have HM' := Zb (HM.out.call hbl); clear HM hbl; have HM := HM'; clear HM')
   go_ret2
   exact ⟨Yk rfl rfl, Own.fin HM⟩
 ·have hl : a &&& b = v ∧ nBitsF v true = g := by
   have h1 : a &&& b = v := hv
   refine ⟨h1, ?_⟩
   rw [← h1]; exact hg
  have hl2 := Zb hl
  clear hv hg hl
  have ht' : op.tmod 8 = 4 ∨ op.tmod 8 = -4 := by omega
  clear ht
  rcases ht' with ht | ht
  all_goals
   go_enter Tryz.func97, Tryz.ntmps97
   go_wp2_with (go_at_call 168; refine (VG 4 a b v g ha hb _ (.inl ⟨rfl, hl2.out⟩)).mono ?_; rintro e w' ⟨rfl, hbl⟩; have HM' := Zb (HM.out.call hbl); clear HM hbl; have HM := HM'; clear HM')
   go_ret2
   exact ⟨Yk rfl rfl, Own.fin HM⟩
 ·have hl : a ^^^ b = v ∧ nBitsF v false = g := by
   have h1 : a ^^^ b = v := hv
   refine ⟨h1, ?_⟩
   rw [← h1]; exact hg
  have hl2 := Zb hl
  clear hv hg hl
  have ht' : op.tmod 8 = 5 ∨ op.tmod 8 = -3 := by omega
  clear ht
  rcases ht' with ht | ht
  all_goals
   go_enter Tryz.func97, Tryz.ntmps97
   go_wp2_with (go_at_call 168; refine (VG 5 a b v g ha hb _ (.inr (.inl ⟨rfl, hl2.out⟩))).mono ?_; rintro e w' ⟨rfl, hbl⟩; have HM' := Zb (HM.out.call hbl); clear HM hbl; have HM := HM'; clear HM')
   go_ret2
   exact ⟨Yk rfl rfl, Own.fin HM⟩
 ·have hl : a ||| b = v ∧ nBitsF v false = g := by
   have h1 : a ||| b = v := hv
   refine ⟨h1, ?_⟩
   rw [← h1]; exact hg
  have hl2 := Zb hl
  clear hv hg hl
  have ht' : op.tmod 8 = 6 ∨ op.tmod 8 = -2 := by omega
  clear ht
  rcases ht' with ht | ht
  all_goals
   go_enter Tryz.func97, Tryz.ntmps97
   go_wp2_with (go_at_call 168; refine (VG 6 a b v g ha hb _ (.inr (.inr ⟨rfl, hl2.out⟩))).mono ?_; rintro e w' ⟨rfl, hbl⟩; have HM' := Zb (HM.out.call hbl); clear HM hbl; have HM := HM'; clear HM')
   go_ret2
   exact ⟨Yk rfl rfl, Own.fin HM⟩
 ·have hv' : Hid (a = v) := hv
  have hg' : Hid (ZgY a b = g) := hg
  clear hv hg
  have ht' : op.tmod 8 = 7 ∨ op.tmod 8 = -1 := by omega
  clear ht
  rcases ht' with ht | ht
  all_goals
   go_enter Tryz.func97, Tryz.ntmps97
   go_wp2_with (go_at_call 167; refine (jL a b g ha hb hg' _).mono ?_; rintro e w' ⟨rfl, hbl⟩; have HM' := Zb (HM.out.call hbl); clear HM hbl; have HM := HM'; clear HM')
   go_ret2
   exact ⟨Yk (by rw [hv'.out]) rfl, Own.fin HM⟩
theorem yZ (a L H v : Nat) (h : (a + L + H) % 256 = v) : ((a : Int) + (L : Int) + (H : Int) + 512).tmod 256 = (v : Int) := by
 rw [Int.tmod_eq_emod_of_nonneg (by omega)]; omega
theorem Vd (a L H v : Nat) (hL : L ≤ 6) (hH : H ≤ 96) (h : (a + 512 - (L + H)) % 256 = v) : ((a : Int) - (L : Int) - (H : Int) + 512).tmod 256 = (v : Int) := by
 rw [Int.tmod_eq_emod_of_nonneg (by omega)]; omega
theorem ZaU (a f : Nat) : (Zf 16 f = true ∧ Zbf a f = true) ∨ (Zf 16 f = false ∧ (9 : Int) < (a : Int) % 16 ∧ Zbf a f = true) ∨ (Zf 16 f = false ∧ (a : Int) % 16 ≤ 9 ∧ Zbf a f = false) := by
 unfold Zbf
 cases h : Zf 16 f
 ·right
  rw [Bool.false_or]
  by_cases h : a % 16 ≤ 9
  ·right
   refine ⟨rfl, by omega, ?_⟩
   rw [← Bool.not_eq_true, Nat.ble_eq]; show ¬ (10 ≤ a % 16); omega
  ·left
   refine ⟨rfl, by omega, ?_⟩
   rw [Nat.ble_eq]; show 10 ≤ a % 16; omega
 ·left
  exact ⟨rfl, by rw [Bool.true_or]⟩
theorem jO (a f : Nat) : (Zf 1 f = true ∧ Kp a f = true) ∨ (Zf 1 f = false ∧ (153 : Int) < (a : Int) ∧ Kp a f = true) ∨ (Zf 1 f = false ∧ (a : Int) ≤ 153 ∧ Kp a f = false) := by
 unfold Kp
 cases h : Zf 1 f
 ·right
  rw [Bool.false_or]
  by_cases h : a ≤ 153
  ·right
   refine ⟨rfl, by omega, ?_⟩
   rw [← Bool.not_eq_true, Nat.ble_eq]; omega
  ·left
   refine ⟨rfl, by omega, ?_⟩
   rw [Nat.ble_eq]; omega
 ·left
  exact ⟨rfl, by rw [Bool.true_or]⟩
theorem Zdx (a f v g : Nat) (ha : a < 256) (hf : f < 256) (hv : Hid (KS a f = v)) (hg : Hid (Um a f = g)) (w : World) :
  CB 112 #[.int .u8 (a : Int), .int .u8 (f : Int)] w (.tuple #[.int .u8 (v : Int), .int .u8 (g : Int)]) := by
 have HM := Zb (Own.start w)
 have v1 : v < 256 := by
  rw [← hv.out]; unfold KS; cases Zf 2 f <;> exact Nat.mod_lt _ (by omega)
 have h16a : (a : Int).tmod 16 = (a : Int) % 16 := Int.tmod_eq_emod_of_nonneg (by omega)
 obtain ⟨o128, o64, o32, h, o8, o4, n, c, ho⟩ : ∃ s z y h x p n c, Hid (Zf 128 f = s ∧ Zf 64 f = z ∧ Zf 32 f = y ∧ Zf 16 f = h ∧ Zf 8 f = x ∧ Zf 4 f = p ∧ Zf 2 f = n ∧ Zf 1 f = c) := ⟨_, _, _, _, _, _, _, _, rfl, rfl, rfl, rfl, rfl, rfl, rfl, rfl⟩
 obtain ⟨-, -, -, e16, -, -, e2, e1⟩ := ho.out
 obtain ⟨s, z, y, x, hs⟩ : ∃ s z y x, Hid (nS v = s ∧ nZ v = z ∧ Zf 32 v = y ∧ Zf 8 v = x) := ⟨_, _, _, _, rfl, rfl, rfl, rfl⟩
 obtain ⟨p, hp⟩ : ∃ p, Hid (Jt v = p) := ⟨_, rfl⟩
 obtain ⟨hi, hhi⟩ : ∃ hi, Kp a f = hi := ⟨_, rfl⟩
 obtain ⟨lo, hlo⟩ : ∃ lo, Zbf a f = lo := ⟨_, rfl⟩
 have KEY : Hid (∀ B : Bool, (B = true ↔ ¬ (a : Int) / 16 % 2 = (v : Int) / 16 % 2) → Hid (Zq s z y B x p n hi = g)) := by
  intro B hB
  show _ = _
  rw [← hg.out]
  unfold Um Zbg
  rw [hv.out, hs.out.1, hs.out.2.1, hs.out.2.2.1, hs.out.2.2.2, hp.out, e2, hhi]
  have e : B = xor (Zf 16 a) (Zf 16 v) := by
   rw [Bool.eq_iff_iff, hB]
   rw [← ZS a 16 ((a : Int) / 16 % 2) (by omega), ← ZS v 16 ((v : Int) / 16 % 2) (by omega)]
   have h1 : (a : Int) / 16 % 2 = 0 ∨ (a : Int) / 16 % 2 = 1 := by omega
   have h2 : (v : Int) / 16 % 2 = 0 ∨ (v : Int) / 16 % 2 = 1 := by omega
   rcases h1 with h1 | h1 <;> rcases h2 with h2 | h2 <;> rw [h1, h2] <;> decide
  rw [e]
 have hV := hv.out
 unfold KS at hV
 have c1 := ZaU a f
 have c2 := jO a f
 rw [e16, hlo] at c1
 rw [e1, hhi] at c2
 rw [e2, hlo, hhi] at hV
 clear hv hg e16 e2 e1 hhi hlo
 rcases c1 with ⟨rfl, rfl⟩ | ⟨rfl, l2, rfl⟩ | ⟨rfl, l2, rfl⟩
 all_goals rcases c2 with ⟨rfl, rfl⟩ | ⟨rfl, k2, rfl⟩ | ⟨rfl, k2, rfl⟩
 all_goals cases n
 all_goals
  first
   | have hv2 := yZ a 6 96 v hV
   | have hv2 := yZ a 6 0 v hV
   | have hv2 := yZ a 0 96 v hV
   | have hv2 := yZ a 0 0 v hV
   | have hv2 := Vd a 6 96 v (by omega) (by omega) hV
   | have hv2 := Vd a 6 0 v (by omega) (by omega) hV
   | have hv2 := Vd a 0 96 v (by omega) (by omega) hV
   | have hv2 := Vd a 0 0 v (by omega) (by omega) hV
  simp only [Int.cast_ofNat_Int, Int.add_zero, Int.sub_zero] at hv2
  clear hV
  go_enter Tryz.func112, Tryz.ntmps112
  go_wp2_with (first | (refine b7 ?_; clear HM; intro w' g' HM) | refine b8 ?_ | (refine a12 ?_; clear HM; intro w' HM) | (go_at_call 164; (with_reducible refine (zj f o128 o64 o32 _ o8 o4 _ _ hf ho _).mono ?_); rintro e w' ⟨rfl, hb⟩; replace HM := Zb (HM.out.call hb); clear hb) | (go_at_call 85; (with_reducible refine (Z3 v s z y x v1 hs _).mono ?_); rintro e w' ⟨rfl, hb⟩; replace HM := Zb (HM.out.call hb); clear hb) | (go_at_call 104; (with_reducible refine (JF v p v1 hp _).mono ?_); rintro e w' ⟨rfl, rfl⟩) | (go_at_call 86; (with_reducible refine (Zs s z y _ x p _ _ g (KEY.out _ (by simp)) _).mono ?_); rintro e w' ⟨rfl, hb⟩; replace HM := Zb (HM.out.call hb); clear hb))
  go_ret2
  exact ⟨Yk rfl rfl, Own.fin HM⟩
theorem k57 {P : Prop} (h : P := by
 show _ = _
 obtain ⟨rfl, rfl, rfl, rfl, rfl, rfl, rfl, rfl⟩ := ho.out
 rw [← hg.out, ← hy, ← hx]; rfl) : P := h
theorem JG (op : Int) (a f v g : Nat) (ha : a < 256) (hf : f < 256) (hv : Hid (KT op a = v)) (hg : Hid (Vk op a f = g)) (w : World) :
  CB 113 #[.int .i64 op, .int .u8 (a : Int), .int .u8 (f : Int)] w (.tuple #[.int .u8 (v : Int), .int .u8 (g : Int)]) := by
 have HM := Zb (Own.start w)
 have v1 : v < 256 := by rw [← hv.out]; unfold KT; split <;> omega
 obtain ⟨s, z, y, h, x, p, n, c, ho⟩ : ∃ s z y h x p n c, Hid (Zf 128 f = s ∧ Zf 64 f = z ∧ Zf 32 f = y ∧ Zf 16 f = h ∧ Zf 8 f = x ∧ Zf 4 f = p ∧ Zf 2 f = n ∧ Zf 1 f = c) := ⟨_, _, _, _, _, _, _, _, rfl, rfl, rfl, rfl, rfl, rfl, rfl, rfl⟩
 have q32 : ((v : Int) / 32 % 2 == 1) = Zf 32 v := ZS v 32 _ (by omega)
 have q8 : ((v : Int) / 8 % 2 == 1) = Zf 8 v := ZS v 8 _ (by omega)
 obtain ⟨y', hy⟩ : ∃ y', Zf 32 v = y' := ⟨_, rfl⟩
 obtain ⟨x', hx⟩ : ∃ x', Zf 8 v = x' := ⟨_, rfl⟩
 rw [hy] at q32
 rw [hx] at q8
 have hc : op = 0 ∨ op = 1 ∨ op = 2 ∨ (op ≠ 0 ∧ op ≠ 1 ∧ op ≠ 2) := by omega
 rcases hc with rfl | rfl | rfl | ⟨h0, h1, h2⟩
 ·have HV : 255 - a = v := hv
  have HG : Hid (Zq s z y' true x' p true c = g) := by
   show _ = _
   obtain ⟨rfl, rfl, rfl, rfl, rfl, rfl, rfl, rfl⟩ := ho.out
   rw [← hg.out, ← hy, ← hx, ← HV]; rfl
  have hv2 : (255 : Int) - (a : Int) = (v : Int) := by omega
  clear hg hv hy hx HV
  go_enter Tryz.func113, Tryz.ntmps113
  go_wp2_with (first | (refine b7 ?_; clear HM; intro w' g' HM) | refine b8 ?_ | (refine a12 ?_; clear HM; intro w' HM) | (go_at_call 164; (with_reducible refine (zj f s z y h x p n c hf ho _).mono ?_); rintro e w' ⟨rfl, hb⟩; replace HM := Zb (HM.out.call hb); clear hb) | (go_at_call 86; (with_reducible refine (Zs s z y' true x' p true c g HG _).mono ?_); rintro e w' ⟨rfl, hb⟩; replace HM := Zb (HM.out.call hb); clear hb))
  go_ret2
  exact ⟨Yk rfl rfl, Own.fin HM⟩
 ·have HV : a = v := hv
  subst HV
  have HG : Hid (Zq s z y' false x' p false true = g) := by
   exact k57
  clear hg hv hy hx
  go_enter Tryz.func113, Tryz.ntmps113
  go_wp2_with (first | (refine b7 ?_; clear HM; intro w' g' HM) | refine b8 ?_ | (refine a12 ?_; clear HM; intro w' HM) | (go_at_call 164; (with_reducible refine (zj f s z y h x p n c hf ho _).mono ?_); rintro e w' ⟨rfl, hb⟩; replace HM := Zb (HM.out.call hb); clear hb) | (go_at_call 86; (with_reducible refine (Zs s z y' false x' p false true g HG _).mono ?_); rintro e w' ⟨rfl, hb⟩; replace HM := Zb (HM.out.call hb); clear hb))
  go_ret2
  exact ⟨Yk rfl rfl, Own.fin HM⟩
 ·have HV : a = v := hv
  subst HV
  have HG : Hid (Zq s z y' c x' p false (!c) = g) := by
   exact k57
  clear hg hv hy hx
  go_enter Tryz.func113, Tryz.ntmps113
  go_wp2_with (first | (refine b7 ?_; clear HM; intro w' g' HM) | refine b8 ?_ | (refine a12 ?_; clear HM; intro w' HM) | (go_at_call 164; (with_reducible refine (zj f s z y h x p n c hf ho _).mono ?_); rintro e w' ⟨rfl, hb⟩; replace HM := Zb (HM.out.call hb); clear hb) | (go_at_call 86; (with_reducible refine (Zs s z y' c x' p false (!c) g HG _).mono ?_); rintro e w' ⟨rfl, hb⟩; replace HM := Zb (HM.out.call hb); clear hb))
  go_ret2
  exact ⟨Yk rfl rfl, Own.fin HM⟩
 ·have HV : a = v := by rw [← hv.out]; unfold KT; rw [if_neg h0]
  have HG : f = g := by rw [← hg.out]; unfold Vk; rw [if_neg h0, if_neg h1, if_neg h2]
  subst HV HG
  have b0 : (op == 0) = false := by simpa using h0
  have b1 : (op == 1) = false := by simpa using h1
  have b2 : (op == 2) = false := by simpa using h2
  clear hg hv hy hx h0 h1 h2
  go_enter Tryz.func113, Tryz.ntmps113
  go_wp2_with (first | (refine b7 ?_; clear HM; intro w' g' HM) | refine b8 ?_ | (refine a12 ?_; clear HM; intro w' HM) | (go_at_call 164; (with_reducible refine (zj f s z y h x p n c hf ho _).mono ?_); rintro e w' ⟨rfl, hb⟩; replace HM := Zb (HM.out.call hb); clear hb))
  go_ret2
  exact ⟨Yk rfl rfl, Own.fin HM⟩
theorem va {a b : Int} {v f : Nat} (h : a = (v : Int)) (h' : b = (f : Int)) : (Ending.returned (.tuple #[.int .u8 a, .int .u8 b]) : Ending) = .returned (.tuple #[.int .u8 (v : Int), .int .u8 (f : Int)]) := by rw [h, h']
theorem Zfw {a : Int} {v : Nat} {b c : Bool} (h : a = (v : Int)) (h' : b = c) : (Ending.returned (.tuple #[.int .u8 a, .bool b]) : Ending) = .returned (.tuple #[.int .u8 (v : Int), .bool c]) := by rw [h, h']
theorem vb (n d : Int) (k : Nat) (hd : 0 < d) (h : n % d = (k : Int)) : n.tmod d = (k : Int) ∨ (n.tmod d = (k : Int) - d ∧ (k : Int) < d) := by
 rw [Int.tmod_eq_emod, h]
 split
 ·left; simp
 ·right
  refine ⟨by rw [Int.natAbs_of_nonneg (by omega)], ?_⟩
  rw [← h]; exact Int.emod_lt_of_pos _ hd
theorem k44 {P : Prop} (h : P := by
 go_enter Tryz.func169, Tryz.ntmps169
 go_wp2
 go_ret
 exact ⟨rfl, rfl⟩) : P := h
theorem ZA (n : Int) (k : Nat) (hk : n % 8 = (k : Int)) (w : World) :
  CW 169 #[.int .i64 n, .int .i64 8] w (.int .i64 (k : Int)) := by
 have k0 : (k : Int) < 8 := by omega
 rcases vb n 8 k (by omega) hk with h | ⟨h, h2⟩
 ·clear hk
  exact k44
 ·clear hk
  have e : (k : Int) - 8 + 8 = (k : Int) := by omega
  exact k44
theorem ZiU (n : Int) (k : Nat) (hk : n % 4 = (k : Int)) (w : World) :
  CW 169 #[.int .i64 n, .int .i64 4] w (.int .i64 (k : Int)) := by
 have k0 : (k : Int) < 4 := by omega
 rcases vb n 4 k (by omega) hk with h | ⟨h, h2⟩
 ·clear hk
  exact k44
 ·clear hk
  have e : (k : Int) - 4 + 4 = (k : Int) := by omega
  exact k44
theorem Zfx (t : Nat) (q : Int) (h : q = (t : Int)) (b : Bool) (hb : Nat.beq t 1 = b) : (q == 1) = b := by
 rw [← hb, Bool.eq_iff_iff, beq_iff_eq, Nat.beq_eq]; omega
theorem k13 {P : Prop} (h : P := by
 clear hr ho
 go_enter Tryz.func170, Tryz.ntmps170
 go_wp2
 go_ret2
 exact ⟨Zfw (by have := h1.out; omega) (Zfx _ _ (by omega) _ h2.out), rfl⟩) : P := h
theorem vc (k v f c r : Nat) (o : Bool) (hk : k < 8) (hv : v < 256) (hf : f < 256) (hc : Hid (f % 2 = c)) (hr : Hid (tV k v c = r)) (ho : Hid (Nat.beq (tO k v) 1 = o)) (w : World) :
  CW 170 #[.int .i64 (k : Int), .int .u8 (v : Int), .int .u8 (f : Int)] w (.tuple #[.int .u8 (r : Int), .bool o]) := by
 have hc8 : k = 0 ∨ k = 1 ∨ k = 2 ∨ k = 3 ∨ k = 4 ∨ k = 5 ∨ k = 6 ∨ k = 7 := by omega
 have hc2 : (f : Int) % 2 = (c : Int) := by have := hc.out; omega
 have c1 : (c : Int) ≤ 1 := by omega
 clear hk hc
 rcases hc8 with rfl | rfl | rfl | rfl | rfl | rfl | rfl | rfl
 ·have h1 : Hid (v * 2 % 256 + v / 128 = r) := hr
  have h2 : Hid (Nat.beq (v / 128) 1 = o) := ho
  exact k13
 ·have h1 : Hid (v / 2 + 128 * (v % 2) = r) := hr
  have h2 : Hid (Nat.beq (v % 2) 1 = o) := ho
  exact k13
 ·have h1 : Hid (v * 2 % 256 + c = r) := hr
  have h2 : Hid (Nat.beq (v / 128) 1 = o) := ho
  exact k13
 ·have h1 : Hid (v / 2 + 128 * c = r) := hr
  have h2 : Hid (Nat.beq (v % 2) 1 = o) := ho
  exact k13
 ·have h1 : Hid (v * 2 % 256 + 0 = r) := hr
  have h2 : Hid (Nat.beq (v / 128) 1 = o) := ho
  exact k13
 ·have h1 : Hid (v / 2 + 128 * (v / 128) = r) := hr
  have h2 : Hid (Nat.beq (v % 2) 1 = o) := ho
  exact k13
 ·have h1 : Hid (v * 2 % 256 + 1 = r) := hr
  have h2 : Hid (Nat.beq (v / 128) 1 = o) := ho
  exact k13
 ·have h1 : Hid (v / 2 + 128 * 0 = r) := hr
  have h2 : Hid (Nat.beq (v % 2) 1 = o) := ho
  exact k13
theorem vd (v : Nat) (s z y x p c : Bool) (h : v < 256) (hs : Hid (nS v = s ∧ nZ v = z ∧ Zf 32 v = y ∧ Zf 8 v = x)) (hp : Hid (Jt v = p)) (w : World) :
  CB 171 #[.int .u8 (v : Int), .bool c] w (.agg #[.bool s, .bool z, .bool y, .bool false, .bool x, .bool p, .bool false, .bool c]) := by
 have HM := Zb (Own.start w)
 go_enter Tryz.func171, Tryz.ntmps171
 go_wp2_with (first | (refine b7 ?_; clear HM; intro w' g' HM) | refine b8 ?_ | (refine a12 ?_; clear HM; intro w' HM) | (go_at_call 85; (with_reducible refine (Z3 v s z y x h hs _).mono ?_); rintro e w' ⟨rfl, hb⟩; replace HM := Zb (HM.out.call hb); clear hb) | (go_at_call 104; (with_reducible refine (JS v h _).mono ?_); rintro e w' ⟨rfl, rfl⟩; rw [hp.out]))
 refine bodyPost_ret (v := .agg #[.bool _, .bool _, .bool _, .bool _, .bool _, .bool _, .bool _, .bool _]) (Zi HM Tryz.results171 _ rfl (by first | exact .z | exact .s .z) aggF) rfl ⟨?_, Own.fin HM⟩
 exact Vb rfl rfl rfl rfl rfl rfl rfl rfl
theorem ZiV (op : Int) (k v f c r g : Nat) (hk : op % 8 = (k : Int)) (hv : v < 256) (hf : f < 256) (hc : Hid (f % 2 = c)) (hr : Hid (tV k v c = r)) (hg : Hid (Yl k v c = g)) (w : World) :
  CB 107 #[.int .i64 op, .int .u8 (v : Int), .int .u8 (f : Int)] w (.tuple #[.int .u8 (r : Int), .int .u8 (g : Int)]) := by
 have k1 : k < 8 := by omega
 have c1 : c ≤ 1 := by have := hc.out; omega
 have r1 : r < 256 := by rw [← hr.out]; exact JL k v c hv c1
 obtain ⟨o, ho⟩ : ∃ o, Hid (Nat.beq (tO k v) 1 = o) := ⟨_, rfl⟩
 obtain ⟨s, z, y, x, hs⟩ : ∃ s z y x, Hid (nS r = s ∧ nZ r = z ∧ Zf 32 r = y ∧ Zf 8 r = x) := ⟨_, _, _, _, rfl, rfl, rfl, rfl⟩
 obtain ⟨p, hp⟩ : ∃ p, Hid (Jt r = p) := ⟨_, rfl⟩
 have HG : Hid (Zq s z y false x p false o = g) := by
  show _ = _
  rw [← hg.out]
  unfold Yl We
  rw [hr.out, ho.out, hp.out, hs.out.1, hs.out.2.1, hs.out.2.2.1, hs.out.2.2.2]
 have HM := Zb (Own.start w)
 clear hg
 go_enter Tryz.func107, Tryz.ntmps107
 go_wp2_with (first | (go_at_call 169; (with_reducible refine (ZA op k hk _).mono ?_); rintro e w' ⟨rfl, rfl⟩) | (go_at_call 170; (with_reducible refine (vc k v f c r o k1 hv hf hc hr ho _).mono ?_); rintro e w' ⟨rfl, rfl⟩) | (go_at_call 171; (with_reducible refine (vd r s z y x p o r1 hs hp _).mono ?_); rintro e w' ⟨rfl, hb⟩; replace HM := Zb (HM.out.call hb); clear hb) | (go_at_call 86; (with_reducible refine (Zs s z y false x p false o g HG _).mono ?_); rintro e w' ⟨rfl, hb⟩; replace HM := Zb (HM.out.call hb); clear hb))
 go_ret2
 exact ⟨va rfl rfl, Own.fin HM⟩
theorem ZlB (f : Nat) (b7 b6 b5 b4 b3 b2 b1 b0 : Bool) (h : f < 256) (hr : Hid (Zf 128 f = b7 ∧ Zf 64 f = b6 ∧ Zf 32 f = b5 ∧ Zf 16 f = b4 ∧ Zf 8 f = b3 ∧ Zf 4 f = b2 ∧ Zf 2 f = b1 ∧ Zf 1 f = b0)) (w : World) :
  Calls Tryz.prog 164 #[.int .u8 (f : Int)] w fun e w' =>
  e = .returned (.agg #[.bool b7, .bool b6, .bool b5, .bool b4, .bool b3, .bool b2, .bool b1, .bool b0]) ∧ Below w.heap.size w w' := by
 obtain ⟨rfl, rfl, rfl, rfl, rfl, rfl, rfl, rfl⟩ := hr.out; exact WA f h w
theorem YD (op : Int) (k v f c r g : Nat) (hk : op % 4 = (k : Int)) (hv : v < 256) (hf : f < 256) (hc : Hid (f % 2 = c)) (hr : Hid (tV k v c = r)) (hg : Hid (Yj k v c f = g)) (w : World) :
  CB 111 #[.int .i64 op, .int .u8 (v : Int), .int .u8 (f : Int)] w (.tuple #[.int .u8 (r : Int), .int .u8 (g : Int)]) := by
 have k1 : k < 8 := by omega
 have c1 : c ≤ 1 := by have := hc.out; omega
 have r1 : r < 256 := by rw [← hr.out]; exact JL k v c hv c1
 obtain ⟨o, ho⟩ : ∃ o, Hid (Nat.beq (tO k v) 1 = o) := ⟨_, rfl⟩
 obtain ⟨s, z, y, x, hs⟩ : ∃ s z y x, Hid (nS r = s ∧ nZ r = z ∧ Zf 32 r = y ∧ Zf 8 r = x) := ⟨_, _, _, _, rfl, rfl, rfl, rfl⟩
 obtain ⟨yb7, b6, b5, b4, b3, b2, b1, b0, hb⟩ : ∃ s z b5 b4 b3 p b1 b0, Hid (Zf 128 f = s ∧ Zf 64 f = z ∧ Zf 32 f = b5 ∧ Zf 16 f = b4 ∧ Zf 8 f = b3 ∧ Zf 4 f = p ∧ Zf 2 f = b1 ∧ Zf 1 f = b0) := ⟨_, _, _, _, _, _, _, _, rfl, rfl, rfl, rfl, rfl, rfl, rfl, rfl⟩
 have HG : Hid (Zq yb7 b6 y false x b2 false o = g) := by
  show _ = _
  rw [← hg.out]
  unfold Yj
  rw [hr.out, ho.out, hs.out.2.2.1, hs.out.2.2.2, hb.out.1, hb.out.2.1, hb.out.2.2.2.2.2.1]
 have HM := Zb (Own.start w)
 clear hg
 go_enter Tryz.func111, Tryz.ntmps111
 go_wp2_with (first | (refine b7 ?_; clear HM; intro w' g' HM) | refine b8 ?_ | (refine a12 ?_; clear HM; intro w' HM) | (go_at_call 169; (with_reducible refine (ZiU op k hk _).mono ?_); rintro e w' ⟨rfl, rfl⟩) | (go_at_call 170; (with_reducible refine (vc k v f c r o k1 hv hf hc hr ho _).mono ?_); rintro e w' ⟨rfl, rfl⟩) | (go_at_call 164; (with_reducible refine (ZlB f yb7 b6 b5 b4 b3 b2 b1 b0 hf hb _).mono ?_); rintro e w' ⟨rfl, hbl⟩; have HM' := Zb (HM.out.call hbl); clear HM hbl; have HM := HM'; clear HM') | (go_at_call 85; (with_reducible refine (Z3 r s z y x r1 hs _).mono ?_); rintro e w' ⟨rfl, hbl⟩; have HM' := Zb (HM.out.call hbl); clear HM hbl; have HM := HM'; clear HM') | (go_at_call 86; (with_reducible refine (Zs yb7 b6 y false x b2 false o g HG _).mono ?_); rintro e w' ⟨rfl, hbl⟩; have HM' := Zb (HM.out.call hbl); clear HM hbl; have HM := HM'; clear HM'))
 go_ret2
 exact ⟨va rfl rfl, Own.fin HM⟩
theorem ZaV {a b c : Int} {v m f : Nat} (h : a = (v : Int)) (h' : b = (m : Int)) (h'' : c = (f : Int)) : (Ending.returned (.tuple #[.int .u8 a, .int .u8 b, .int .u8 c]) : Ending) = .returned (.tuple #[.int .u8 (v : Int), .int .u8 (m : Int), .int .u8 (f : Int)]) := by rw [h, h', h'']
theorem k24 {P : Prop} (h : P := by
 clear hr hq
 go_enter Tryz.func109, Tryz.ntmps109
 go_wp2_with (first | (go_at_call 171; (with_reducible refine (vd r s z y x p c r1 hs hp _).mono ?_); rintro e w' ⟨rfl, hb⟩; replace HM := Zb (HM.out.call hb); clear hb) | (go_at_call 86; (with_reducible refine (Zs s z y false x p false c g HG _).mono ?_); rintro e w' ⟨rfl, hb⟩; replace HM := Zb (HM.out.call hb); clear hb))
 go_ret3
 exact ⟨ZaV rfl rfl rfl, Own.fin HM⟩) : P := h
theorem Ud (left : Bool) (a m f r q g : Nat) (ha : a < 256) (hm : m < 256) (hf : f < 256) (hr : Hid (Uv left a m = r)) (hq : Hid (Wf left a m = q)) (hg : Hid (Wg left a m f = g)) (w : World) :
  CB 109 #[.bool left, .int .u8 (a : Int), .int .u8 (m : Int), .int .u8 (f : Int)] w (.tuple #[.int .u8 (r : Int), .int .u8 (q : Int), .int .u8 (g : Int)]) := by
 have r1 : r < 256 := by rw [← hr.out]; exact Jv left a m ha hm
 have q1 : ((f : Int) % 2 == 1) = Zf 1 f := ZS f 1 _ (by omega)
 obtain ⟨c, hc⟩ : ∃ c, Zf 1 f = c := ⟨_, rfl⟩
 rw [hc] at q1
 obtain ⟨s, z, y, x, hs⟩ : ∃ s z y x, Hid (nS r = s ∧ nZ r = z ∧ Zf 32 r = y ∧ Zf 8 r = x) := ⟨_, _, _, _, rfl, rfl, rfl, rfl⟩
 obtain ⟨p, hp⟩ : ∃ p, Hid (Jt r = p) := ⟨_, rfl⟩
 have HG : Hid (Zq s z y false x p false c = g) := by
  show _ = _
  rw [← hg.out]
  unfold Wg We
  rw [hr.out, hc, hp.out, hs.out.1, hs.out.2.1, hs.out.2.2.1, hs.out.2.2.2]
 have HM := Zb (Own.start w)
 clear hg hc
 cases left
 ·have er : (a : Int) / 16 * 16 + (m : Int) % 16 = (r : Int) := by
   have h : a / 16 * 16 + m % 16 = r := hr.out
   omega
  have eq : 16 * ((a : Int) % 16) + (m : Int) / 16 = (q : Int) := by
   have h : a % 16 * 16 + m / 16 = q := hq.out
   omega
  exact k24
 ·have er : (a : Int) / 16 * 16 + (m : Int) / 16 = (r : Int) := by
   have h : a / 16 * 16 + m / 16 = r := hr.out
   omega
  have eq : 16 * ((m : Int) % 16) + (a : Int) % 16 = (q : Int) := by
   have h : m % 16 * 16 + a % 16 = q := hq.out
   omega
  exact k24
theorem Zdy (k j v : Nat) (on : Bool) (hk : k < 8) (hj : j < 8) (hv : v < 256) : KU k v on / 2 ^ j % 2 = cond (Nat.beq j k) on.toNat (v / 2 ^ j % 2) := by
 have h := Zu (n := 8) (p := fun k => allB 8 fun j => allB 256 fun v => and (Nat.beq (Nat.mod (Nat.div (KU k v true) (Nat.pow 2 j)) 2) (cond (Nat.beq j k) 1 (Nat.mod (Nat.div v (Nat.pow 2 j)) 2))) (Nat.beq (Nat.mod (Nat.div (KU k v false) (Nat.pow 2 j)) 2) (cond (Nat.beq j k) 0 (Nat.mod (Nat.div v (Nat.pow 2 j)) 2)))) (by decide +kernel) k hk
 have h := Yb h j v hj hv
 rw [Bool.and_eq_true] at h
 cases on
 ·exact Nat.eq_of_beq_eq_true h.2
 ·exact Nat.eq_of_beq_eq_true h.1
end
end Go.Proofs.YtgdeeiimkhjfiaaGreatDoor
