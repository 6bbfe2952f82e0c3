/-
  The law TurnsBack returns true for any three bytes, and writes nothing.
-/
import Derived.Test.YtgkfipiefadaaaaTurnNames
namespace Go.Proofs.Ytgkfipiefadaaaa
open Go.RowKit

/-- turns about, one by one: of a byte; of a byte with a carry; of three digits -/
def bX : Nat → Nat → Nat
  | 0, v => v
  | k + 1, v => tUp (bX k v) (Nat.div (bX k v) 128)
def bZ : Nat → Nat → Nat
  | 0, z => z
  | k + 1, z => Nat.add (Nat.mod (Nat.mul (bZ k z) 2) 512) (Nat.div (bZ k z) 256)
def bD : Nat → Nat → Nat
  | 0, d => d
  | k + 1, d => Nat.add (Nat.mod (Nat.mul (bD k d) 16) 4096) (Nat.div (bD k d) 256)
theorem bX_lt (k v : Nat) (h : v < 256) : bX k v < 256 := by
  induction k with
  | zero => exact h
  | succ k ih => exact tUp_lt _ _ (by show bX k v / 128 ≤ 1; omega)
theorem bZ_succ (k z : Nat) : bZ (k + 1) z = bZ k z * 2 % 512 + bZ k z / 256 := rfl
theorem bD_succ (k d : Nat) : bD (k + 1) d = bD k d * 16 % 4096 + bD k d / 256 := rfl
theorem bZ_lt (k z : Nat) (h : z < 512) : bZ k z < 512 := by
  induction k with
  | zero => exact h
  | succ k ih => rw [bZ_succ]; omega
theorem bD_lt (k d : Nat) (h : d < 4096) : bD k d < 4096 := by
  induction k with
  | zero => exact h
  | succ k ih => rw [bD_succ]; omega
theorem bX_eight (v : Nat) (h : v < 256) : bX 8 v = v := Nat.eq_of_beq_eq_true (allB_at (show allB 256 (fun v => Nat.beq (bX 8 v) v) = true by decide +kernel) v h)
set_option maxRecDepth 100000 in
theorem bZ_nine (z : Nat) (h : z < 512) : bZ 9 z = z := Nat.eq_of_beq_eq_true (allB_at (show allB 512 (fun z => Nat.beq (bZ 9 z) z) = true by decide +kernel) z h)
theorem three (d : Nat) (h : d < 4096) : ∃ x y z, x < 16 ∧ y < 16 ∧ z < 16 ∧ d = x * 256 + y * 16 + z := ⟨d / 256, d / 16 % 16, d % 16, by omega, by omega, by omega, by omega⟩
theorem three_on (x y z : Nat) (_hx : x < 16) (hy : y < 16) (hz : z < 16) : (x * 256 + y * 16 + z) * 16 % 4096 + (x * 256 + y * 16 + z) / 256 = y * 256 + z * 16 + x := by omega
theorem bD_three (d : Nat) (h : d < 4096) : bD 3 d = d := by
  obtain ⟨x, y, z, hx, hy, hz, rfl⟩ := three d h
  have h1 := bD_succ 0 (x * 256 + y * 16 + z)
  have h0 : bD 0 (x * 256 + y * 16 + z) = x * 256 + y * 16 + z := rfl
  rw [h0, three_on x y z hx hy hz] at h1
  have h2 := bD_succ 1 (x * 256 + y * 16 + z)
  rw [h1, three_on y z x hy hz hx] at h2
  have h3 := bD_succ 2 (x * 256 + y * 16 + z)
  rw [h2, three_on z x y hz hx hy] at h3
  exact h3

/-- what the five numbers are behind k rounds -/
def BackAt (a v c k X Y C P Q : Nat) : Prop :=
  X = bX (min k 8) v ∧ Y = bZ k (c * 256 + v) % 256 ∧ C = bZ k (c * 256 + v) / 256 ∧ P = a / 16 * 16 + bD (min k 3) (a % 16 * 256 + v) / 256 ∧ Q = bD (min k 3) (a % 16 * 256 + v) % 256
theorem back_start (a v c : Nat) (_ha : a < 256) (hv : v < 256) (_hc : c ≤ 1) : BackAt a v c 0 v v c a v := by
  refine ⟨rfl, ?_, ?_, ?_, ?_⟩
  · show v = (c * 256 + v) % 256; omega
  · show c = (c * 256 + v) / 256; omega
  · show a = a / 16 * 16 + (a % 16 * 256 + v) / 256; omega
  · show v = (a % 16 * 256 + v) % 256; omega
theorem back_bounds (a v c k X Y C P Q : Nat) (ha : a < 256) (hv : v < 256) (hc : c ≤ 1) (h : BackAt a v c k X Y C P Q) : X < 256 ∧ Y < 256 ∧ C ≤ 1 ∧ P < 256 ∧ Q < 256 := by
  obtain ⟨h1, h2, h3, h4, h5⟩ := h
  have b1 := bX_lt (min k 8) v hv
  have b2 := bZ_lt k (c * 256 + v) (by omega)
  have b3 := bD_lt (min k 3) (a % 16 * 256 + v) (by omega)
  exact ⟨by omega, by omega, by omega, by omega, by omega⟩
theorem back_end (a v c X Y C P Q : Nat) (_ha : a < 256) (hv : v < 256) (hc : c ≤ 1) (h : BackAt a v c 9 X Y C P Q) : X = v ∧ Y = v ∧ C = c ∧ P = a ∧ Q = v := by
  obtain ⟨h1, h2, h3, h4, h5⟩ := h
  rw [show min 9 8 = 8 from rfl, bX_eight v hv] at h1
  rw [bZ_nine _ (by omega)] at h2 h3
  rw [show min 9 3 = 3 from rfl, bD_three _ (by omega)] at h4 h5
  exact ⟨h1, by omega, by omega, by omega, by omega⟩
theorem stepZ (z : Nat) (h : z < 512) : (z * 2 % 512 + z / 256) % 256 = z % 256 * 2 % 256 + z / 256 ∧ (z * 2 % 512 + z / 256) / 256 = z % 256 / 128 := by omega
set_option maxRecDepth 100000 in
theorem stepD (u d : Nat) (h : d < 4096) : (u * 16 + d / 256) / 16 * 16 + (d % 256) / 16 = u * 16 + (d * 16 % 4096 + d / 256) / 256 ∧ (d % 256 % 16) * 16 + (u * 16 + d / 256) % 16 = (d * 16 % 4096 + d / 256) % 256 := by
  obtain ⟨x, y, z, hx, hy, hz, rfl⟩ := three d h
  rw [three_on x y z hx hy hz]
  have e1 : (x * 256 + y * 16 + z) / 256 = x := by omega
  have e2 : (x * 256 + y * 16 + z) % 256 = y * 16 + z := by omega
  have e3 : (y * 256 + z * 16 + x) / 256 = y := by omega
  have e4 : (y * 256 + z * 16 + x) % 256 = z * 16 + x := by omega
  have e5 : (y * 16 + z) / 16 = y := by omega
  have e6 : (y * 16 + z) % 16 = z := by omega
  have e7 : (u * 16 + x) / 16 = u := by omega
  have e8 : (u * 16 + x) % 16 = x := by omega
  rw [e1, e2, e3, e4, e5, e6, e7, e8]
  exact ⟨rfl, rfl⟩
/-- one round: each of the three, where it is turned -/
theorem back_step (a v c k X Y C P Q X' Y' C' P' Q' : Nat) (_ha : a < 256) (hv : v < 256) (hc : c ≤ 1) (h : BackAt a v c k X Y C P Q)
    (hx : (k < 8 ∧ ∃ cc, tV 0 X cc = X') ∨ (8 ≤ k ∧ X = X')) (hy : tV 2 Y C = Y') (hz : tO 2 Y = C') (hp : (k < 3 ∧ tDigA true P Q = P' ∧ tDigM true P Q = Q') ∨ (3 ≤ k ∧ P = P' ∧ Q = Q')) : BackAt a v c (k + 1) X' Y' C' P' Q' := by
  obtain ⟨h1, h2, h3, h4, h5⟩ := h
  have b2 := bZ_lt k (c * 256 + v) (by omega)
  have b3 := bD_lt (min k 3) (a % 16 * 256 + v) (by omega)
  refine ⟨?_, ?_, ?_, ?_, ?_⟩
  · rcases hx with ⟨hk, cc, hx⟩ | ⟨hk, hx⟩
    · rw [show min (k + 1) 8 = k + 1 by omega, ← hx, h1, show min k 8 = k by omega]; rfl
    · rw [← hx, h1, show min (k + 1) 8 = min k 8 by omega]
  · rw [bZ_succ, (stepZ _ b2).1, ← hy, h2, h3]; rfl
  · rw [bZ_succ, (stepZ _ b2).2, ← hz, h2]; rfl
  · rcases hp with ⟨hk, hp, hq⟩ | ⟨hk, hp, hq⟩
    · rw [show min (k + 1) 3 = k + 1 by omega, bD_succ, ← hp]
      rw [show min k 3 = k by omega] at b3 h4 h5
      rw [h4, h5]
      exact (stepD (a / 16) _ b3).1
    · rw [← hp, h4, show min (k + 1) 3 = min k 3 by omega]
  · rcases hp with ⟨hk, hp, hq⟩ | ⟨hk, hp, hq⟩
    · rw [show min (k + 1) 3 = k + 1 by omega, bD_succ, ← hq]
      rw [show min k 3 = k by omega] at b3 h4 h5
      rw [h4, h5]
      exact (stepD (a / 16) _ b3).2
    · rw [← hq, h5, show min (k + 1) 3 = min k 3 by omega]

theorem dig_back (a v : Nat) (_ha : a < 256) (_hv : v < 256) : tDigA false (tDigA true a v) (tDigM true a v) = a ∧ tDigM false (tDigA true a v) (tDigM true a v) = v := by
  have e1 : tDigA true a v = a / 16 * 16 + v / 16 := rfl
  have e2 : tDigM true a v = v % 16 * 16 + a % 16 := rfl
  rw [e1, e2]
  refine ⟨?_, ?_⟩
  · show (a / 16 * 16 + v / 16) / 16 * 16 + (v % 16 * 16 + a % 16) % 16 = a; omega
  · show (a / 16 * 16 + v / 16) % 16 * 16 + (v % 16 * 16 + a % 16) / 16 = v; omega
theorem round_back (v c : Nat) (hv : v < 256) : tV 0 (tV 1 v c) c = v :=
  Nat.eq_of_beq_eq_true (allB_at (show allB 256 (fun v => Nat.beq (tUp (tDn v (Nat.mod v 2)) (Nat.div (tDn v (Nat.mod v 2)) 128)) v) = true by decide +kernel) v hv)

theorem rot_zero (v f c r g : Nat) (hv : v < 256) (hf : f < 256) (hc : Hid (f % 2 = c)) (hr : Hid (tV 0 v c = r)) (hg : Hid (tRotF 0 v c = g)) (w : World) :
    Calls Try.prog 13 #[.int .i64 0, .int .u8 (v : Int), .int .u8 (f : Int)] w fun e w' => e = .returned (.tuple #[.int .u8 (r : Int), .int .u8 (g : Int)]) ∧ w = w' := rot_at 0 0 v f c r g (by decide) hv hf hc hr hg w
theorem rot_first (v f c r g : Nat) (hv : v < 256) (hf : f < 256) (hc : Hid (f % 2 = c)) (hr : Hid (tV 1 v c = r)) (hg : Hid (tRotF 1 v c = g)) (w : World) :
    Calls Try.prog 13 #[.int .i64 1, .int .u8 (v : Int), .int .u8 (f : Int)] w fun e w' => e = .returned (.tuple #[.int .u8 (r : Int), .int .u8 (g : Int)]) ∧ w = w' := rot_at 1 1 v f c r g (by decide) hv hf hc hr hg w
theorem rot_second (v f c r g : Nat) (hv : v < 256) (hf : f < 256) (hc : Hid (f % 2 = c)) (hr : Hid (tV 2 v c = r)) (hg : Hid (tRotF 2 v c = g)) (w : World) :
    Calls Try.prog 13 #[.int .i64 2, .int .u8 (v : Int), .int .u8 (f : Int)] w fun e w' => e = .returned (.tuple #[.int .u8 (r : Int), .int .u8 (g : Int)]) ∧ w = w' := rot_at 2 2 v f c r g (by decide) hv hf hc hr hg w

set_option maxRecDepth 100000 in
set_option maxHeartbeats 3200000 in
theorem back_any (v a f : Nat) (hv : v < 256) (ha : a < 256) (hf : f < 256) (w : World) :
    Calls Try.prog 7 #[.int .u8 (v : Int), .int .u8 (a : Int), .int .u8 (f : Int)] w fun e w' => e = .returned (.bool true) ∧ Below w.heap.size w w' := by
  obtain ⟨c, hc⟩ : ∃ c, Hid (f % 2 = c) := ⟨_, rfl⟩
  have c1 : c ≤ 1 := by have := hc.out; omega
  have ec := and_one f c hf hc.out
  go_enter Try.func7, Try.ntmps7
  go_wp2_with (go_at_call 11; refine (turnsAlive_any _).mono ?_; rintro e w' ⟨rfl, rfl⟩)
  go_loopw [7, 8, 9, 10, 11, 12] (fun x y p q cr i wr => ∃ k X Y C P Q : Nat, k ≤ 9 ∧ i = .int .i64 (k : Int) ∧ x = .int .u8 (X : Int) ∧ y = .int .u8 (Y : Int) ∧ cr = .int .u8 (C : Int) ∧ p = .int .u8 (P : Int) ∧ q = .int .u8 (Q : Int) ∧ Hid (BackAt a v c k X Y C P Q) ∧ w = wr) (fun _ _ _ _ _ i _ => 9 - (intOf i).toNat)
  case atStart => exact ⟨0, v, v, c, a, v, by omega, rfl, rfl, rfl, rfl, rfl, rfl, back_start a v c ha hv c1, rfl⟩
  case round =>
    obtain ⟨k, X, Y, C, P, Q, hk, rfl, rfl, rfl, rfl, rfl, rfl, HB, rfl⟩ := hrel
    obtain ⟨X1, Y1, C1, P1, Q1⟩ := back_bounds a v c k X Y C P Q ha hv c1 HB.out
    have hC : Hid (C % 2 = C) := by show C % 2 = C; omega
    obtain ⟨X', hX⟩ : ∃ X', Hid (tV 0 X c = X') := ⟨_, rfl⟩
    obtain ⟨gx, hgx⟩ : ∃ g, Hid (tRotF 0 X c = g) := ⟨_, rfl⟩
    obtain ⟨Y', hY⟩ : ∃ Y', Hid (tV 2 Y C = Y') := ⟨_, rfl⟩
    obtain ⟨gy, hgy⟩ : ∃ g, Hid (tRotF 2 Y C = g) := ⟨_, rfl⟩
    obtain ⟨C', hC'⟩ : ∃ C', Hid (tO 2 Y = C') := ⟨_, rfl⟩
    obtain ⟨P', hP⟩ : ∃ P', Hid (tDigA true P Q = P') := ⟨_, rfl⟩
    obtain ⟨Q', hQ⟩ : ∃ Q', Hid (tDigM true P Q = Q') := ⟨_, rfl⟩
    obtain ⟨gp, hgp⟩ : ∃ g, Hid (tDigF true P Q f = g) := ⟨_, rfl⟩
    have gy1 : gy < 256 := by rw [← hgy.out]; exact tRotF_lt _ _ _
    have ey : bits .and .u8 (gy : Int) 1 = (C' : Int) := by
      have h := rot_one 2 Y C gy Y1 hgy.out
      rw [hC'.out] at h
      exact and_one gy C' gy1 (by rw [← Nat.and_one_is_mod]; exact h)
    have hk4 : k = 9 ∨ k = 8 ∨ (3 ≤ k ∧ k < 8) ∨ k < 3 := by omega
    rcases hk4 with rfl | rfl | ⟨h3, h8⟩ | h3
    · have he := back_end _ _ _ _ _ _ _ _ ha hv c1 HB.out
      clear hX hgx hY hgy hC' hP hQ hgp gy1 ey HB hC
      obtain ⟨rfl, rfl, rfl, rfl, rfl⟩ := he
      obtain ⟨r, hr⟩ : ∃ r, Hid (tDigA true P Q = r) := ⟨_, rfl⟩
      obtain ⟨s, hs⟩ : ∃ s, Hid (tDigM true P Q = s) := ⟨_, rfl⟩
      obtain ⟨g1, hg1⟩ : ∃ g, Hid (tDigF true P Q f = g) := ⟨_, rfl⟩
      have r1 : r < 256 := by rw [← hr.out]; exact tDigA_lt _ _ _ P1 Q1
      have s1 : s < 256 := by rw [← hs.out]; exact tDigM_lt _ _ _ P1 Q1
      have hd := dig_back P Q P1 Q1
      rw [hr.out, hs.out] at hd
      have ht := Lib.hid hd.1
      have hu := Lib.hid hd.2
      clear hd
      obtain ⟨g2, hg2⟩ : ∃ g, Hid (tDigF false r s f = g) := ⟨_, rfl⟩
      obtain ⟨z, hz⟩ : ∃ z, Hid (tV 1 Q C = z) := ⟨_, rfl⟩
      have z1 : z < 256 := by rw [← hz.out]; exact tV_lt _ _ _ Q1 c1
      obtain ⟨g3, hg3⟩ : ∃ g, Hid (tRotF 1 Q C = g) := ⟨_, rfl⟩
      have hw : Hid (tV 0 z C = Q) := by show _ = _; rw [← hz.out]; exact round_back Q C Q1
      obtain ⟨g4, hg4⟩ : ∃ g, Hid (tRotF 0 z C = g) := ⟨_, rfl⟩
      go_wp2_with (first
        | (go_at_call 13; first
          | ((with_reducible refine (rot_first Q f C z g3 Q1 hf hc hz hg3 _).mono ?_); rintro e w' ⟨rfl, rfl⟩)
          | ((with_reducible refine (rot_zero z f C Q g4 z1 hf hc hw hg4 _).mono ?_); rintro e w' ⟨rfl, rfl⟩))
        | (go_at_call 10; first
          | ((with_reducible refine (digits_at true P Q f r s g1 P1 Q1 hf hr hs hg1 _).mono ?_); rintro e w' ⟨rfl, rfl⟩)
          | ((with_reducible refine (digits_at false r s f P Q g2 r1 s1 hf ht hu hg2 _).mono ?_); rintro e w' ⟨rfl, rfl⟩)))
      go_ret
      exact ⟨rfl, Below.refl _ _⟩
    · clear hX hgx hP hQ hgp
      go_wp2_with (go_at_call 13; (with_reducible refine (rot_second Y C C Y' gy Y1 (by omega) hC hY hgy _).mono ?_); rintro e w' ⟨rfl, rfl⟩)
      go_roundw
      case rel => exact ⟨9, X, Y', C', P, Q, by omega, by go_num, rfl, rfl, rfl, rfl, rfl, back_step a v c 8 X Y C P Q _ _ _ _ _ ha hv c1 HB.out (.inr ⟨by omega, rfl⟩) hY.out hC'.out (.inr ⟨by omega, rfl, rfl⟩), trivial⟩
      case measure => simp [intOf]
    · have k8 : (k : Int) < 8 := by omega
      have k3 : (3 : Int) ≤ (k : Int) := by omega
      clear hP hQ hgp hk
      go_wp2_with (go_at_call 13; first
        | ((with_reducible refine (rot_second Y C C Y' gy Y1 (by omega) hC hY hgy _).mono ?_); rintro e w' ⟨rfl, rfl⟩)
        | ((with_reducible refine (rot_zero X f c X' gx X1 hf hc hX hgx _).mono ?_); rintro e w' ⟨rfl, rfl⟩))
      go_roundw
      case rel => exact ⟨k + 1, X', Y', C', P, Q, by omega, by go_num, rfl, rfl, rfl, rfl, rfl, back_step a v c k X Y C P Q _ _ _ _ _ ha hv c1 HB.out (.inl ⟨h8, c, hX.out⟩) hY.out hC'.out (.inr ⟨h3, rfl, rfl⟩), trivial⟩
      case measure => simp [intOf]; omega
    · have k3 : (k : Int) < 3 := by omega
      clear hk
      go_wp2_with (first
        | (go_at_call 13; first
          | ((with_reducible refine (rot_second Y C C Y' gy Y1 (by omega) hC hY hgy _).mono ?_); rintro e w' ⟨rfl, rfl⟩)
          | ((with_reducible refine (rot_zero X f c X' gx X1 hf hc hX hgx _).mono ?_); rintro e w' ⟨rfl, rfl⟩))
        | (go_at_call 10; (with_reducible refine (digits_at true P Q f P' Q' gp P1 Q1 hf hP hQ hgp _).mono ?_); rintro e w' ⟨rfl, rfl⟩))
      go_roundw
      case rel => exact ⟨k + 1, X', Y', C', P', Q', by omega, by go_num, rfl, rfl, rfl, rfl, rfl, back_step a v c k X Y C P Q _ _ _ _ _ ha hv c1 HB.out (.inl ⟨by omega, c, hX.out⟩) hY.out hC'.out (.inl ⟨h3, hP.out, hQ.out⟩), trivial⟩
      case measure => simp [intOf]; omega

end Go.Proofs.Ytgkfipiefadaaaa
