/-
  Package repeat's functions, each by one contract.
-/
import Derived.Test.YthfkeiidkmkkoaaRepSpec
import Derived.Test.YthfkeiidkmkkoaaXBits
import Derived.Test.YthfkeiidkmkkoaaSumCodeB
namespace Go.Proofs.Ythfkeiidkmkkoaa
open Go.RowKit

theorem ret_seek {a : Int} {v : Nat} {b c : Bool} (h : a = (v : Int)) (h' : b = c) : (Ending.returned (.tuple #[.int .u8 a, .bool b]) : Ending) = .returned (.tuple #[.int .u8 (v : Int), .bool c]) := by rw [h, h']
theorem rwhen_any (on : Bool) (n : Nat) (w : World) : Calls Try.prog 17 #[.bool on, .int .u8 (n : Int)] w fun e w' => e = .returned (.int .u8 ((cond on n 0 : Nat) : Int)) ∧ w = w' := by
  cases on
  all_goals
    go_enter Try.func17, Try.ntmps17
    go_wp2
    go_ret
    exact ⟨rfl, rfl⟩
theorem rwhen_at (on : Bool) (n : Nat) (b : Bool) (r : Nat) (hb : on = b) (hr : Hid (cond b n 0 = r)) (w : World) : Calls Try.prog 17 #[.bool on, .int .u8 (n : Int)] w fun e w' => e = .returned (.int .u8 (r : Int)) ∧ w = w' := by
  rw [hb, ← hr.out]; exact rwhen_any b n w
theorem rwhen_4 (on : Bool) (b : Bool) (r : Nat) (hb : on = b) (hr : Hid (cond b 4 0 = r)) (w : World) : Calls Try.prog 17 #[.bool on, .int .u8 4] w fun e w' => e = .returned (.int .u8 (r : Int)) ∧ w = w' := rwhen_at on 4 b r hb hr w
theorem rwhen_17 (on : Bool) (b : Bool) (r : Nat) (hb : on = b) (hr : Hid (cond b 17 0 = r)) (w : World) : Calls Try.prog 17 #[.bool on, .int .u8 17] w fun e w' => e = .returned (.int .u8 (r : Int)) ∧ w = w' := rwhen_at on 17 b r hb hr w

theorem stray_at (n r : Nat) (hn : n < 256) (hr : Hid (rYX n = r)) (w : World) : Calls Try.prog 18 #[.int .u8 (n : Int)] w fun e w' => e = .returned (.int .u8 (r : Int)) ∧ w = w' := by
  obtain ⟨x, hx⟩ : ∃ x, n &&& 2 = x := ⟨_, rfl⟩
  have x2 : x ≤ 2 := by rw [← hx]; exact Nat.and_le_right
  have e1 : bits .and .u8 (n : Int) 2 = (x : Int) := by rw [u8_and n 2 (by omega) (by omega) (by omega) (by omega), Int.toNat_natCast, ← hx]; rfl
  have HR : Hid ((x * 16) ||| (n &&& 8) = r) := by show _ = _; rw [← hx, stray_is n hn]; exact hr.out
  clear hr hx
  go_enter Try.func18, Try.ntmps18
  go_wp2
  go_ret
  refine ⟨ret_byte ?_, rfl⟩
  rw [← HR.out, show ((x : Int) * 16) = ((x * 16 : Nat) : Int) by omega]
  simp (disch := (focus repeat' (first | assumption | omega | exact Int.natCast_nonneg _ | with_reducible apply or8i | with_reducible apply xor8i | with_reducible apply or8 | with_reducible apply xor8 | ((with_reducible apply and8i'); omega) | ((with_reducible apply and8'); omega) | with_reducible apply and8i | with_reducible apply and8))) only [u8_and, u8_or, Int.reduceToNat, Int.toNat_natCast]

set_option maxHeartbeats 800000 in
theorem load_at (a v f left r : Nat) (p : Bool) (hf : f < 256) (hp : Hid ((p = true) ↔ left ≠ 0)) (hr : Hid (rLoad a v f p = r)) (w : World) :
    Calls Try.prog 12 #[.int .u8 (a : Int), .int .u8 (v : Int), .int .u8 (f : Int), .int .u16 (left : Int)] w fun e w' => e = .returned (.int .u8 (r : Int)) ∧ w = w' := by
  obtain ⟨n, hn⟩ : ∃ n, rSum a v = n := ⟨_, rfl⟩
  have n1 : n < 256 := hn ▸ rSum_lt _ _
  have e1 : ((a : Int) + (v : Int)) % 256 = (n : Int) := by have h : (a + v) % 256 = n := hn; omega
  obtain ⟨k, hk⟩ : ∃ k : Nat, Hid (cond p 4 0 = k) := ⟨_, rfl⟩
  have k1 : k < 256 := by rw [← hk.out]; cases p <;> decide
  obtain ⟨t, ht⟩ : ∃ t, Hid (rYX n = t) := ⟨_, rfl⟩
  have t1 : t < 256 := by rw [← ht.out]; exact rYX_lt _
  have HR : Hid (((f &&& 193) ||| k) ||| t = r) := by
    show _ = _
    rw [← hk.out, ← ht.out, load_is f n p hf, ← hr.out]; unfold rLoad; rw [hn]
  clear hr hn
  go_enter Try.func12, Try.ntmps12
  go_wp2_with (first
    | (go_at_call 17; refine (rwhen_at _ 4 p k (by rw [Bool.eq_iff_iff, hp.out]; simp) hk _).mono ?_; rintro e w' ⟨rfl, rfl⟩)
    | (go_at_call 18; (with_reducible refine (stray_at n t n1 ht _).mono ?_); rintro e w' ⟨rfl, rfl⟩))
  go_ret
  refine ⟨ret_byte ?_, rfl⟩
  rw [← HR.out]
  simp (disch := (focus repeat' (first | assumption | omega | exact Int.natCast_nonneg _ | with_reducible apply or8i | with_reducible apply xor8i | with_reducible apply or8 | with_reducible apply xor8 | ((with_reducible apply and8i'); omega) | ((with_reducible apply and8'); omega) | with_reducible apply and8i | with_reducible apply and8))) only [u8_and, u8_or, Int.reduceToNat, Int.toNat_natCast]

set_option maxHeartbeats 1600000 in
theorem seek_at (a v f left r : Nat) (p o : Bool) (ha : a < 256) (hv : v < 256) (hf : f < 256) (hp : Hid ((p = true) ↔ left ≠ 0)) (hr : Hid (rSeekF a v f p = r)) (ho : Hid (rSeekOn a v p = o)) (w : World) :
    Calls Try.prog 9 #[.int .u8 (a : Int), .int .u8 (v : Int), .int .u8 (f : Int), .int .u16 (left : Int)] w fun e w' => e = .returned (.tuple #[.int .u8 (r : Int), .bool o]) ∧ w = w' := by
  obtain ⟨m, hm⟩ : ∃ m, Hid (nSubV a v 0 = m) := ⟨_, rfl⟩
  obtain ⟨g, hg⟩ : ∃ g, Hid (nSubF a v 0 = g) := ⟨_, rfl⟩
  have m1 : m < 256 := by rw [← hm.out]; exact nSubV_lt _ _ _
  have g1 : g < 256 := by rw [← hg.out]; exact nSubF_lt _ _ _
  have r1 : r < 256 := by rw [← hr.out]; exact rSeekF_lt _ _ _ _
  have gN : nBit 2 g = true := by rw [← hg.out]; exact sub_n _ _ _
  obtain ⟨n, hn⟩ : ∃ n, rLess m (nBit 16 g) = n := ⟨_, rfl⟩
  have n1 : n < 256 := hn ▸ rLess_lt _ _ m1
  have e1 := less_is m (nBit 16 g) m1
  rw [hn, ← half_is g g1] at e1
  have HF : Hid (rSeek g n f p = r) := by show _ = _; rw [← hr.out]; unfold rSeekF; rw [hm.out, hg.out, hn]
  have HO : Hid (rOn g p = o) := by show _ = _; rw [← hg.out, rOn_is a v p ha hv]; exact ho.out
  obtain ⟨s, hs⟩ : ∃ s, g &&& 210 = s := ⟨_, rfl⟩
  have s1 : s < 256 := by rw [← hs]; exact and8 g1
  obtain ⟨k, hk⟩ : ∃ k : Nat, Hid (cond p 4 0 = k) := ⟨_, rfl⟩
  have k1 : k < 256 := by rw [← hk.out]; cases p <;> decide
  obtain ⟨t, ht⟩ : ∃ t, Hid (rYX n = t) := ⟨_, rfl⟩
  have t1 : t < 256 := by rw [← ht.out]; exact rYX_lt _
  have HR : Hid (((s ||| (f &&& 1)) ||| k) ||| t = r) := by
    show _ = _
    rw [← hk.out, ← ht.out, ← hs, seek_is g n f p g1 hf gN, HF.out]
  rw [hs] at e1
  obtain ⟨j, hj⟩ : ∃ j, s &&& 16 = j := ⟨_, rfl⟩
  have j1 : j < 256 := by rw [← hj]; exact and8 s1
  rw [hj] at e1
  have e2 : bits .and .u8 (s : Int) 16 = (j : Int) := by rw [u8_and s 16 (by omega) (by omega) (by omega) (by omega), Int.toNat_natCast, ← hj]; rfl
  have e3 : bits .and .u8 (g : Int) 210 = (s : Int) := by rw [u8_and g 210 (by omega) (by omega) (by omega) (by omega), Int.toNat_natCast, ← hs]; rfl
  have e4 : bits .or .u8 (bits .or .u8 (bits .or .u8 (s : Int) (bits .and .u8 (f : Int) 1)) (k : Int)) (t : Int) = (r : Int) := by
    rw [← HR.out]
    simp (disch := (focus repeat' (first | assumption | omega | exact Int.natCast_nonneg _ | with_reducible apply or8i | with_reducible apply xor8i | with_reducible apply or8 | with_reducible apply xor8 | ((with_reducible apply and8i'); omega) | ((with_reducible apply and8'); omega) | with_reducible apply and8i | with_reducible apply and8))) only [u8_and, u8_or, Int.reduceToNat, Int.toNat_natCast]
  have e5 : bits .and .u8 (r : Int) 68 = ((r &&& 68 : Nat) : Int) := by rw [u8_and r 68 (by omega) (by omega) (by omega) (by omega), Int.toNat_natCast]; rfl
  have e6 : (((r &&& 68 : Nat) : Int) == 4) = o := by rw [← HO.out, Bool.eq_iff_iff, beq_iff_eq, ← HF.out]; exact on_is g n f p
  obtain ⟨q, hq⟩ : ∃ q, r &&& 68 = q := ⟨_, rfl⟩
  rw [hq] at e5 e6
  have e7 : ((m : Int) - (j : Int) / 16) % 256 = (n : Int) := e1
  clear hr ho hn gN HR hs hj e1 hq
  go_enter Try.func9, Try.ntmps9
  go_wp2_with (first
    | (go_at_call 16; refine (sub_at a v false m g ha hv hm hg _).mono ?_; rintro e w' ⟨rfl, rfl⟩)
    | (go_at_call 17; refine (rwhen_at _ 4 p k (by rw [Bool.eq_iff_iff, hp.out]; simp) hk _).mono ?_; rintro e w' ⟨rfl, rfl⟩)
    | (go_at_call 18; (with_reducible refine (stray_at n t n1 ht _).mono ?_); rintro e w' ⟨rfl, rfl⟩))
  go_ret2
  exact ⟨rfl, rfl⟩

set_option maxHeartbeats 1600000 in
theorem port_at (v m b r : Nat) (hv : v < 256) (hm : m < 256) (hb : b < 256) (hr : Hid (rPort v m b = r)) (w : World) :
    Calls Try.prog 11 #[.int .u8 (v : Int), .int .u8 (m : Int), .int .u8 (b : Int)] w fun e w' => e = .returned (.int .u8 (r : Int)) ∧ w = w' := by
  obtain ⟨t, ht⟩ : ∃ t, v + m = t := ⟨_, rfl⟩
  have t1 : t < 511 := by omega
  have e1 : (v : Int) + (m : Int) = (t : Int) := by omega
  obtain ⟨k, hk⟩ : ∃ k, Nat.ble 256 (Nat.add v m) = k := ⟨_, rfl⟩
  have e2 : decide ((255 : Int) < (t : Int)) = k := by rw [Bool.eq_iff_iff, decide_eq_true_eq, ← hk, Nat.ble_eq]; show _ ↔ 256 ≤ v + m; omega
  obtain ⟨j, hj⟩ : ∃ j, t % 8 = j := ⟨_, rfl⟩
  have j1 : j < 8 := by omega
  have e3 : bits .and .i64 (t : Int) 7 = (j : Int) := by rw [i64_and7]; omega
  obtain ⟨x, hx⟩ : ∃ x, b ^^^ j = x := ⟨_, rfl⟩
  have x1 : x < 256 := hx ▸ xor8 hb (by omega)
  have e4 : bits .xor .u8 (b : Int) (j : Int) = (x : Int) := by rw [u8_xor_nat b j hb (by omega), hx]
  obtain ⟨o, ho⟩ : ∃ o, Hid (nPar x = o) := ⟨_, rfl⟩
  obtain ⟨s, hs⟩ : ∃ s, Hid (nShape b = s) := ⟨_, rfl⟩
  have s1 : s < 256 := by rw [← hs.out]; exact nByte_lt _ _ _ _ _ _ _ _
  obtain ⟨c, hc⟩ : ∃ c : Nat, Hid (cond k 17 0 = c) := ⟨_, rfl⟩
  have c1 : c < 256 := by rw [← hc.out]; cases k <;> decide
  obtain ⟨d, hd⟩ : ∃ d : Nat, Hid (cond o 4 0 = d) := ⟨_, rfl⟩
  have d1 : d < 256 := by rw [← hd.out]; cases o <;> decide
  obtain ⟨y, hy⟩ : ∃ y, v &&& 128 = y := ⟨_, rfl⟩
  have y1 : y < 256 := hy ▸ and8 hv
  have e5 : bits .and .u8 (v : Int) 128 = (y : Int) := by rw [u8_and v 128 (by omega) (by omega) (by omega) (by omega), Int.toNat_natCast, ← hy]; rfl
  have HR : Hid ((((s ||| (y / 64)) ||| c) ||| d) = r) := by
    show _ = _
    rw [← hs.out, ← hc.out, ← hd.out, ← hy, port_is v m b hv k o hk (by show nPar (b ^^^ (v + m) % 8) = o; rw [ht, hj, hx]; exact ho.out)]; exact hr.out
  clear hr hk ht hj hx hy
  go_enter Try.func11, Try.ntmps11
  go_wp2_with (first
    | (go_at_call 19; (with_reducible refine (parity_at x o x1 ho _).mono ?_); rintro e w' ⟨rfl, rfl⟩)
    | (go_at_call 20; (with_reducible refine (shape_at b s hb hs _).mono ?_); rintro e w' ⟨rfl, rfl⟩)
    | (go_at_call 17; first
      | ((with_reducible refine (rwhen_4 o o d rfl hd _).mono ?_); rintro e w' ⟨rfl, rfl⟩)
      | ((with_reducible refine (rwhen_17 k k c rfl hc _).mono ?_); rintro e w' ⟨rfl, rfl⟩)))
  go_ret
  refine ⟨ret_byte ?_, rfl⟩
  rw [← HR.out, show ((y : Int) / 64) = ((y / 64 : Nat) : Int) by omega]
  simp (disch := (focus repeat' (first | assumption | omega | exact Int.natCast_nonneg _ | with_reducible apply or8i | with_reducible apply xor8i | with_reducible apply or8 | with_reducible apply xor8 | ((with_reducible apply and8i'); omega) | ((with_reducible apply and8'); omega) | with_reducible apply and8i | with_reducible apply and8))) only [u8_or, Int.toNat_natCast]

end Go.Proofs.Ythfkeiidkmkkoaa
