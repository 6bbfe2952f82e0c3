/-
  The landed code's remainder, At and Entry.
-/
import Derived.Test.YtnkckdlolieojaaTiRef
import Derived.Laws.BitsAll
namespace Go.Proofs.Ytnkckdlolieojaa
open Go.RowKit

theorem i64_mask (x : Int) (k : Nat) (m m1 : Nat) (hm : m = 2 ^ k - 1) (hm1 : (m1 : Int) = 2 ^ k) (hk : k < 32) : bits .and .i64 x (m : Int) = x % (m1 : Int) := by
  have hp : 2 ^ k < 2 ^ 32 := Nat.pow_lt_pow_right (by omega) hk
  have h1 : m1 = 2 ^ k := by exact_mod_cast hm1
  have hpos : 0 < 2 ^ k := Nat.pow_pos (by omega)
  have e : (BitVec.ofInt 64 x &&& BitVec.ofInt 64 (m : Int)).toNat = (x % (m1 : Int)).toNat := by
    rw [BitVec.toNat_and, BitVec.toNat_ofInt, BitVec.toNat_ofInt]
    rw [show ((m : Int) % ((2 ^ 64 : Nat) : Int)).toNat = 2 ^ k - 1 by rw [Int.emod_eq_of_lt (by omega) (by omega), Int.toNat_natCast, hm], Nat.and_two_pow_sub_one_eq_mod, ← h1]
    have hd : (m1 : Int) ∣ ((2 ^ 64 : Nat) : Int) := by rw [h1]; exact_mod_cast Nat.pow_dvd_pow 2 (by omega : k ≤ 64)
    have h0 : 0 ≤ x % ((2 ^ 64 : Nat) : Int) := Int.emod_nonneg _ (by decide)
    have h2 : ((x % ((2 ^ 64 : Nat) : Int)).toNat % m1 : Nat) = (((x % ((2 ^ 64 : Nat) : Int)).toNat : Int) % (m1 : Int)).toNat := by
      rw [← Int.natCast_emod, Int.toNat_natCast]
    rw [h2, Int.toNat_of_nonneg h0, Int.emod_emod_of_dvd _ hd]
  show IntKind.i64.wrap ((BitVec.ofInt 64 x &&& BitVec.ofInt 64 (m : Int)).toNat : Int) = _
  rw [e]
  have a0 : 0 ≤ x % (m1 : Int) := Int.emod_nonneg _ (by omega)
  have a1 : x % (m1 : Int) < (m1 : Int) := Int.emod_lt_of_pos _ (by omega)
  rw [IntWalk.i64_in _ (by omega)]
  omega

theorem mod_512 (n r : Int) (h : Hid (n % 512 = r)) (w : World) : Calls Try.prog 25 #[.int .i64 n, .int .i64 512] w fun e w' => e = .returned (.int .i64 r) ∧ w = w' := by
  have E : bits .and .i64 n 511 = r := (i64_mask n 9 511 512 (by decide) (by decide) (by decide)).trans h.out
  go_enter Try.func25, Try.ntmps25
  go_wp2
  go_ret
  exact ⟨rfl, rfl⟩

theorem mod_8 (n r : Int) (h : Hid (n % 8 = r)) (w : World) : Calls Try.prog 25 #[.int .i64 n, .int .i64 8] w fun e w' => e = .returned (.int .i64 r) ∧ w = w' := by
  have E : bits .and .i64 n 7 = r := (i64_mask n 3 7 8 (by decide) (by decide) (by decide)).trans h.out
  go_enter Try.func25, Try.ntmps25
  go_wp2
  go_ret
  exact ⟨rfl, rfl⟩

theorem mod_16384 (n r : Int) (h : Hid (n % 16384 = r)) (w : World) : Calls Try.prog 25 #[.int .i64 n, .int .i64 16384] w fun e w' => e = .returned (.int .i64 r) ∧ w = w' := by
  have E : bits .and .i64 n 16383 = r := (i64_mask n 14 16383 16384 (by decide) (by decide) (by decide)).trans h.out
  go_enter Try.func25, Try.ntmps25
  go_wp2
  go_ret
  exact ⟨rfl, rfl⟩

set_option maxRecDepth 100000 in
theorem at_at (a : Option Addr) (n cap : Nat) (xs : Nat → Nat) (p : Int) (k v : Nat) (hk : Hid (p % 16384 = (k : Int))) (hv : Hid (vget n xs k = v)) (w : World) (hV : ByteRow w a n xs) :
    Calls Try.prog 24 #[.slice a n cap, .int .i64 p] w fun e w' => e = .returned (.int .u8 (v : Int)) ∧ w = w' := by
  have h := hv.out
  have HK := hk
  have k1 : (k : Int) < 16384 := by have := hk.out; omega
  unfold vget at h
  by_cases hlt : k < n
  · rw [if_pos hlt] at h
    obtain ⟨g, o, rfl, hg, hc⟩ := hV (by omega)
    have hc' := (hc k hlt).1
    rw [h] at hc'
    have hlt' : (k : Int) < (n : Int) := by omega
    clear h hc hk hv hV hlt
    go_enter Try.func24, Try.ntmps24
    go_wp2_with (first | (go_at_call 25; (with_reducible refine (mod_16384 p k HK _).mono ?_); rintro e w' ⟨rfl, rfl⟩))
    go_ret
    exact ⟨rfl, rfl⟩
  · rw [if_neg hlt] at h
    have hge : (n : Int) ≤ (k : Int) := by omega
    subst h
    clear hk hv hV hlt
    go_enter Try.func24, Try.ntmps24
    go_wp2_with (first | (go_at_call 25; (with_reducible refine (mod_16384 p k HK _).mono ?_); rintro e w' ⟨rfl, rfl⟩))
    go_ret
    exact ⟨rfl, rfl⟩

theorem wrap_mod (x : Int) : IntKind.i64.wrap x % 16384 = x % 16384 := by rw [IntKind.wrap_i64]; omega
theorem ent_mod (base line column p1 p2 p3 p4 : Int) (h1 : IntKind.i64.wrap (64 * line) = p1) (h2 : IntKind.i64.wrap (base + p1) = p2) (h3 : IntKind.i64.wrap (2 * column) = p3) (h4 : IntKind.i64.wrap (p2 + p3) = p4) : p4 % 16384 = (base + 64 * line + 2 * column) % 16384 := by
  have e1 := wrap_mod (64 * line)
  have e2 := wrap_mod (base + p1)
  have e3 := wrap_mod (2 * column)
  have e4 := wrap_mod (p2 + p3)
  rw [h1] at e1; rw [h2] at e2; rw [h3] at e3; rw [h4] at e4
  omega
theorem ent_sum (base line column B L C q : Int) (hB : base % 16384 = B) (hL : line % 16384 = L) (hC : column % 16384 = C) (hq : B + 64 * L + 2 * C = q) : (base + 64 * line + 2 * column) % 16384 = q % 16384 := by omega

set_option maxHeartbeats 800000 in
theorem entry_at (a : Option Addr) (n cap : Nat) (xs : Nat → Nat) (base line column B L C q : Int) (k0 k1 b0 b1 e h : Nat) (hB : Hid (base % 16384 = B)) (hL : Hid (line % 16384 = L)) (hC : Hid (column % 16384 = C)) (hq : Hid (B + 64 * L + 2 * C = q)) (hk0 : Hid (q % 16384 = (k0 : Int))) (hk1 : Hid ((q + 1) % 16384 = (k1 : Int))) (hb0 : Hid (vget n xs k0 = b0)) (hb1 : Hid (vget n xs k1 = b1)) (he : Hid ((b0 + 256 * b1) % 512 = e)) (hh : Hid ((b0 + 256 * b1) / 512 % 16 = h)) (w : World) (hV : ByteRow w a n xs) :
    Calls Try.prog 21 #[.slice a n cap, .int .i64 base, .int .i64 line, .int .i64 column] w fun e_ w' => e_ = .returned (.tuple #[.int .i64 (e : Int), .int .u8 (h : Int)]) ∧ w = w' := by
  have B0 : b0 < 256 := by rw [← hb0.out]; exact vget_lt hV _
  have B1 : b1 < 256 := by rw [← hb1.out]; exact vget_lt hV _
  obtain ⟨p1, hp1⟩ : ∃ p, IntKind.i64.wrap (64 * line) = p := ⟨_, rfl⟩
  obtain ⟨p2, hp2⟩ : ∃ p, IntKind.i64.wrap (base + p1) = p := ⟨_, rfl⟩
  obtain ⟨p3, hp3⟩ : ∃ p, IntKind.i64.wrap (2 * column) = p := ⟨_, rfl⟩
  obtain ⟨p4, hp4⟩ : ∃ p, IntKind.i64.wrap (p2 + p3) = p := ⟨_, rfl⟩
  obtain ⟨p5, hp5⟩ : ∃ p, IntKind.i64.wrap (p4 + 1) = p := ⟨_, rfl⟩
  have K0 : Hid (p4 % 16384 = (k0 : Int)) := by
    show _ = _
    exact (ent_mod base line column p1 p2 p3 p4 hp1 hp2 hp3 hp4).trans ((ent_sum base line column B L C q hB.out hL.out hC.out hq.out).trans hk0.out)
  have K1 : Hid (p5 % 16384 = (k1 : Int)) := by
    show _ = _
    have e1 := (ent_mod base line column p1 p2 p3 p4 hp1 hp2 hp3 hp4).trans (ent_sum base line column B L C q hB.out hL.out hC.out hq.out)
    rw [← hp5, wrap_mod, ← hk1.out]
    omega
  obtain ⟨m, hm⟩ : ∃ m : Nat, b0 + 256 * b1 = m := ⟨_, rfl⟩
  have M0 : (b0 : Int) + 256 * (b1 : Int) = (m : Int) := by omega
  have M1 : (m : Int) < 65536 := by omega
  have M2 : Hid ((m : Int) % 512 = (e : Int)) := by show _ = _; have := he.out; omega
  have M3 : bits .and .i64 ((m : Int) / 512) 15 = (h : Int) := (i64_mask ((m : Int) / 512) 4 15 16 (by decide) (by decide) (by decide)).trans (by have := hh.out; omega)
  have M5 : IntKind.u8.wrap (h : Int) = (h : Int) := by rw [IntKind.wrap_u8]; have := hh.out; omega
  clear hm hq hk0 hk1 hB hL hC
  go_enter Try.func21, Try.ntmps21
  go_wp2_with (first | (go_at_call 25; (with_reducible refine (mod_512 (m : Int) e M2 _).mono ?_); rintro e w' ⟨rfl, rfl⟩) | (go_at_call 24; (with_reducible refine (at_at a n cap xs p4 k0 b0 K0 hb0 _ hV).mono ?_); rintro e w' ⟨rfl, rfl⟩) | (go_at_call 24; (with_reducible refine (at_at a n cap xs p5 k1 b1 K1 hb1 _ hV).mono ?_); rintro e w' ⟨rfl, rfl⟩))
  go_ret2
  exact ⟨rfl, rfl⟩

end Go.Proofs.Ytnkckdlolieojaa
