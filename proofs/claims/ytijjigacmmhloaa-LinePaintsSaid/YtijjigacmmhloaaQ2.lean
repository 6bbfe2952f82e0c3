import Derived.Test.YtijjigacmmhloaaQ1
namespace Go.Proofs.Ytijjigacmmhloaa
open Go.RowKit
theorem bit_at (b q m : Nat) (Q M : Int) (hQ : Q = q) (hM : M = m) (hb : b < 256) (hm2 : m ≤ 8) : ∃ s c z : Nat, Hid ((b : Int) / Q = s) ∧ Hid (bits .and .u8 (s : Int) 1 = (c : Int)) ∧ Hid ((c : Int) * M % 256 = (z : Int)) ∧ Hid (c = b / q % 2 ∧ z = c * m) := by
  subst hQ; subst hM
  have h1 : b / q < 256 := Nat.lt_of_le_of_lt (Nat.div_le_self _ _) hb
  have h2 : b / q % 2 < 2 := Nat.mod_lt _ (by decide)
  refine ⟨b / q, b / q % 2, b / q % 2 * m, (by show _ = _; exact (Int.natCast_ediv b q).symm), ?_, ?_, rfl, rfl⟩
  · show _ = _
    exact (u8_and_nat (b / q) 1 h1 (by decide)).trans (by rw [Nat.and_one_is_mod])
  · show _ = _
    have h3 : b / q % 2 * m ≤ 1 * 8 := Nat.mul_le_mul (by omega) hm2
    rw [← Int.natCast_mul]
    omega
theorem bit_at1 (b m : Nat) (M : Int) (hM : M = m) (hb : b < 256) (hm2 : m ≤ 8) : ∃ c z : Nat, Hid (bits .and .u8 (b : Int) 1 = (c : Int)) ∧ Hid ((c : Int) * M % 256 = (z : Int)) ∧ Hid (c = b / 1 % 2 ∧ z = c * m) := by
  obtain ⟨s, c, z, h1, h2, h3, h4⟩ := bit_at b 1 m 1 M rfl hM hb hm2
  refine ⟨c, z, ?_, h3, h4⟩
  have e : (s : Int) = b := by rw [← h1.out]; exact Int.ediv_one _
  have := h2.out
  rw [e] at this
  exact this
theorem nat_times_one {c z : Nat} (h : Hid ((c : Int) * 1 % 256 = (z : Int))) : Hid ((c : Int) % 256 = (z : Int)) := by have := h.out; rw [Int.mul_one] at this; exact this
theorem dot_at (b0 b1 b2 b3 q d c0 c1 c2 c3 z0 z1 z2 z3 : Nat) (h0 : c0 = b0 / q % 2 ∧ z0 = c0 * 1) (h1 : c1 = b1 / q % 2 ∧ z1 = c1 * 2) (h2 : c2 = b2 / q % 2 ∧ z2 = c2 * 4) (h3 : c3 = b3 / q % 2 ∧ z3 = c3 * 8) (hd : dotV b0 b1 b2 b3 q = d) :
    ∃ x1 x2 x3 : Nat, Hid (bits .or .u8 0 (z0 : Int) = (x1 : Int)) ∧ Hid (bits .or .u8 (x1 : Int) (z1 : Int) = (x2 : Int)) ∧ Hid (bits .or .u8 (x2 : Int) (z2 : Int) = (x3 : Int)) ∧ Hid (bits .or .u8 (x3 : Int) (z3 : Int) = (d : Int)) := by
  obtain ⟨e0, rfl⟩ := h0
  obtain ⟨e1, rfl⟩ := h1
  obtain ⟨e2, rfl⟩ := h2
  obtain ⟨e3, rfl⟩ := h3
  unfold dotV at hd
  rw [← e0, ← e1, ← e2, ← e3] at hd
  subst hd
  have f0 : c0 < 2 := by omega
  have f1 : c1 < 2 := by omega
  have f2 : c2 < 2 := by omega
  have f3 : c3 < 2 := by omega
  clear e0 e1 e2 e3
  refine ⟨c0, c0 + 2 * c1, c0 + 2 * c1 + 4 * c2, ?_, ?_, ?_, ?_⟩ <;> show _ = _ <;>
    (obtain rfl | rfl : c0 = 0 ∨ c0 = 1 := by omega) <;> (obtain rfl | rfl : c1 = 0 ∨ c1 = 1 := by omega) <;> (obtain rfl | rfl : c2 = 0 ∨ c2 = 1 := by omega) <;> (obtain rfl | rfl : c3 = 0 ∨ c3 = 1 := by omega) <;> rfl
set_option maxRecDepth 100000 in
set_option maxHeartbeats 12800000 in
theorem row_f (a : Option Addr) (n cap : Nat) (xs : Nat → Nat) (tile row T R : Int) (f b0 b1 b2 b3 d0 d1 d2 d3 d4 d5 d6 d7 : Nat) (hT : Hid (tile % 512 = T)) (hR : Hid (row % 8 = R)) (hf : Hid (32 * T + 4 * R = (f : Int))) (hb0 : Hid (vget n xs f = b0)) (hb1 : Hid (vget n xs (f + 1) = b1)) (hb2 : Hid (vget n xs (f + 2) = b2)) (hb3 : Hid (vget n xs (f + 3) = b3)) (hd0 : Hid (dotV b0 b1 b2 b3 128 = d0)) (hd1 : Hid (dotV b0 b1 b2 b3 64 = d1)) (hd2 : Hid (dotV b0 b1 b2 b3 32 = d2)) (hd3 : Hid (dotV b0 b1 b2 b3 16 = d3)) (hd4 : Hid (dotV b0 b1 b2 b3 8 = d4)) (hd5 : Hid (dotV b0 b1 b2 b3 4 = d5)) (hd6 : Hid (dotV b0 b1 b2 b3 2 = d6)) (hd7 : Hid (dotV b0 b1 b2 b3 1 = d7)) (w : World) (hV : ByteRow w a n xs) :
    Calls Try.prog 46 #[.slice a n cap, .int .i64 tile, .int .i64 row, .bool false] w fun e w' => e = .returned (.agg #[.int .u8 (d0 : Int), .int .u8 (d1 : Int), .int .u8 (d2 : Int), .int .u8 (d3 : Int), .int .u8 (d4 : Int), .int .u8 (d5 : Int), .int .u8 (d6 : Int), .int .u8 (d7 : Int)]) ∧ Below w.heap.size w w' := by
  have HM := Lib.hid (Own.start w)
  have tg1 : Hid True := trivial
  have tg2 : Hid True := trivial
  have HV := Lib.hid hV
  have ef := hf.out
  have T0 : 0 ≤ T := by have := hT.out; omega
  have T1 : T < 512 := by have := hT.out; omega
  have R0 : 0 ≤ R := by have := hR.out; omega
  have R1 : R < 8 := by have := hR.out; omega
  have f1 : (f : Int) ≤ 16380 := by omega
  have hk0 : Hid ((f : Int) % 16384 = ((f : Nat) : Int)) := by show _ = _; omega
  have hk1 : Hid (((f : Int) + 1) % 16384 = ((f + 1 : Nat) : Int)) := by show _ = _; omega
  have hk2 : Hid (((f : Int) + 2) % 16384 = ((f + 2 : Nat) : Int)) := by show _ = _; omega
  have hk3 : Hid (((f : Int) + 3) % 16384 = ((f + 3 : Nat) : Int)) := by show _ = _; omega
  have B0 : b0 < 256 := by rw [← hb0.out]; exact vget_lt hV _
  have B1 : b1 < 256 := by rw [← hb1.out]; exact vget_lt hV _
  have B2 : b2 < 256 := by rw [← hb2.out]; exact vget_lt hV _
  have B3 : b3 < 256 := by rw [← hb3.out]; exact vget_lt hV _
  clear hV
  obtain ⟨s0_0, c0_0, z0_0, S0_0, C0_0, Z0_0, D0_0⟩ := bit_at b0 128 1 128 1 rfl rfl B0 (by decide)
  replace Z0_0 := nat_times_one Z0_0
  obtain ⟨s1_0, c1_0, z1_0, S1_0, C1_0, Z1_0, D1_0⟩ := bit_at b1 128 2 128 2 rfl rfl B1 (by decide)
  obtain ⟨s2_0, c2_0, z2_0, S2_0, C2_0, Z2_0, D2_0⟩ := bit_at b2 128 4 128 4 rfl rfl B2 (by decide)
  obtain ⟨s3_0, c3_0, z3_0, S3_0, C3_0, Z3_0, D3_0⟩ := bit_at b3 128 8 128 8 rfl rfl B3 (by decide)
  obtain ⟨x1_0, x2_0, x3_0, X0_0, X1_0, X2_0, X3_0⟩ := dot_at b0 b1 b2 b3 128 d0 c0_0 c1_0 c2_0 c3_0 z0_0 z1_0 z2_0 z3_0 D0_0.out D1_0.out D2_0.out D3_0.out hd0.out
  clear D0_0 D1_0 D2_0 D3_0
  obtain ⟨s0_1, c0_1, z0_1, S0_1, C0_1, Z0_1, D0_1⟩ := bit_at b0 64 1 64 1 rfl rfl B0 (by decide)
  replace Z0_1 := nat_times_one Z0_1
  obtain ⟨s1_1, c1_1, z1_1, S1_1, C1_1, Z1_1, D1_1⟩ := bit_at b1 64 2 64 2 rfl rfl B1 (by decide)
  obtain ⟨s2_1, c2_1, z2_1, S2_1, C2_1, Z2_1, D2_1⟩ := bit_at b2 64 4 64 4 rfl rfl B2 (by decide)
  obtain ⟨s3_1, c3_1, z3_1, S3_1, C3_1, Z3_1, D3_1⟩ := bit_at b3 64 8 64 8 rfl rfl B3 (by decide)
  obtain ⟨x1_1, x2_1, x3_1, X0_1, X1_1, X2_1, X3_1⟩ := dot_at b0 b1 b2 b3 64 d1 c0_1 c1_1 c2_1 c3_1 z0_1 z1_1 z2_1 z3_1 D0_1.out D1_1.out D2_1.out D3_1.out hd1.out
  clear D0_1 D1_1 D2_1 D3_1
  obtain ⟨s0_2, c0_2, z0_2, S0_2, C0_2, Z0_2, D0_2⟩ := bit_at b0 32 1 32 1 rfl rfl B0 (by decide)
  replace Z0_2 := nat_times_one Z0_2
  obtain ⟨s1_2, c1_2, z1_2, S1_2, C1_2, Z1_2, D1_2⟩ := bit_at b1 32 2 32 2 rfl rfl B1 (by decide)
  obtain ⟨s2_2, c2_2, z2_2, S2_2, C2_2, Z2_2, D2_2⟩ := bit_at b2 32 4 32 4 rfl rfl B2 (by decide)
  obtain ⟨s3_2, c3_2, z3_2, S3_2, C3_2, Z3_2, D3_2⟩ := bit_at b3 32 8 32 8 rfl rfl B3 (by decide)
  obtain ⟨x1_2, x2_2, x3_2, X0_2, X1_2, X2_2, X3_2⟩ := dot_at b0 b1 b2 b3 32 d2 c0_2 c1_2 c2_2 c3_2 z0_2 z1_2 z2_2 z3_2 D0_2.out D1_2.out D2_2.out D3_2.out hd2.out
  clear D0_2 D1_2 D2_2 D3_2
  obtain ⟨s0_3, c0_3, z0_3, S0_3, C0_3, Z0_3, D0_3⟩ := bit_at b0 16 1 16 1 rfl rfl B0 (by decide)
  replace Z0_3 := nat_times_one Z0_3
  obtain ⟨s1_3, c1_3, z1_3, S1_3, C1_3, Z1_3, D1_3⟩ := bit_at b1 16 2 16 2 rfl rfl B1 (by decide)
  obtain ⟨s2_3, c2_3, z2_3, S2_3, C2_3, Z2_3, D2_3⟩ := bit_at b2 16 4 16 4 rfl rfl B2 (by decide)
  obtain ⟨s3_3, c3_3, z3_3, S3_3, C3_3, Z3_3, D3_3⟩ := bit_at b3 16 8 16 8 rfl rfl B3 (by decide)
  obtain ⟨x1_3, x2_3, x3_3, X0_3, X1_3, X2_3, X3_3⟩ := dot_at b0 b1 b2 b3 16 d3 c0_3 c1_3 c2_3 c3_3 z0_3 z1_3 z2_3 z3_3 D0_3.out D1_3.out D2_3.out D3_3.out hd3.out
  clear D0_3 D1_3 D2_3 D3_3
  obtain ⟨s0_4, c0_4, z0_4, S0_4, C0_4, Z0_4, D0_4⟩ := bit_at b0 8 1 8 1 rfl rfl B0 (by decide)
  replace Z0_4 := nat_times_one Z0_4
  obtain ⟨s1_4, c1_4, z1_4, S1_4, C1_4, Z1_4, D1_4⟩ := bit_at b1 8 2 8 2 rfl rfl B1 (by decide)
  obtain ⟨s2_4, c2_4, z2_4, S2_4, C2_4, Z2_4, D2_4⟩ := bit_at b2 8 4 8 4 rfl rfl B2 (by decide)
  obtain ⟨s3_4, c3_4, z3_4, S3_4, C3_4, Z3_4, D3_4⟩ := bit_at b3 8 8 8 8 rfl rfl B3 (by decide)
  obtain ⟨x1_4, x2_4, x3_4, X0_4, X1_4, X2_4, X3_4⟩ := dot_at b0 b1 b2 b3 8 d4 c0_4 c1_4 c2_4 c3_4 z0_4 z1_4 z2_4 z3_4 D0_4.out D1_4.out D2_4.out D3_4.out hd4.out
  clear D0_4 D1_4 D2_4 D3_4
  obtain ⟨s0_5, c0_5, z0_5, S0_5, C0_5, Z0_5, D0_5⟩ := bit_at b0 4 1 4 1 rfl rfl B0 (by decide)
  replace Z0_5 := nat_times_one Z0_5
  obtain ⟨s1_5, c1_5, z1_5, S1_5, C1_5, Z1_5, D1_5⟩ := bit_at b1 4 2 4 2 rfl rfl B1 (by decide)
  obtain ⟨s2_5, c2_5, z2_5, S2_5, C2_5, Z2_5, D2_5⟩ := bit_at b2 4 4 4 4 rfl rfl B2 (by decide)
  obtain ⟨s3_5, c3_5, z3_5, S3_5, C3_5, Z3_5, D3_5⟩ := bit_at b3 4 8 4 8 rfl rfl B3 (by decide)
  obtain ⟨x1_5, x2_5, x3_5, X0_5, X1_5, X2_5, X3_5⟩ := dot_at b0 b1 b2 b3 4 d5 c0_5 c1_5 c2_5 c3_5 z0_5 z1_5 z2_5 z3_5 D0_5.out D1_5.out D2_5.out D3_5.out hd5.out
  clear D0_5 D1_5 D2_5 D3_5
  obtain ⟨s0_6, c0_6, z0_6, S0_6, C0_6, Z0_6, D0_6⟩ := bit_at b0 2 1 2 1 rfl rfl B0 (by decide)
  replace Z0_6 := nat_times_one Z0_6
  obtain ⟨s1_6, c1_6, z1_6, S1_6, C1_6, Z1_6, D1_6⟩ := bit_at b1 2 2 2 2 rfl rfl B1 (by decide)
  obtain ⟨s2_6, c2_6, z2_6, S2_6, C2_6, Z2_6, D2_6⟩ := bit_at b2 2 4 2 4 rfl rfl B2 (by decide)
  obtain ⟨s3_6, c3_6, z3_6, S3_6, C3_6, Z3_6, D3_6⟩ := bit_at b3 2 8 2 8 rfl rfl B3 (by decide)
  obtain ⟨x1_6, x2_6, x3_6, X0_6, X1_6, X2_6, X3_6⟩ := dot_at b0 b1 b2 b3 2 d6 c0_6 c1_6 c2_6 c3_6 z0_6 z1_6 z2_6 z3_6 D0_6.out D1_6.out D2_6.out D3_6.out hd6.out
  clear D0_6 D1_6 D2_6 D3_6
  obtain ⟨c0_7, z0_7, C0_7, Z0_7, D0_7⟩ := bit_at1 b0 1 1 rfl B0 (by decide)
  replace Z0_7 := nat_times_one Z0_7
  obtain ⟨c1_7, z1_7, C1_7, Z1_7, D1_7⟩ := bit_at1 b1 2 2 rfl B1 (by decide)
  obtain ⟨c2_7, z2_7, C2_7, Z2_7, D2_7⟩ := bit_at1 b2 4 4 rfl B2 (by decide)
  obtain ⟨c3_7, z3_7, C3_7, Z3_7, D3_7⟩ := bit_at1 b3 8 8 rfl B3 (by decide)
  obtain ⟨x1_7, x2_7, x3_7, X0_7, X1_7, X2_7, X3_7⟩ := dot_at b0 b1 b2 b3 1 d7 c0_7 c1_7 c2_7 c3_7 z0_7 z1_7 z2_7 z3_7 D0_7.out D1_7.out D2_7.out D3_7.out hd7.out
  clear D0_7 D1_7 D2_7 D3_7
  clear B0 B1 B2 B3 hd0 hd1 hd2 hd3 hd4 hd5 hd6 hd7
  go_enter Try.func46, Try.ntmps46
  go_upto_region 4 with (first | ((with_reducible apply own_box HM); exact rfl; (conv => lhs; whnf); exact rfl; exact rfl; (first | (clear tg1 HM; intro w' g1 HM) | (clear tg2 HM; intro w' g2 HM) | (clear tg3 HM; intro w' g3 HM) | (clear tg4 HM; intro w' g4 HM) | (clear HM; intro w' g' HM))) | ((with_reducible apply own_alloc HM); exact rfl; (first | (with_reducible exact zero8)); exact rfl; (first | (clear tg1 HM; intro w' g1 HM) | (clear tg2 HM; intro w' g2 HM) | (clear tg3 HM; intro w' g3 HM) | (clear tg4 HM; intro w' g4 HM) | (clear HM; intro w' g' HM))) | ((with_reducible apply own_cell HM); exact rfl; exact rfl; (first | (with_reducible exact oneU8) | (with_reducible exact oneInt)); exact sS; exact dS; exact rfl) | ((with_reducible apply own_load HM); exact rfl; exact rfl; (first | (with_reducible exact agg8)); exact sS; exact dS; exact tS; exact rfl) | ((with_reducible apply own_store HM); exact rfl; exact rfl; (conv => lhs; whnf); exact rfl; exact sS; exact vS; exact sS; (first | (with_reducible exact (agg8).size) | (with_reducible exact (oneU8).size) | (with_reducible exact (oneInt).size)); exact rfl; exact rfl; exact rfl; exact rfl; clear HM; intro w' HM) | (go_at_call 52; (with_reducible refine (mod_512 tile T hT _).mono ?_); rintro e w' ⟨rfl, rfl⟩) | (go_at_call 52; (with_reducible refine (mod_8 row R hR _).mono ?_); rintro e w' ⟨rfl, rfl⟩))
  go_loopw [22] (fun i wr => ∃ (j : Nat) (cs : List Value), j ≤ 4 ∧ i = .int .i64 (j : Int) ∧ Hid ((j = 0 ∧ cs = [.int .u8 0, .int .u8 0, .int .u8 0, .int .u8 0, .int .u8 0, .int .u8 0, .int .u8 0, .int .u8 0]) ∨ (j = 1 ∧ cs = [.int .u8 (x1_0 : Int), .int .u8 (x1_1 : Int), .int .u8 (x1_2 : Int), .int .u8 (x1_3 : Int), .int .u8 (x1_4 : Int), .int .u8 (x1_5 : Int), .int .u8 (x1_6 : Int), .int .u8 (x1_7 : Int)]) ∨ (j = 2 ∧ cs = [.int .u8 (x2_0 : Int), .int .u8 (x2_1 : Int), .int .u8 (x2_2 : Int), .int .u8 (x2_3 : Int), .int .u8 (x2_4 : Int), .int .u8 (x2_5 : Int), .int .u8 (x2_6 : Int), .int .u8 (x2_7 : Int)]) ∨ (j = 3 ∧ cs = [.int .u8 (x3_0 : Int), .int .u8 (x3_1 : Int), .int .u8 (x3_2 : Int), .int .u8 (x3_3 : Int), .int .u8 (x3_4 : Int), .int .u8 (x3_5 : Int), .int .u8 (x3_6 : Int), .int .u8 (x3_7 : Int)]) ∨ (j = 4 ∧ cs = [.int .u8 (d0 : Int), .int .u8 (d1 : Int), .int .u8 (d2 : Int), .int .u8 (d3 : Int), .int .u8 (d4 : Int), .int .u8 (d5 : Int), .int .u8 (d6 : Int), .int .u8 (d7 : Int)])) ∧ Hid (Own w wr [(g2, 70, cs), (g1, 70, [.int .u8 0, .int .u8 0, .int .u8 0, .int .u8 0, .int .u8 0, .int .u8 0, .int .u8 0, .int .u8 0])])) (fun i _ => 4 - (intOf i).toNat)
  case atStart => exact ⟨0, _, by omega, rfl, .inl ⟨rfl, rfl⟩, HM⟩
  case round =>
    clear HM
    obtain ⟨j, cs, hj, rfl, hcs, HM⟩ := hrel
    have HVr := Lib.hid (HV.out.under (Own.fin HM))
    rcases hcs.out with ⟨rfl, rfl⟩ | ⟨rfl, rfl⟩ | ⟨rfl, rfl⟩ | ⟨rfl, rfl⟩ | ⟨rfl, rfl⟩
    · go_upto_region 8 with (first | ((with_reducible apply own_box HM); exact rfl; (conv => lhs; whnf); exact rfl; exact rfl; (first | (clear tg1 HM; intro w' g1 HM) | (clear tg2 HM; intro w' g2 HM) | (clear tg3 HM; intro w' g3 HM) | (clear tg4 HM; intro w' g4 HM) | (clear HM; intro w' g' HM))) | ((with_reducible apply own_alloc HM); exact rfl; (first | (with_reducible exact zero8)); exact rfl; (first | (clear tg1 HM; intro w' g1 HM) | (clear tg2 HM; intro w' g2 HM) | (clear tg3 HM; intro w' g3 HM) | (clear tg4 HM; intro w' g4 HM) | (clear HM; intro w' g' HM))) | ((with_reducible apply own_cell HM); exact rfl; exact rfl; (first | (with_reducible exact oneU8) | (with_reducible exact oneInt)); exact sS; exact dS; exact rfl) | ((with_reducible apply own_load HM); exact rfl; exact rfl; (first | (with_reducible exact agg8)); exact sS; exact dS; exact tS; exact rfl) | ((with_reducible apply own_store HM); exact rfl; exact rfl; (conv => lhs; whnf); exact rfl; exact sS; exact vS; exact sS; (first | (with_reducible exact (agg8).size) | (with_reducible exact (oneU8).size) | (with_reducible exact (oneInt).size)); exact rfl; exact rfl; exact rfl; exact rfl; clear HM; intro w' HM) | (go_at_call 49; (with_reducible refine (at_at a n cap xs _ f b0 hk0 hb0 _ HVr.out).mono ?_); rintro e w' ⟨rfl, rfl⟩))
      go_loopw [30] (fun i wr => ∃ (j : Nat) (cs : List Value), j ≤ 8 ∧ i = .int .i64 (j : Int) ∧ Hid ((j = 0 ∧ cs = [.int .u8 0, .int .u8 0, .int .u8 0, .int .u8 0, .int .u8 0, .int .u8 0, .int .u8 0, .int .u8 0]) ∨ (j = 1 ∧ cs = [.int .u8 (x1_0 : Int), .int .u8 0, .int .u8 0, .int .u8 0, .int .u8 0, .int .u8 0, .int .u8 0, .int .u8 0]) ∨ (j = 2 ∧ cs = [.int .u8 (x1_0 : Int), .int .u8 (x1_1 : Int), .int .u8 0, .int .u8 0, .int .u8 0, .int .u8 0, .int .u8 0, .int .u8 0]) ∨ (j = 3 ∧ cs = [.int .u8 (x1_0 : Int), .int .u8 (x1_1 : Int), .int .u8 (x1_2 : Int), .int .u8 0, .int .u8 0, .int .u8 0, .int .u8 0, .int .u8 0]) ∨ (j = 4 ∧ cs = [.int .u8 (x1_0 : Int), .int .u8 (x1_1 : Int), .int .u8 (x1_2 : Int), .int .u8 (x1_3 : Int), .int .u8 0, .int .u8 0, .int .u8 0, .int .u8 0]) ∨ (j = 5 ∧ cs = [.int .u8 (x1_0 : Int), .int .u8 (x1_1 : Int), .int .u8 (x1_2 : Int), .int .u8 (x1_3 : Int), .int .u8 (x1_4 : Int), .int .u8 0, .int .u8 0, .int .u8 0]) ∨ (j = 6 ∧ cs = [.int .u8 (x1_0 : Int), .int .u8 (x1_1 : Int), .int .u8 (x1_2 : Int), .int .u8 (x1_3 : Int), .int .u8 (x1_4 : Int), .int .u8 (x1_5 : Int), .int .u8 0, .int .u8 0]) ∨ (j = 7 ∧ cs = [.int .u8 (x1_0 : Int), .int .u8 (x1_1 : Int), .int .u8 (x1_2 : Int), .int .u8 (x1_3 : Int), .int .u8 (x1_4 : Int), .int .u8 (x1_5 : Int), .int .u8 (x1_6 : Int), .int .u8 0]) ∨ (j = 8 ∧ cs = [.int .u8 (x1_0 : Int), .int .u8 (x1_1 : Int), .int .u8 (x1_2 : Int), .int .u8 (x1_3 : Int), .int .u8 (x1_4 : Int), .int .u8 (x1_5 : Int), .int .u8 (x1_6 : Int), .int .u8 (x1_7 : Int)])) ∧ Hid (Own w wr [(g2, 70, cs), (g1, 70, [.int .u8 0, .int .u8 0, .int .u8 0, .int .u8 0, .int .u8 0, .int .u8 0, .int .u8 0, .int .u8 0])])) (fun i _ => 8 - (intOf i).toNat)
      case atStart => exact ⟨0, _, by omega, rfl, .inl ⟨rfl, rfl⟩, HM⟩
      case round =>
        clear HM
        obtain ⟨j, cs, hj, rfl, hcs, HM⟩ := hrel
        rcases hcs.out with ⟨rfl, rfl⟩ | ⟨rfl, rfl⟩ | ⟨rfl, rfl⟩ | ⟨rfl, rfl⟩ | ⟨rfl, rfl⟩ | ⟨rfl, rfl⟩ | ⟨rfl, rfl⟩ | ⟨rfl, rfl⟩ | ⟨rfl, rfl⟩
        · have E1 := S0_0.out
          have E2 := C0_0.out
          have E3 := Z0_0.out
          have E4 := X0_0.out
          go_upto_region 13 with fail
          (refine own_tail 10 HM (by kernel_rfl) (by kernel_rfl) (by kernel_rfl) ?_; simp only [List.take_succ_cons, List.take_zero, List.drop_succ_cons, List.drop_zero]; (try simp only [Act.put, List.setIfInBounds_toArray, List.set_cons_zero, List.set_cons_succ]); repeat ((fail_if_success (with_reducible refine wpQuiet_nil ?_)); first | go_big_quiet_skip | (go_big_quiet_want; first | ((with_reducible apply quiet_load); exact rfl; (first | (with_reducible exact agg8)); exact sS; exact dS; exact tS; go_big_quiet_op; go_big_quiet_on) | ((with_reducible apply quiet_cell); exact rfl; (first | (with_reducible exact oneU8) | (with_reducible exact oneInt)); exact sS; exact dS; go_big_quiet_op; go_big_quiet_on) | (go_big_quiet_op; go_big_quiet_on) | (go_big_quiet_op; refine ⟨_, fun _ _ => rfl, ?_⟩; go_big_quiet_on))))
          refine wpQuiet_nil ?_
          intro w' HM'
          clear HM; have HM := HM'; clear HM'
          clear E1 E2 E3 E4
          go_wp2_with (first | ((with_reducible apply own_box HM); exact rfl; (conv => lhs; whnf); exact rfl; exact rfl; (first | (clear tg1 HM; intro w' g1 HM) | (clear tg2 HM; intro w' g2 HM) | (clear tg3 HM; intro w' g3 HM) | (clear tg4 HM; intro w' g4 HM) | (clear HM; intro w' g' HM))) | ((with_reducible apply own_alloc HM); exact rfl; (first | (with_reducible exact zero8)); exact rfl; (first | (clear tg1 HM; intro w' g1 HM) | (clear tg2 HM; intro w' g2 HM) | (clear tg3 HM; intro w' g3 HM) | (clear tg4 HM; intro w' g4 HM) | (clear HM; intro w' g' HM))) | ((with_reducible apply own_cell HM); exact rfl; exact rfl; (first | (with_reducible exact oneU8) | (with_reducible exact oneInt)); exact sS; exact dS; exact rfl) | ((with_reducible apply own_load HM); exact rfl; exact rfl; (first | (with_reducible exact agg8)); exact sS; exact dS; exact tS; exact rfl) | ((with_reducible apply own_store HM); exact rfl; exact rfl; (conv => lhs; whnf); exact rfl; exact sS; exact vS; exact sS; (first | (with_reducible exact (agg8).size) | (with_reducible exact (oneU8).size) | (with_reducible exact (oneInt).size)); exact rfl; exact rfl; exact rfl; exact rfl; clear HM; intro w' HM))
          go_roundw
          case rel => exact ⟨1, _, by omega, rfl, .inr (.inl ⟨rfl, rfl⟩), HM⟩
          case measure => decide
        · have E1 := S0_1.out
          have E2 := C0_1.out
          have E3 := Z0_1.out
          have E4 := X0_1.out
          go_upto_region 13 with fail
          (refine own_tail 10 HM (by kernel_rfl) (by kernel_rfl) (by kernel_rfl) ?_; simp only [List.take_succ_cons, List.take_zero, List.drop_succ_cons, List.drop_zero]; (try simp only [Act.put, List.setIfInBounds_toArray, List.set_cons_zero, List.set_cons_succ]); repeat ((fail_if_success (with_reducible refine wpQuiet_nil ?_)); first | go_big_quiet_skip | (go_big_quiet_want; first | ((with_reducible apply quiet_load); exact rfl; (first | (with_reducible exact agg8)); exact sS; exact dS; exact tS; go_big_quiet_op; go_big_quiet_on) | ((with_reducible apply quiet_cell); exact rfl; (first | (with_reducible exact oneU8) | (with_reducible exact oneInt)); exact sS; exact dS; go_big_quiet_op; go_big_quiet_on) | (go_big_quiet_op; go_big_quiet_on) | (go_big_quiet_op; refine ⟨_, fun _ _ => rfl, ?_⟩; go_big_quiet_on))))
          refine wpQuiet_nil ?_
          intro w' HM'
          clear HM; have HM := HM'; clear HM'
          clear E1 E2 E3 E4
          go_wp2_with (first | ((with_reducible apply own_box HM); exact rfl; (conv => lhs; whnf); exact rfl; exact rfl; (first | (clear tg1 HM; intro w' g1 HM) | (clear tg2 HM; intro w' g2 HM) | (clear tg3 HM; intro w' g3 HM) | (clear tg4 HM; intro w' g4 HM) | (clear HM; intro w' g' HM))) | ((with_reducible apply own_alloc HM); exact rfl; (first | (with_reducible exact zero8)); exact rfl; (first | (clear tg1 HM; intro w' g1 HM) | (clear tg2 HM; intro w' g2 HM) | (clear tg3 HM; intro w' g3 HM) | (clear tg4 HM; intro w' g4 HM) | (clear HM; intro w' g' HM))) | ((with_reducible apply own_cell HM); exact rfl; exact rfl; (first | (with_reducible exact oneU8) | (with_reducible exact oneInt)); exact sS; exact dS; exact rfl) | ((with_reducible apply own_load HM); exact rfl; exact rfl; (first | (with_reducible exact agg8)); exact sS; exact dS; exact tS; exact rfl) | ((with_reducible apply own_store HM); exact rfl; exact rfl; (conv => lhs; whnf); exact rfl; exact sS; exact vS; exact sS; (first | (with_reducible exact (agg8).size) | (with_reducible exact (oneU8).size) | (with_reducible exact (oneInt).size)); exact rfl; exact rfl; exact rfl; exact rfl; clear HM; intro w' HM))
          go_roundw
          case rel => exact ⟨2, _, by omega, rfl, .inr (.inr (.inl ⟨rfl, rfl⟩)), HM⟩
          case measure => decide
        · have E1 := S0_2.out
          have E2 := C0_2.out
          have E3 := Z0_2.out
          have E4 := X0_2.out
          go_upto_region 13 with fail
          (refine own_tail 10 HM (by kernel_rfl) (by kernel_rfl) (by kernel_rfl) ?_; simp only [List.take_succ_cons, List.take_zero, List.drop_succ_cons, List.drop_zero]; (try simp only [Act.put, List.setIfInBounds_toArray, List.set_cons_zero, List.set_cons_succ]); repeat ((fail_if_success (with_reducible refine wpQuiet_nil ?_)); first | go_big_quiet_skip | (go_big_quiet_want; first | ((with_reducible apply quiet_load); exact rfl; (first | (with_reducible exact agg8)); exact sS; exact dS; exact tS; go_big_quiet_op; go_big_quiet_on) | ((with_reducible apply quiet_cell); exact rfl; (first | (with_reducible exact oneU8) | (with_reducible exact oneInt)); exact sS; exact dS; go_big_quiet_op; go_big_quiet_on) | (go_big_quiet_op; go_big_quiet_on) | (go_big_quiet_op; refine ⟨_, fun _ _ => rfl, ?_⟩; go_big_quiet_on))))
          refine wpQuiet_nil ?_
          intro w' HM'
          clear HM; have HM := HM'; clear HM'
          clear E1 E2 E3 E4
          go_wp2_with (first | ((with_reducible apply own_box HM); exact rfl; (conv => lhs; whnf); exact rfl; exact rfl; (first | (clear tg1 HM; intro w' g1 HM) | (clear tg2 HM; intro w' g2 HM) | (clear tg3 HM; intro w' g3 HM) | (clear tg4 HM; intro w' g4 HM) | (clear HM; intro w' g' HM))) | ((with_reducible apply own_alloc HM); exact rfl; (first | (with_reducible exact zero8)); exact rfl; (first | (clear tg1 HM; intro w' g1 HM) | (clear tg2 HM; intro w' g2 HM) | (clear tg3 HM; intro w' g3 HM) | (clear tg4 HM; intro w' g4 HM) | (clear HM; intro w' g' HM))) | ((with_reducible apply own_cell HM); exact rfl; exact rfl; (first | (with_reducible exact oneU8) | (with_reducible exact oneInt)); exact sS; exact dS; exact rfl) | ((with_reducible apply own_load HM); exact rfl; exact rfl; (first | (with_reducible exact agg8)); exact sS; exact dS; exact tS; exact rfl) | ((with_reducible apply own_store HM); exact rfl; exact rfl; (conv => lhs; whnf); exact rfl; exact sS; exact vS; exact sS; (first | (with_reducible exact (agg8).size) | (with_reducible exact (oneU8).size) | (with_reducible exact (oneInt).size)); exact rfl; exact rfl; exact rfl; exact rfl; clear HM; intro w' HM))
          go_roundw
          case rel => exact ⟨3, _, by omega, rfl, .inr (.inr (.inr (.inl ⟨rfl, rfl⟩))), HM⟩
          case measure => decide
        · have E1 := S0_3.out
          have E2 := C0_3.out
          have E3 := Z0_3.out
          have E4 := X0_3.out
          go_upto_region 13 with fail
          (refine own_tail 10 HM (by kernel_rfl) (by kernel_rfl) (by kernel_rfl) ?_; simp only [List.take_succ_cons, List.take_zero, List.drop_succ_cons, List.drop_zero]; (try simp only [Act.put, List.setIfInBounds_toArray, List.set_cons_zero, List.set_cons_succ]); repeat ((fail_if_success (with_reducible refine wpQuiet_nil ?_)); first | go_big_quiet_skip | (go_big_quiet_want; first | ((with_reducible apply quiet_load); exact rfl; (first | (with_reducible exact agg8)); exact sS; exact dS; exact tS; go_big_quiet_op; go_big_quiet_on) | ((with_reducible apply quiet_cell); exact rfl; (first | (with_reducible exact oneU8) | (with_reducible exact oneInt)); exact sS; exact dS; go_big_quiet_op; go_big_quiet_on) | (go_big_quiet_op; go_big_quiet_on) | (go_big_quiet_op; refine ⟨_, fun _ _ => rfl, ?_⟩; go_big_quiet_on))))
          refine wpQuiet_nil ?_
          intro w' HM'
          clear HM; have HM := HM'; clear HM'
          clear E1 E2 E3 E4
          go_wp2_with (first | ((with_reducible apply own_box HM); exact rfl; (conv => lhs; whnf); exact rfl; exact rfl; (first | (clear tg1 HM; intro w' g1 HM) | (clear tg2 HM; intro w' g2 HM) | (clear tg3 HM; intro w' g3 HM) | (clear tg4 HM; intro w' g4 HM) | (clear HM; intro w' g' HM))) | ((with_reducible apply own_alloc HM); exact rfl; (first | (with_reducible exact zero8)); exact rfl; (first | (clear tg1 HM; intro w' g1 HM) | (clear tg2 HM; intro w' g2 HM) | (clear tg3 HM; intro w' g3 HM) | (clear tg4 HM; intro w' g4 HM) | (clear HM; intro w' g' HM))) | ((with_reducible apply own_cell HM); exact rfl; exact rfl; (first | (with_reducible exact oneU8) | (with_reducible exact oneInt)); exact sS; exact dS; exact rfl) | ((with_reducible apply own_load HM); exact rfl; exact rfl; (first | (with_reducible exact agg8)); exact sS; exact dS; exact tS; exact rfl) | ((with_reducible apply own_store HM); exact rfl; exact rfl; (conv => lhs; whnf); exact rfl; exact sS; exact vS; exact sS; (first | (with_reducible exact (agg8).size) | (with_reducible exact (oneU8).size) | (with_reducible exact (oneInt).size)); exact rfl; exact rfl; exact rfl; exact rfl; clear HM; intro w' HM))
          go_roundw
          case rel => exact ⟨4, _, by omega, rfl, .inr (.inr (.inr (.inr (.inl ⟨rfl, rfl⟩)))), HM⟩
          case measure => decide
        · have E1 := S0_4.out
          have E2 := C0_4.out
          have E3 := Z0_4.out
          have E4 := X0_4.out
          go_upto_region 13 with fail
          (refine own_tail 10 HM (by kernel_rfl) (by kernel_rfl) (by kernel_rfl) ?_; simp only [List.take_succ_cons, List.take_zero, List.drop_succ_cons, List.drop_zero]; (try simp only [Act.put, List.setIfInBounds_toArray, List.set_cons_zero, List.set_cons_succ]); repeat ((fail_if_success (with_reducible refine wpQuiet_nil ?_)); first | go_big_quiet_skip | (go_big_quiet_want; first | ((with_reducible apply quiet_load); exact rfl; (first | (with_reducible exact agg8)); exact sS; exact dS; exact tS; go_big_quiet_op; go_big_quiet_on) | ((with_reducible apply quiet_cell); exact rfl; (first | (with_reducible exact oneU8) | (with_reducible exact oneInt)); exact sS; exact dS; go_big_quiet_op; go_big_quiet_on) | (go_big_quiet_op; go_big_quiet_on) | (go_big_quiet_op; refine ⟨_, fun _ _ => rfl, ?_⟩; go_big_quiet_on))))
          refine wpQuiet_nil ?_
          intro w' HM'
          clear HM; have HM := HM'; clear HM'
          clear E1 E2 E3 E4
          go_wp2_with (first | ((with_reducible apply own_box HM); exact rfl; (conv => lhs; whnf); exact rfl; exact rfl; (first | (clear tg1 HM; intro w' g1 HM) | (clear tg2 HM; intro w' g2 HM) | (clear tg3 HM; intro w' g3 HM) | (clear tg4 HM; intro w' g4 HM) | (clear HM; intro w' g' HM))) | ((with_reducible apply own_alloc HM); exact rfl; (first | (with_reducible exact zero8)); exact rfl; (first | (clear tg1 HM; intro w' g1 HM) | (clear tg2 HM; intro w' g2 HM) | (clear tg3 HM; intro w' g3 HM) | (clear tg4 HM; intro w' g4 HM) | (clear HM; intro w' g' HM))) | ((with_reducible apply own_cell HM); exact rfl; exact rfl; (first | (with_reducible exact oneU8) | (with_reducible exact oneInt)); exact sS; exact dS; exact rfl) | ((with_reducible apply own_load HM); exact rfl; exact rfl; (first | (with_reducible exact agg8)); exact sS; exact dS; exact tS; exact rfl) | ((with_reducible apply own_store HM); exact rfl; exact rfl; (conv => lhs; whnf); exact rfl; exact sS; exact vS; exact sS; (first | (with_reducible exact (agg8).size) | (with_reducible exact (oneU8).size) | (with_reducible exact (oneInt).size)); exact rfl; exact rfl; exact rfl; exact rfl; clear HM; intro w' HM))
          go_roundw
          case rel => exact ⟨5, _, by omega, rfl, .inr (.inr (.inr (.inr (.inr (.inl ⟨rfl, rfl⟩))))), HM⟩
          case measure => decide
        · have E1 := S0_5.out
          have E2 := C0_5.out
          have E3 := Z0_5.out
          have E4 := X0_5.out
          go_upto_region 13 with fail
          (refine own_tail 10 HM (by kernel_rfl) (by kernel_rfl) (by kernel_rfl) ?_; simp only [List.take_succ_cons, List.take_zero, List.drop_succ_cons, List.drop_zero]; (try simp only [Act.put, List.setIfInBounds_toArray, List.set_cons_zero, List.set_cons_succ]); repeat ((fail_if_success (with_reducible refine wpQuiet_nil ?_)); first | go_big_quiet_skip | (go_big_quiet_want; first | ((with_reducible apply quiet_load); exact rfl; (first | (with_reducible exact agg8)); exact sS; exact dS; exact tS; go_big_quiet_op; go_big_quiet_on) | ((with_reducible apply quiet_cell); exact rfl; (first | (with_reducible exact oneU8) | (with_reducible exact oneInt)); exact sS; exact dS; go_big_quiet_op; go_big_quiet_on) | (go_big_quiet_op; go_big_quiet_on) | (go_big_quiet_op; refine ⟨_, fun _ _ => rfl, ?_⟩; go_big_quiet_on))))
          refine wpQuiet_nil ?_
          intro w' HM'
          clear HM; have HM := HM'; clear HM'
          clear E1 E2 E3 E4
          go_wp2_with (first | ((with_reducible apply own_box HM); exact rfl; (conv => lhs; whnf); exact rfl; exact rfl; (first | (clear tg1 HM; intro w' g1 HM) | (clear tg2 HM; intro w' g2 HM) | (clear tg3 HM; intro w' g3 HM) | (clear tg4 HM; intro w' g4 HM) | (clear HM; intro w' g' HM))) | ((with_reducible apply own_alloc HM); exact rfl; (first | (with_reducible exact zero8)); exact rfl; (first | (clear tg1 HM; intro w' g1 HM) | (clear tg2 HM; intro w' g2 HM) | (clear tg3 HM; intro w' g3 HM) | (clear tg4 HM; intro w' g4 HM) | (clear HM; intro w' g' HM))) | ((with_reducible apply own_cell HM); exact rfl; exact rfl; (first | (with_reducible exact oneU8) | (with_reducible exact oneInt)); exact sS; exact dS; exact rfl) | ((with_reducible apply own_load HM); exact rfl; exact rfl; (first | (with_reducible exact agg8)); exact sS; exact dS; exact tS; exact rfl) | ((with_reducible apply own_store HM); exact rfl; exact rfl; (conv => lhs; whnf); exact rfl; exact sS; exact vS; exact sS; (first | (with_reducible exact (agg8).size) | (with_reducible exact (oneU8).size) | (with_reducible exact (oneInt).size)); exact rfl; exact rfl; exact rfl; exact rfl; clear HM; intro w' HM))
          go_roundw
          case rel => exact ⟨6, _, by omega, rfl, .inr (.inr (.inr (.inr (.inr (.inr (.inl ⟨rfl, rfl⟩)))))), HM⟩
          case measure => decide
        · have E1 := S0_6.out
          have E2 := C0_6.out
          have E3 := Z0_6.out
          have E4 := X0_6.out
          go_upto_region 13 with fail
          (refine own_tail 10 HM (by kernel_rfl) (by kernel_rfl) (by kernel_rfl) ?_; simp only [List.take_succ_cons, List.take_zero, List.drop_succ_cons, List.drop_zero]; (try simp only [Act.put, List.setIfInBounds_toArray, List.set_cons_zero, List.set_cons_succ]); repeat ((fail_if_success (with_reducible refine wpQuiet_nil ?_)); first | go_big_quiet_skip | (go_big_quiet_want; first | ((with_reducible apply quiet_load); exact rfl; (first | (with_reducible exact agg8)); exact sS; exact dS; exact tS; go_big_quiet_op; go_big_quiet_on) | ((with_reducible apply quiet_cell); exact rfl; (first | (with_reducible exact oneU8) | (with_reducible exact oneInt)); exact sS; exact dS; go_big_quiet_op; go_big_quiet_on) | (go_big_quiet_op; go_big_quiet_on) | (go_big_quiet_op; refine ⟨_, fun _ _ => rfl, ?_⟩; go_big_quiet_on))))
          refine wpQuiet_nil ?_
          intro w' HM'
          clear HM; have HM := HM'; clear HM'
          clear E1 E2 E3 E4
          go_wp2_with (first | ((with_reducible apply own_box HM); exact rfl; (conv => lhs; whnf); exact rfl; exact rfl; (first | (clear tg1 HM; intro w' g1 HM) | (clear tg2 HM; intro w' g2 HM) | (clear tg3 HM; intro w' g3 HM) | (clear tg4 HM; intro w' g4 HM) | (clear HM; intro w' g' HM))) | ((with_reducible apply own_alloc HM); exact rfl; (first | (with_reducible exact zero8)); exact rfl; (first | (clear tg1 HM; intro w' g1 HM) | (clear tg2 HM; intro w' g2 HM) | (clear tg3 HM; intro w' g3 HM) | (clear tg4 HM; intro w' g4 HM) | (clear HM; intro w' g' HM))) | ((with_reducible apply own_cell HM); exact rfl; exact rfl; (first | (with_reducible exact oneU8) | (with_reducible exact oneInt)); exact sS; exact dS; exact rfl) | ((with_reducible apply own_load HM); exact rfl; exact rfl; (first | (with_reducible exact agg8)); exact sS; exact dS; exact tS; exact rfl) | ((with_reducible apply own_store HM); exact rfl; exact rfl; (conv => lhs; whnf); exact rfl; exact sS; exact vS; exact sS; (first | (with_reducible exact (agg8).size) | (with_reducible exact (oneU8).size) | (with_reducible exact (oneInt).size)); exact rfl; exact rfl; exact rfl; exact rfl; clear HM; intro w' HM))
          go_roundw
          case rel => exact ⟨7, _, by omega, rfl, .inr (.inr (.inr (.inr (.inr (.inr (.inr (.inl ⟨rfl, rfl⟩))))))), HM⟩
          case measure => decide
        · have E1 := trivial
          have E2 := C0_7.out
          have E3 := Z0_7.out
          have E4 := X0_7.out
          go_upto_region 13 with fail
          (refine own_tail 10 HM (by kernel_rfl) (by kernel_rfl) (by kernel_rfl) ?_; simp only [List.take_succ_cons, List.take_zero, List.drop_succ_cons, List.drop_zero]; (try simp only [Act.put, List.setIfInBounds_toArray, List.set_cons_zero, List.set_cons_succ]); repeat ((fail_if_success (with_reducible refine wpQuiet_nil ?_)); first | go_big_quiet_skip | (go_big_quiet_want; first | ((with_reducible apply quiet_load); exact rfl; (first | (with_reducible exact agg8)); exact sS; exact dS; exact tS; go_big_quiet_op; go_big_quiet_on) | ((with_reducible apply quiet_cell); exact rfl; (first | (with_reducible exact oneU8) | (with_reducible exact oneInt)); exact sS; exact dS; go_big_quiet_op; go_big_quiet_on) | (go_big_quiet_op; go_big_quiet_on) | (go_big_quiet_op; refine ⟨_, fun _ _ => rfl, ?_⟩; go_big_quiet_on))))
          refine wpQuiet_nil ?_
          intro w' HM'
          clear HM; have HM := HM'; clear HM'
          clear E1 E2 E3 E4
          go_wp2_with (first | ((with_reducible apply own_box HM); exact rfl; (conv => lhs; whnf); exact rfl; exact rfl; (first | (clear tg1 HM; intro w' g1 HM) | (clear tg2 HM; intro w' g2 HM) | (clear tg3 HM; intro w' g3 HM) | (clear tg4 HM; intro w' g4 HM) | (clear HM; intro w' g' HM))) | ((with_reducible apply own_alloc HM); exact rfl; (first | (with_reducible exact zero8)); exact rfl; (first | (clear tg1 HM; intro w' g1 HM) | (clear tg2 HM; intro w' g2 HM) | (clear tg3 HM; intro w' g3 HM) | (clear tg4 HM; intro w' g4 HM) | (clear HM; intro w' g' HM))) | ((with_reducible apply own_cell HM); exact rfl; exact rfl; (first | (with_reducible exact oneU8) | (with_reducible exact oneInt)); exact sS; exact dS; exact rfl) | ((with_reducible apply own_load HM); exact rfl; exact rfl; (first | (with_reducible exact agg8)); exact sS; exact dS; exact tS; exact rfl) | ((with_reducible apply own_store HM); exact rfl; exact rfl; (conv => lhs; whnf); exact rfl; exact sS; exact vS; exact sS; (first | (with_reducible exact (agg8).size) | (with_reducible exact (oneU8).size) | (with_reducible exact (oneInt).size)); exact rfl; exact rfl; exact rfl; exact rfl; clear HM; intro w' HM))
          go_roundw
          case rel => exact ⟨8, _, by omega, rfl, .inr (.inr (.inr (.inr (.inr (.inr (.inr (.inr (⟨rfl, rfl⟩)))))))), HM⟩
          case measure => decide
        · go_upto_region 16 with (first | ((with_reducible apply own_box HM); exact rfl; (conv => lhs; whnf); exact rfl; exact rfl; (first | (clear tg1 HM; intro w' g1 HM) | (clear tg2 HM; intro w' g2 HM) | (clear tg3 HM; intro w' g3 HM) | (clear tg4 HM; intro w' g4 HM) | (clear HM; intro w' g' HM))) | ((with_reducible apply own_alloc HM); exact rfl; (first | (with_reducible exact zero8)); exact rfl; (first | (clear tg1 HM; intro w' g1 HM) | (clear tg2 HM; intro w' g2 HM) | (clear tg3 HM; intro w' g3 HM) | (clear tg4 HM; intro w' g4 HM) | (clear HM; intro w' g' HM))) | ((with_reducible apply own_cell HM); exact rfl; exact rfl; (first | (with_reducible exact oneU8) | (with_reducible exact oneInt)); exact sS; exact dS; exact rfl) | ((with_reducible apply own_load HM); exact rfl; exact rfl; (first | (with_reducible exact agg8)); exact sS; exact dS; exact tS; exact rfl) | ((with_reducible apply own_store HM); exact rfl; exact rfl; (conv => lhs; whnf); exact rfl; exact sS; exact vS; exact sS; (first | (with_reducible exact (agg8).size) | (with_reducible exact (oneU8).size) | (with_reducible exact (oneInt).size)); exact rfl; exact rfl; exact rfl; exact rfl; clear HM; intro w' HM))
          go_roundw
          case rel => exact ⟨1, by omega, rfl, _, .inr (.inl ⟨rfl, rfl⟩), HM⟩
          case measure => decide
    · go_upto_region 8 with (first | ((with_reducible apply own_box HM); exact rfl; (conv => lhs; whnf); exact rfl; exact rfl; (first | (clear tg1 HM; intro w' g1 HM) | (clear tg2 HM; intro w' g2 HM) | (clear tg3 HM; intro w' g3 HM) | (clear tg4 HM; intro w' g4 HM) | (clear HM; intro w' g' HM))) | ((with_reducible apply own_alloc HM); exact rfl; (first | (with_reducible exact zero8)); exact rfl; (first | (clear tg1 HM; intro w' g1 HM) | (clear tg2 HM; intro w' g2 HM) | (clear tg3 HM; intro w' g3 HM) | (clear tg4 HM; intro w' g4 HM) | (clear HM; intro w' g' HM))) | ((with_reducible apply own_cell HM); exact rfl; exact rfl; (first | (with_reducible exact oneU8) | (with_reducible exact oneInt)); exact sS; exact dS; exact rfl) | ((with_reducible apply own_load HM); exact rfl; exact rfl; (first | (with_reducible exact agg8)); exact sS; exact dS; exact tS; exact rfl) | ((with_reducible apply own_store HM); exact rfl; exact rfl; (conv => lhs; whnf); exact rfl; exact sS; exact vS; exact sS; (first | (with_reducible exact (agg8).size) | (with_reducible exact (oneU8).size) | (with_reducible exact (oneInt).size)); exact rfl; exact rfl; exact rfl; exact rfl; clear HM; intro w' HM) | (go_at_call 49; (with_reducible refine (at_at a n cap xs _ (f + 1) b1 hk1 hb1 _ HVr.out).mono ?_); rintro e w' ⟨rfl, rfl⟩))
      go_loopw [30] (fun i wr => ∃ (j : Nat) (cs : List Value), j ≤ 8 ∧ i = .int .i64 (j : Int) ∧ Hid ((j = 0 ∧ cs = [.int .u8 (x1_0 : Int), .int .u8 (x1_1 : Int), .int .u8 (x1_2 : Int), .int .u8 (x1_3 : Int), .int .u8 (x1_4 : Int), .int .u8 (x1_5 : Int), .int .u8 (x1_6 : Int), .int .u8 (x1_7 : Int)]) ∨ (j = 1 ∧ cs = [.int .u8 (x2_0 : Int), .int .u8 (x1_1 : Int), .int .u8 (x1_2 : Int), .int .u8 (x1_3 : Int), .int .u8 (x1_4 : Int), .int .u8 (x1_5 : Int), .int .u8 (x1_6 : Int), .int .u8 (x1_7 : Int)]) ∨ (j = 2 ∧ cs = [.int .u8 (x2_0 : Int), .int .u8 (x2_1 : Int), .int .u8 (x1_2 : Int), .int .u8 (x1_3 : Int), .int .u8 (x1_4 : Int), .int .u8 (x1_5 : Int), .int .u8 (x1_6 : Int), .int .u8 (x1_7 : Int)]) ∨ (j = 3 ∧ cs = [.int .u8 (x2_0 : Int), .int .u8 (x2_1 : Int), .int .u8 (x2_2 : Int), .int .u8 (x1_3 : Int), .int .u8 (x1_4 : Int), .int .u8 (x1_5 : Int), .int .u8 (x1_6 : Int), .int .u8 (x1_7 : Int)]) ∨ (j = 4 ∧ cs = [.int .u8 (x2_0 : Int), .int .u8 (x2_1 : Int), .int .u8 (x2_2 : Int), .int .u8 (x2_3 : Int), .int .u8 (x1_4 : Int), .int .u8 (x1_5 : Int), .int .u8 (x1_6 : Int), .int .u8 (x1_7 : Int)]) ∨ (j = 5 ∧ cs = [.int .u8 (x2_0 : Int), .int .u8 (x2_1 : Int), .int .u8 (x2_2 : Int), .int .u8 (x2_3 : Int), .int .u8 (x2_4 : Int), .int .u8 (x1_5 : Int), .int .u8 (x1_6 : Int), .int .u8 (x1_7 : Int)]) ∨ (j = 6 ∧ cs = [.int .u8 (x2_0 : Int), .int .u8 (x2_1 : Int), .int .u8 (x2_2 : Int), .int .u8 (x2_3 : Int), .int .u8 (x2_4 : Int), .int .u8 (x2_5 : Int), .int .u8 (x1_6 : Int), .int .u8 (x1_7 : Int)]) ∨ (j = 7 ∧ cs = [.int .u8 (x2_0 : Int), .int .u8 (x2_1 : Int), .int .u8 (x2_2 : Int), .int .u8 (x2_3 : Int), .int .u8 (x2_4 : Int), .int .u8 (x2_5 : Int), .int .u8 (x2_6 : Int), .int .u8 (x1_7 : Int)]) ∨ (j = 8 ∧ cs = [.int .u8 (x2_0 : Int), .int .u8 (x2_1 : Int), .int .u8 (x2_2 : Int), .int .u8 (x2_3 : Int), .int .u8 (x2_4 : Int), .int .u8 (x2_5 : Int), .int .u8 (x2_6 : Int), .int .u8 (x2_7 : Int)])) ∧ Hid (Own w wr [(g2, 70, cs), (g1, 70, [.int .u8 0, .int .u8 0, .int .u8 0, .int .u8 0, .int .u8 0, .int .u8 0, .int .u8 0, .int .u8 0])])) (fun i _ => 8 - (intOf i).toNat)
      case atStart => exact ⟨0, _, by omega, rfl, .inl ⟨rfl, rfl⟩, HM⟩
      case round =>
        clear HM
        obtain ⟨j, cs, hj, rfl, hcs, HM⟩ := hrel
        rcases hcs.out with ⟨rfl, rfl⟩ | ⟨rfl, rfl⟩ | ⟨rfl, rfl⟩ | ⟨rfl, rfl⟩ | ⟨rfl, rfl⟩ | ⟨rfl, rfl⟩ | ⟨rfl, rfl⟩ | ⟨rfl, rfl⟩ | ⟨rfl, rfl⟩
        · have E1 := S1_0.out
          have E2 := C1_0.out
          have E3 := Z1_0.out
          have E4 := X1_0.out
          go_upto_region 13 with fail
          (refine own_tail 10 HM (by kernel_rfl) (by kernel_rfl) (by kernel_rfl) ?_; simp only [List.take_succ_cons, List.take_zero, List.drop_succ_cons, List.drop_zero]; (try simp only [Act.put, List.setIfInBounds_toArray, List.set_cons_zero, List.set_cons_succ]); repeat ((fail_if_success (with_reducible refine wpQuiet_nil ?_)); first | go_big_quiet_skip | (go_big_quiet_want; first | ((with_reducible apply quiet_load); exact rfl; (first | (with_reducible exact agg8)); exact sS; exact dS; exact tS; go_big_quiet_op; go_big_quiet_on) | ((with_reducible apply quiet_cell); exact rfl; (first | (with_reducible exact oneU8) | (with_reducible exact oneInt)); exact sS; exact dS; go_big_quiet_op; go_big_quiet_on) | (go_big_quiet_op; go_big_quiet_on) | (go_big_quiet_op; refine ⟨_, fun _ _ => rfl, ?_⟩; go_big_quiet_on))))
          refine wpQuiet_nil ?_
          intro w' HM'
          clear HM; have HM := HM'; clear HM'
          clear E1 E2 E3 E4
          go_wp2_with (first | ((with_reducible apply own_box HM); exact rfl; (conv => lhs; whnf); exact rfl; exact rfl; (first | (clear tg1 HM; intro w' g1 HM) | (clear tg2 HM; intro w' g2 HM) | (clear tg3 HM; intro w' g3 HM) | (clear tg4 HM; intro w' g4 HM) | (clear HM; intro w' g' HM))) | ((with_reducible apply own_alloc HM); exact rfl; (first | (with_reducible exact zero8)); exact rfl; (first | (clear tg1 HM; intro w' g1 HM) | (clear tg2 HM; intro w' g2 HM) | (clear tg3 HM; intro w' g3 HM) | (clear tg4 HM; intro w' g4 HM) | (clear HM; intro w' g' HM))) | ((with_reducible apply own_cell HM); exact rfl; exact rfl; (first | (with_reducible exact oneU8) | (with_reducible exact oneInt)); exact sS; exact dS; exact rfl) | ((with_reducible apply own_load HM); exact rfl; exact rfl; (first | (with_reducible exact agg8)); exact sS; exact dS; exact tS; exact rfl) | ((with_reducible apply own_store HM); exact rfl; exact rfl; (conv => lhs; whnf); exact rfl; exact sS; exact vS; exact sS; (first | (with_reducible exact (agg8).size) | (with_reducible exact (oneU8).size) | (with_reducible exact (oneInt).size)); exact rfl; exact rfl; exact rfl; exact rfl; clear HM; intro w' HM))
          go_roundw
          case rel => exact ⟨1, _, by omega, rfl, .inr (.inl ⟨rfl, rfl⟩), HM⟩
          case measure => decide
        · have E1 := S1_1.out
          have E2 := C1_1.out
          have E3 := Z1_1.out
          have E4 := X1_1.out
          go_upto_region 13 with fail
          (refine own_tail 10 HM (by kernel_rfl) (by kernel_rfl) (by kernel_rfl) ?_; simp only [List.take_succ_cons, List.take_zero, List.drop_succ_cons, List.drop_zero]; (try simp only [Act.put, List.setIfInBounds_toArray, List.set_cons_zero, List.set_cons_succ]); repeat ((fail_if_success (with_reducible refine wpQuiet_nil ?_)); first | go_big_quiet_skip | (go_big_quiet_want; first | ((with_reducible apply quiet_load); exact rfl; (first | (with_reducible exact agg8)); exact sS; exact dS; exact tS; go_big_quiet_op; go_big_quiet_on) | ((with_reducible apply quiet_cell); exact rfl; (first | (with_reducible exact oneU8) | (with_reducible exact oneInt)); exact sS; exact dS; go_big_quiet_op; go_big_quiet_on) | (go_big_quiet_op; go_big_quiet_on) | (go_big_quiet_op; refine ⟨_, fun _ _ => rfl, ?_⟩; go_big_quiet_on))))
          refine wpQuiet_nil ?_
          intro w' HM'
          clear HM; have HM := HM'; clear HM'
          clear E1 E2 E3 E4
          go_wp2_with (first | ((with_reducible apply own_box HM); exact rfl; (conv => lhs; whnf); exact rfl; exact rfl; (first | (clear tg1 HM; intro w' g1 HM) | (clear tg2 HM; intro w' g2 HM) | (clear tg3 HM; intro w' g3 HM) | (clear tg4 HM; intro w' g4 HM) | (clear HM; intro w' g' HM))) | ((with_reducible apply own_alloc HM); exact rfl; (first | (with_reducible exact zero8)); exact rfl; (first | (clear tg1 HM; intro w' g1 HM) | (clear tg2 HM; intro w' g2 HM) | (clear tg3 HM; intro w' g3 HM) | (clear tg4 HM; intro w' g4 HM) | (clear HM; intro w' g' HM))) | ((with_reducible apply own_cell HM); exact rfl; exact rfl; (first | (with_reducible exact oneU8) | (with_reducible exact oneInt)); exact sS; exact dS; exact rfl) | ((with_reducible apply own_load HM); exact rfl; exact rfl; (first | (with_reducible exact agg8)); exact sS; exact dS; exact tS; exact rfl) | ((with_reducible apply own_store HM); exact rfl; exact rfl; (conv => lhs; whnf); exact rfl; exact sS; exact vS; exact sS; (first | (with_reducible exact (agg8).size) | (with_reducible exact (oneU8).size) | (with_reducible exact (oneInt).size)); exact rfl; exact rfl; exact rfl; exact rfl; clear HM; intro w' HM))
          go_roundw
          case rel => exact ⟨2, _, by omega, rfl, .inr (.inr (.inl ⟨rfl, rfl⟩)), HM⟩
          case measure => decide
        · have E1 := S1_2.out
          have E2 := C1_2.out
          have E3 := Z1_2.out
          have E4 := X1_2.out
          go_upto_region 13 with fail
          (refine own_tail 10 HM (by kernel_rfl) (by kernel_rfl) (by kernel_rfl) ?_; simp only [List.take_succ_cons, List.take_zero, List.drop_succ_cons, List.drop_zero]; (try simp only [Act.put, List.setIfInBounds_toArray, List.set_cons_zero, List.set_cons_succ]); repeat ((fail_if_success (with_reducible refine wpQuiet_nil ?_)); first | go_big_quiet_skip | (go_big_quiet_want; first | ((with_reducible apply quiet_load); exact rfl; (first | (with_reducible exact agg8)); exact sS; exact dS; exact tS; go_big_quiet_op; go_big_quiet_on) | ((with_reducible apply quiet_cell); exact rfl; (first | (with_reducible exact oneU8) | (with_reducible exact oneInt)); exact sS; exact dS; go_big_quiet_op; go_big_quiet_on) | (go_big_quiet_op; go_big_quiet_on) | (go_big_quiet_op; refine ⟨_, fun _ _ => rfl, ?_⟩; go_big_quiet_on))))
          refine wpQuiet_nil ?_
          intro w' HM'
          clear HM; have HM := HM'; clear HM'
          clear E1 E2 E3 E4
          go_wp2_with (first | ((with_reducible apply own_box HM); exact rfl; (conv => lhs; whnf); exact rfl; exact rfl; (first | (clear tg1 HM; intro w' g1 HM) | (clear tg2 HM; intro w' g2 HM) | (clear tg3 HM; intro w' g3 HM) | (clear tg4 HM; intro w' g4 HM) | (clear HM; intro w' g' HM))) | ((with_reducible apply own_alloc HM); exact rfl; (first | (with_reducible exact zero8)); exact rfl; (first | (clear tg1 HM; intro w' g1 HM) | (clear tg2 HM; intro w' g2 HM) | (clear tg3 HM; intro w' g3 HM) | (clear tg4 HM; intro w' g4 HM) | (clear HM; intro w' g' HM))) | ((with_reducible apply own_cell HM); exact rfl; exact rfl; (first | (with_reducible exact oneU8) | (with_reducible exact oneInt)); exact sS; exact dS; exact rfl) | ((with_reducible apply own_load HM); exact rfl; exact rfl; (first | (with_reducible exact agg8)); exact sS; exact dS; exact tS; exact rfl) | ((with_reducible apply own_store HM); exact rfl; exact rfl; (conv => lhs; whnf); exact rfl; exact sS; exact vS; exact sS; (first | (with_reducible exact (agg8).size) | (with_reducible exact (oneU8).size) | (with_reducible exact (oneInt).size)); exact rfl; exact rfl; exact rfl; exact rfl; clear HM; intro w' HM))
          go_roundw
          case rel => exact ⟨3, _, by omega, rfl, .inr (.inr (.inr (.inl ⟨rfl, rfl⟩))), HM⟩
          case measure => decide
        · have E1 := S1_3.out
          have E2 := C1_3.out
          have E3 := Z1_3.out
          have E4 := X1_3.out
          go_upto_region 13 with fail
          (refine own_tail 10 HM (by kernel_rfl) (by kernel_rfl) (by kernel_rfl) ?_; simp only [List.take_succ_cons, List.take_zero, List.drop_succ_cons, List.drop_zero]; (try simp only [Act.put, List.setIfInBounds_toArray, List.set_cons_zero, List.set_cons_succ]); repeat ((fail_if_success (with_reducible refine wpQuiet_nil ?_)); first | go_big_quiet_skip | (go_big_quiet_want; first | ((with_reducible apply quiet_load); exact rfl; (first | (with_reducible exact agg8)); exact sS; exact dS; exact tS; go_big_quiet_op; go_big_quiet_on) | ((with_reducible apply quiet_cell); exact rfl; (first | (with_reducible exact oneU8) | (with_reducible exact oneInt)); exact sS; exact dS; go_big_quiet_op; go_big_quiet_on) | (go_big_quiet_op; go_big_quiet_on) | (go_big_quiet_op; refine ⟨_, fun _ _ => rfl, ?_⟩; go_big_quiet_on))))
          refine wpQuiet_nil ?_
          intro w' HM'
          clear HM; have HM := HM'; clear HM'
          clear E1 E2 E3 E4
          go_wp2_with (first | ((with_reducible apply own_box HM); exact rfl; (conv => lhs; whnf); exact rfl; exact rfl; (first | (clear tg1 HM; intro w' g1 HM) | (clear tg2 HM; intro w' g2 HM) | (clear tg3 HM; intro w' g3 HM) | (clear tg4 HM; intro w' g4 HM) | (clear HM; intro w' g' HM))) | ((with_reducible apply own_alloc HM); exact rfl; (first | (with_reducible exact zero8)); exact rfl; (first | (clear tg1 HM; intro w' g1 HM) | (clear tg2 HM; intro w' g2 HM) | (clear tg3 HM; intro w' g3 HM) | (clear tg4 HM; intro w' g4 HM) | (clear HM; intro w' g' HM))) | ((with_reducible apply own_cell HM); exact rfl; exact rfl; (first | (with_reducible exact oneU8) | (with_reducible exact oneInt)); exact sS; exact dS; exact rfl) | ((with_reducible apply own_load HM); exact rfl; exact rfl; (first | (with_reducible exact agg8)); exact sS; exact dS; exact tS; exact rfl) | ((with_reducible apply own_store HM); exact rfl; exact rfl; (conv => lhs; whnf); exact rfl; exact sS; exact vS; exact sS; (first | (with_reducible exact (agg8).size) | (with_reducible exact (oneU8).size) | (with_reducible exact (oneInt).size)); exact rfl; exact rfl; exact rfl; exact rfl; clear HM; intro w' HM))
          go_roundw
          case rel => exact ⟨4, _, by omega, rfl, .inr (.inr (.inr (.inr (.inl ⟨rfl, rfl⟩)))), HM⟩
          case measure => decide
        · have E1 := S1_4.out
          have E2 := C1_4.out
          have E3 := Z1_4.out
          have E4 := X1_4.out
          go_upto_region 13 with fail
          (refine own_tail 10 HM (by kernel_rfl) (by kernel_rfl) (by kernel_rfl) ?_; simp only [List.take_succ_cons, List.take_zero, List.drop_succ_cons, List.drop_zero]; (try simp only [Act.put, List.setIfInBounds_toArray, List.set_cons_zero, List.set_cons_succ]); repeat ((fail_if_success (with_reducible refine wpQuiet_nil ?_)); first | go_big_quiet_skip | (go_big_quiet_want; first | ((with_reducible apply quiet_load); exact rfl; (first | (with_reducible exact agg8)); exact sS; exact dS; exact tS; go_big_quiet_op; go_big_quiet_on) | ((with_reducible apply quiet_cell); exact rfl; (first | (with_reducible exact oneU8) | (with_reducible exact oneInt)); exact sS; exact dS; go_big_quiet_op; go_big_quiet_on) | (go_big_quiet_op; go_big_quiet_on) | (go_big_quiet_op; refine ⟨_, fun _ _ => rfl, ?_⟩; go_big_quiet_on))))
          refine wpQuiet_nil ?_
          intro w' HM'
          clear HM; have HM := HM'; clear HM'
          clear E1 E2 E3 E4
          go_wp2_with (first | ((with_reducible apply own_box HM); exact rfl; (conv => lhs; whnf); exact rfl; exact rfl; (first | (clear tg1 HM; intro w' g1 HM) | (clear tg2 HM; intro w' g2 HM) | (clear tg3 HM; intro w' g3 HM) | (clear tg4 HM; intro w' g4 HM) | (clear HM; intro w' g' HM))) | ((with_reducible apply own_alloc HM); exact rfl; (first | (with_reducible exact zero8)); exact rfl; (first | (clear tg1 HM; intro w' g1 HM) | (clear tg2 HM; intro w' g2 HM) | (clear tg3 HM; intro w' g3 HM) | (clear tg4 HM; intro w' g4 HM) | (clear HM; intro w' g' HM))) | ((with_reducible apply own_cell HM); exact rfl; exact rfl; (first | (with_reducible exact oneU8) | (with_reducible exact oneInt)); exact sS; exact dS; exact rfl) | ((with_reducible apply own_load HM); exact rfl; exact rfl; (first | (with_reducible exact agg8)); exact sS; exact dS; exact tS; exact rfl) | ((with_reducible apply own_store HM); exact rfl; exact rfl; (conv => lhs; whnf); exact rfl; exact sS; exact vS; exact sS; (first | (with_reducible exact (agg8).size) | (with_reducible exact (oneU8).size) | (with_reducible exact (oneInt).size)); exact rfl; exact rfl; exact rfl; exact rfl; clear HM; intro w' HM))
          go_roundw
          case rel => exact ⟨5, _, by omega, rfl, .inr (.inr (.inr (.inr (.inr (.inl ⟨rfl, rfl⟩))))), HM⟩
          case measure => decide
        · have E1 := S1_5.out
          have E2 := C1_5.out
          have E3 := Z1_5.out
          have E4 := X1_5.out
          go_upto_region 13 with fail
          (refine own_tail 10 HM (by kernel_rfl) (by kernel_rfl) (by kernel_rfl) ?_; simp only [List.take_succ_cons, List.take_zero, List.drop_succ_cons, List.drop_zero]; (try simp only [Act.put, List.setIfInBounds_toArray, List.set_cons_zero, List.set_cons_succ]); repeat ((fail_if_success (with_reducible refine wpQuiet_nil ?_)); first | go_big_quiet_skip | (go_big_quiet_want; first | ((with_reducible apply quiet_load); exact rfl; (first | (with_reducible exact agg8)); exact sS; exact dS; exact tS; go_big_quiet_op; go_big_quiet_on) | ((with_reducible apply quiet_cell); exact rfl; (first | (with_reducible exact oneU8) | (with_reducible exact oneInt)); exact sS; exact dS; go_big_quiet_op; go_big_quiet_on) | (go_big_quiet_op; go_big_quiet_on) | (go_big_quiet_op; refine ⟨_, fun _ _ => rfl, ?_⟩; go_big_quiet_on))))
          refine wpQuiet_nil ?_
          intro w' HM'
          clear HM; have HM := HM'; clear HM'
          clear E1 E2 E3 E4
          go_wp2_with (first | ((with_reducible apply own_box HM); exact rfl; (conv => lhs; whnf); exact rfl; exact rfl; (first | (clear tg1 HM; intro w' g1 HM) | (clear tg2 HM; intro w' g2 HM) | (clear tg3 HM; intro w' g3 HM) | (clear tg4 HM; intro w' g4 HM) | (clear HM; intro w' g' HM))) | ((with_reducible apply own_alloc HM); exact rfl; (first | (with_reducible exact zero8)); exact rfl; (first | (clear tg1 HM; intro w' g1 HM) | (clear tg2 HM; intro w' g2 HM) | (clear tg3 HM; intro w' g3 HM) | (clear tg4 HM; intro w' g4 HM) | (clear HM; intro w' g' HM))) | ((with_reducible apply own_cell HM); exact rfl; exact rfl; (first | (with_reducible exact oneU8) | (with_reducible exact oneInt)); exact sS; exact dS; exact rfl) | ((with_reducible apply own_load HM); exact rfl; exact rfl; (first | (with_reducible exact agg8)); exact sS; exact dS; exact tS; exact rfl) | ((with_reducible apply own_store HM); exact rfl; exact rfl; (conv => lhs; whnf); exact rfl; exact sS; exact vS; exact sS; (first | (with_reducible exact (agg8).size) | (with_reducible exact (oneU8).size) | (with_reducible exact (oneInt).size)); exact rfl; exact rfl; exact rfl; exact rfl; clear HM; intro w' HM))
          go_roundw
          case rel => exact ⟨6, _, by omega, rfl, .inr (.inr (.inr (.inr (.inr (.inr (.inl ⟨rfl, rfl⟩)))))), HM⟩
          case measure => decide
        · have E1 := S1_6.out
          have E2 := C1_6.out
          have E3 := Z1_6.out
          have E4 := X1_6.out
          go_upto_region 13 with fail
          (refine own_tail 10 HM (by kernel_rfl) (by kernel_rfl) (by kernel_rfl) ?_; simp only [List.take_succ_cons, List.take_zero, List.drop_succ_cons, List.drop_zero]; (try simp only [Act.put, List.setIfInBounds_toArray, List.set_cons_zero, List.set_cons_succ]); repeat ((fail_if_success (with_reducible refine wpQuiet_nil ?_)); first | go_big_quiet_skip | (go_big_quiet_want; first | ((with_reducible apply quiet_load); exact rfl; (first | (with_reducible exact agg8)); exact sS; exact dS; exact tS; go_big_quiet_op; go_big_quiet_on) | ((with_reducible apply quiet_cell); exact rfl; (first | (with_reducible exact oneU8) | (with_reducible exact oneInt)); exact sS; exact dS; go_big_quiet_op; go_big_quiet_on) | (go_big_quiet_op; go_big_quiet_on) | (go_big_quiet_op; refine ⟨_, fun _ _ => rfl, ?_⟩; go_big_quiet_on))))
          refine wpQuiet_nil ?_
          intro w' HM'
          clear HM; have HM := HM'; clear HM'
          clear E1 E2 E3 E4
          go_wp2_with (first | ((with_reducible apply own_box HM); exact rfl; (conv => lhs; whnf); exact rfl; exact rfl; (first | (clear tg1 HM; intro w' g1 HM) | (clear tg2 HM; intro w' g2 HM) | (clear tg3 HM; intro w' g3 HM) | (clear tg4 HM; intro w' g4 HM) | (clear HM; intro w' g' HM))) | ((with_reducible apply own_alloc HM); exact rfl; (first | (with_reducible exact zero8)); exact rfl; (first | (clear tg1 HM; intro w' g1 HM) | (clear tg2 HM; intro w' g2 HM) | (clear tg3 HM; intro w' g3 HM) | (clear tg4 HM; intro w' g4 HM) | (clear HM; intro w' g' HM))) | ((with_reducible apply own_cell HM); exact rfl; exact rfl; (first | (with_reducible exact oneU8) | (with_reducible exact oneInt)); exact sS; exact dS; exact rfl) | ((with_reducible apply own_load HM); exact rfl; exact rfl; (first | (with_reducible exact agg8)); exact sS; exact dS; exact tS; exact rfl) | ((with_reducible apply own_store HM); exact rfl; exact rfl; (conv => lhs; whnf); exact rfl; exact sS; exact vS; exact sS; (first | (with_reducible exact (agg8).size) | (with_reducible exact (oneU8).size) | (with_reducible exact (oneInt).size)); exact rfl; exact rfl; exact rfl; exact rfl; clear HM; intro w' HM))
          go_roundw
          case rel => exact ⟨7, _, by omega, rfl, .inr (.inr (.inr (.inr (.inr (.inr (.inr (.inl ⟨rfl, rfl⟩))))))), HM⟩
          case measure => decide
        · have E1 := trivial
          have E2 := C1_7.out
          have E3 := Z1_7.out
          have E4 := X1_7.out
          go_upto_region 13 with fail
          (refine own_tail 10 HM (by kernel_rfl) (by kernel_rfl) (by kernel_rfl) ?_; simp only [List.take_succ_cons, List.take_zero, List.drop_succ_cons, List.drop_zero]; (try simp only [Act.put, List.setIfInBounds_toArray, List.set_cons_zero, List.set_cons_succ]); repeat ((fail_if_success (with_reducible refine wpQuiet_nil ?_)); first | go_big_quiet_skip | (go_big_quiet_want; first | ((with_reducible apply quiet_load); exact rfl; (first | (with_reducible exact agg8)); exact sS; exact dS; exact tS; go_big_quiet_op; go_big_quiet_on) | ((with_reducible apply quiet_cell); exact rfl; (first | (with_reducible exact oneU8) | (with_reducible exact oneInt)); exact sS; exact dS; go_big_quiet_op; go_big_quiet_on) | (go_big_quiet_op; go_big_quiet_on) | (go_big_quiet_op; refine ⟨_, fun _ _ => rfl, ?_⟩; go_big_quiet_on))))
          refine wpQuiet_nil ?_
          intro w' HM'
          clear HM; have HM := HM'; clear HM'
          clear E1 E2 E3 E4
          go_wp2_with (first | ((with_reducible apply own_box HM); exact rfl; (conv => lhs; whnf); exact rfl; exact rfl; (first | (clear tg1 HM; intro w' g1 HM) | (clear tg2 HM; intro w' g2 HM) | (clear tg3 HM; intro w' g3 HM) | (clear tg4 HM; intro w' g4 HM) | (clear HM; intro w' g' HM))) | ((with_reducible apply own_alloc HM); exact rfl; (first | (with_reducible exact zero8)); exact rfl; (first | (clear tg1 HM; intro w' g1 HM) | (clear tg2 HM; intro w' g2 HM) | (clear tg3 HM; intro w' g3 HM) | (clear tg4 HM; intro w' g4 HM) | (clear HM; intro w' g' HM))) | ((with_reducible apply own_cell HM); exact rfl; exact rfl; (first | (with_reducible exact oneU8) | (with_reducible exact oneInt)); exact sS; exact dS; exact rfl) | ((with_reducible apply own_load HM); exact rfl; exact rfl; (first | (with_reducible exact agg8)); exact sS; exact dS; exact tS; exact rfl) | ((with_reducible apply own_store HM); exact rfl; exact rfl; (conv => lhs; whnf); exact rfl; exact sS; exact vS; exact sS; (first | (with_reducible exact (agg8).size) | (with_reducible exact (oneU8).size) | (with_reducible exact (oneInt).size)); exact rfl; exact rfl; exact rfl; exact rfl; clear HM; intro w' HM))
          go_roundw
          case rel => exact ⟨8, _, by omega, rfl, .inr (.inr (.inr (.inr (.inr (.inr (.inr (.inr (⟨rfl, rfl⟩)))))))), HM⟩
          case measure => decide
        · go_upto_region 16 with (first | ((with_reducible apply own_box HM); exact rfl; (conv => lhs; whnf); exact rfl; exact rfl; (first | (clear tg1 HM; intro w' g1 HM) | (clear tg2 HM; intro w' g2 HM) | (clear tg3 HM; intro w' g3 HM) | (clear tg4 HM; intro w' g4 HM) | (clear HM; intro w' g' HM))) | ((with_reducible apply own_alloc HM); exact rfl; (first | (with_reducible exact zero8)); exact rfl; (first | (clear tg1 HM; intro w' g1 HM) | (clear tg2 HM; intro w' g2 HM) | (clear tg3 HM; intro w' g3 HM) | (clear tg4 HM; intro w' g4 HM) | (clear HM; intro w' g' HM))) | ((with_reducible apply own_cell HM); exact rfl; exact rfl; (first | (with_reducible exact oneU8) | (with_reducible exact oneInt)); exact sS; exact dS; exact rfl) | ((with_reducible apply own_load HM); exact rfl; exact rfl; (first | (with_reducible exact agg8)); exact sS; exact dS; exact tS; exact rfl) | ((with_reducible apply own_store HM); exact rfl; exact rfl; (conv => lhs; whnf); exact rfl; exact sS; exact vS; exact sS; (first | (with_reducible exact (agg8).size) | (with_reducible exact (oneU8).size) | (with_reducible exact (oneInt).size)); exact rfl; exact rfl; exact rfl; exact rfl; clear HM; intro w' HM))
          go_roundw
          case rel => exact ⟨2, by omega, rfl, _, .inr (.inr (.inl ⟨rfl, rfl⟩)), HM⟩
          case measure => decide
    · go_upto_region 8 with (first | ((with_reducible apply own_box HM); exact rfl; (conv => lhs; whnf); exact rfl; exact rfl; (first | (clear tg1 HM; intro w' g1 HM) | (clear tg2 HM; intro w' g2 HM) | (clear tg3 HM; intro w' g3 HM) | (clear tg4 HM; intro w' g4 HM) | (clear HM; intro w' g' HM))) | ((with_reducible apply own_alloc HM); exact rfl; (first | (with_reducible exact zero8)); exact rfl; (first | (clear tg1 HM; intro w' g1 HM) | (clear tg2 HM; intro w' g2 HM) | (clear tg3 HM; intro w' g3 HM) | (clear tg4 HM; intro w' g4 HM) | (clear HM; intro w' g' HM))) | ((with_reducible apply own_cell HM); exact rfl; exact rfl; (first | (with_reducible exact oneU8) | (with_reducible exact oneInt)); exact sS; exact dS; exact rfl) | ((with_reducible apply own_load HM); exact rfl; exact rfl; (first | (with_reducible exact agg8)); exact sS; exact dS; exact tS; exact rfl) | ((with_reducible apply own_store HM); exact rfl; exact rfl; (conv => lhs; whnf); exact rfl; exact sS; exact vS; exact sS; (first | (with_reducible exact (agg8).size) | (with_reducible exact (oneU8).size) | (with_reducible exact (oneInt).size)); exact rfl; exact rfl; exact rfl; exact rfl; clear HM; intro w' HM) | (go_at_call 49; (with_reducible refine (at_at a n cap xs _ (f + 2) b2 hk2 hb2 _ HVr.out).mono ?_); rintro e w' ⟨rfl, rfl⟩))
      go_loopw [30] (fun i wr => ∃ (j : Nat) (cs : List Value), j ≤ 8 ∧ i = .int .i64 (j : Int) ∧ Hid ((j = 0 ∧ cs = [.int .u8 (x2_0 : Int), .int .u8 (x2_1 : Int), .int .u8 (x2_2 : Int), .int .u8 (x2_3 : Int), .int .u8 (x2_4 : Int), .int .u8 (x2_5 : Int), .int .u8 (x2_6 : Int), .int .u8 (x2_7 : Int)]) ∨ (j = 1 ∧ cs = [.int .u8 (x3_0 : Int), .int .u8 (x2_1 : Int), .int .u8 (x2_2 : Int), .int .u8 (x2_3 : Int), .int .u8 (x2_4 : Int), .int .u8 (x2_5 : Int), .int .u8 (x2_6 : Int), .int .u8 (x2_7 : Int)]) ∨ (j = 2 ∧ cs = [.int .u8 (x3_0 : Int), .int .u8 (x3_1 : Int), .int .u8 (x2_2 : Int), .int .u8 (x2_3 : Int), .int .u8 (x2_4 : Int), .int .u8 (x2_5 : Int), .int .u8 (x2_6 : Int), .int .u8 (x2_7 : Int)]) ∨ (j = 3 ∧ cs = [.int .u8 (x3_0 : Int), .int .u8 (x3_1 : Int), .int .u8 (x3_2 : Int), .int .u8 (x2_3 : Int), .int .u8 (x2_4 : Int), .int .u8 (x2_5 : Int), .int .u8 (x2_6 : Int), .int .u8 (x2_7 : Int)]) ∨ (j = 4 ∧ cs = [.int .u8 (x3_0 : Int), .int .u8 (x3_1 : Int), .int .u8 (x3_2 : Int), .int .u8 (x3_3 : Int), .int .u8 (x2_4 : Int), .int .u8 (x2_5 : Int), .int .u8 (x2_6 : Int), .int .u8 (x2_7 : Int)]) ∨ (j = 5 ∧ cs = [.int .u8 (x3_0 : Int), .int .u8 (x3_1 : Int), .int .u8 (x3_2 : Int), .int .u8 (x3_3 : Int), .int .u8 (x3_4 : Int), .int .u8 (x2_5 : Int), .int .u8 (x2_6 : Int), .int .u8 (x2_7 : Int)]) ∨ (j = 6 ∧ cs = [.int .u8 (x3_0 : Int), .int .u8 (x3_1 : Int), .int .u8 (x3_2 : Int), .int .u8 (x3_3 : Int), .int .u8 (x3_4 : Int), .int .u8 (x3_5 : Int), .int .u8 (x2_6 : Int), .int .u8 (x2_7 : Int)]) ∨ (j = 7 ∧ cs = [.int .u8 (x3_0 : Int), .int .u8 (x3_1 : Int), .int .u8 (x3_2 : Int), .int .u8 (x3_3 : Int), .int .u8 (x3_4 : Int), .int .u8 (x3_5 : Int), .int .u8 (x3_6 : Int), .int .u8 (x2_7 : Int)]) ∨ (j = 8 ∧ cs = [.int .u8 (x3_0 : Int), .int .u8 (x3_1 : Int), .int .u8 (x3_2 : Int), .int .u8 (x3_3 : Int), .int .u8 (x3_4 : Int), .int .u8 (x3_5 : Int), .int .u8 (x3_6 : Int), .int .u8 (x3_7 : Int)])) ∧ Hid (Own w wr [(g2, 70, cs), (g1, 70, [.int .u8 0, .int .u8 0, .int .u8 0, .int .u8 0, .int .u8 0, .int .u8 0, .int .u8 0, .int .u8 0])])) (fun i _ => 8 - (intOf i).toNat)
      case atStart => exact ⟨0, _, by omega, rfl, .inl ⟨rfl, rfl⟩, HM⟩
      case round =>
        clear HM
        obtain ⟨j, cs, hj, rfl, hcs, HM⟩ := hrel
        rcases hcs.out with ⟨rfl, rfl⟩ | ⟨rfl, rfl⟩ | ⟨rfl, rfl⟩ | ⟨rfl, rfl⟩ | ⟨rfl, rfl⟩ | ⟨rfl, rfl⟩ | ⟨rfl, rfl⟩ | ⟨rfl, rfl⟩ | ⟨rfl, rfl⟩
        · have E1 := S2_0.out
          have E2 := C2_0.out
          have E3 := Z2_0.out
          have E4 := X2_0.out
          go_upto_region 13 with fail
          (refine own_tail 10 HM (by kernel_rfl) (by kernel_rfl) (by kernel_rfl) ?_; simp only [List.take_succ_cons, List.take_zero, List.drop_succ_cons, List.drop_zero]; (try simp only [Act.put, List.setIfInBounds_toArray, List.set_cons_zero, List.set_cons_succ]); repeat ((fail_if_success (with_reducible refine wpQuiet_nil ?_)); first | go_big_quiet_skip | (go_big_quiet_want; first | ((with_reducible apply quiet_load); exact rfl; (first | (with_reducible exact agg8)); exact sS; exact dS; exact tS; go_big_quiet_op; go_big_quiet_on) | ((with_reducible apply quiet_cell); exact rfl; (first | (with_reducible exact oneU8) | (with_reducible exact oneInt)); exact sS; exact dS; go_big_quiet_op; go_big_quiet_on) | (go_big_quiet_op; go_big_quiet_on) | (go_big_quiet_op; refine ⟨_, fun _ _ => rfl, ?_⟩; go_big_quiet_on))))
          refine wpQuiet_nil ?_
          intro w' HM'
          clear HM; have HM := HM'; clear HM'
          clear E1 E2 E3 E4
          go_wp2_with (first | ((with_reducible apply own_box HM); exact rfl; (conv => lhs; whnf); exact rfl; exact rfl; (first | (clear tg1 HM; intro w' g1 HM) | (clear tg2 HM; intro w' g2 HM) | (clear tg3 HM; intro w' g3 HM) | (clear tg4 HM; intro w' g4 HM) | (clear HM; intro w' g' HM))) | ((with_reducible apply own_alloc HM); exact rfl; (first | (with_reducible exact zero8)); exact rfl; (first | (clear tg1 HM; intro w' g1 HM) | (clear tg2 HM; intro w' g2 HM) | (clear tg3 HM; intro w' g3 HM) | (clear tg4 HM; intro w' g4 HM) | (clear HM; intro w' g' HM))) | ((with_reducible apply own_cell HM); exact rfl; exact rfl; (first | (with_reducible exact oneU8) | (with_reducible exact oneInt)); exact sS; exact dS; exact rfl) | ((with_reducible apply own_load HM); exact rfl; exact rfl; (first | (with_reducible exact agg8)); exact sS; exact dS; exact tS; exact rfl) | ((with_reducible apply own_store HM); exact rfl; exact rfl; (conv => lhs; whnf); exact rfl; exact sS; exact vS; exact sS; (first | (with_reducible exact (agg8).size) | (with_reducible exact (oneU8).size) | (with_reducible exact (oneInt).size)); exact rfl; exact rfl; exact rfl; exact rfl; clear HM; intro w' HM))
          go_roundw
          case rel => exact ⟨1, _, by omega, rfl, .inr (.inl ⟨rfl, rfl⟩), HM⟩
          case measure => decide
        · have E1 := S2_1.out
          have E2 := C2_1.out
          have E3 := Z2_1.out
          have E4 := X2_1.out
          go_upto_region 13 with fail
          (refine own_tail 10 HM (by kernel_rfl) (by kernel_rfl) (by kernel_rfl) ?_; simp only [List.take_succ_cons, List.take_zero, List.drop_succ_cons, List.drop_zero]; (try simp only [Act.put, List.setIfInBounds_toArray, List.set_cons_zero, List.set_cons_succ]); repeat ((fail_if_success (with_reducible refine wpQuiet_nil ?_)); first | go_big_quiet_skip | (go_big_quiet_want; first | ((with_reducible apply quiet_load); exact rfl; (first | (with_reducible exact agg8)); exact sS; exact dS; exact tS; go_big_quiet_op; go_big_quiet_on) | ((with_reducible apply quiet_cell); exact rfl; (first | (with_reducible exact oneU8) | (with_reducible exact oneInt)); exact sS; exact dS; go_big_quiet_op; go_big_quiet_on) | (go_big_quiet_op; go_big_quiet_on) | (go_big_quiet_op; refine ⟨_, fun _ _ => rfl, ?_⟩; go_big_quiet_on))))
          refine wpQuiet_nil ?_
          intro w' HM'
          clear HM; have HM := HM'; clear HM'
          clear E1 E2 E3 E4
          go_wp2_with (first | ((with_reducible apply own_box HM); exact rfl; (conv => lhs; whnf); exact rfl; exact rfl; (first | (clear tg1 HM; intro w' g1 HM) | (clear tg2 HM; intro w' g2 HM) | (clear tg3 HM; intro w' g3 HM) | (clear tg4 HM; intro w' g4 HM) | (clear HM; intro w' g' HM))) | ((with_reducible apply own_alloc HM); exact rfl; (first | (with_reducible exact zero8)); exact rfl; (first | (clear tg1 HM; intro w' g1 HM) | (clear tg2 HM; intro w' g2 HM) | (clear tg3 HM; intro w' g3 HM) | (clear tg4 HM; intro w' g4 HM) | (clear HM; intro w' g' HM))) | ((with_reducible apply own_cell HM); exact rfl; exact rfl; (first | (with_reducible exact oneU8) | (with_reducible exact oneInt)); exact sS; exact dS; exact rfl) | ((with_reducible apply own_load HM); exact rfl; exact rfl; (first | (with_reducible exact agg8)); exact sS; exact dS; exact tS; exact rfl) | ((with_reducible apply own_store HM); exact rfl; exact rfl; (conv => lhs; whnf); exact rfl; exact sS; exact vS; exact sS; (first | (with_reducible exact (agg8).size) | (with_reducible exact (oneU8).size) | (with_reducible exact (oneInt).size)); exact rfl; exact rfl; exact rfl; exact rfl; clear HM; intro w' HM))
          go_roundw
          case rel => exact ⟨2, _, by omega, rfl, .inr (.inr (.inl ⟨rfl, rfl⟩)), HM⟩
          case measure => decide
        · have E1 := S2_2.out
          have E2 := C2_2.out
          have E3 := Z2_2.out
          have E4 := X2_2.out
          go_upto_region 13 with fail
          (refine own_tail 10 HM (by kernel_rfl) (by kernel_rfl) (by kernel_rfl) ?_; simp only [List.take_succ_cons, List.take_zero, List.drop_succ_cons, List.drop_zero]; (try simp only [Act.put, List.setIfInBounds_toArray, List.set_cons_zero, List.set_cons_succ]); repeat ((fail_if_success (with_reducible refine wpQuiet_nil ?_)); first | go_big_quiet_skip | (go_big_quiet_want; first | ((with_reducible apply quiet_load); exact rfl; (first | (with_reducible exact agg8)); exact sS; exact dS; exact tS; go_big_quiet_op; go_big_quiet_on) | ((with_reducible apply quiet_cell); exact rfl; (first | (with_reducible exact oneU8) | (with_reducible exact oneInt)); exact sS; exact dS; go_big_quiet_op; go_big_quiet_on) | (go_big_quiet_op; go_big_quiet_on) | (go_big_quiet_op; refine ⟨_, fun _ _ => rfl, ?_⟩; go_big_quiet_on))))
          refine wpQuiet_nil ?_
          intro w' HM'
          clear HM; have HM := HM'; clear HM'
          clear E1 E2 E3 E4
          go_wp2_with (first | ((with_reducible apply own_box HM); exact rfl; (conv => lhs; whnf); exact rfl; exact rfl; (first | (clear tg1 HM; intro w' g1 HM) | (clear tg2 HM; intro w' g2 HM) | (clear tg3 HM; intro w' g3 HM) | (clear tg4 HM; intro w' g4 HM) | (clear HM; intro w' g' HM))) | ((with_reducible apply own_alloc HM); exact rfl; (first | (with_reducible exact zero8)); exact rfl; (first | (clear tg1 HM; intro w' g1 HM) | (clear tg2 HM; intro w' g2 HM) | (clear tg3 HM; intro w' g3 HM) | (clear tg4 HM; intro w' g4 HM) | (clear HM; intro w' g' HM))) | ((with_reducible apply own_cell HM); exact rfl; exact rfl; (first | (with_reducible exact oneU8) | (with_reducible exact oneInt)); exact sS; exact dS; exact rfl) | ((with_reducible apply own_load HM); exact rfl; exact rfl; (first | (with_reducible exact agg8)); exact sS; exact dS; exact tS; exact rfl) | ((with_reducible apply own_store HM); exact rfl; exact rfl; (conv => lhs; whnf); exact rfl; exact sS; exact vS; exact sS; (first | (with_reducible exact (agg8).size) | (with_reducible exact (oneU8).size) | (with_reducible exact (oneInt).size)); exact rfl; exact rfl; exact rfl; exact rfl; clear HM; intro w' HM))
          go_roundw
          case rel => exact ⟨3, _, by omega, rfl, .inr (.inr (.inr (.inl ⟨rfl, rfl⟩))), HM⟩
          case measure => decide
        · have E1 := S2_3.out
          have E2 := C2_3.out
          have E3 := Z2_3.out
          have E4 := X2_3.out
          go_upto_region 13 with fail
          (refine own_tail 10 HM (by kernel_rfl) (by kernel_rfl) (by kernel_rfl) ?_; simp only [List.take_succ_cons, List.take_zero, List.drop_succ_cons, List.drop_zero]; (try simp only [Act.put, List.setIfInBounds_toArray, List.set_cons_zero, List.set_cons_succ]); repeat ((fail_if_success (with_reducible refine wpQuiet_nil ?_)); first | go_big_quiet_skip | (go_big_quiet_want; first | ((with_reducible apply quiet_load); exact rfl; (first | (with_reducible exact agg8)); exact sS; exact dS; exact tS; go_big_quiet_op; go_big_quiet_on) | ((with_reducible apply quiet_cell); exact rfl; (first | (with_reducible exact oneU8) | (with_reducible exact oneInt)); exact sS; exact dS; go_big_quiet_op; go_big_quiet_on) | (go_big_quiet_op; go_big_quiet_on) | (go_big_quiet_op; refine ⟨_, fun _ _ => rfl, ?_⟩; go_big_quiet_on))))
          refine wpQuiet_nil ?_
          intro w' HM'
          clear HM; have HM := HM'; clear HM'
          clear E1 E2 E3 E4
          go_wp2_with (first | ((with_reducible apply own_box HM); exact rfl; (conv => lhs; whnf); exact rfl; exact rfl; (first | (clear tg1 HM; intro w' g1 HM) | (clear tg2 HM; intro w' g2 HM) | (clear tg3 HM; intro w' g3 HM) | (clear tg4 HM; intro w' g4 HM) | (clear HM; intro w' g' HM))) | ((with_reducible apply own_alloc HM); exact rfl; (first | (with_reducible exact zero8)); exact rfl; (first | (clear tg1 HM; intro w' g1 HM) | (clear tg2 HM; intro w' g2 HM) | (clear tg3 HM; intro w' g3 HM) | (clear tg4 HM; intro w' g4 HM) | (clear HM; intro w' g' HM))) | ((with_reducible apply own_cell HM); exact rfl; exact rfl; (first | (with_reducible exact oneU8) | (with_reducible exact oneInt)); exact sS; exact dS; exact rfl) | ((with_reducible apply own_load HM); exact rfl; exact rfl; (first | (with_reducible exact agg8)); exact sS; exact dS; exact tS; exact rfl) | ((with_reducible apply own_store HM); exact rfl; exact rfl; (conv => lhs; whnf); exact rfl; exact sS; exact vS; exact sS; (first | (with_reducible exact (agg8).size) | (with_reducible exact (oneU8).size) | (with_reducible exact (oneInt).size)); exact rfl; exact rfl; exact rfl; exact rfl; clear HM; intro w' HM))
          go_roundw
          case rel => exact ⟨4, _, by omega, rfl, .inr (.inr (.inr (.inr (.inl ⟨rfl, rfl⟩)))), HM⟩
          case measure => decide
        · have E1 := S2_4.out
          have E2 := C2_4.out
          have E3 := Z2_4.out
          have E4 := X2_4.out
          go_upto_region 13 with fail
          (refine own_tail 10 HM (by kernel_rfl) (by kernel_rfl) (by kernel_rfl) ?_; simp only [List.take_succ_cons, List.take_zero, List.drop_succ_cons, List.drop_zero]; (try simp only [Act.put, List.setIfInBounds_toArray, List.set_cons_zero, List.set_cons_succ]); repeat ((fail_if_success (with_reducible refine wpQuiet_nil ?_)); first | go_big_quiet_skip | (go_big_quiet_want; first | ((with_reducible apply quiet_load); exact rfl; (first | (with_reducible exact agg8)); exact sS; exact dS; exact tS; go_big_quiet_op; go_big_quiet_on) | ((with_reducible apply quiet_cell); exact rfl; (first | (with_reducible exact oneU8) | (with_reducible exact oneInt)); exact sS; exact dS; go_big_quiet_op; go_big_quiet_on) | (go_big_quiet_op; go_big_quiet_on) | (go_big_quiet_op; refine ⟨_, fun _ _ => rfl, ?_⟩; go_big_quiet_on))))
          refine wpQuiet_nil ?_
          intro w' HM'
          clear HM; have HM := HM'; clear HM'
          clear E1 E2 E3 E4
          go_wp2_with (first | ((with_reducible apply own_box HM); exact rfl; (conv => lhs; whnf); exact rfl; exact rfl; (first | (clear tg1 HM; intro w' g1 HM) | (clear tg2 HM; intro w' g2 HM) | (clear tg3 HM; intro w' g3 HM) | (clear tg4 HM; intro w' g4 HM) | (clear HM; intro w' g' HM))) | ((with_reducible apply own_alloc HM); exact rfl; (first | (with_reducible exact zero8)); exact rfl; (first | (clear tg1 HM; intro w' g1 HM) | (clear tg2 HM; intro w' g2 HM) | (clear tg3 HM; intro w' g3 HM) | (clear tg4 HM; intro w' g4 HM) | (clear HM; intro w' g' HM))) | ((with_reducible apply own_cell HM); exact rfl; exact rfl; (first | (with_reducible exact oneU8) | (with_reducible exact oneInt)); exact sS; exact dS; exact rfl) | ((with_reducible apply own_load HM); exact rfl; exact rfl; (first | (with_reducible exact agg8)); exact sS; exact dS; exact tS; exact rfl) | ((with_reducible apply own_store HM); exact rfl; exact rfl; (conv => lhs; whnf); exact rfl; exact sS; exact vS; exact sS; (first | (with_reducible exact (agg8).size) | (with_reducible exact (oneU8).size) | (with_reducible exact (oneInt).size)); exact rfl; exact rfl; exact rfl; exact rfl; clear HM; intro w' HM))
          go_roundw
          case rel => exact ⟨5, _, by omega, rfl, .inr (.inr (.inr (.inr (.inr (.inl ⟨rfl, rfl⟩))))), HM⟩
          case measure => decide
        · have E1 := S2_5.out
          have E2 := C2_5.out
          have E3 := Z2_5.out
          have E4 := X2_5.out
          go_upto_region 13 with fail
          (refine own_tail 10 HM (by kernel_rfl) (by kernel_rfl) (by kernel_rfl) ?_; simp only [List.take_succ_cons, List.take_zero, List.drop_succ_cons, List.drop_zero]; (try simp only [Act.put, List.setIfInBounds_toArray, List.set_cons_zero, List.set_cons_succ]); repeat ((fail_if_success (with_reducible refine wpQuiet_nil ?_)); first | go_big_quiet_skip | (go_big_quiet_want; first | ((with_reducible apply quiet_load); exact rfl; (first | (with_reducible exact agg8)); exact sS; exact dS; exact tS; go_big_quiet_op; go_big_quiet_on) | ((with_reducible apply quiet_cell); exact rfl; (first | (with_reducible exact oneU8) | (with_reducible exact oneInt)); exact sS; exact dS; go_big_quiet_op; go_big_quiet_on) | (go_big_quiet_op; go_big_quiet_on) | (go_big_quiet_op; refine ⟨_, fun _ _ => rfl, ?_⟩; go_big_quiet_on))))
          refine wpQuiet_nil ?_
          intro w' HM'
          clear HM; have HM := HM'; clear HM'
          clear E1 E2 E3 E4
          go_wp2_with (first | ((with_reducible apply own_box HM); exact rfl; (conv => lhs; whnf); exact rfl; exact rfl; (first | (clear tg1 HM; intro w' g1 HM) | (clear tg2 HM; intro w' g2 HM) | (clear tg3 HM; intro w' g3 HM) | (clear tg4 HM; intro w' g4 HM) | (clear HM; intro w' g' HM))) | ((with_reducible apply own_alloc HM); exact rfl; (first | (with_reducible exact zero8)); exact rfl; (first | (clear tg1 HM; intro w' g1 HM) | (clear tg2 HM; intro w' g2 HM) | (clear tg3 HM; intro w' g3 HM) | (clear tg4 HM; intro w' g4 HM) | (clear HM; intro w' g' HM))) | ((with_reducible apply own_cell HM); exact rfl; exact rfl; (first | (with_reducible exact oneU8) | (with_reducible exact oneInt)); exact sS; exact dS; exact rfl) | ((with_reducible apply own_load HM); exact rfl; exact rfl; (first | (with_reducible exact agg8)); exact sS; exact dS; exact tS; exact rfl) | ((with_reducible apply own_store HM); exact rfl; exact rfl; (conv => lhs; whnf); exact rfl; exact sS; exact vS; exact sS; (first | (with_reducible exact (agg8).size) | (with_reducible exact (oneU8).size) | (with_reducible exact (oneInt).size)); exact rfl; exact rfl; exact rfl; exact rfl; clear HM; intro w' HM))
          go_roundw
          case rel => exact ⟨6, _, by omega, rfl, .inr (.inr (.inr (.inr (.inr (.inr (.inl ⟨rfl, rfl⟩)))))), HM⟩
          case measure => decide
        · have E1 := S2_6.out
          have E2 := C2_6.out
          have E3 := Z2_6.out
          have E4 := X2_6.out
          go_upto_region 13 with fail
          (refine own_tail 10 HM (by kernel_rfl) (by kernel_rfl) (by kernel_rfl) ?_; simp only [List.take_succ_cons, List.take_zero, List.drop_succ_cons, List.drop_zero]; (try simp only [Act.put, List.setIfInBounds_toArray, List.set_cons_zero, List.set_cons_succ]); repeat ((fail_if_success (with_reducible refine wpQuiet_nil ?_)); first | go_big_quiet_skip | (go_big_quiet_want; first | ((with_reducible apply quiet_load); exact rfl; (first | (with_reducible exact agg8)); exact sS; exact dS; exact tS; go_big_quiet_op; go_big_quiet_on) | ((with_reducible apply quiet_cell); exact rfl; (first | (with_reducible exact oneU8) | (with_reducible exact oneInt)); exact sS; exact dS; go_big_quiet_op; go_big_quiet_on) | (go_big_quiet_op; go_big_quiet_on) | (go_big_quiet_op; refine ⟨_, fun _ _ => rfl, ?_⟩; go_big_quiet_on))))
          refine wpQuiet_nil ?_
          intro w' HM'
          clear HM; have HM := HM'; clear HM'
          clear E1 E2 E3 E4
          go_wp2_with (first | ((with_reducible apply own_box HM); exact rfl; (conv => lhs; whnf); exact rfl; exact rfl; (first | (clear tg1 HM; intro w' g1 HM) | (clear tg2 HM; intro w' g2 HM) | (clear tg3 HM; intro w' g3 HM) | (clear tg4 HM; intro w' g4 HM) | (clear HM; intro w' g' HM))) | ((with_reducible apply own_alloc HM); exact rfl; (first | (with_reducible exact zero8)); exact rfl; (first | (clear tg1 HM; intro w' g1 HM) | (clear tg2 HM; intro w' g2 HM) | (clear tg3 HM; intro w' g3 HM) | (clear tg4 HM; intro w' g4 HM) | (clear HM; intro w' g' HM))) | ((with_reducible apply own_cell HM); exact rfl; exact rfl; (first | (with_reducible exact oneU8) | (with_reducible exact oneInt)); exact sS; exact dS; exact rfl) | ((with_reducible apply own_load HM); exact rfl; exact rfl; (first | (with_reducible exact agg8)); exact sS; exact dS; exact tS; exact rfl) | ((with_reducible apply own_store HM); exact rfl; exact rfl; (conv => lhs; whnf); exact rfl; exact sS; exact vS; exact sS; (first | (with_reducible exact (agg8).size) | (with_reducible exact (oneU8).size) | (with_reducible exact (oneInt).size)); exact rfl; exact rfl; exact rfl; exact rfl; clear HM; intro w' HM))
          go_roundw
          case rel => exact ⟨7, _, by omega, rfl, .inr (.inr (.inr (.inr (.inr (.inr (.inr (.inl ⟨rfl, rfl⟩))))))), HM⟩
          case measure => decide
        · have E1 := trivial
          have E2 := C2_7.out
          have E3 := Z2_7.out
          have E4 := X2_7.out
          go_upto_region 13 with fail
          (refine own_tail 10 HM (by kernel_rfl) (by kernel_rfl) (by kernel_rfl) ?_; simp only [List.take_succ_cons, List.take_zero, List.drop_succ_cons, List.drop_zero]; (try simp only [Act.put, List.setIfInBounds_toArray, List.set_cons_zero, List.set_cons_succ]); repeat ((fail_if_success (with_reducible refine wpQuiet_nil ?_)); first | go_big_quiet_skip | (go_big_quiet_want; first | ((with_reducible apply quiet_load); exact rfl; (first | (with_reducible exact agg8)); exact sS; exact dS; exact tS; go_big_quiet_op; go_big_quiet_on) | ((with_reducible apply quiet_cell); exact rfl; (first | (with_reducible exact oneU8) | (with_reducible exact oneInt)); exact sS; exact dS; go_big_quiet_op; go_big_quiet_on) | (go_big_quiet_op; go_big_quiet_on) | (go_big_quiet_op; refine ⟨_, fun _ _ => rfl, ?_⟩; go_big_quiet_on))))
          refine wpQuiet_nil ?_
          intro w' HM'
          clear HM; have HM := HM'; clear HM'
          clear E1 E2 E3 E4
          go_wp2_with (first | ((with_reducible apply own_box HM); exact rfl; (conv => lhs; whnf); exact rfl; exact rfl; (first | (clear tg1 HM; intro w' g1 HM) | (clear tg2 HM; intro w' g2 HM) | (clear tg3 HM; intro w' g3 HM) | (clear tg4 HM; intro w' g4 HM) | (clear HM; intro w' g' HM))) | ((with_reducible apply own_alloc HM); exact rfl; (first | (with_reducible exact zero8)); exact rfl; (first | (clear tg1 HM; intro w' g1 HM) | (clear tg2 HM; intro w' g2 HM) | (clear tg3 HM; intro w' g3 HM) | (clear tg4 HM; intro w' g4 HM) | (clear HM; intro w' g' HM))) | ((with_reducible apply own_cell HM); exact rfl; exact rfl; (first | (with_reducible exact oneU8) | (with_reducible exact oneInt)); exact sS; exact dS; exact rfl) | ((with_reducible apply own_load HM); exact rfl; exact rfl; (first | (with_reducible exact agg8)); exact sS; exact dS; exact tS; exact rfl) | ((with_reducible apply own_store HM); exact rfl; exact rfl; (conv => lhs; whnf); exact rfl; exact sS; exact vS; exact sS; (first | (with_reducible exact (agg8).size) | (with_reducible exact (oneU8).size) | (with_reducible exact (oneInt).size)); exact rfl; exact rfl; exact rfl; exact rfl; clear HM; intro w' HM))
          go_roundw
          case rel => exact ⟨8, _, by omega, rfl, .inr (.inr (.inr (.inr (.inr (.inr (.inr (.inr (⟨rfl, rfl⟩)))))))), HM⟩
          case measure => decide
        · go_upto_region 16 with (first | ((with_reducible apply own_box HM); exact rfl; (conv => lhs; whnf); exact rfl; exact rfl; (first | (clear tg1 HM; intro w' g1 HM) | (clear tg2 HM; intro w' g2 HM) | (clear tg3 HM; intro w' g3 HM) | (clear tg4 HM; intro w' g4 HM) | (clear HM; intro w' g' HM))) | ((with_reducible apply own_alloc HM); exact rfl; (first | (with_reducible exact zero8)); exact rfl; (first | (clear tg1 HM; intro w' g1 HM) | (clear tg2 HM; intro w' g2 HM) | (clear tg3 HM; intro w' g3 HM) | (clear tg4 HM; intro w' g4 HM) | (clear HM; intro w' g' HM))) | ((with_reducible apply own_cell HM); exact rfl; exact rfl; (first | (with_reducible exact oneU8) | (with_reducible exact oneInt)); exact sS; exact dS; exact rfl) | ((with_reducible apply own_load HM); exact rfl; exact rfl; (first | (with_reducible exact agg8)); exact sS; exact dS; exact tS; exact rfl) | ((with_reducible apply own_store HM); exact rfl; exact rfl; (conv => lhs; whnf); exact rfl; exact sS; exact vS; exact sS; (first | (with_reducible exact (agg8).size) | (with_reducible exact (oneU8).size) | (with_reducible exact (oneInt).size)); exact rfl; exact rfl; exact rfl; exact rfl; clear HM; intro w' HM))
          go_roundw
          case rel => exact ⟨3, by omega, rfl, _, .inr (.inr (.inr (.inl ⟨rfl, rfl⟩))), HM⟩
          case measure => decide
    · go_upto_region 8 with (first | ((with_reducible apply own_box HM); exact rfl; (conv => lhs; whnf); exact rfl; exact rfl; (first | (clear tg1 HM; intro w' g1 HM) | (clear tg2 HM; intro w' g2 HM) | (clear tg3 HM; intro w' g3 HM) | (clear tg4 HM; intro w' g4 HM) | (clear HM; intro w' g' HM))) | ((with_reducible apply own_alloc HM); exact rfl; (first | (with_reducible exact zero8)); exact rfl; (first | (clear tg1 HM; intro w' g1 HM) | (clear tg2 HM; intro w' g2 HM) | (clear tg3 HM; intro w' g3 HM) | (clear tg4 HM; intro w' g4 HM) | (clear HM; intro w' g' HM))) | ((with_reducible apply own_cell HM); exact rfl; exact rfl; (first | (with_reducible exact oneU8) | (with_reducible exact oneInt)); exact sS; exact dS; exact rfl) | ((with_reducible apply own_load HM); exact rfl; exact rfl; (first | (with_reducible exact agg8)); exact sS; exact dS; exact tS; exact rfl) | ((with_reducible apply own_store HM); exact rfl; exact rfl; (conv => lhs; whnf); exact rfl; exact sS; exact vS; exact sS; (first | (with_reducible exact (agg8).size) | (with_reducible exact (oneU8).size) | (with_reducible exact (oneInt).size)); exact rfl; exact rfl; exact rfl; exact rfl; clear HM; intro w' HM) | (go_at_call 49; (with_reducible refine (at_at a n cap xs _ (f + 3) b3 hk3 hb3 _ HVr.out).mono ?_); rintro e w' ⟨rfl, rfl⟩))
      go_loopw [30] (fun i wr => ∃ (j : Nat) (cs : List Value), j ≤ 8 ∧ i = .int .i64 (j : Int) ∧ Hid ((j = 0 ∧ cs = [.int .u8 (x3_0 : Int), .int .u8 (x3_1 : Int), .int .u8 (x3_2 : Int), .int .u8 (x3_3 : Int), .int .u8 (x3_4 : Int), .int .u8 (x3_5 : Int), .int .u8 (x3_6 : Int), .int .u8 (x3_7 : Int)]) ∨ (j = 1 ∧ cs = [.int .u8 (d0 : Int), .int .u8 (x3_1 : Int), .int .u8 (x3_2 : Int), .int .u8 (x3_3 : Int), .int .u8 (x3_4 : Int), .int .u8 (x3_5 : Int), .int .u8 (x3_6 : Int), .int .u8 (x3_7 : Int)]) ∨ (j = 2 ∧ cs = [.int .u8 (d0 : Int), .int .u8 (d1 : Int), .int .u8 (x3_2 : Int), .int .u8 (x3_3 : Int), .int .u8 (x3_4 : Int), .int .u8 (x3_5 : Int), .int .u8 (x3_6 : Int), .int .u8 (x3_7 : Int)]) ∨ (j = 3 ∧ cs = [.int .u8 (d0 : Int), .int .u8 (d1 : Int), .int .u8 (d2 : Int), .int .u8 (x3_3 : Int), .int .u8 (x3_4 : Int), .int .u8 (x3_5 : Int), .int .u8 (x3_6 : Int), .int .u8 (x3_7 : Int)]) ∨ (j = 4 ∧ cs = [.int .u8 (d0 : Int), .int .u8 (d1 : Int), .int .u8 (d2 : Int), .int .u8 (d3 : Int), .int .u8 (x3_4 : Int), .int .u8 (x3_5 : Int), .int .u8 (x3_6 : Int), .int .u8 (x3_7 : Int)]) ∨ (j = 5 ∧ cs = [.int .u8 (d0 : Int), .int .u8 (d1 : Int), .int .u8 (d2 : Int), .int .u8 (d3 : Int), .int .u8 (d4 : Int), .int .u8 (x3_5 : Int), .int .u8 (x3_6 : Int), .int .u8 (x3_7 : Int)]) ∨ (j = 6 ∧ cs = [.int .u8 (d0 : Int), .int .u8 (d1 : Int), .int .u8 (d2 : Int), .int .u8 (d3 : Int), .int .u8 (d4 : Int), .int .u8 (d5 : Int), .int .u8 (x3_6 : Int), .int .u8 (x3_7 : Int)]) ∨ (j = 7 ∧ cs = [.int .u8 (d0 : Int), .int .u8 (d1 : Int), .int .u8 (d2 : Int), .int .u8 (d3 : Int), .int .u8 (d4 : Int), .int .u8 (d5 : Int), .int .u8 (d6 : Int), .int .u8 (x3_7 : Int)]) ∨ (j = 8 ∧ cs = [.int .u8 (d0 : Int), .int .u8 (d1 : Int), .int .u8 (d2 : Int), .int .u8 (d3 : Int), .int .u8 (d4 : Int), .int .u8 (d5 : Int), .int .u8 (d6 : Int), .int .u8 (d7 : Int)])) ∧ Hid (Own w wr [(g2, 70, cs), (g1, 70, [.int .u8 0, .int .u8 0, .int .u8 0, .int .u8 0, .int .u8 0, .int .u8 0, .int .u8 0, .int .u8 0])])) (fun i _ => 8 - (intOf i).toNat)
      case atStart => exact ⟨0, _, by omega, rfl, .inl ⟨rfl, rfl⟩, HM⟩
      case round =>
        clear HM
        obtain ⟨j, cs, hj, rfl, hcs, HM⟩ := hrel
        rcases hcs.out with ⟨rfl, rfl⟩ | ⟨rfl, rfl⟩ | ⟨rfl, rfl⟩ | ⟨rfl, rfl⟩ | ⟨rfl, rfl⟩ | ⟨rfl, rfl⟩ | ⟨rfl, rfl⟩ | ⟨rfl, rfl⟩ | ⟨rfl, rfl⟩
        · have E1 := S3_0.out
          have E2 := C3_0.out
          have E3 := Z3_0.out
          have E4 := X3_0.out
          go_upto_region 13 with fail
          (refine own_tail 10 HM (by kernel_rfl) (by kernel_rfl) (by kernel_rfl) ?_; simp only [List.take_succ_cons, List.take_zero, List.drop_succ_cons, List.drop_zero]; (try simp only [Act.put, List.setIfInBounds_toArray, List.set_cons_zero, List.set_cons_succ]); repeat ((fail_if_success (with_reducible refine wpQuiet_nil ?_)); first | go_big_quiet_skip | (go_big_quiet_want; first | ((with_reducible apply quiet_load); exact rfl; (first | (with_reducible exact agg8)); exact sS; exact dS; exact tS; go_big_quiet_op; go_big_quiet_on) | ((with_reducible apply quiet_cell); exact rfl; (first | (with_reducible exact oneU8) | (with_reducible exact oneInt)); exact sS; exact dS; go_big_quiet_op; go_big_quiet_on) | (go_big_quiet_op; go_big_quiet_on) | (go_big_quiet_op; refine ⟨_, fun _ _ => rfl, ?_⟩; go_big_quiet_on))))
          refine wpQuiet_nil ?_
          intro w' HM'
          clear HM; have HM := HM'; clear HM'
          clear E1 E2 E3 E4
          go_wp2_with (first | ((with_reducible apply own_box HM); exact rfl; (conv => lhs; whnf); exact rfl; exact rfl; (first | (clear tg1 HM; intro w' g1 HM) | (clear tg2 HM; intro w' g2 HM) | (clear tg3 HM; intro w' g3 HM) | (clear tg4 HM; intro w' g4 HM) | (clear HM; intro w' g' HM))) | ((with_reducible apply own_alloc HM); exact rfl; (first | (with_reducible exact zero8)); exact rfl; (first | (clear tg1 HM; intro w' g1 HM) | (clear tg2 HM; intro w' g2 HM) | (clear tg3 HM; intro w' g3 HM) | (clear tg4 HM; intro w' g4 HM) | (clear HM; intro w' g' HM))) | ((with_reducible apply own_cell HM); exact rfl; exact rfl; (first | (with_reducible exact oneU8) | (with_reducible exact oneInt)); exact sS; exact dS; exact rfl) | ((with_reducible apply own_load HM); exact rfl; exact rfl; (first | (with_reducible exact agg8)); exact sS; exact dS; exact tS; exact rfl) | ((with_reducible apply own_store HM); exact rfl; exact rfl; (conv => lhs; whnf); exact rfl; exact sS; exact vS; exact sS; (first | (with_reducible exact (agg8).size) | (with_reducible exact (oneU8).size) | (with_reducible exact (oneInt).size)); exact rfl; exact rfl; exact rfl; exact rfl; clear HM; intro w' HM))
          go_roundw
          case rel => exact ⟨1, _, by omega, rfl, .inr (.inl ⟨rfl, rfl⟩), HM⟩
          case measure => decide
        · have E1 := S3_1.out
          have E2 := C3_1.out
          have E3 := Z3_1.out
          have E4 := X3_1.out
          go_upto_region 13 with fail
          (refine own_tail 10 HM (by kernel_rfl) (by kernel_rfl) (by kernel_rfl) ?_; simp only [List.take_succ_cons, List.take_zero, List.drop_succ_cons, List.drop_zero]; (try simp only [Act.put, List.setIfInBounds_toArray, List.set_cons_zero, List.set_cons_succ]); repeat ((fail_if_success (with_reducible refine wpQuiet_nil ?_)); first | go_big_quiet_skip | (go_big_quiet_want; first | ((with_reducible apply quiet_load); exact rfl; (first | (with_reducible exact agg8)); exact sS; exact dS; exact tS; go_big_quiet_op; go_big_quiet_on) | ((with_reducible apply quiet_cell); exact rfl; (first | (with_reducible exact oneU8) | (with_reducible exact oneInt)); exact sS; exact dS; go_big_quiet_op; go_big_quiet_on) | (go_big_quiet_op; go_big_quiet_on) | (go_big_quiet_op; refine ⟨_, fun _ _ => rfl, ?_⟩; go_big_quiet_on))))
          refine wpQuiet_nil ?_
          intro w' HM'
          clear HM; have HM := HM'; clear HM'
          clear E1 E2 E3 E4
          go_wp2_with (first | ((with_reducible apply own_box HM); exact rfl; (conv => lhs; whnf); exact rfl; exact rfl; (first | (clear tg1 HM; intro w' g1 HM) | (clear tg2 HM; intro w' g2 HM) | (clear tg3 HM; intro w' g3 HM) | (clear tg4 HM; intro w' g4 HM) | (clear HM; intro w' g' HM))) | ((with_reducible apply own_alloc HM); exact rfl; (first | (with_reducible exact zero8)); exact rfl; (first | (clear tg1 HM; intro w' g1 HM) | (clear tg2 HM; intro w' g2 HM) | (clear tg3 HM; intro w' g3 HM) | (clear tg4 HM; intro w' g4 HM) | (clear HM; intro w' g' HM))) | ((with_reducible apply own_cell HM); exact rfl; exact rfl; (first | (with_reducible exact oneU8) | (with_reducible exact oneInt)); exact sS; exact dS; exact rfl) | ((with_reducible apply own_load HM); exact rfl; exact rfl; (first | (with_reducible exact agg8)); exact sS; exact dS; exact tS; exact rfl) | ((with_reducible apply own_store HM); exact rfl; exact rfl; (conv => lhs; whnf); exact rfl; exact sS; exact vS; exact sS; (first | (with_reducible exact (agg8).size) | (with_reducible exact (oneU8).size) | (with_reducible exact (oneInt).size)); exact rfl; exact rfl; exact rfl; exact rfl; clear HM; intro w' HM))
          go_roundw
          case rel => exact ⟨2, _, by omega, rfl, .inr (.inr (.inl ⟨rfl, rfl⟩)), HM⟩
          case measure => decide
        · have E1 := S3_2.out
          have E2 := C3_2.out
          have E3 := Z3_2.out
          have E4 := X3_2.out
          go_upto_region 13 with fail
          (refine own_tail 10 HM (by kernel_rfl) (by kernel_rfl) (by kernel_rfl) ?_; simp only [List.take_succ_cons, List.take_zero, List.drop_succ_cons, List.drop_zero]; (try simp only [Act.put, List.setIfInBounds_toArray, List.set_cons_zero, List.set_cons_succ]); repeat ((fail_if_success (with_reducible refine wpQuiet_nil ?_)); first | go_big_quiet_skip | (go_big_quiet_want; first | ((with_reducible apply quiet_load); exact rfl; (first | (with_reducible exact agg8)); exact sS; exact dS; exact tS; go_big_quiet_op; go_big_quiet_on) | ((with_reducible apply quiet_cell); exact rfl; (first | (with_reducible exact oneU8) | (with_reducible exact oneInt)); exact sS; exact dS; go_big_quiet_op; go_big_quiet_on) | (go_big_quiet_op; go_big_quiet_on) | (go_big_quiet_op; refine ⟨_, fun _ _ => rfl, ?_⟩; go_big_quiet_on))))
          refine wpQuiet_nil ?_
          intro w' HM'
          clear HM; have HM := HM'; clear HM'
          clear E1 E2 E3 E4
          go_wp2_with (first | ((with_reducible apply own_box HM); exact rfl; (conv => lhs; whnf); exact rfl; exact rfl; (first | (clear tg1 HM; intro w' g1 HM) | (clear tg2 HM; intro w' g2 HM) | (clear tg3 HM; intro w' g3 HM) | (clear tg4 HM; intro w' g4 HM) | (clear HM; intro w' g' HM))) | ((with_reducible apply own_alloc HM); exact rfl; (first | (with_reducible exact zero8)); exact rfl; (first | (clear tg1 HM; intro w' g1 HM) | (clear tg2 HM; intro w' g2 HM) | (clear tg3 HM; intro w' g3 HM) | (clear tg4 HM; intro w' g4 HM) | (clear HM; intro w' g' HM))) | ((with_reducible apply own_cell HM); exact rfl; exact rfl; (first | (with_reducible exact oneU8) | (with_reducible exact oneInt)); exact sS; exact dS; exact rfl) | ((with_reducible apply own_load HM); exact rfl; exact rfl; (first | (with_reducible exact agg8)); exact sS; exact dS; exact tS; exact rfl) | ((with_reducible apply own_store HM); exact rfl; exact rfl; (conv => lhs; whnf); exact rfl; exact sS; exact vS; exact sS; (first | (with_reducible exact (agg8).size) | (with_reducible exact (oneU8).size) | (with_reducible exact (oneInt).size)); exact rfl; exact rfl; exact rfl; exact rfl; clear HM; intro w' HM))
          go_roundw
          case rel => exact ⟨3, _, by omega, rfl, .inr (.inr (.inr (.inl ⟨rfl, rfl⟩))), HM⟩
          case measure => decide
        · have E1 := S3_3.out
          have E2 := C3_3.out
          have E3 := Z3_3.out
          have E4 := X3_3.out
          go_upto_region 13 with fail
          (refine own_tail 10 HM (by kernel_rfl) (by kernel_rfl) (by kernel_rfl) ?_; simp only [List.take_succ_cons, List.take_zero, List.drop_succ_cons, List.drop_zero]; (try simp only [Act.put, List.setIfInBounds_toArray, List.set_cons_zero, List.set_cons_succ]); repeat ((fail_if_success (with_reducible refine wpQuiet_nil ?_)); first | go_big_quiet_skip | (go_big_quiet_want; first | ((with_reducible apply quiet_load); exact rfl; (first | (with_reducible exact agg8)); exact sS; exact dS; exact tS; go_big_quiet_op; go_big_quiet_on) | ((with_reducible apply quiet_cell); exact rfl; (first | (with_reducible exact oneU8) | (with_reducible exact oneInt)); exact sS; exact dS; go_big_quiet_op; go_big_quiet_on) | (go_big_quiet_op; go_big_quiet_on) | (go_big_quiet_op; refine ⟨_, fun _ _ => rfl, ?_⟩; go_big_quiet_on))))
          refine wpQuiet_nil ?_
          intro w' HM'
          clear HM; have HM := HM'; clear HM'
          clear E1 E2 E3 E4
          go_wp2_with (first | ((with_reducible apply own_box HM); exact rfl; (conv => lhs; whnf); exact rfl; exact rfl; (first | (clear tg1 HM; intro w' g1 HM) | (clear tg2 HM; intro w' g2 HM) | (clear tg3 HM; intro w' g3 HM) | (clear tg4 HM; intro w' g4 HM) | (clear HM; intro w' g' HM))) | ((with_reducible apply own_alloc HM); exact rfl; (first | (with_reducible exact zero8)); exact rfl; (first | (clear tg1 HM; intro w' g1 HM) | (clear tg2 HM; intro w' g2 HM) | (clear tg3 HM; intro w' g3 HM) | (clear tg4 HM; intro w' g4 HM) | (clear HM; intro w' g' HM))) | ((with_reducible apply own_cell HM); exact rfl; exact rfl; (first | (with_reducible exact oneU8) | (with_reducible exact oneInt)); exact sS; exact dS; exact rfl) | ((with_reducible apply own_load HM); exact rfl; exact rfl; (first | (with_reducible exact agg8)); exact sS; exact dS; exact tS; exact rfl) | ((with_reducible apply own_store HM); exact rfl; exact rfl; (conv => lhs; whnf); exact rfl; exact sS; exact vS; exact sS; (first | (with_reducible exact (agg8).size) | (with_reducible exact (oneU8).size) | (with_reducible exact (oneInt).size)); exact rfl; exact rfl; exact rfl; exact rfl; clear HM; intro w' HM))
          go_roundw
          case rel => exact ⟨4, _, by omega, rfl, .inr (.inr (.inr (.inr (.inl ⟨rfl, rfl⟩)))), HM⟩
          case measure => decide
        · have E1 := S3_4.out
          have E2 := C3_4.out
          have E3 := Z3_4.out
          have E4 := X3_4.out
          go_upto_region 13 with fail
          (refine own_tail 10 HM (by kernel_rfl) (by kernel_rfl) (by kernel_rfl) ?_; simp only [List.take_succ_cons, List.take_zero, List.drop_succ_cons, List.drop_zero]; (try simp only [Act.put, List.setIfInBounds_toArray, List.set_cons_zero, List.set_cons_succ]); repeat ((fail_if_success (with_reducible refine wpQuiet_nil ?_)); first | go_big_quiet_skip | (go_big_quiet_want; first | ((with_reducible apply quiet_load); exact rfl; (first | (with_reducible exact agg8)); exact sS; exact dS; exact tS; go_big_quiet_op; go_big_quiet_on) | ((with_reducible apply quiet_cell); exact rfl; (first | (with_reducible exact oneU8) | (with_reducible exact oneInt)); exact sS; exact dS; go_big_quiet_op; go_big_quiet_on) | (go_big_quiet_op; go_big_quiet_on) | (go_big_quiet_op; refine ⟨_, fun _ _ => rfl, ?_⟩; go_big_quiet_on))))
          refine wpQuiet_nil ?_
          intro w' HM'
          clear HM; have HM := HM'; clear HM'
          clear E1 E2 E3 E4
          go_wp2_with (first | ((with_reducible apply own_box HM); exact rfl; (conv => lhs; whnf); exact rfl; exact rfl; (first | (clear tg1 HM; intro w' g1 HM) | (clear tg2 HM; intro w' g2 HM) | (clear tg3 HM; intro w' g3 HM) | (clear tg4 HM; intro w' g4 HM) | (clear HM; intro w' g' HM))) | ((with_reducible apply own_alloc HM); exact rfl; (first | (with_reducible exact zero8)); exact rfl; (first | (clear tg1 HM; intro w' g1 HM) | (clear tg2 HM; intro w' g2 HM) | (clear tg3 HM; intro w' g3 HM) | (clear tg4 HM; intro w' g4 HM) | (clear HM; intro w' g' HM))) | ((with_reducible apply own_cell HM); exact rfl; exact rfl; (first | (with_reducible exact oneU8) | (with_reducible exact oneInt)); exact sS; exact dS; exact rfl) | ((with_reducible apply own_load HM); exact rfl; exact rfl; (first | (with_reducible exact agg8)); exact sS; exact dS; exact tS; exact rfl) | ((with_reducible apply own_store HM); exact rfl; exact rfl; (conv => lhs; whnf); exact rfl; exact sS; exact vS; exact sS; (first | (with_reducible exact (agg8).size) | (with_reducible exact (oneU8).size) | (with_reducible exact (oneInt).size)); exact rfl; exact rfl; exact rfl; exact rfl; clear HM; intro w' HM))
          go_roundw
          case rel => exact ⟨5, _, by omega, rfl, .inr (.inr (.inr (.inr (.inr (.inl ⟨rfl, rfl⟩))))), HM⟩
          case measure => decide
        · have E1 := S3_5.out
          have E2 := C3_5.out
          have E3 := Z3_5.out
          have E4 := X3_5.out
          go_upto_region 13 with fail
          (refine own_tail 10 HM (by kernel_rfl) (by kernel_rfl) (by kernel_rfl) ?_; simp only [List.take_succ_cons, List.take_zero, List.drop_succ_cons, List.drop_zero]; (try simp only [Act.put, List.setIfInBounds_toArray, List.set_cons_zero, List.set_cons_succ]); repeat ((fail_if_success (with_reducible refine wpQuiet_nil ?_)); first | go_big_quiet_skip | (go_big_quiet_want; first | ((with_reducible apply quiet_load); exact rfl; (first | (with_reducible exact agg8)); exact sS; exact dS; exact tS; go_big_quiet_op; go_big_quiet_on) | ((with_reducible apply quiet_cell); exact rfl; (first | (with_reducible exact oneU8) | (with_reducible exact oneInt)); exact sS; exact dS; go_big_quiet_op; go_big_quiet_on) | (go_big_quiet_op; go_big_quiet_on) | (go_big_quiet_op; refine ⟨_, fun _ _ => rfl, ?_⟩; go_big_quiet_on))))
          refine wpQuiet_nil ?_
          intro w' HM'
          clear HM; have HM := HM'; clear HM'
          clear E1 E2 E3 E4
          go_wp2_with (first | ((with_reducible apply own_box HM); exact rfl; (conv => lhs; whnf); exact rfl; exact rfl; (first | (clear tg1 HM; intro w' g1 HM) | (clear tg2 HM; intro w' g2 HM) | (clear tg3 HM; intro w' g3 HM) | (clear tg4 HM; intro w' g4 HM) | (clear HM; intro w' g' HM))) | ((with_reducible apply own_alloc HM); exact rfl; (first | (with_reducible exact zero8)); exact rfl; (first | (clear tg1 HM; intro w' g1 HM) | (clear tg2 HM; intro w' g2 HM) | (clear tg3 HM; intro w' g3 HM) | (clear tg4 HM; intro w' g4 HM) | (clear HM; intro w' g' HM))) | ((with_reducible apply own_cell HM); exact rfl; exact rfl; (first | (with_reducible exact oneU8) | (with_reducible exact oneInt)); exact sS; exact dS; exact rfl) | ((with_reducible apply own_load HM); exact rfl; exact rfl; (first | (with_reducible exact agg8)); exact sS; exact dS; exact tS; exact rfl) | ((with_reducible apply own_store HM); exact rfl; exact rfl; (conv => lhs; whnf); exact rfl; exact sS; exact vS; exact sS; (first | (with_reducible exact (agg8).size) | (with_reducible exact (oneU8).size) | (with_reducible exact (oneInt).size)); exact rfl; exact rfl; exact rfl; exact rfl; clear HM; intro w' HM))
          go_roundw
          case rel => exact ⟨6, _, by omega, rfl, .inr (.inr (.inr (.inr (.inr (.inr (.inl ⟨rfl, rfl⟩)))))), HM⟩
          case measure => decide
        · have E1 := S3_6.out
          have E2 := C3_6.out
          have E3 := Z3_6.out
          have E4 := X3_6.out
          go_upto_region 13 with fail
          (refine own_tail 10 HM (by kernel_rfl) (by kernel_rfl) (by kernel_rfl) ?_; simp only [List.take_succ_cons, List.take_zero, List.drop_succ_cons, List.drop_zero]; (try simp only [Act.put, List.setIfInBounds_toArray, List.set_cons_zero, List.set_cons_succ]); repeat ((fail_if_success (with_reducible refine wpQuiet_nil ?_)); first | go_big_quiet_skip | (go_big_quiet_want; first | ((with_reducible apply quiet_load); exact rfl; (first | (with_reducible exact agg8)); exact sS; exact dS; exact tS; go_big_quiet_op; go_big_quiet_on) | ((with_reducible apply quiet_cell); exact rfl; (first | (with_reducible exact oneU8) | (with_reducible exact oneInt)); exact sS; exact dS; go_big_quiet_op; go_big_quiet_on) | (go_big_quiet_op; go_big_quiet_on) | (go_big_quiet_op; refine ⟨_, fun _ _ => rfl, ?_⟩; go_big_quiet_on))))
          refine wpQuiet_nil ?_
          intro w' HM'
          clear HM; have HM := HM'; clear HM'
          clear E1 E2 E3 E4
          go_wp2_with (first | ((with_reducible apply own_box HM); exact rfl; (conv => lhs; whnf); exact rfl; exact rfl; (first | (clear tg1 HM; intro w' g1 HM) | (clear tg2 HM; intro w' g2 HM) | (clear tg3 HM; intro w' g3 HM) | (clear tg4 HM; intro w' g4 HM) | (clear HM; intro w' g' HM))) | ((with_reducible apply own_alloc HM); exact rfl; (first | (with_reducible exact zero8)); exact rfl; (first | (clear tg1 HM; intro w' g1 HM) | (clear tg2 HM; intro w' g2 HM) | (clear tg3 HM; intro w' g3 HM) | (clear tg4 HM; intro w' g4 HM) | (clear HM; intro w' g' HM))) | ((with_reducible apply own_cell HM); exact rfl; exact rfl; (first | (with_reducible exact oneU8) | (with_reducible exact oneInt)); exact sS; exact dS; exact rfl) | ((with_reducible apply own_load HM); exact rfl; exact rfl; (first | (with_reducible exact agg8)); exact sS; exact dS; exact tS; exact rfl) | ((with_reducible apply own_store HM); exact rfl; exact rfl; (conv => lhs; whnf); exact rfl; exact sS; exact vS; exact sS; (first | (with_reducible exact (agg8).size) | (with_reducible exact (oneU8).size) | (with_reducible exact (oneInt).size)); exact rfl; exact rfl; exact rfl; exact rfl; clear HM; intro w' HM))
          go_roundw
          case rel => exact ⟨7, _, by omega, rfl, .inr (.inr (.inr (.inr (.inr (.inr (.inr (.inl ⟨rfl, rfl⟩))))))), HM⟩
          case measure => decide
        · have E1 := trivial
          have E2 := C3_7.out
          have E3 := Z3_7.out
          have E4 := X3_7.out
          go_upto_region 13 with fail
          (refine own_tail 10 HM (by kernel_rfl) (by kernel_rfl) (by kernel_rfl) ?_; simp only [List.take_succ_cons, List.take_zero, List.drop_succ_cons, List.drop_zero]; (try simp only [Act.put, List.setIfInBounds_toArray, List.set_cons_zero, List.set_cons_succ]); repeat ((fail_if_success (with_reducible refine wpQuiet_nil ?_)); first | go_big_quiet_skip | (go_big_quiet_want; first | ((with_reducible apply quiet_load); exact rfl; (first | (with_reducible exact agg8)); exact sS; exact dS; exact tS; go_big_quiet_op; go_big_quiet_on) | ((with_reducible apply quiet_cell); exact rfl; (first | (with_reducible exact oneU8) | (with_reducible exact oneInt)); exact sS; exact dS; go_big_quiet_op; go_big_quiet_on) | (go_big_quiet_op; go_big_quiet_on) | (go_big_quiet_op; refine ⟨_, fun _ _ => rfl, ?_⟩; go_big_quiet_on))))
          refine wpQuiet_nil ?_
          intro w' HM'
          clear HM; have HM := HM'; clear HM'
          clear E1 E2 E3 E4
          go_wp2_with (first | ((with_reducible apply own_box HM); exact rfl; (conv => lhs; whnf); exact rfl; exact rfl; (first | (clear tg1 HM; intro w' g1 HM) | (clear tg2 HM; intro w' g2 HM) | (clear tg3 HM; intro w' g3 HM) | (clear tg4 HM; intro w' g4 HM) | (clear HM; intro w' g' HM))) | ((with_reducible apply own_alloc HM); exact rfl; (first | (with_reducible exact zero8)); exact rfl; (first | (clear tg1 HM; intro w' g1 HM) | (clear tg2 HM; intro w' g2 HM) | (clear tg3 HM; intro w' g3 HM) | (clear tg4 HM; intro w' g4 HM) | (clear HM; intro w' g' HM))) | ((with_reducible apply own_cell HM); exact rfl; exact rfl; (first | (with_reducible exact oneU8) | (with_reducible exact oneInt)); exact sS; exact dS; exact rfl) | ((with_reducible apply own_load HM); exact rfl; exact rfl; (first | (with_reducible exact agg8)); exact sS; exact dS; exact tS; exact rfl) | ((with_reducible apply own_store HM); exact rfl; exact rfl; (conv => lhs; whnf); exact rfl; exact sS; exact vS; exact sS; (first | (with_reducible exact (agg8).size) | (with_reducible exact (oneU8).size) | (with_reducible exact (oneInt).size)); exact rfl; exact rfl; exact rfl; exact rfl; clear HM; intro w' HM))
          go_roundw
          case rel => exact ⟨8, _, by omega, rfl, .inr (.inr (.inr (.inr (.inr (.inr (.inr (.inr (⟨rfl, rfl⟩)))))))), HM⟩
          case measure => decide
        · go_upto_region 16 with (first | ((with_reducible apply own_box HM); exact rfl; (conv => lhs; whnf); exact rfl; exact rfl; (first | (clear tg1 HM; intro w' g1 HM) | (clear tg2 HM; intro w' g2 HM) | (clear tg3 HM; intro w' g3 HM) | (clear tg4 HM; intro w' g4 HM) | (clear HM; intro w' g' HM))) | ((with_reducible apply own_alloc HM); exact rfl; (first | (with_reducible exact zero8)); exact rfl; (first | (clear tg1 HM; intro w' g1 HM) | (clear tg2 HM; intro w' g2 HM) | (clear tg3 HM; intro w' g3 HM) | (clear tg4 HM; intro w' g4 HM) | (clear HM; intro w' g' HM))) | ((with_reducible apply own_cell HM); exact rfl; exact rfl; (first | (with_reducible exact oneU8) | (with_reducible exact oneInt)); exact sS; exact dS; exact rfl) | ((with_reducible apply own_load HM); exact rfl; exact rfl; (first | (with_reducible exact agg8)); exact sS; exact dS; exact tS; exact rfl) | ((with_reducible apply own_store HM); exact rfl; exact rfl; (conv => lhs; whnf); exact rfl; exact sS; exact vS; exact sS; (first | (with_reducible exact (agg8).size) | (with_reducible exact (oneU8).size) | (with_reducible exact (oneInt).size)); exact rfl; exact rfl; exact rfl; exact rfl; clear HM; intro w' HM))
          go_roundw
          case rel => exact ⟨4, by omega, rfl, _, .inr (.inr (.inr (.inr (⟨rfl, rfl⟩)))), HM⟩
          case measure => decide
    · go_wp2_with (first | ((with_reducible apply own_box HM); exact rfl; (conv => lhs; whnf); exact rfl; exact rfl; (first | (clear tg1 HM; intro w' g1 HM) | (clear tg2 HM; intro w' g2 HM) | (clear tg3 HM; intro w' g3 HM) | (clear tg4 HM; intro w' g4 HM) | (clear HM; intro w' g' HM))) | ((with_reducible apply own_alloc HM); exact rfl; (first | (with_reducible exact zero8)); exact rfl; (first | (clear tg1 HM; intro w' g1 HM) | (clear tg2 HM; intro w' g2 HM) | (clear tg3 HM; intro w' g3 HM) | (clear tg4 HM; intro w' g4 HM) | (clear HM; intro w' g' HM))) | ((with_reducible apply own_cell HM); exact rfl; exact rfl; (first | (with_reducible exact oneU8) | (with_reducible exact oneInt)); exact sS; exact dS; exact rfl) | ((with_reducible apply own_load HM); exact rfl; exact rfl; (first | (with_reducible exact agg8)); exact sS; exact dS; exact tS; exact rfl) | ((with_reducible apply own_store HM); exact rfl; exact rfl; (conv => lhs; whnf); exact rfl; exact sS; exact vS; exact sS; (first | (with_reducible exact (agg8).size) | (with_reducible exact (oneU8).size) | (with_reducible exact (oneInt).size)); exact rfl; exact rfl; exact rfl; exact rfl; clear HM; intro w' HM))
      refine bodyPost_ret (v := .agg #[.int .u8 (d0 : Int), .int .u8 (d1 : Int), .int .u8 (d2 : Int), .int .u8 (d3 : Int), .int .u8 (d4 : Int), .int .u8 (d5 : Int), .int .u8 (d6 : Int), .int .u8 (d7 : Int)]) (own_results HM Try.results46 _ rfl (by first | exact .z | exact .s .z) agg8) rfl ⟨rfl, Own.fin HM⟩
end Go.Proofs.Ytijjigacmmhloaa
