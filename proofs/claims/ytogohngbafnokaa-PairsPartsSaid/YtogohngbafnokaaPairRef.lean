/-
  The document's functions of two bytes at once, each by one contract.
-/
import Derived.Test.YtogohngbafnokaaPairSpec
import Derived.Test.YtogohngbafnokaaSumRefAdd
namespace Go.Proofs.Ytogohngbafnokaa
open Go.RowKit

theorem ret_wide' {a b : Int} {v f : Nat} (h : a = (v : Int)) (h' : b = (f : Int)) : (Ending.returned (.tuple #[.int .u16 a, .int .u8 b]) : Ending) = .returned (.tuple #[.int .u16 (v : Int), .int .u8 (f : Int)]) := by rw [h, h']
theorem ret_word' {a : Int} {v : Nat} (h : a = (v : Int)) : (Ending.returned (.int .u16 a) : Ending) = .returned (.int .u16 (v : Int)) := by rw [h]

theorem modulo_at (n : Int) (v : Nat) (hv : Hid (n % 65536 = (v : Int))) (w : World) :
    Calls Try.prog 25 #[.int .i64 n] w fun e w' => e = .returned (.int .u16 (v : Int)) ∧ w = w' := by
  obtain ⟨q, hq⟩ : ∃ q, n.tmod 65536 = q := ⟨_, rfl⟩
  have q0 : -65536 < q ∧ q < 65536 ∧ q % 65536 = n % 65536 := by
    rw [← hq, Int.tmod_eq_emod]
    split <;> simp <;> omega
  have hq2 : (q + 65536).tmod 65536 = (v : Int) := by
    rw [Int.tmod_eq_emod_of_nonneg (by omega)]
    have := hv.out
    omega
  have b1 := q0.1
  have b2 := q0.2.1
  have v1 : (v : Int) < 65536 := by have := hv.out; omega
  clear q0 hv
  go_enter Try.func25, Try.ntmps25
  go_wp2
  go_ret
  exact ⟨rfl, rfl⟩

theorem rjoin_at (h l v : Nat) (hh : h < 256) (hl : l < 256) (hv : Hid (h * 256 + l = v)) (w : World) :
    Calls Try.prog 17 #[.int .u8 (h : Int), .int .u8 (l : Int)] w fun e w' => e = .returned (.int .u16 (v : Int)) ∧ w = w' := by
  have e : (h : Int) * 256 + (l : Int) = (v : Int) := by have := hv.out; omega
  go_enter Try.func17, Try.ntmps17
  go_wp2
  go_ret
  exact ⟨ret_word' (by omega), rfl⟩

theorem rmove_at (v b r : Nat) (hv : v < 65536) (hb : b < 256) (hr : Hid (wMove v b = r)) (w : World) :
    Calls Try.prog 19 #[.int .u16 (v : Int), .int .u8 (b : Int)] w fun e w' => e = .returned (.int .u16 (r : Int)) ∧ w = w' := by
  by_cases h : (128 : Int) ≤ (b : Int)
  · have e : Hid (((v : Int) + ((b : Int) - 256)) % 65536 = (r : Int)) := by
      have h2 := hr.out
      unfold wMove at h2
      rw [show Nat.ble 128 b = true from ble_t (by omega)] at h2
      have h3 : (v + (b + 65280)) % 65536 = r := h2
      show _ = _
      omega
    go_enter Try.func19, Try.ntmps19
    go_wp2_with (go_at_call 25; (with_reducible refine (modulo_at _ r e _).mono ?_); rintro e w' ⟨rfl, rfl⟩)
    go_ret
    exact ⟨rfl, rfl⟩
  · have e : Hid (((v : Int) + (b : Int)) % 65536 = (r : Int)) := by
      have h2 := hr.out
      unfold wMove at h2
      rw [show Nat.ble 128 b = false from ble_f (by omega)] at h2
      have h3 : (v + b) % 65536 = r := h2
      show _ = _
      omega
    go_enter Try.func19, Try.ntmps19
    go_wp2_with (go_at_call 25; (with_reducible refine (modulo_at _ r e _).mono ?_); rintro e w' ⟨rfl, rfl⟩)
    go_ret
    exact ⟨rfl, rfl⟩

/-- a number as one from -32768 to 32767 -/
def signedW (v : Nat) : Int := if 32768 ≤ v then (v : Int) - 65536 else v
theorem signedW_bd (v : Nat) (h : v < 65536) : -32768 ≤ signedW v ∧ signedW v ≤ 32767 := by unfold signedW; split <;> omega
theorem signedW_at (v : Nat) (h : v < 65536) (r : Int) (hr : Hid (signedW v = r)) (w : World) : Calls Try.prog 29 #[.int .u16 (v : Int)] w fun e w' => e = .returned (.int .i64 r) ∧ w = w' := by
  by_cases hv : (32768 : Int) ≤ (v : Int)
  · have e : (v : Int) - 65536 = r := by rw [← hr.out]; unfold signedW; rw [if_pos (by omega)]
    have HE := Lib.hid e
    clear e
    go_enter Try.func29, Try.ntmps29
    go_wp2
    go_ret
    exact ⟨by rw [← HE.out]; rfl, rfl⟩
  · have e : (v : Int) = r := by rw [← hr.out]; unfold signedW; rw [if_neg (by omega)]
    subst e
    go_enter Try.func29, Try.ntmps29
    go_wp2
    go_ret
    exact ⟨rfl, rfl⟩

set_option maxHeartbeats 800000 in
theorem wshape_at (v : Nat) (s z y x : Bool) (h : v < 65536) (hr : Hid (nS (wHigh v) = s ∧ nZ v = z ∧ nBit 32 (wHigh v) = y ∧ nBit 8 (wHigh v) = x)) (w : World) :
    Calls Try.prog 27 #[.int .u16 (v : Int)] w fun e w' => e = .returned (.agg #[.bool s, .bool z, .bool y, .bool false, .bool x, .bool false, .bool false, .bool false]) ∧ Below w.heap.size w w' := by
  obtain ⟨u, hu⟩ : ∃ u, wHigh v = u := ⟨_, rfl⟩
  have u1 : u < 256 := by rw [← hu]; exact wHigh_lt _ h
  rw [hu] at hr
  obtain ⟨z', hz'⟩ : ∃ z', nZ u = z' := ⟨_, rfl⟩
  have hr' : Hid (nS u = s ∧ nZ u = z' ∧ nBit 32 u = y ∧ nBit 8 u = x) := ⟨hr.out.1, hz', hr.out.2.2.1, hr.out.2.2.2⟩
  have e1 : ((v : Int)).tdiv 256 = (u : Int) := by
    rw [Int.tdiv_eq_ediv_of_nonneg (by omega)]
    have : v / 256 = u := hu
    omega
  have HZ : Hid (((v : Int) == 0) = z) := by
    have h := hr.out.2.1
    rw [← h]
    exact eq_of v 0
  have HM := Lib.hid (Own.start w)
  have tg1 : Hid True := trivial
  have tg2 : Hid True := trivial
  clear hr hz' hu
  go_enter Try.func27, Try.ntmps27
  go_wp2_with (first
    | ((with_reducible apply own_box HM); exact rfl; (conv => lhs; whnf); exact rfl; exact rfl; (first | (clear tg1; intro w' g1 HM') | (clear tg2; intro w' g2 HM') | (clear tg3; intro w' g3 HM') | (clear tg4; intro w' g4 HM') | intro w' g' HM'); clear HM; have HM := HM'; clear HM'; all_goals skip) | ((with_reducible apply own_alloc HM); exact rfl; (first | (with_reducible exact zeroF)); exact rfl; (first | (clear tg1; intro w' g1 HM') | (clear tg2; intro w' g2 HM') | (clear tg3; intro w' g3 HM') | (clear tg4; intro w' g4 HM') | intro w' g' HM'); clear HM; have HM := HM'; clear HM'; all_goals skip) | ((with_reducible apply own_cell HM); exact rfl; exact rfl; (first | (with_reducible exact oneBool)); (first | with_reducible exact .z | with_reducible exact .s .z | with_reducible exact .s (.s .z) | with_reducible exact .s (.s (.s .z)) | with_reducible exact .s (.s (.s (.s .z))) | with_reducible exact .s (.s (.s (.s (.s .z))))); (focus repeat' (first | with_reducible exact .z | with_reducible apply Drop.s)); exact rfl; all_goals skip) | ((with_reducible apply own_load HM); exact rfl; exact rfl; (first | (with_reducible exact aggF)); (first | with_reducible exact .z | with_reducible exact .s .z | with_reducible exact .s (.s .z) | with_reducible exact .s (.s (.s .z)) | with_reducible exact .s (.s (.s (.s .z))) | with_reducible exact .s (.s (.s (.s (.s .z))))); (focus repeat' (first | with_reducible exact .z | with_reducible apply Drop.s)); (focus repeat' (first | with_reducible exact .z | with_reducible apply Take.s)); exact rfl; all_goals skip) | ((with_reducible apply own_store HM); exact rfl; exact rfl; (conv => lhs; whnf); exact rfl; (first | with_reducible exact .z | with_reducible exact .s .z | with_reducible exact .s (.s .z) | with_reducible exact .s (.s (.s .z)) | with_reducible exact .s (.s (.s (.s .z))) | with_reducible exact .s (.s (.s (.s (.s .z))))); (focus repeat' (first | with_reducible exact .z | with_reducible apply Over.p | with_reducible apply Over.s)); (first | with_reducible exact .z | with_reducible exact .s .z | with_reducible exact .s (.s .z) | with_reducible exact .s (.s (.s .z)) | with_reducible exact .s (.s (.s (.s .z))) | with_reducible exact .s (.s (.s (.s (.s .z))))); (first | (with_reducible exact (aggF).size) | (with_reducible exact (oneBool).size)); exact rfl; exact rfl; exact rfl; exact rfl; intro w' HM'; clear HM; have HM := HM'; clear HM'; all_goals skip)
    | (go_at_call 31; (with_reducible refine (rshape_at u s z' y x u1 hr' _).mono ?_); rintro e w' ⟨rfl, hb⟩; have HM' := Lib.hid (HM.out.call hb); clear HM hb; have HM := HM'; clear HM'))
  refine bodyPost_ret (v := .agg #[.bool _, .bool _, .bool _, .bool _, .bool _, .bool _, .bool _, .bool _]) (own_results HM Try.results27 _ rfl (by first | exact .z | exact .s .z) aggF) rfl ⟨?_, Own.fin HM⟩
  exact flags_eq rfl HZ.out rfl rfl rfl rfl rfl rfl

theorem of_to (f : Nat) (b7 b6 b5 b4 b3 b2 b1 b0 : Bool) (h : f < 256) (hr : Hid (nBit 128 f = b7 ∧ nBit 64 f = b6 ∧ nBit 32 f = b5 ∧ nBit 16 f = b4 ∧ nBit 8 f = b3 ∧ nBit 4 f = b2 ∧ nBit 2 f = b1 ∧ nBit 1 f = b0)) (w : World) :
    Calls Try.prog 26 #[.int .u8 (f : Int)] w fun e w' =>
    e = .returned (.agg #[.bool b7, .bool b6, .bool b5, .bool b4, .bool b3, .bool b2, .bool b1, .bool b0]) ∧ Below w.heap.size w w' := by
  obtain ⟨rfl, rfl, rfl, rfl, rfl, rfl, rfl, rfl⟩ := hr.out; exact of_at f h w

theorem wradd_key (a b f v g : Nat) (s z y x p : Bool) (hv : wAddV a b 0 = v) (hg : wAddF a b f = g) (hb : nBit 128 f = s ∧ nBit 64 f = z ∧ nBit 4 f = p) (hs : nBit 32 (wHigh v) = y ∧ nBit 8 (wHigh v) = x) (H C : Bool)
    (hH : H = true ↔ (4095 : Int) < (a : Int) % 4096 + (b : Int) % 4096) (hC : C = true ↔ (65535 : Int) < (a : Int) + b) : nByte s z y H x p false C = g := by
  obtain ⟨rfl, rfl, rfl⟩ := hb
  obtain ⟨rfl, rfl⟩ := hs
  rw [← hg]
  unfold wAddF
  rw [hv]
  have e1 : H = wHalf a b 0 := by rw [Bool.eq_iff_iff, hH, wHalf_iff]; omega
  have e2 : C = wCar a b 0 := by rw [Bool.eq_iff_iff, hC, wCar_iff]; omega
  rw [e1, e2]
theorem wradc_key (a b k v g : Nat) (s z y x : Bool) (ha : a < 65536) (hb : b < 65536) (hk : k ≤ 1) (hv : wAddV a b k = v) (hg : wAdcF a b k = g) (hs : nS (wHigh v) = s ∧ nZ v = z ∧ nBit 32 (wHigh v) = y ∧ nBit 8 (wHigh v) = x) (H P C : Bool)
    (hH : H = true ↔ (4095 : Int) < (a : Int) % 4096 + (b : Int) % 4096 + k) (hP : P = true ↔ (signedW a + signedW b + k < -32768 ∨ 32767 < signedW a + signedW b + k)) (hC : C = true ↔ (65535 : Int) < (a : Int) + b + k) : nByte s z y H x P false C = g := by
  obtain ⟨rfl, rfl, rfl, rfl⟩ := hs
  rw [← hg]
  unfold wAdcF
  rw [hv]
  have e1 : H = wHalf a b k := by rw [Bool.eq_iff_iff, hH, wHalf_iff]; omega
  have e2 : C = wCar a b k := by rw [Bool.eq_iff_iff, hC, wCar_iff]; omega
  have e3 : P = wOver (Nat.add (Nat.add (wTurn a) (wTurn b)) k) := by
    rw [Bool.eq_iff_iff, hP, wOver_iff]
    unfold signedW
    show _ ↔ ¬ (32768 ≤ (a + 32768) % 65536 + (b + 32768) % 65536 + k ∧ (a + 32768) % 65536 + (b + 32768) % 65536 + k ≤ 98303)
    split <;> split <;> omega
  rw [e1, e2, e3]
theorem wrsbc_key (a b k v g : Nat) (s z y x : Bool) (ha : a < 65536) (hb : b < 65536) (hk : k ≤ 1) (hv : wSubV a b k = v) (hg : wSbcF a b k = g) (hs : nS (wHigh v) = s ∧ nZ v = z ∧ nBit 32 (wHigh v) = y ∧ nBit 8 (wHigh v) = x) (H P C : Bool)
    (hH : H = true ↔ (a : Int) % 4096 - (b : Int) % 4096 - k < 0) (hP : P = true ↔ (signedW a - signedW b - k < -32768 ∨ 32767 < signedW a - signedW b - k)) (hC : C = true ↔ (a : Int) - b - k < 0) : nByte s z y H x P true C = g := by
  obtain ⟨rfl, rfl, rfl, rfl⟩ := hs
  rw [← hg]
  unfold wSbcF
  rw [hv]
  have e1 : H = wHalfS a b k := by
    unfold wHalfS
    rw [Bool.eq_iff_iff, hH, Nat.ble_eq]
    show _ ↔ a % 4096 + 1 ≤ b % 4096 + k
    omega
  have e2 : C = wCarS a b k := by
    unfold wCarS
    rw [Bool.eq_iff_iff, hC, Nat.ble_eq]
    show _ ↔ a + 1 ≤ b + k
    omega
  have e3 : P = wOver (Nat.sub (Nat.add (wTurn a) 65536) (Nat.add (wTurn b) k)) := by
    rw [Bool.eq_iff_iff, hP, wOver_iff]
    unfold signedW
    show _ ↔ ¬ (32768 ≤ (a + 32768) % 65536 + 65536 - ((b + 32768) % 65536 + k) ∧ (a + 32768) % 65536 + 65536 - ((b + 32768) % 65536 + k) ≤ 98303)
    split <;> split <;> omega
  rw [e1, e2, e3]

set_option maxHeartbeats 1600000 in
theorem wradd_at (a b f v g : Nat) (ha : a < 65536) (hb : b < 65536) (hf : f < 256) (hv : Hid (wAddV a b 0 = v)) (hg : Hid (wAddF a b f = g)) (w : World) :
    Calls Try.prog 12 #[.int .u16 (a : Int), .int .u16 (b : Int), .int .u8 (f : Int)] w fun e w' => e = .returned (.tuple #[.int .u16 (v : Int), .int .u8 (g : Int)]) ∧ Below w.heap.size w w' := by
  have HM := Lib.hid (Own.start w)
  have v1 : v < 65536 := by rw [← hv.out]; exact wAddV_lt _ _ _
  obtain ⟨s, z, b5, b4, b3, p, b1, b0, hbits⟩ : ∃ s z b5 b4 b3 p b1 b0, Hid (nBit 128 f = s ∧ nBit 64 f = z ∧ nBit 32 f = b5 ∧ nBit 16 f = b4 ∧ nBit 8 f = b3 ∧ nBit 4 f = p ∧ nBit 2 f = b1 ∧ nBit 1 f = b0) := ⟨_, _, _, _, _, _, _, _, rfl, rfl, rfl, rfl, rfl, rfl, rfl, rfl⟩
  obtain ⟨s', z', y, x, hs⟩ : ∃ s z y x, Hid (nS (wHigh v) = s ∧ nZ v = z ∧ nBit 32 (wHigh v) = y ∧ nBit 8 (wHigh v) = x) := ⟨_, _, _, _, rfl, rfl, rfl, rfl⟩
  have hkey := wradd_key a b f v g s z y x p hv.out hg.out ⟨hbits.out.1, hbits.out.2.1, hbits.out.2.2.2.2.2.1⟩ hs.out.2.2
  have HN : Hid (((a : Int) + (b : Int)) % 65536 = (v : Int)) := by
    have h : (a + b + 0) % 65536 = v := hv.out
    show _ = _
    omega
  have h12a : (a : Int).tmod 4096 = (a : Int) % 4096 := Int.tmod_eq_emod_of_nonneg (by omega)
  have h12b : (b : Int).tmod 4096 = (b : Int) % 4096 := Int.tmod_eq_emod_of_nonneg (by omega)
  have HK : Hid (∀ H C : Bool, (H = true ↔ (4095 : Int) < (a : Int) % 4096 + (b : Int) % 4096) → (C = true ↔ (65535 : Int) < (a : Int) + b) → Hid (nByte s z y H x p false C = g)) :=
    fun H C hH hC => hkey H C hH hC
  have tg1 : Hid True := trivial
  have tg2 : Hid True := trivial
  clear hv hg hkey
  go_enter Try.func12, Try.ntmps12
  go_wp2_with (first
    | ((with_reducible apply own_box HM); exact rfl; (conv => lhs; whnf); exact rfl; exact rfl; (first | (clear tg1; intro w' g1 HM') | (clear tg2; intro w' g2 HM') | (clear tg3; intro w' g3 HM') | (clear tg4; intro w' g4 HM') | intro w' g' HM'); clear HM; have HM := HM'; clear HM'; all_goals skip) | ((with_reducible apply own_alloc HM); exact rfl; (first | (with_reducible exact zeroF)); exact rfl; (first | (clear tg1; intro w' g1 HM') | (clear tg2; intro w' g2 HM') | (clear tg3; intro w' g3 HM') | (clear tg4; intro w' g4 HM') | intro w' g' HM'); clear HM; have HM := HM'; clear HM'; all_goals skip) | ((with_reducible apply own_cell HM); exact rfl; exact rfl; (first | (with_reducible exact oneBool)); (first | with_reducible exact .z | with_reducible exact .s .z | with_reducible exact .s (.s .z) | with_reducible exact .s (.s (.s .z)) | with_reducible exact .s (.s (.s (.s .z))) | with_reducible exact .s (.s (.s (.s (.s .z))))); (focus repeat' (first | with_reducible exact .z | with_reducible apply Drop.s)); exact rfl; all_goals skip) | ((with_reducible apply own_load HM); exact rfl; exact rfl; (first | (with_reducible exact aggF)); (first | with_reducible exact .z | with_reducible exact .s .z | with_reducible exact .s (.s .z) | with_reducible exact .s (.s (.s .z)) | with_reducible exact .s (.s (.s (.s .z))) | with_reducible exact .s (.s (.s (.s (.s .z))))); (focus repeat' (first | with_reducible exact .z | with_reducible apply Drop.s)); (focus repeat' (first | with_reducible exact .z | with_reducible apply Take.s)); exact rfl; all_goals skip) | ((with_reducible apply own_store HM); exact rfl; exact rfl; (conv => lhs; whnf); exact rfl; (first | with_reducible exact .z | with_reducible exact .s .z | with_reducible exact .s (.s .z) | with_reducible exact .s (.s (.s .z)) | with_reducible exact .s (.s (.s (.s .z))) | with_reducible exact .s (.s (.s (.s (.s .z))))); (focus repeat' (first | with_reducible exact .z | with_reducible apply Over.p | with_reducible apply Over.s)); (first | with_reducible exact .z | with_reducible exact .s .z | with_reducible exact .s (.s .z) | with_reducible exact .s (.s (.s .z)) | with_reducible exact .s (.s (.s (.s .z))) | with_reducible exact .s (.s (.s (.s (.s .z))))); (first | (with_reducible exact (aggF).size) | (with_reducible exact (oneBool).size)); exact rfl; exact rfl; exact rfl; exact rfl; intro w' HM'; clear HM; have HM := HM'; clear HM'; all_goals skip)
    | (go_at_call 25; (with_reducible refine (modulo_at _ v HN _).mono ?_); rintro e w' ⟨rfl, rfl⟩)
    | (go_at_call 26; (with_reducible refine (of_to f s z b5 b4 b3 p b1 b0 hf hbits _).mono ?_); rintro e w' ⟨rfl, hb⟩; have HM' := Lib.hid (HM.out.call hb); clear HM hb; have HM := HM'; clear HM')
    | (go_at_call 27; (with_reducible refine (wshape_at v s' z' y x v1 hs _).mono ?_); rintro e w' ⟨rfl, hb⟩; have HM' := Lib.hid (HM.out.call hb); clear HM hb; have HM := HM'; clear HM')
    | (go_at_call 28; refine (byte_at _ _ _ _ _ _ _ _ g (HK.out _ _ (by first | (simp; done) | (simp; omega)) (by first | (simp; done) | (simp; omega))) _).mono ?_; rintro e w' ⟨rfl, hb⟩; have HM' := Lib.hid (HM.out.call hb); clear HM hb; have HM := HM'; clear HM'))
  all_goals
    go_ret2
    exact ⟨ret_wide' rfl rfl, Own.fin HM⟩

end Go.Proofs.Ytogohngbafnokaa
