/-
  The document's Load, Seek and Port of many bytes' steps, each by one contract.
-/
import Derived.Test.YthfkeiidkmkkoaaRepSpec
import Derived.Test.YthfkeiidkmkkoaaSumRefSub
import Derived.Test.YthfkeiidkmkkoaaSumRefPar
namespace Go.Proofs.Ythfkeiidkmkkoaa
open Go.RowKit

theorem of_to (f : Nat) (b7 b6 b5 b4 b3 b2 b1 b0 : Bool) (h : f < 256) (hr : Hid (nBit 128 f = b7 ∧ nBit 64 f = b6 ∧ nBit 32 f = b5 ∧ nBit 16 f = b4 ∧ nBit 8 f = b3 ∧ nBit 4 f = b2 ∧ nBit 2 f = b1 ∧ nBit 1 f = b0)) (w : World) :
    Calls Try.prog 21 #[.int .u8 (f : Int)] w fun e w' =>
    e = .returned (.agg #[.bool b7, .bool b6, .bool b5, .bool b4, .bool b3, .bool b2, .bool b1, .bool b0]) ∧ Below w.heap.size w w' := by
  obtain ⟨rfl, rfl, rfl, rfl, rfl, rfl, rfl, rfl⟩ := hr.out; exact of_at f h w
theorem parity_to (v : Nat) (p : Bool) (h : v < 256) (hp : Hid (nPar v = p)) (w : World) : Calls Try.prog 25 #[.int .u8 (v : Int)] w fun e w' => e = .returned (.bool p) ∧ w = w' := by
  rw [← hp.out]; exact rparity_any v h w

set_option maxHeartbeats 1600000 in
theorem rload_at (a v f left r : Nat) (p : Bool) (hf : f < 256) (ha : a < 256) (hv : v < 256) (hp : Hid ((p = true) ↔ left ≠ 0)) (hr : Hid (rLoad a v f p = r)) (w : World) :
    Calls Try.prog 13 #[.int .u8 (a : Int), .int .u8 (v : Int), .int .u8 (f : Int), .int .u16 (left : Int)] w fun e w' => e = .returned (.int .u8 (r : Int)) ∧ Below w.heap.size w w' := by
  have HM := Lib.hid (Own.start w)
  have tg1 : Hid True := trivial
  obtain ⟨n, hn⟩ : ∃ n, rSum a v = n := ⟨_, rfl⟩
  have n1 : n < 256 := hn ▸ rSum_lt _ _
  have e1 : ((a : Int) + (v : Int)).tmod 256 = (n : Int) := by have h : (a + v) % 256 = n := hn; rw [Int.tmod_eq_emod_of_nonneg (by omega)]; omega
  obtain ⟨b7, b6, b5, b4, b3, b2, b1, b0, hb⟩ : ∃ s z b5 b4 b3 p b1 b0, Hid (nBit 128 f = s ∧ nBit 64 f = z ∧ nBit 32 f = b5 ∧ nBit 16 f = b4 ∧ nBit 8 f = b3 ∧ nBit 4 f = p ∧ nBit 2 f = b1 ∧ nBit 1 f = b0) := ⟨_, _, _, _, _, _, _, _, rfl, rfl, rfl, rfl, rfl, rfl, rfl, rfl⟩
  obtain ⟨y, hy⟩ : ∃ y, nBit 2 n = y := ⟨_, rfl⟩
  obtain ⟨x, hx⟩ : ∃ x, nBit 8 n = x := ⟨_, rfl⟩
  have e2 : ((n : Int) / 2 % 2 == 1) = y := by rw [← hy]; exact bit_of n 2 _ (by omega)
  have e3 : ((n : Int) / 8 % 2 == 1) = x := by rw [← hx]; exact bit_of n 8 _ (by omega)
  have e4 : decide (0 < left) = p := by rw [Bool.eq_iff_iff, decide_eq_true_eq, hp.out]; omega
  have HG : Hid (nByte b7 b6 y false x p false b0 = r) := by
    show _ = _
    rw [← hr.out]
    unfold rLoad
    rw [hn, hy, hx, hb.out.1, hb.out.2.1, hb.out.2.2.2.2.2.2.2]
  clear hr hn hy hx hp
  go_enter Try.func13, Try.ntmps13
  go_wp2_with (first
    | ((with_reducible apply own_box HM); exact rfl; (conv => lhs; whnf); exact rfl; exact rfl; (first | (clear tg1; intro w' g1 HM') | (clear tg2; intro w' g2 HM') | (clear tg3; intro w' g3 HM') | (clear tg4; intro w' g4 HM') | intro w' g' HM'); clear HM; have HM := HM'; clear HM'; all_goals skip) | ((with_reducible apply own_alloc HM); exact rfl; (first | (with_reducible exact zeroF)); exact rfl; (first | (clear tg1; intro w' g1 HM') | (clear tg2; intro w' g2 HM') | (clear tg3; intro w' g3 HM') | (clear tg4; intro w' g4 HM') | intro w' g' HM'); clear HM; have HM := HM'; clear HM'; all_goals skip) | ((with_reducible apply own_cell HM); exact rfl; exact rfl; (first | (with_reducible exact oneBool)); (first | with_reducible exact .z | with_reducible exact .s .z | with_reducible exact .s (.s .z) | with_reducible exact .s (.s (.s .z)) | with_reducible exact .s (.s (.s (.s .z))) | with_reducible exact .s (.s (.s (.s (.s .z))))); (focus repeat' (first | with_reducible exact .z | with_reducible apply Drop.s)); exact rfl; all_goals skip) | ((with_reducible apply own_load HM); exact rfl; exact rfl; (first | (with_reducible exact aggF)); (first | with_reducible exact .z | with_reducible exact .s .z | with_reducible exact .s (.s .z) | with_reducible exact .s (.s (.s .z)) | with_reducible exact .s (.s (.s (.s .z))) | with_reducible exact .s (.s (.s (.s (.s .z))))); (focus repeat' (first | with_reducible exact .z | with_reducible apply Drop.s)); (focus repeat' (first | with_reducible exact .z | with_reducible apply Take.s)); exact rfl; all_goals skip) | ((with_reducible apply own_store HM); exact rfl; exact rfl; (conv => lhs; whnf); exact rfl; (first | with_reducible exact .z | with_reducible exact .s .z | with_reducible exact .s (.s .z) | with_reducible exact .s (.s (.s .z)) | with_reducible exact .s (.s (.s (.s .z))) | with_reducible exact .s (.s (.s (.s (.s .z))))); (focus repeat' (first | with_reducible exact .z | with_reducible apply Over.p | with_reducible apply Over.s)); (first | with_reducible exact .z | with_reducible exact .s .z | with_reducible exact .s (.s .z) | with_reducible exact .s (.s (.s .z)) | with_reducible exact .s (.s (.s (.s .z))) | with_reducible exact .s (.s (.s (.s (.s .z))))); (first | (with_reducible exact (aggF).size) | (with_reducible exact (oneBool).size)); exact rfl; exact rfl; exact rfl; exact rfl; intro w' HM'; clear HM; have HM := HM'; clear HM'; all_goals skip)
    | (go_at_call 21; (with_reducible refine (of_to f b7 b6 b5 b4 b3 b2 b1 b0 hf hb _).mono ?_); rintro e w' ⟨rfl, hbl⟩; have HM' := Lib.hid (HM.out.call hbl); clear HM hbl; have HM := HM'; clear HM')
    | (go_at_call 22; (with_reducible refine (byte_at b7 b6 y false x p false b0 r HG _).mono ?_); rintro e w' ⟨rfl, hbl⟩; have HM' := Lib.hid (HM.out.call hbl); clear HM hbl; have HM := HM'; clear HM'))
  go_ret
  exact ⟨rfl, Own.fin HM⟩

set_option maxHeartbeats 1600000 in
theorem rseek_at (a v f left r : Nat) (p o : Bool) (ha : a < 256) (hv : v < 256) (hf : f < 256) (hp : Hid ((p = true) ↔ left ≠ 0)) (hr : Hid (rSeekF a v f p = r)) (ho : Hid (rSeekOn a v p = o)) (w : World) :
    Calls Try.prog 14 #[.int .u8 (a : Int), .int .u8 (v : Int), .int .u8 (f : Int), .int .u16 (left : Int)] w fun e w' => e = .returned (.tuple #[.int .u8 (r : Int), .bool o]) ∧ Below w.heap.size w w' := by
  have HM := Lib.hid (Own.start w)
  have tg1 : Hid True := trivial
  have tg2 : Hid True := trivial
  obtain ⟨m, hm⟩ : ∃ m, Hid (nSubV a v 0 = m) := ⟨_, rfl⟩
  obtain ⟨g, hg⟩ : ∃ g, Hid (nSubF a v 0 = g) := ⟨_, rfl⟩
  have m1 : m < 256 := by rw [← hm.out]; exact nSubV_lt _ _ _
  have g1 : g < 256 := by rw [← hg.out]; exact nSubF_lt _ _ _
  obtain ⟨b7, b6, b5, b4, b3, b2, b1, b0, hb⟩ : ∃ s z b5 b4 b3 p b1 b0, Hid (nBit 128 g = s ∧ nBit 64 g = z ∧ nBit 32 g = b5 ∧ nBit 16 g = b4 ∧ nBit 8 g = b3 ∧ nBit 4 g = p ∧ nBit 2 g = b1 ∧ nBit 1 g = b0) := ⟨_, _, _, _, _, _, _, _, rfl, rfl, rfl, rfl, rfl, rfl, rfl, rfl⟩
  obtain ⟨n, hn⟩ : ∃ n, rLess m b4 = n := ⟨_, rfl⟩
  have n1 : n < 256 := hn ▸ rLess_lt _ _ m1
  obtain ⟨y, hy⟩ : ∃ y, nBit 2 n = y := ⟨_, rfl⟩
  obtain ⟨x, hx⟩ : ∃ x, nBit 8 n = x := ⟨_, rfl⟩
  obtain ⟨c, hc⟩ : ∃ c, nBit 1 f = c := ⟨_, rfl⟩
  have e2 : ((n : Int) / 2 % 2 == 1) = y := by rw [← hy]; exact bit_of n 2 _ (by omega)
  have e3 : ((n : Int) / 8 % 2 == 1) = x := by rw [← hx]; exact bit_of n 8 _ (by omega)
  have e4 : decide (0 < left) = p := by rw [Bool.eq_iff_iff, decide_eq_true_eq, hp.out]; omega
  have e5 : ((f : Int) % 2 == 1) = c := by rw [← hc]; exact bit_of f 1 _ (by omega)
  have HG : Hid (nByte b7 b6 y b4 x p true c = r) := by
    show _ = _
    rw [← hr.out]
    unfold rSeekF
    rw [hm.out, hg.out]
    unfold rSeek
    rw [hb.out.2.2.2.1, hn, hy, hx, hb.out.1, hb.out.2.1, hc]
  have HO : Hid (and p (!(Nat.beq a v)) = o) := ho
  obtain ⟨z, hz⟩ : ∃ z, (!(Nat.beq a v)) = z := ⟨_, rfl⟩
  have e6 : ((a : Int) != (v : Int)) = z := by rw [← hz, bne, show ((a : Int) == (v : Int)) = Nat.beq a v from eq_of a v]
  rw [hz] at HO
  have hl : b4 = false ∧ (m : Int) = (n : Int) ∨ b4 = true ∧ ((m : Int) + 255).tmod 256 = (n : Int) := by
    cases b4
    · exact .inl ⟨rfl, congrArg _ (show m = n from hn)⟩
    · refine .inr ⟨rfl, ?_⟩
      have h : (m + 255) % 256 = n := hn
      rw [Int.tmod_eq_emod_of_nonneg (by omega)]; omega
  clear hr ho hn hy hx hc hz hp
  rcases hl with ⟨rfl, hl⟩ | ⟨rfl, hl⟩
  · obtain rfl : m = n := by omega
    go_enter Try.func14, Try.ntmps14
    go_wp2_with (first
      | ((with_reducible apply own_box HM); exact rfl; (conv => lhs; whnf); exact rfl; exact rfl; (first | (clear tg1; intro w' g1 HM') | (clear tg2; intro w' g2 HM') | (clear tg3; intro w' g3 HM') | (clear tg4; intro w' g4 HM') | intro w' g' HM'); clear HM; have HM := HM'; clear HM'; all_goals skip) | ((with_reducible apply own_alloc HM); exact rfl; (first | (with_reducible exact zeroF)); exact rfl; (first | (clear tg1; intro w' g1 HM') | (clear tg2; intro w' g2 HM') | (clear tg3; intro w' g3 HM') | (clear tg4; intro w' g4 HM') | intro w' g' HM'); clear HM; have HM := HM'; clear HM'; all_goals skip) | ((with_reducible apply own_cell HM); exact rfl; exact rfl; (first | (with_reducible exact oneBool)); (first | with_reducible exact .z | with_reducible exact .s .z | with_reducible exact .s (.s .z) | with_reducible exact .s (.s (.s .z)) | with_reducible exact .s (.s (.s (.s .z))) | with_reducible exact .s (.s (.s (.s (.s .z))))); (focus repeat' (first | with_reducible exact .z | with_reducible apply Drop.s)); exact rfl; all_goals skip) | ((with_reducible apply own_load HM); exact rfl; exact rfl; (first | (with_reducible exact aggF)); (first | with_reducible exact .z | with_reducible exact .s .z | with_reducible exact .s (.s .z) | with_reducible exact .s (.s (.s .z)) | with_reducible exact .s (.s (.s (.s .z))) | with_reducible exact .s (.s (.s (.s (.s .z))))); (focus repeat' (first | with_reducible exact .z | with_reducible apply Drop.s)); (focus repeat' (first | with_reducible exact .z | with_reducible apply Take.s)); exact rfl; all_goals skip) | ((with_reducible apply own_store HM); exact rfl; exact rfl; (conv => lhs; whnf); exact rfl; (first | with_reducible exact .z | with_reducible exact .s .z | with_reducible exact .s (.s .z) | with_reducible exact .s (.s (.s .z)) | with_reducible exact .s (.s (.s (.s .z))) | with_reducible exact .s (.s (.s (.s (.s .z))))); (focus repeat' (first | with_reducible exact .z | with_reducible apply Over.p | with_reducible apply Over.s)); (first | with_reducible exact .z | with_reducible exact .s .z | with_reducible exact .s (.s .z) | with_reducible exact .s (.s (.s .z)) | with_reducible exact .s (.s (.s (.s .z))) | with_reducible exact .s (.s (.s (.s (.s .z))))); (first | (with_reducible exact (aggF).size) | (with_reducible exact (oneBool).size)); exact rfl; exact rfl; exact rfl; exact rfl; intro w' HM'; clear HM; have HM := HM'; clear HM'; all_goals skip)
      | (go_at_call 23; refine (rsub_at a v false m g ha hv hm hg _).mono ?_; rintro e w' ⟨rfl, hbl⟩; have HM' := Lib.hid (HM.out.call hbl); clear HM hbl; have HM := HM'; clear HM')
      | (go_at_call 21; (with_reducible refine (of_to g b7 b6 b5 false b3 b2 b1 b0 g1 hb _).mono ?_); rintro e w' ⟨rfl, hbl⟩; have HM' := Lib.hid (HM.out.call hbl); clear HM hbl; have HM := HM'; clear HM')
      | (go_at_call 22; (with_reducible refine (byte_at b7 b6 y false x p true c r HG _).mono ?_); rintro e w' ⟨rfl, hbl⟩; have HM' := Lib.hid (HM.out.call hbl); clear HM hbl; have HM := HM'; clear HM'))
    all_goals
      go_ret2
      refine ⟨?_, Own.fin HM⟩
      rw [← HO.out]
      cases p <;> first | rfl | contradiction
  · go_enter Try.func14, Try.ntmps14
    go_wp2_with (first
      | ((with_reducible apply own_box HM); exact rfl; (conv => lhs; whnf); exact rfl; exact rfl; (first | (clear tg1; intro w' g1 HM') | (clear tg2; intro w' g2 HM') | (clear tg3; intro w' g3 HM') | (clear tg4; intro w' g4 HM') | intro w' g' HM'); clear HM; have HM := HM'; clear HM'; all_goals skip) | ((with_reducible apply own_alloc HM); exact rfl; (first | (with_reducible exact zeroF)); exact rfl; (first | (clear tg1; intro w' g1 HM') | (clear tg2; intro w' g2 HM') | (clear tg3; intro w' g3 HM') | (clear tg4; intro w' g4 HM') | intro w' g' HM'); clear HM; have HM := HM'; clear HM'; all_goals skip) | ((with_reducible apply own_cell HM); exact rfl; exact rfl; (first | (with_reducible exact oneBool)); (first | with_reducible exact .z | with_reducible exact .s .z | with_reducible exact .s (.s .z) | with_reducible exact .s (.s (.s .z)) | with_reducible exact .s (.s (.s (.s .z))) | with_reducible exact .s (.s (.s (.s (.s .z))))); (focus repeat' (first | with_reducible exact .z | with_reducible apply Drop.s)); exact rfl; all_goals skip) | ((with_reducible apply own_load HM); exact rfl; exact rfl; (first | (with_reducible exact aggF)); (first | with_reducible exact .z | with_reducible exact .s .z | with_reducible exact .s (.s .z) | with_reducible exact .s (.s (.s .z)) | with_reducible exact .s (.s (.s (.s .z))) | with_reducible exact .s (.s (.s (.s (.s .z))))); (focus repeat' (first | with_reducible exact .z | with_reducible apply Drop.s)); (focus repeat' (first | with_reducible exact .z | with_reducible apply Take.s)); exact rfl; all_goals skip) | ((with_reducible apply own_store HM); exact rfl; exact rfl; (conv => lhs; whnf); exact rfl; (first | with_reducible exact .z | with_reducible exact .s .z | with_reducible exact .s (.s .z) | with_reducible exact .s (.s (.s .z)) | with_reducible exact .s (.s (.s (.s .z))) | with_reducible exact .s (.s (.s (.s (.s .z))))); (focus repeat' (first | with_reducible exact .z | with_reducible apply Over.p | with_reducible apply Over.s)); (first | with_reducible exact .z | with_reducible exact .s .z | with_reducible exact .s (.s .z) | with_reducible exact .s (.s (.s .z)) | with_reducible exact .s (.s (.s (.s .z))) | with_reducible exact .s (.s (.s (.s (.s .z))))); (first | (with_reducible exact (aggF).size) | (with_reducible exact (oneBool).size)); exact rfl; exact rfl; exact rfl; exact rfl; intro w' HM'; clear HM; have HM := HM'; clear HM'; all_goals skip)
      | (go_at_call 23; refine (rsub_at a v false m g ha hv hm hg _).mono ?_; rintro e w' ⟨rfl, hbl⟩; have HM' := Lib.hid (HM.out.call hbl); clear HM hbl; have HM := HM'; clear HM')
      | (go_at_call 21; (with_reducible refine (of_to g b7 b6 b5 true b3 b2 b1 b0 g1 hb _).mono ?_); rintro e w' ⟨rfl, hbl⟩; have HM' := Lib.hid (HM.out.call hbl); clear HM hbl; have HM := HM'; clear HM')
      | (go_at_call 22; (with_reducible refine (byte_at b7 b6 y true x p true c r HG _).mono ?_); rintro e w' ⟨rfl, hbl⟩; have HM' := Lib.hid (HM.out.call hbl); clear HM hbl; have HM := HM'; clear HM'))
    all_goals
      go_ret2
      refine ⟨?_, Own.fin HM⟩
      rw [← HO.out]
      cases p <;> first | rfl | contradiction

set_option maxHeartbeats 1600000 in
theorem rport_at (v m b r : Nat) (hv : v < 256) (hm : m < 256) (hb : b < 256) (hr : Hid (rPort v m b = r)) (w : World) :
    Calls Try.prog 15 #[.int .u8 (v : Int), .int .u8 (m : Int), .int .u8 (b : Int)] w fun e w' => e = .returned (.int .u8 (r : Int)) ∧ Below w.heap.size w w' := by
  have HM := Lib.hid (Own.start w)
  have tg1 : Hid True := trivial
  obtain ⟨t, ht⟩ : ∃ t, v + m = t := ⟨_, rfl⟩
  have t1 : t < 511 := by omega
  have e1 : (v : Int) + (m : Int) = (t : Int) := by omega
  obtain ⟨k, hk⟩ : ∃ k, Nat.ble 256 (Nat.add v m) = k := ⟨_, rfl⟩
  have e2 : decide ((255 : Int) < (t : Int)) = k := by rw [Bool.eq_iff_iff, decide_eq_true_eq, ← hk, Nat.ble_eq]; show _ ↔ 256 ≤ v + m; omega
  obtain ⟨j, hj⟩ : ∃ j, t % 8 = j := ⟨_, rfl⟩
  have j1 : j < 8 := by omega
  have e3 : (t : Int).tmod 8 = (j : Int) := by rw [Int.tmod_eq_emod_of_nonneg (by omega)]; omega
  obtain ⟨x, hx⟩ : ∃ x, b ^^^ j = x := ⟨_, rfl⟩
  have x1 : x < 256 := by rw [← hx]; exact Nat.xor_lt_two_pow (n := 8) hb (by omega)
  have e4 : bits .xor .u8 (b : Int) (j : Int) = (x : Int) := by rw [u8_xor_nat b j hb (by omega), hx]
  obtain ⟨o, ho⟩ : ∃ o, Hid (nPar x = o) := ⟨_, rfl⟩
  obtain ⟨s, z, y, c, hs⟩ : ∃ s z y x, Hid (nS b = s ∧ nZ b = z ∧ nBit 32 b = y ∧ nBit 8 b = x) := ⟨_, _, _, _, rfl, rfl, rfl, rfl⟩
  obtain ⟨d, hd⟩ : ∃ d, nBit 128 v = d := ⟨_, rfl⟩
  have e5 : decide ((128 : Int) ≤ (v : Int)) = d := by
    rw [← hd, Bool.eq_iff_iff, decide_eq_true_eq]; unfold nBit; rw [Nat.beq_eq]; show _ ↔ v / 128 % 2 = 1; omega
  have HG : Hid (nByte s z y k c o d k = r) := by
    show _ = _
    rw [← hr.out]
    unfold rPort
    rw [hk, hd, hs.out.1, hs.out.2.1, hs.out.2.2.1, hs.out.2.2.2, show nPar (Nat.xor b (Nat.mod (Nat.add v m) 8)) = o by show nPar (b ^^^ (v + m) % 8) = o; rw [ht, hj, hx]; exact ho.out]
  clear hr hk ht hj hx hd
  go_enter Try.func15, Try.ntmps15
  go_wp2_with (first
    | ((with_reducible apply own_box HM); exact rfl; (conv => lhs; whnf); exact rfl; exact rfl; (first | (clear tg1; intro w' g1 HM') | (clear tg2; intro w' g2 HM') | (clear tg3; intro w' g3 HM') | (clear tg4; intro w' g4 HM') | intro w' g' HM'); clear HM; have HM := HM'; clear HM'; all_goals skip) | ((with_reducible apply own_alloc HM); exact rfl; (first | (with_reducible exact zeroF)); exact rfl; (first | (clear tg1; intro w' g1 HM') | (clear tg2; intro w' g2 HM') | (clear tg3; intro w' g3 HM') | (clear tg4; intro w' g4 HM') | intro w' g' HM'); clear HM; have HM := HM'; clear HM'; all_goals skip) | ((with_reducible apply own_cell HM); exact rfl; exact rfl; (first | (with_reducible exact oneBool)); (first | with_reducible exact .z | with_reducible exact .s .z | with_reducible exact .s (.s .z) | with_reducible exact .s (.s (.s .z)) | with_reducible exact .s (.s (.s (.s .z))) | with_reducible exact .s (.s (.s (.s (.s .z))))); (focus repeat' (first | with_reducible exact .z | with_reducible apply Drop.s)); exact rfl; all_goals skip) | ((with_reducible apply own_load HM); exact rfl; exact rfl; (first | (with_reducible exact aggF)); (first | with_reducible exact .z | with_reducible exact .s .z | with_reducible exact .s (.s .z) | with_reducible exact .s (.s (.s .z)) | with_reducible exact .s (.s (.s (.s .z))) | with_reducible exact .s (.s (.s (.s (.s .z))))); (focus repeat' (first | with_reducible exact .z | with_reducible apply Drop.s)); (focus repeat' (first | with_reducible exact .z | with_reducible apply Take.s)); exact rfl; all_goals skip) | ((with_reducible apply own_store HM); exact rfl; exact rfl; (conv => lhs; whnf); exact rfl; (first | with_reducible exact .z | with_reducible exact .s .z | with_reducible exact .s (.s .z) | with_reducible exact .s (.s (.s .z)) | with_reducible exact .s (.s (.s (.s .z))) | with_reducible exact .s (.s (.s (.s (.s .z))))); (focus repeat' (first | with_reducible exact .z | with_reducible apply Over.p | with_reducible apply Over.s)); (first | with_reducible exact .z | with_reducible exact .s .z | with_reducible exact .s (.s .z) | with_reducible exact .s (.s (.s .z)) | with_reducible exact .s (.s (.s (.s .z))) | with_reducible exact .s (.s (.s (.s (.s .z))))); (first | (with_reducible exact (aggF).size) | (with_reducible exact (oneBool).size)); exact rfl; exact rfl; exact rfl; exact rfl; intro w' HM'; clear HM; have HM := HM'; clear HM'; all_goals skip)
    | (go_at_call 24; (with_reducible refine (rshape_at b s z y c hb hs _).mono ?_); rintro e w' ⟨rfl, hbl⟩; have HM' := Lib.hid (HM.out.call hbl); clear HM hbl; have HM := HM'; clear HM')
    | (go_at_call 25; (with_reducible refine (parity_to x o x1 ho _).mono ?_); rintro e w' ⟨rfl, rfl⟩)
    | (go_at_call 22; (with_reducible refine (byte_at s z y k c o d k r HG _).mono ?_); rintro e w' ⟨rfl, hbl⟩; have HM' := Lib.hid (HM.out.call hbl); clear HM hbl; have HM := HM'; clear HM'))
  go_ret
  exact ⟨rfl, Own.fin HM⟩

end Go.Proofs.Ythfkeiidkmkkoaa
