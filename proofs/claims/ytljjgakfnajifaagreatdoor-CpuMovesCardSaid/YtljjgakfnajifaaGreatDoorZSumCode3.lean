import Derived.Test.YtljjgakfnajifaaGreatDoorZSumCodeA
import Derived.Test.YtljjgakfnajifaaGreatDoorZSumChkB
import Derived.Test.YtljjgakfnajifaaGreatDoorZBase
namespace Go.Proofs.YtljjgakfnajifaaGreatDoor
open Go.RowKit
theorem bit1_of (f : Nat) (h : f < 256) : (f &&& 1 = 0 ∧ nBit 1 f = false) ∨ (f &&& 1 = 1 ∧ nBit 1 f = true) := by
  have h := allB_at (p := fun f => or (and (Nat.beq (Nat.land f 1) 0) (not (nBit 1 f))) (and (Nat.beq (Nat.land f 1) 1) (nBit 1 f))) (n := 256) (by decide +kernel) f h
  simp only [Bool.or_eq_true, Bool.and_eq_true, Nat.beq_eq, Bool.not_eq_true'] at h
  exact h
theorem and1 (f m : Nat) (h : f < 256) (hm : f &&& 1 = m) : bits .and .u8 (f : Int) 1 = (m : Int) := by
  rw [u8_and _ _ (by omega) (by omega) (by omega) (by omega), Int.toNat_natCast, ← hm]; rfl
set_option maxHeartbeats 1600000 in
theorem flip_at (op : Int) (a f v g : Nat) (ha : a < 256) (hf : f < 256) (hv : Hid (flipV op a = v)) (hg : Hid (flipF op a f = g)) (w : World) :
    Calls Tryz.prog 216 #[.int .i64 op, .int .u8 (a : Int), .int .u8 (f : Int)] w fun e w' => e = .returned (.tuple #[.int .u8 (v : Int), .int .u8 (g : Int)]) ∧ w = w' := by
  have hc : op = 0 ∨ op = 1 ∨ op = 2 ∨ (op ≠ 0 ∧ op ≠ 1 ∧ op ≠ 2) := by omega
  rcases hc with rfl | rfl | rfl | ⟨h0, h1, h2⟩
  · have HV : Hid (255 - a = v) := hv
    have HG : Hid (cFlip0 a f = g) := by show _ = _; rw [flip0_bits a f ha hf]; exact hg.out
    have hn := not8 a ha
    rw [HV.out] at hn
    have v1 : v < 256 := by rw [← HV.out]; omega
    clear hv hg
    go_enter Tryz.func216, Tryz.ntmps216
    go_wp2
    go_ret2
    refine ⟨ret_pair rfl ?_, rfl⟩
    clear hn
    rw [← HG.out]
    simp (disch := exact bS) only [u8_and, u8_or, Int.reduceToNat, Int.toNat_natCast]
    show _ = ((Nat.lor (Nat.lor (Nat.lor (Nat.lor (Nat.land f 196) (Nat.land f 1)) 16) 2) (Nat.land (255 - a) 40) : Nat) : Int)
    rw [HV.out]
    rfl
  · have HV : Hid (a = v) := hv
    have HG : Hid (cFlip1 a f = g) := by show _ = _; rw [flip1_bits a f ha hf]; exact hg.out
    clear hv hg
    go_enter Tryz.func216, Tryz.ntmps216
    go_wp2
    go_ret2
    refine ⟨ret_pair (by rw [HV.out]) ?_, rfl⟩
    rw [← HG.out]
    simp (disch := exact bS) only [u8_and, u8_or, Int.reduceToNat, Int.toNat_natCast]
    rfl
  · have HV : Hid (a = v) := hv
    have HG : Hid (cFlip2 a f = g) := by show _ = _; rw [flip2_bits a f ha hf]; exact hg.out
    clear hv hg
    rcases bit1_of f hf with ⟨h1, h2⟩ | ⟨h1, h2⟩
    all_goals
      have hm := and1 f _ hf h1
      have HH := Lib.hid (And.intro h1 h2)
      clear h1 h2
      go_enter Tryz.func216, Tryz.ntmps216
      go_wp2_with (go_at_call 231; refine (when_any _ 16 _).mono ?_; rintro e w' ⟨rfl, rfl⟩)
      go_ret2
      refine ⟨ret_pair (by rw [HV.out]) ?_, rfl⟩
      rw [← HG.out]
      have e1 : Nat.land f 1 = _ := HH.out.1
      unfold cFlip2
      rw [HH.out.2, e1]
      simp (disch := exact bS) only [u8_and, u8_or, u8_xor, Int.reduceToNat, Int.toNat_natCast]
      rfl
  · have HV : Hid (a = v) := by show _ = _; rw [← hv.out]; unfold flipV; rw [if_neg h0]
    have HG : Hid (f = g) := by show _ = _; rw [← hg.out]; unfold flipF; rw [if_neg h0, if_neg h1, if_neg h2]
    clear hv hg
    have b0 : (op == 0) = false := by simpa using h0
    have b1 : (op == 1) = false := by simpa using h1
    have b2 : (op == 2) = false := by simpa using h2
    clear h0 h1 h2
    go_enter Tryz.func216, Tryz.ntmps216
    go_wp2
    go_ret2
    exact ⟨ret_pair (by rw [HV.out]) (by rw [HG.out]), rfl⟩
set_option maxHeartbeats 1600000 in
theorem do_at (op : Int) (k a b f v g : Nat) (hk : op % 8 = (k : Int)) (ha : a < 256) (hb : b < 256) (hf : f < 256) (hv : Hid (nDoV k a b f = v)) (hg : Hid (nDoF k a b f = g)) (w : World) :
    Calls Tryz.prog 164 #[.int .i64 op, .int .u8 (a : Int), .int .u8 (b : Int), .int .u8 (f : Int)] w fun e w' => e = .returned (.tuple #[.int .u8 (v : Int), .int .u8 (g : Int)]) ∧ w = w' := by
  have h7 := i64_and7 op
  rw [hk] at h7
  have hc : k = 0 ∨ k = 1 ∨ k = 2 ∨ k = 3 ∨ k = 4 ∨ k = 5 ∨ k = 6 ∨ k = 7 := by omega
  clear hk
  obtain ⟨c, hcc⟩ : ∃ c, nBit 1 f = c := ⟨_, rfl⟩
  rcases bit1_of f hf with ⟨h1, h2⟩ | ⟨h1, h2⟩
  all_goals
    have hm := and1 f _ hf h1
    clear h1
    rcases hc with rfl | rfl | rfl | rfl | rfl | rfl | rfl | rfl
  all_goals
    unfold nDoV at hv
    unfold nDoF at hg
    first | rw [h2] at hv hg | skip
    clear h2
    go_enter Tryz.func164, Tryz.ntmps164
    go_wp2_with (first
      | (go_at_call 195; (first | refine (add_at a b false v g ha hb hv hg _).mono ?_ | refine (add_at a b true v g ha hb hv hg _).mono ?_); rintro e w' ⟨rfl, rfl⟩)
      | (go_at_call 136; (first | refine (sub_at a b false v g ha hb hv hg _).mono ?_ | refine (sub_at a b true v g ha hb hv hg _).mono ?_); rintro e w' ⟨rfl, rfl⟩)
      | (go_at_call 217; refine (and_at a b v g ha hb hv (by rw [← hv.out]; exact hg) _).mono ?_; rintro e w' ⟨rfl, rfl⟩)
      | (go_at_call 218; refine (xor_at a b v g ha hb hv (by rw [← hv.out]; exact hg) _).mono ?_; rintro e w' ⟨rfl, rfl⟩)
      | (go_at_call 219; refine (or_at a b v g ha hb hv (by rw [← hv.out]; exact hg) _).mono ?_; rintro e w' ⟨rfl, rfl⟩)
      | (go_at_call 220; refine (compare_at a b g ha hb hg _).mono ?_; rintro e w' ⟨rfl, rfl⟩))
    go_ret2
    exact ⟨ret_pair (by first | rfl | (rw [show a = v from hv])) rfl, rfl⟩
end Go.Proofs.YtljjgakfnajifaaGreatDoor
