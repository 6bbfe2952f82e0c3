/-
  The document's Put and Digits, each by one contract.
-/
import Derived.Test.YtgkfipiefadaaaaTurnRef
import Derived.OwnWalk
namespace Go.Proofs.Ytgkfipiefadaaaa
open Go.RowKit

theorem ret_three' {a b c : Int} {v m f : Nat} (h : a = (v : Int)) (h' : b = (m : Int)) (h'' : c = (f : Int)) : (Ending.returned (.tuple #[.int .u8 a, .int .u8 b, .int .u8 c]) : Ending) = .returned (.tuple #[.int .u8 (v : Int), .int .u8 (m : Int), .int .u8 (f : Int)]) := by rw [h, h', h'']

set_option maxHeartbeats 1600000 in
theorem rdigits_at (left : Bool) (a m f r q g : Nat) (ha : a < 256) (hm : m < 256) (hf : f < 256) (hr : Hid (tDigA left a m = r)) (hq : Hid (tDigM left a m = q)) (hg : Hid (tDigF left a m f = g)) (w : World) :
    Calls Try.prog 19 #[.bool left, .int .u8 (a : Int), .int .u8 (m : Int), .int .u8 (f : Int)] w fun e w' => e = .returned (.tuple #[.int .u8 (r : Int), .int .u8 (q : Int), .int .u8 (g : Int)]) ∧ Below w.heap.size w w' := by
  have r1 : r < 256 := by rw [← hr.out]; exact tDigA_lt left a m ha hm
  have q1 : ((f : Int) % 2 == 1) = nBit 1 f := bit_of f 1 _ (by omega)
  obtain ⟨c, hc⟩ : ∃ c, nBit 1 f = c := ⟨_, rfl⟩
  rw [hc] at q1
  obtain ⟨s, z, y, x, hs⟩ : ∃ s z y x, Hid (nS r = s ∧ nZ r = z ∧ nBit 32 r = y ∧ nBit 8 r = x) := ⟨_, _, _, _, rfl, rfl, rfl, rfl⟩
  obtain ⟨p, hp⟩ : ∃ p, Hid (nPar r = p) := ⟨_, rfl⟩
  have HG : Hid (nByte s z y false x p false c = g) := by
    show _ = _
    rw [← hg.out]
    unfold tDigF tSaid
    rw [hr.out, hc, hp.out, hs.out.1, hs.out.2.1, hs.out.2.2.1, hs.out.2.2.2]
  have HM := Lib.hid (Own.start w)
  clear hg hc
  cases left
  · have er : (a : Int) / 16 * 16 + (m : Int) % 16 = (r : Int) := by
      have h : a / 16 * 16 + m % 16 = r := hr.out
      omega
    have eq : 16 * ((a : Int) % 16) + (m : Int) / 16 = (q : Int) := by
      have h : a % 16 * 16 + m / 16 = q := hq.out
      omega
    clear hr hq
    go_enter Try.func19, Try.ntmps19
    go_wp2_with (first
      | (go_at_call 27; (with_reducible refine (rsaid_at r s z y x p c r1 hs hp _).mono ?_); rintro e w' ⟨rfl, hb⟩; have HM' := Lib.hid (HM.out.call hb); clear HM hb; have HM := HM'; clear HM')
      | (go_at_call 26; (with_reducible refine (byte_at s z y false x p false c g HG _).mono ?_); rintro e w' ⟨rfl, hb⟩; have HM' := Lib.hid (HM.out.call hb); clear HM hb; have HM := HM'; clear HM'))
    go_ret3
    exact ⟨ret_three' rfl rfl rfl, Own.fin HM⟩
  · have er : (a : Int) / 16 * 16 + (m : Int) / 16 = (r : Int) := by
      have h : a / 16 * 16 + m / 16 = r := hr.out
      omega
    have eq : 16 * ((m : Int) % 16) + (a : Int) % 16 = (q : Int) := by
      have h : m % 16 * 16 + a % 16 = q := hq.out
      omega
    clear hr hq
    go_enter Try.func19, Try.ntmps19
    go_wp2_with (first
      | (go_at_call 27; (with_reducible refine (rsaid_at r s z y x p c r1 hs hp _).mono ?_); rintro e w' ⟨rfl, hb⟩; have HM' := Lib.hid (HM.out.call hb); clear HM hb; have HM := HM'; clear HM')
      | (go_at_call 26; (with_reducible refine (byte_at s z y false x p false c g HG _).mono ?_); rintro e w' ⟨rfl, hb⟩; have HM' := Lib.hid (HM.out.call hb); clear HM hb; have HM := HM'; clear HM'))
    go_ret3
    exact ⟨ret_three' rfl rfl rfl, Own.fin HM⟩

/-- a byte's upper bits, one more: what Put's round adds -/
theorem put_round (k j v : Nat) (on : Bool) (hk : k < 8) (hj : j < 8) (hv : v < 256) : tPut k v on / 2 ^ j % 2 = cond (Nat.beq j k) on.toNat (v / 2 ^ j % 2) := by
  have h := allB_at (n := 8) (p := fun k => allB 8 fun j => allB 256 fun v => and (Nat.beq (Nat.mod (Nat.div (tPut k v true) (Nat.pow 2 j)) 2) (cond (Nat.beq j k) 1 (Nat.mod (Nat.div v (Nat.pow 2 j)) 2))) (Nat.beq (Nat.mod (Nat.div (tPut k v false) (Nat.pow 2 j)) 2) (cond (Nat.beq j k) 0 (Nat.mod (Nat.div v (Nat.pow 2 j)) 2)))) (by decide +kernel) k hk
  have h := allB_at2 h j v hj hv
  rw [Bool.and_eq_true] at h
  cases on
  · exact Nat.eq_of_beq_eq_true h.2
  · exact Nat.eq_of_beq_eq_true h.1

end Go.Proofs.Ytgkfipiefadaaaa
