/-
  The document's Do, by one contract.
-/
import Derived.Test.YthjjdpelddboeaaSumRefLogic
import Derived.Test.YthjjdpelddboeaaSumRefMore
namespace Go.Proofs.Ythjjdpelddboeaa
open Go.RowKit

theorem tmod8 (op : Int) (k : Nat) (h : op % 8 = (k : Int)) : op.tmod 8 = (k : Int) ∨ (op.tmod 8 = (k : Int) - 8 ∧ (k : Int) ≠ 0) := by
  rw [Int.tmod_eq_emod, h]
  split
  · left; simp
  · rename_i hn
    right
    refine ⟨rfl, fun h0 => hn (.inr (Int.dvd_of_emod_eq_zero (by omega)))⟩

set_option maxHeartbeats 1600000 in
theorem rdo_at (op : Int) (k a b f v g : Nat) (hk : op % 8 = (k : Int)) (ha : a < 256) (hb : b < 256) (hf : f < 256) (hv : Hid (nDoV k a b f = v)) (hg : Hid (nDoF k a b f = g)) (w : World) :
    Calls Try.prog 24 #[.int .i64 op, .int .u8 (a : Int), .int .u8 (b : Int), .int .u8 (f : Int)] w fun e w' => e = .returned (.tuple #[.int .u8 (v : Int), .int .u8 (g : Int)]) ∧ Below w.heap.size w w' := by
  have HM := Lib.hid (Own.start w)
  have ht := tmod8 op k hk
  have hc : k = 0 ∨ k = 1 ∨ k = 2 ∨ k = 3 ∨ k = 4 ∨ k = 5 ∨ k = 6 ∨ k = 7 := by omega
  clear hk
  have q1 : ((f : Int) % 2 == 1) = nBit 1 f := bit_of f 1 _ (by omega)
  unfold nDoV at hv
  unfold nDoF at hg
  obtain ⟨c, hcc⟩ : ∃ c, nBit 1 f = c := ⟨_, rfl⟩
  rw [hcc] at q1 hv hg
  clear hcc
  have f0 : (f : Int) < 256 := by omega
  clear hf
  rcases hc with rfl | rfl | rfl | rfl | rfl | rfl | rfl | rfl
  · have hv' : Hid (nAddV a b (Bool.toNat false) = v) := hv
    have hg' : Hid (nAddF a b (Bool.toNat false) = g) := hg
    clear hv hg
    have ht' : op.tmod 8 = 0 := by omega
    clear ht
    have ht := ht'
    clear ht'
    go_enter Try.func24, Try.ntmps24
    go_wp2_with (go_at_call 17; refine (radd_at a b false v g ha hb hv' hg' _).mono ?_; rintro e w' ⟨rfl, hbl⟩; have HM' := Lib.hid (HM.out.call hbl); clear HM hbl; have HM := HM'; clear HM')
    go_ret2
    exact ⟨pair_eq rfl rfl, Own.fin HM⟩
  · have hv' : Hid (nAddV a b (Bool.toNat c) = v) := hv
    have hg' : Hid (nAddF a b (Bool.toNat c) = g) := hg
    clear hv hg
    have ht' : op.tmod 8 = 1 ∨ op.tmod 8 = -7 := by omega
    clear ht
    rcases ht' with ht | ht
    all_goals
      go_enter Try.func24, Try.ntmps24
      go_wp2_with (go_at_call 17; refine (radd_at a b c v g ha hb hv' hg' _).mono ?_; rintro e w' ⟨rfl, hbl⟩; have HM' := Lib.hid (HM.out.call hbl); clear HM hbl; have HM := HM'; clear HM')
      go_ret2
      exact ⟨pair_eq rfl rfl, Own.fin HM⟩
  · have hv' : Hid (nSubV a b (Bool.toNat false) = v) := hv
    have hg' : Hid (nSubF a b (Bool.toNat false) = g) := hg
    clear hv hg
    have ht' : op.tmod 8 = 2 ∨ op.tmod 8 = -6 := by omega
    clear ht
    rcases ht' with ht | ht
    all_goals
      go_enter Try.func24, Try.ntmps24
      go_wp2_with (go_at_call 18; refine (rsub_at a b false v g ha hb hv' hg' _).mono ?_; rintro e w' ⟨rfl, hbl⟩; have HM' := Lib.hid (HM.out.call hbl); clear HM hbl; have HM := HM'; clear HM')
      go_ret2
      exact ⟨pair_eq rfl rfl, Own.fin HM⟩
  · have hv' : Hid (nSubV a b (Bool.toNat c) = v) := hv
    have hg' : Hid (nSubF a b (Bool.toNat c) = g) := hg
    clear hv hg
    have ht' : op.tmod 8 = 3 ∨ op.tmod 8 = -5 := by omega
    clear ht
    rcases ht' with ht | ht
    all_goals
      go_enter Try.func24, Try.ntmps24
      go_wp2_with (go_at_call 18; refine (rsub_at a b c v g ha hb hv' hg' _).mono ?_; rintro e w' ⟨rfl, hbl⟩; have HM' := Lib.hid (HM.out.call hbl); clear HM hbl; have HM := HM'; clear HM')
      go_ret2
      exact ⟨pair_eq rfl rfl, Own.fin HM⟩
  · have hl : a &&& b = v ∧ nBitsF v true = g := by
      have h1 : a &&& b = v := hv
      refine ⟨h1, ?_⟩
      rw [← h1]; exact hg
    have hl2 := Lib.hid hl
    clear hv hg hl
    have ht' : op.tmod 8 = 4 ∨ op.tmod 8 = -4 := by omega
    clear ht
    rcases ht' with ht | ht
    all_goals
      go_enter Try.func24, Try.ntmps24
      go_wp2_with (go_at_call 25; refine (rlogic_to 4 a b v g ha hb _ (.inl ⟨rfl, hl2.out⟩)).mono ?_; rintro e w' ⟨rfl, hbl⟩; have HM' := Lib.hid (HM.out.call hbl); clear HM hbl; have HM := HM'; clear HM')
      go_ret2
      exact ⟨pair_eq rfl rfl, Own.fin HM⟩
  · have hl : a ^^^ b = v ∧ nBitsF v false = g := by
      have h1 : a ^^^ b = v := hv
      refine ⟨h1, ?_⟩
      rw [← h1]; exact hg
    have hl2 := Lib.hid hl
    clear hv hg hl
    have ht' : op.tmod 8 = 5 ∨ op.tmod 8 = -3 := by omega
    clear ht
    rcases ht' with ht | ht
    all_goals
      go_enter Try.func24, Try.ntmps24
      go_wp2_with (go_at_call 25; refine (rlogic_to 5 a b v g ha hb _ (.inr (.inl ⟨rfl, hl2.out⟩))).mono ?_; rintro e w' ⟨rfl, hbl⟩; have HM' := Lib.hid (HM.out.call hbl); clear HM hbl; have HM := HM'; clear HM')
      go_ret2
      exact ⟨pair_eq rfl rfl, Own.fin HM⟩
  · have hl : a ||| b = v ∧ nBitsF v false = g := by
      have h1 : a ||| b = v := hv
      refine ⟨h1, ?_⟩
      rw [← h1]; exact hg
    have hl2 := Lib.hid hl
    clear hv hg hl
    have ht' : op.tmod 8 = 6 ∨ op.tmod 8 = -2 := by omega
    clear ht
    rcases ht' with ht | ht
    all_goals
      go_enter Try.func24, Try.ntmps24
      go_wp2_with (go_at_call 25; refine (rlogic_to 6 a b v g ha hb _ (.inr (.inr ⟨rfl, hl2.out⟩))).mono ?_; rintro e w' ⟨rfl, hbl⟩; have HM' := Lib.hid (HM.out.call hbl); clear HM hbl; have HM := HM'; clear HM')
      go_ret2
      exact ⟨pair_eq rfl rfl, Own.fin HM⟩
  · have hv' : Hid (a = v) := hv
    have hg' : Hid (nCmp a b = g) := hg
    clear hv hg
    have ht' : op.tmod 8 = 7 ∨ op.tmod 8 = -1 := by omega
    clear ht
    rcases ht' with ht | ht
    all_goals
      go_enter Try.func24, Try.ntmps24
      go_wp2_with (go_at_call 28; refine (rcompare_at a b g ha hb hg' _).mono ?_; rintro e w' ⟨rfl, hbl⟩; have HM' := Lib.hid (HM.out.call hbl); clear HM hbl; have HM := HM'; clear HM')
      go_ret2
      exact ⟨pair_eq (by rw [hv'.out]) rfl, Own.fin HM⟩

end Go.Proofs.Ythjjdpelddboeaa
