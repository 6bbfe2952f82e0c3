/-
  The laws' own helper image: a cartridge's bytes that tell where they stand.
-/
import Derived.Test.YtlnoomganphbeaaBusRead
namespace Go.Proofs.Ytlnoomganphbeaa
open Go.RowKit

/-- the byte at a place of an image, as it is reckoned -/
def imgB (k : Nat) : Int := bits .xor .u8 (bits .xor .u8 ((k : Int) % 256) ((k : Int) / 256 % 64 * 3)) ((k : Int) / 16384 * 17)
def imgTo (L k : Nat) : List Int := (List.range L).map fun i => if i < k then imgB i else 0
theorem imgTo_length (L k : Nat) : (imgTo L k).length = L := by simp [imgTo]
theorem imgTo_zero (L : Nat) : imgTo L 0 = zeros L := by
  apply List.ext_getElem?
  intro i
  by_cases hi : i < L <;> simp [imgTo, zeros, hi]
theorem imgTo_step (L k : Nat) : (u8s (imgTo L k)).set k (.int .u8 (imgB k)) = u8s (imgTo L (k + 1)) := by
  apply List.ext_getElem?
  intro i
  rw [List.getElem?_set, u8s_get, u8s_get]
  by_cases hik : k = i
  · subst hik
    by_cases hl : k < L <;> simp [imgTo, hl]
  · by_cases hl : i < L
    · have : (i < k) = (i < k + 1) := by simp only [eq_iff_iff]; omega
      simp [imgTo, hl, hik, this]
    · simp [imgTo, hl, hik]
def img (n : Nat) : List Int := imgTo (n * 16384) (n * 16384)
theorem img_length (n : Nat) : (img n).length = n * 16384 := imgTo_length _ _

theorem bytes_made (n : Nat) (h : n ≤ 2147483647) (w : World) :
    (Instr.makeSlice 29 (.int .i64 (n : Int)) (.int .i64 (n : Int))).run Try.prog w = .ok (.slice (some ⟨w.heap.size, 0, none⟩) n n) (w.alloc (.cells (u8s (zeros n)).toArray 5)) := by
  obtain ⟨i0, hi, hz0, hz1, hz2⟩ := info_parts u8_info
  have hr := run_make (P := Try.prog) w 29 5 i0 (.int .u8 0) Try.underlying29 hi hz0 .i64 .i64 (n : Int) (n : Int) (by omega) (by omega) (by rw [hz2]; omega) (by omega)
  rw [hr]
  rw [Int.toNat_natCast, hz1, Nat.mul_one]
  congr 3
  apply Array.ext'
  rw [show (Value.int IntKind.u8 0).cells = #[Value.int IntKind.u8 0] from rfl, toList_madeCells_one]
  simp [u8s, zeros]

set_option maxRecDepth 100000 in
set_option maxHeartbeats 1600000 in
theorem image_any (n : Nat) (hn : n ≤ 12) (L : Nat) (hL : L = n * 16384) (w : World) :
    Calls Try.prog 14 #[.int .i64 n] w fun e w' => e = .returned (.slice (some ⟨w.heap.size, 0, none⟩) L L) ∧ Below w.heap.size w w' ∧ Whole w' w.heap.size 5 (u8s (img n)) := by
  have hmk := bytes_made L (by omega)
  have hmul : (L : Int) = 16384 * (n : Int) := by omega
  rw [hmul] at hmk
  have HL := Lib.hid hL
  have hL1 : L ≤ 196608 := by omega
  clear hL hmul
  go_enter Try.func14, Try.ntmps14
  go_wp2_with fail
  go_loopw [10] (fun i wr => ∃ k : Nat, k ≤ L ∧ i = .int .i64 k ∧ Hid (Whole wr w.heap.size 5 (u8s (imgTo L k)) ∧ Below w.heap.size w wr)) (fun i _ => L - (intOf i).toNat)
  case atStart =>
    refine ⟨0, by omega, rfl, ?_, (Below.refl _ _).alloc (Nat.le_refl _) _⟩
    rw [imgTo_zero]
    exact Whole.fresh w _ _
  case round =>
    obtain ⟨k, hk, rfl, HR⟩ := hrel
    by_cases hlt : k < L
    · have hcw : wr.cell? ⟨w.heap.size, k, none⟩ = (u8s (imgTo L k))[k]? := HR.out.1.at_ k
      rw [List.getElem?_eq_getElem (by rw [u8s_length, imgTo_length]; omega)] at hcw
      have hfr : wr.frozen? ⟨w.heap.size, k, none⟩ = false := HR.out.1.free k
      generalize (u8s (imgTo L k))[k]'_ = u at hcw
      go_wp2_with fail
      go_roundw
      case rel =>
        refine ⟨k + 1, by omega, by go_num, ?_⟩
        have h1 := HR.out.1.put k (.int .u8 (imgB k))
        rw [imgTo_step] at h1
        exact ⟨h1, HR.out.2.setCell (by simp) _⟩
      case measure => simp [intOf]; omega
    · obtain rfl : k = L := by omega
      go_wp2_with fail
      go_ret
      exact ⟨rfl, HR.out.2, by have := HR.out.1; rwa [HL.out] at this⟩

end Go.Proofs.Ytlnoomganphbeaa
