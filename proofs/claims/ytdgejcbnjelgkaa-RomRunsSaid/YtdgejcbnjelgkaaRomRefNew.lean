/-
  The document's own New and At for a cartridge: the same bytes, the same byte.
-/
import Derived.Test.YtdgejcbnjelgkaaRomRefMore
namespace Go.Proofs.Ytdgejcbnjelgkaa
open Go.RowKit

theorem ref_make (R : Nat) (h : R ≤ 4194304) (w : World) :
    (Instr.makeSlice 32 (.int .i64 (R : Int)) (.int .i64 (R : Int))).run Try.prog w = .ok (.slice (some ⟨w.heap.size, 0, none⟩) R R) (w.alloc (.cells (u8s (zeros R)).toArray 5)) := by
  obtain ⟨i0, hi, hz0, hz1, hz2⟩ := info_parts u8_info
  have hr := run_make (P := Try.prog) w 32 5 i0 (.int .u8 0) Try.underlying32 hi hz0 .i64 .i64 (R : Int) (R : Int) (by omega) (by omega) (by rw [hz2]; omega) (by omega)
  rw [hr]
  rw [Int.toNat_natCast, hz1, Nat.mul_one]
  congr 3
  apply Array.ext'
  rw [show (Value.int IntKind.u8 0).cells = #[Value.int IntKind.u8 0] from rfl, toList_madeCells_one]
  simp [u8s, zeros]

theorem modulo_is (n m q : Int) (hq : q = n % m) (h1 : 1 ≤ m) (h2 : m ≤ 4194304) (w : World) :
    Calls Try.prog 22 #[.int .i64 n, .int .i64 m] w fun e w' => e = .returned (.int .i64 q) ∧ w' = w := by
  rw [hq]
  exact modulo_any n m h1 h2 w

set_option maxHeartbeats 1600000 in
theorem rnew_any (a : Option Addr) (n cap : Nat) (bs : List Int) (M : Int) (R : Nat) (hM : M = bk n) (hR : (R : Int) = M * 16384) (hRl : R = (romOf bs).length) (w : World) (hb : Bytes w w.heap.size a n bs) (hn : n ≤ 4194304) :
    Calls Try.prog 12 #[.slice a n cap] w fun e w' => ∃ g, e = .returned (.slice (some ⟨g, 0, none⟩) R R) ∧ w.heap.size ≤ g ∧ Below w.heap.size w w' ∧ Whole w' g 5 (u8s (romOf bs)) := by
  have hMb := bk_room n hn
  rw [← hM] at hMb
  obtain ⟨hM0, hM1, hM2⟩ := hMb
  have hmk := ref_make R (by omega)
  rw [hR] at hmk
  have HB := Lib.hid hb
  have HM := Lib.hid hM
  have HR := Lib.hid hR
  have HL := Lib.hid hRl
  have hR0 : R ≤ 4194304 := by omega
  have hnR : n ≤ R := by omega
  clear hb hM hRl hR
  go_enter Try.func12, Try.ntmps12
  go_wp2_with fail
  go_loop [3] (fun t => ∃ b : Int, BkAt n b ∧ t = .int .i64 b) (fun t => (256 - intOf t).toNat)
  case atStart => exact ⟨1, BkAt.start n, rfl⟩
  case round =>
    obtain ⟨b, hbk, rfl⟩ := hrel
    obtain ⟨b0, b1⟩ := hbk.bd
    by_cases hgo : b < 256 ∧ b * 16384 < n
    · obtain ⟨hg1, hg2⟩ := hgo
      obtain ⟨hs1, hs2⟩ := hbk.step (by omega) hg2
      go_wp2
      go_round
      case rel => exact ⟨b * 2, hs1, by go_num⟩
      case measure => simp [intOf]; omega
    · have hfin : b = M := by
        rw [HM.out]
        refine hbk.fin ?_
        have := hbk.1
        omega
      subst hfin
      have hstop : b < 256 → ¬ b * 16384 < (n : Int) := fun h1 h2 => hgo ⟨h1, h2⟩
      have HSt := Lib.hid hstop
      clear hgo hstop
      have hng : b < 256 → Hid (¬ b * 16384 < (n : Int)) := HSt.out
      by_cases h256 : b < 256
      case' pos => have hng' : ¬ b * 16384 < (n : Int) := (hng h256).out
      all_goals
        clear hng HSt
        go_wp2_with fail
        go_loopw [22] (fun i wr => ∃ k : Nat, k ≤ R ∧ i = .int .i64 k ∧ Hid (Whole wr w.heap.size 5 (u8s (refTo bs R k)) ∧ Below w.heap.size w wr))
          (fun i _ => R - (intOf i).toNat)
        case atStart =>
          refine ⟨0, by omega, rfl, ?_, (Below.refl _ _).alloc (Nat.le_refl _) _⟩
          rw [refTo_zero]
          exact Whole.fresh w _ _
        case round =>
          obtain ⟨k, hk, rfl, HW⟩ := hrel
          by_cases hlt : k < R
          · by_cases hkn : k < n
            · obtain ⟨g, o, rfl, hg, hc⟩ := HB.out.2 (by omega)
              have hck : wr.cell? ⟨g, o + k, none⟩ = some (.int .u8 (bs.getD k 0)) := by
                rw [HW.out.2.cell (p := ⟨g, o + k, none⟩) hg, hc _ hkn]
              have hcw : wr.cell? ⟨w.heap.size, k, none⟩ = (u8s (refTo bs R k))[k]? := HW.out.1.at_ k
              rw [List.getElem?_eq_getElem (by rw [u8s_length, refTo_length]; omega)] at hcw
              have hfr : wr.frozen? ⟨w.heap.size, k, none⟩ = false := HW.out.1.free k
              have HE : Hid (Whole (wr.setCell ⟨w.heap.size, k, none⟩ (.int .u8 (bs.getD k 0))) w.heap.size 5 (u8s (refTo bs R (k + 1))) ∧ Below w.heap.size w (wr.setCell ⟨w.heap.size, k, none⟩ (.int .u8 (bs.getD k 0)))) := by
                refine ⟨?_, HW.out.2.setCell (by simp) _⟩
                rw [← refTo_step]
                exact HW.out.1.put k _
              obtain ⟨y, hy⟩ : ∃ y, y = bs.getD k 0 := ⟨_, rfl⟩
              rw [← hy] at hck HE
              clear hc hy
              go_wp2_with fail
              go_roundw
              case rel => exact ⟨k + 1, by omega, by go_num, HE⟩
              case measure => simp [intOf]; omega
            · go_wp2_with fail
              go_roundw
              case rel =>
                refine ⟨k + 1, by omega, by go_num, ?_, HW.out.2⟩
                rw [← refTo_skip bs R k (by have := HB.out.1; omega)]
                exact HW.out.1
              case measure => simp [intOf]; omega
          · obtain rfl : k = R := by omega
            have HE : Hid (Whole wr w.heap.size 5 (u8s (romOf bs))) := by
              have h := HW.out.1
              have e := refTo_all bs (by have := HB.out.1; omega)
              rw [← HL.out] at e
              rw [← e]; exact h
            go_wp2_with fail
            go_ret
            exact ⟨w.heap.size, rfl, Nat.le_refl _, HW.out.2, HE⟩

set_option maxHeartbeats 800000 in
theorem rat_any (g cap : Nat) (zs : List Int) (M : Int) (hM : RomFit zs M) (w : World) (h : Whole w g 5 (u8s zs)) (R : Nat) (hR : R = zs.length) (x y v : Int) (hv : zs.getD (x % M * 16384 + y % 16384).toNat 0 = v) :
    Calls Try.prog 17 #[.slice (some ⟨g, 0, none⟩) R cap, .int .i64 x, .int .i64 y] w fun e w' => e = .returned (.int .u8 v) ∧ w' = w := by
  have hbd := hM.bd
  have hR1 : (R : Int) = M * 16384 := by rw [hR]; exact hM.2
  have hx1 : 0 ≤ x % M := Int.emod_nonneg _ (by omega)
  have hx2 : x % M < M := Int.emod_lt_of_pos _ (by omega)
  obtain ⟨i, hi⟩ : ∃ i : Nat, x % M * 16384 + y % 16384 = (i : Int) := ⟨(x % M * 16384 + y % 16384).toNat, by omega⟩
  have hiR : (i : Int) < (R : Int) := by omega
  have hc := h.at_ i
  rw [u8s_get, List.getElem?_eq_getElem (by omega), Option.map_some] at hc
  have hg : zs[i]'(by omega) = v := by
    rw [hi, Int.toNat_natCast, List.getD_eq_getElem?_getD, List.getElem?_eq_getElem (by omega)] at hv
    exact hv
  rw [hg] at hc
  obtain ⟨p, hp⟩ : ∃ p, p = x % M := ⟨_, rfl⟩
  obtain ⟨q, hq⟩ : ∃ q, q = y % 16384 := ⟨_, rfl⟩
  have hq1 : 0 ≤ q ∧ q < 16384 := by omega
  rw [← hp] at hx1 hx2 hi
  rw [← hq] at hi
  have HP := Lib.hid hp
  have HQ := Lib.hid hq
  have HR := Lib.hid hR1
  obtain ⟨hq2, hq3⟩ := hq1
  clear hp hq hM h hg hv hR1 hR
  go_enter Try.func17, Try.ntmps17
  go_wp2_with (first
    | (go_at_call 13; refine (rbanks_any _ R cap M HR.out (by omega) _).mono ?_; rintro e w' ⟨rfl, rfl⟩)
    | (go_at_call_of 22 (Value.int IntKind.i64 16384); refine (modulo_is y 16384 q HQ.out (by omega) (by omega) _).mono ?_; rintro e w' ⟨rfl, rfl⟩)
    | (go_at_call 22; refine (modulo_is x M p HP.out (by omega) (by omega) _).mono ?_; rintro e w' ⟨rfl, rfl⟩))
  go_ret
  exact ⟨rfl, rfl⟩

end Go.Proofs.Ytdgejcbnjelgkaa
