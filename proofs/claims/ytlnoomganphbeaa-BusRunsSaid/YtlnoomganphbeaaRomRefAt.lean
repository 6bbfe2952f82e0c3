/-
  The document's own answers for a cartridge: New, Banks, At: contracts over bytes in memory (without the sum).
-/
import Derived.Test.YtlnoomganphbeaaRomAt
import Derived.Test.YtlnoomganphbeaaZeros
namespace Go.Proofs.Ytlnoomganphbeaa
open Go.RowKit

theorem romOf_in (bs : List Int) (i : Nat) (h : i < bs.length) : (romOf bs).getD i 0 = bs.getD i 0 := by
  rw [romOf, List.getD_eq_getElem?_getD, List.getElem?_append_left h, List.getD_eq_getElem?_getD]
theorem romOf_behind (bs : List Int) (i : Nat) (h : bs.length ≤ i) : (romOf bs).getD i 0 = 0 := by
  rw [romOf, List.getD_eq_getElem?_getD, List.getElem?_append_right h, List.getElem?_replicate]
  split <;> rfl

/-- the bytes after k rounds -/
def refTo (bs : List Int) (R k : Nat) : List Int := (List.range R).map fun i => if i < k then bs.getD i 0 else 0
theorem refTo_length (bs : List Int) (R k : Nat) : (refTo bs R k).length = R := by simp [refTo]
theorem refTo_zero (bs : List Int) (R : Nat) : refTo bs R 0 = zeros R := by
  apply List.ext_getElem?
  intro i
  by_cases hi : i < R <;> simp [refTo, zeros, hi]
theorem refTo_step (bs : List Int) (R k : Nat) : (u8s (refTo bs R k)).set k (.int .u8 (bs.getD k 0)) = u8s (refTo bs R (k + 1)) := by
  apply List.ext_getElem?
  intro i
  rw [List.getElem?_set, u8s_get, u8s_get]
  by_cases hik : k = i
  · subst hik
    by_cases hl : k < R <;> simp [refTo, hl]
  · by_cases hl : i < R
    · have : (i < k) = (i < k + 1) := by simp only [eq_iff_iff]; omega
      simp [refTo, hl, hik, this]
    · simp [refTo, hl, hik]
theorem refTo_skip (bs : List Int) (R k : Nat) (h : bs.length ≤ k) : refTo bs R k = refTo bs R (k + 1) := by
  apply List.ext_getElem?
  intro i
  by_cases hl : i < R
  · by_cases h1 : i < k
    · simp [refTo, hl, h1, show i < k + 1 by omega]
    · by_cases h2 : i < k + 1
      · simp [refTo, hl, h1, h2, List.getElem?_eq_none (show bs.length ≤ i by omega)]
      · simp [refTo, hl, h1, h2]
  · simp [refTo, hl]
theorem refTo_all (bs : List Int) (h : bs.length ≤ 4194304) : refTo bs (romOf bs).length (romOf bs).length = romOf bs := by
  have hl := romOf_length bs h
  have hr := bk_room bs.length h
  apply List.ext_getElem?
  intro i
  by_cases hi : i < (romOf bs).length
  · have e : (refTo bs (romOf bs).length (romOf bs).length)[i]? = some (bs.getD i 0) := by simp [refTo, hi]
    rw [e, List.getElem?_eq_getElem hi]
    have hg : (romOf bs)[i] = (romOf bs).getD i 0 := by rw [List.getD_eq_getElem?_getD, List.getElem?_eq_getElem hi]; rfl
    rw [hg]
    by_cases hb : i < bs.length
    · rw [romOf_in bs i hb]
    · rw [romOf_behind bs i (by omega), List.getD_eq_getElem?_getD, List.getElem?_eq_none (by omega)]; rfl
  · rw [List.getElem?_eq_none (by rw [refTo_length]; omega), List.getElem?_eq_none (by omega)]

theorem rbanks_any (a : Option Addr) (R cap : Nat) (M : Int) (hR : (R : Int) = M * 16384) (hM : M ≤ 256) (w : World) :
    Calls Try.prog 32 #[.slice a R cap] w fun e w' => e = .returned (.int .i64 M) ∧ w' = w := by
  have hl : (R : Int) / 16384 = M := by omega
  have hlen : (R : Int) ≤ 4194304 := by omega
  have HL := Lib.hid hl
  clear hl hR
  go_enter Try.func32, Try.ntmps32
  go_wp2
  go_ret
  exact ⟨by rw [HL.out]; rfl, rfl⟩

theorem modulo_any (n m : Int) (h1 : 1 ≤ m) (h2 : m ≤ 4194304) (w : World) :
    Calls Try.prog 31 #[.int .i64 n, .int .i64 m] w fun e w' => e = .returned (.int .i64 (n % m)) ∧ w' = w := by
  have hb : 0 ≤ n % m ∧ n % m < m := ⟨Int.emod_nonneg _ (by omega), Int.emod_lt_of_pos _ (by omega)⟩
  have hm0 : (m == 0) = false := by simp; omega
  by_cases hn : n.tmod m < 0
  · have e : n.tmod m + m = n % m := by
      rw [Int.emod_eq_tmod]
      have : ¬ (0 ≤ n ∨ m ∣ n) := by
        rintro (h | h)
        · have := Int.tmod_nonneg m h; omega
        · rw [Int.tmod_eq_zero_of_dvd h] at hn; omega
      rw [if_neg this]; omega
    have hlo : -m < n.tmod m := by
      have := Int.lt_tmod_of_pos n (show 0 < m by omega); omega
    have HE := Lib.hid e
    obtain ⟨r, hr⟩ : ∃ r, r = n.tmod m := ⟨_, rfl⟩
    rw [← hr] at hn hlo e
    have hr' : n.tmod m = r := hr.symm
    clear e hr
    go_enter Try.func31, Try.ntmps31
    go_wp2
    go_ret
    exact ⟨by rw [← HE.out, hr']; rfl, rfl⟩
  · have e : n.tmod m = n % m := by
      rw [Int.emod_eq_tmod]
      have : 0 ≤ n ∨ m ∣ n := by
        by_cases h : 0 ≤ n
        · exact .inl h
        · right
          have h3 : n.tmod m ≤ 0 := by
            have := Int.tmod_nonneg m (show 0 ≤ -n by omega)
            rw [Int.neg_tmod] at this; omega
          exact Int.dvd_of_tmod_eq_zero (by omega)
      rw [if_pos this]; omega
    obtain ⟨r, hr⟩ : ∃ r, r = n % m := ⟨_, rfl⟩
    rw [← hr] at hb e ⊢
    have hlt : ¬ r < 0 := by omega
    clear hr hn
    go_enter Try.func31, Try.ntmps31
    go_wp2
    go_ret
    exact ⟨rfl, rfl⟩

theorem ref_make (R : Nat) (h : R ≤ 4194304) (w : World) :
    (Instr.makeSlice 35 (.int .i64 (R : Int)) (.int .i64 (R : Int))).run Try.prog w = .ok (.slice (some ⟨w.heap.size, 0, none⟩) R R) (w.alloc (.cells (u8s (zeros R)).toArray 5)) := by
  obtain ⟨i0, hi, hz0, hz1, hz2⟩ := info_parts u8_info
  have hr := run_make (P := Try.prog) w 35 5 i0 (.int .u8 0) Try.underlying35 hi hz0 .i64 .i64 (R : Int) (R : Int) (by omega) (by omega) (by rw [hz2]; omega) (by omega)
  rw [hr]
  rw [Int.toNat_natCast, hz1, Nat.mul_one]
  congr 3
  apply Array.ext'
  rw [show (Value.int IntKind.u8 0).cells = #[Value.int IntKind.u8 0] from rfl, toList_madeCells_one]
  simp [u8s, zeros]

theorem modulo_is (n m q : Int) (hq : q = n % m) (h1 : 1 ≤ m) (h2 : m ≤ 4194304) (w : World) :
    Calls Try.prog 31 #[.int .i64 n, .int .i64 m] w fun e w' => e = .returned (.int .i64 q) ∧ w' = w := by
  rw [hq]
  exact modulo_any n m h1 h2 w

set_option maxHeartbeats 1600000 in
theorem rnew_any (a : Option Addr) (n cap : Nat) (bs : List Int) (M : Int) (R : Nat) (hM : M = bk n) (hR : (R : Int) = M * 16384) (hRl : R = (romOf bs).length) (w : World) (hb : Bytes w w.heap.size a n bs) (hn : n ≤ 4194304) :
    Calls Try.prog 16 #[.slice a n cap] w fun e w' => ∃ g, e = .returned (.slice (some ⟨g, 0, none⟩) R R) ∧ w.heap.size ≤ g ∧ Below w.heap.size w w' ∧ Whole w' g 5 (u8s (romOf bs)) := by
  have hMb := bk_room n hn
  rw [← hM] at hMb
  obtain ⟨hM0, hM1, hM2⟩ := hMb
  have hmk := ref_make R (by omega)
  rw [hR] at hmk
  have HB := Lib.hid hb
  have HM := Lib.hid hM
  have HR := Lib.hid hR
  have HL := Lib.hid hRl
  have hR0 : R ≤ 4194304 := by omega
  have hnR : n ≤ R := by omega
  clear hb hM hRl hR
  go_enter Try.func16, Try.ntmps16
  go_wp2_with fail
  go_loop [3] (fun t => ∃ b : Int, BkAt n b ∧ t = .int .i64 b) (fun t => (256 - intOf t).toNat)
  case atStart => exact ⟨1, BkAt.start n, rfl⟩
  case round =>
    obtain ⟨b, hbk, rfl⟩ := hrel
    obtain ⟨b0, b1⟩ := hbk.bd
    by_cases hgo : b < 256 ∧ b * 16384 < n
    · obtain ⟨hg1, hg2⟩ := hgo
      obtain ⟨hs1, hs2⟩ := hbk.step (by omega) hg2
      go_wp2
      go_round
      case rel => exact ⟨b * 2, hs1, by go_num⟩
      case measure => simp [intOf]; omega
    · have hfin : b = M := by
        rw [HM.out]
        refine hbk.fin ?_
        have := hbk.1
        omega
      subst hfin
      have hstop : b < 256 → ¬ b * 16384 < (n : Int) := fun h1 h2 => hgo ⟨h1, h2⟩
      have HSt := Lib.hid hstop
      clear hgo hstop
      have hng : b < 256 → Hid (¬ b * 16384 < (n : Int)) := HSt.out
      by_cases h256 : b < 256
      case' pos => have hng' : ¬ b * 16384 < (n : Int) := (hng h256).out
      all_goals
        clear hng HSt
        go_wp2_with fail
        go_loopw [22] (fun i wr => ∃ k : Nat, k ≤ R ∧ i = .int .i64 k ∧ Hid (Whole wr w.heap.size 5 (u8s (refTo bs R k)) ∧ Below w.heap.size w wr))
          (fun i _ => R - (intOf i).toNat)
        case atStart =>
          refine ⟨0, by omega, rfl, ?_, (Below.refl _ _).alloc (Nat.le_refl _) _⟩
          rw [refTo_zero]
          exact Whole.fresh w _ _
        case round =>
          obtain ⟨k, hk, rfl, HW⟩ := hrel
          by_cases hlt : k < R
          · by_cases hkn : k < n
            · obtain ⟨g, o, rfl, hg, hc⟩ := HB.out.2 (by omega)
              have hck : wr.cell? ⟨g, o + k, none⟩ = some (.int .u8 (bs.getD k 0)) := by
                rw [HW.out.2.cell (p := ⟨g, o + k, none⟩) hg, hc _ hkn]
              have hcw : wr.cell? ⟨w.heap.size, k, none⟩ = (u8s (refTo bs R k))[k]? := HW.out.1.at_ k
              rw [List.getElem?_eq_getElem (by rw [u8s_length, refTo_length]; omega)] at hcw
              have hfr : wr.frozen? ⟨w.heap.size, k, none⟩ = false := HW.out.1.free k
              have HE : Hid (Whole (wr.setCell ⟨w.heap.size, k, none⟩ (.int .u8 (bs.getD k 0))) w.heap.size 5 (u8s (refTo bs R (k + 1))) ∧ Below w.heap.size w (wr.setCell ⟨w.heap.size, k, none⟩ (.int .u8 (bs.getD k 0)))) := by
                refine ⟨?_, HW.out.2.setCell (by simp) _⟩
                rw [← refTo_step]
                exact HW.out.1.put k _
              obtain ⟨y, hy⟩ : ∃ y, y = bs.getD k 0 := ⟨_, rfl⟩
              rw [← hy] at hck HE
              clear hc hy
              go_wp2_with fail
              go_roundw
              case rel => exact ⟨k + 1, by omega, by go_num, HE⟩
              case measure => simp [intOf]; omega
            · go_wp2_with fail
              go_roundw
              case rel =>
                refine ⟨k + 1, by omega, by go_num, ?_, HW.out.2⟩
                rw [← refTo_skip bs R k (by have := HB.out.1; omega)]
                exact HW.out.1
              case measure => simp [intOf]; omega
          · obtain rfl : k = R := by omega
            have HE : Hid (Whole wr w.heap.size 5 (u8s (romOf bs))) := by
              have h := HW.out.1
              have e := refTo_all bs (by have := HB.out.1; omega)
              rw [← HL.out] at e
              rw [← e]; exact h
            go_wp2_with fail
            go_ret
            exact ⟨w.heap.size, rfl, Nat.le_refl _, HW.out.2, HE⟩

set_option maxHeartbeats 800000 in
theorem rat_any (g cap : Nat) (zs : List Int) (M : Int) (hM : RomFit zs M) (w : World) (h : Whole w g 5 (u8s zs)) (R : Nat) (hR : R = zs.length) (x y v : Int) (hv : zs.getD (x % M * 16384 + y % 16384).toNat 0 = v) :
    Calls Try.prog 30 #[.slice (some ⟨g, 0, none⟩) R cap, .int .i64 x, .int .i64 y] w fun e w' => e = .returned (.int .u8 v) ∧ w' = w := by
  have hbd := hM.bd
  have hR1 : (R : Int) = M * 16384 := by rw [hR]; exact hM.2
  have hx1 : 0 ≤ x % M := Int.emod_nonneg _ (by omega)
  have hx2 : x % M < M := Int.emod_lt_of_pos _ (by omega)
  obtain ⟨i, hi⟩ : ∃ i : Nat, x % M * 16384 + y % 16384 = (i : Int) := ⟨(x % M * 16384 + y % 16384).toNat, by omega⟩
  have hiR : (i : Int) < (R : Int) := by omega
  have hc := h.at_ i
  rw [u8s_get, List.getElem?_eq_getElem (by omega), Option.map_some] at hc
  have hg : zs[i]'(by omega) = v := by
    rw [hi, Int.toNat_natCast, List.getD_eq_getElem?_getD, List.getElem?_eq_getElem (by omega)] at hv
    exact hv
  rw [hg] at hc
  obtain ⟨p, hp⟩ : ∃ p, p = x % M := ⟨_, rfl⟩
  obtain ⟨q, hq⟩ : ∃ q, q = y % 16384 := ⟨_, rfl⟩
  have hq1 : 0 ≤ q ∧ q < 16384 := by omega
  rw [← hp] at hx1 hx2 hi
  rw [← hq] at hi
  have HP := Lib.hid hp
  have HQ := Lib.hid hq
  have HR := Lib.hid hR1
  obtain ⟨hq2, hq3⟩ := hq1
  clear hp hq hM h hg hv hR1 hR
  go_enter Try.func30, Try.ntmps30
  go_wp2_with (first
    | (go_at_call 32; refine (rbanks_any _ R cap M HR.out (by omega) _).mono ?_; rintro e w' ⟨rfl, rfl⟩)
    | (go_at_call_of 31 (Value.int IntKind.i64 16384); refine (modulo_is y 16384 q HQ.out (by omega) (by omega) _).mono ?_; rintro e w' ⟨rfl, rfl⟩)
    | (go_at_call 31; refine (modulo_is x M p HP.out (by omega) (by omega) _).mono ?_; rintro e w' ⟨rfl, rfl⟩))
  go_ret
  exact ⟨rfl, rfl⟩

end Go.Proofs.Ytlnoomganphbeaa
