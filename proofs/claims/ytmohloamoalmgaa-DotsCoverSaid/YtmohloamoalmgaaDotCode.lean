/-
  Package dots' functions and the document's, each by one contract, over whole numbers.
-/
import Derived.Test.YtmohloamoalmgaaWords
namespace Go.Proofs.Ytmohloamoalmgaa
open Go.RowKit

/-- what counts lines, and dots; when a line begins -/
def dV (l : Int) : Int := if 0 ≤ l ∧ l < 219 then l else if 219 ≤ l ∧ l < 262 then l - 6 else 0
def dH (d : Int) : Int := if 0 ≤ d ∧ d < 342 then (if d / 2 < 148 then d / 2 else (d / 2 + 85) % 256) else 0
def dS (l : Int) : Int := if 0 ≤ l ∧ l < 262 then 228 * l else -1

theorem tmod_frame (t : Int) : (t.tmod 59736 < 0 ∧ t.tmod 59736 + 59736 = t % 59736) ∨ (0 ≤ t.tmod 59736 ∧ t.tmod 59736 = t % 59736) := by
  rcases Int.lt_or_le t 0 with h | h
  · have e : t.tmod 59736 = -((-t) % 59736) := by rw [← Int.tmod_eq_emod_of_nonneg (by omega), Int.neg_tmod, Int.neg_neg]
    rcases Int.lt_or_le (t.tmod 59736) 0 with g | g
    · exact .inl ⟨g, by omega⟩
    · exact .inr ⟨g, by omega⟩
  · right
    have e := Int.tmod_eq_emod_of_nonneg h (b := 59736)
    omega

theorem inFrame_at (t f : Int) (hf : Hid (t % 59736 = f)) (w : World) :
    Calls Try.prog 21 #[.int .i64 t] w fun e w' => e = .returned (.int .i64 f) ∧ w = w' := by
  have e := hf.out
  rcases tmod_frame t with ⟨g1, g2⟩ | ⟨g1, g2⟩
  · obtain ⟨m, hm⟩ : ∃ m, t.tmod 59736 = m := ⟨_, rfl⟩
    rw [hm] at g1 g2
    rw [← e, ← g2]
    have b : -59736 ≤ m := by omega
    clear g2 hf e
    go_enter Try.func21, Try.ntmps21
    go_wp2
    go_ret
    exact ⟨rfl, rfl⟩
  · obtain ⟨m, hm⟩ : ∃ m, t.tmod 59736 = m := ⟨_, rfl⟩
    rw [hm] at g1 g2
    rw [← e, ← g2]
    have b : m < 59736 := by omega
    clear g2 hf e
    go_enter Try.func21, Try.ntmps21
    go_wp2
    go_ret
    exact ⟨rfl, rfl⟩
theorem modulo_at (t f : Int) (hf : Hid (t % 59736 = f)) (w : World) :
    Calls Try.prog 17 #[.int .i64 t] w fun e w' => e = .returned (.int .i64 f) ∧ w = w' := by
  have e := hf.out
  rcases tmod_frame t with ⟨g1, g2⟩ | ⟨g1, g2⟩
  · obtain ⟨m, hm⟩ : ∃ m, t.tmod 59736 = m := ⟨_, rfl⟩
    rw [hm] at g1 g2
    rw [← e, ← g2]
    have b : -59736 ≤ m := by omega
    clear g2 hf e
    go_enter Try.func17, Try.ntmps17
    go_wp2
    go_ret
    exact ⟨rfl, rfl⟩
  · obtain ⟨m, hm⟩ : ∃ m, t.tmod 59736 = m := ⟨_, rfl⟩
    rw [hm] at g1 g2
    rw [← e, ← g2]
    have b : m < 59736 := by omega
    clear g2 hf e
    go_enter Try.func17, Try.ntmps17
    go_wp2
    go_ret
    exact ⟨rfl, rfl⟩
theorem line_at (t f : Int) (hf : Hid (t % 59736 = f)) (w : World) :
    Calls Try.prog 13 #[.int .i64 t] w fun e w' => e = .returned (.int .i64 (f / 228)) ∧ w = w' := by
  have h1 : 0 ≤ f := by have := hf.out; omega
  have h2 : f < 59736 := by have := hf.out; omega
  have d1 : f.tdiv 228 = f / 228 := Int.tdiv_eq_ediv_of_nonneg h1
  go_enter Try.func13, Try.ntmps13
  go_wp2_with (go_at_call 21; (with_reducible refine (inFrame_at t f hf _).mono ?_); rintro e w' ⟨rfl, rfl⟩)
  go_ret
  exact ⟨rfl, rfl⟩
theorem inLine_at (t f : Int) (hf : Hid (t % 59736 = f)) (w : World) :
    Calls Try.prog 22 #[.int .i64 t] w fun e w' => e = .returned (.int .i64 (f % 228)) ∧ w = w' := by
  have h1 : 0 ≤ f := by have := hf.out; omega
  have h2 : f < 59736 := by have := hf.out; omega
  have d1 : f.tmod 228 = f % 228 := Int.tmod_eq_emod_of_nonneg h1
  go_enter Try.func22, Try.ntmps22
  go_wp2_with (go_at_call 21; (with_reducible refine (inFrame_at t f hf _).mono ?_); rintro e w' ⟨rfl, rfl⟩)
  go_ret
  exact ⟨rfl, rfl⟩
theorem dot_at (t f : Int) (hf : Hid (t % 59736 = f)) (w : World) :
    Calls Try.prog 14 #[.int .i64 t] w fun e w' => e = .returned (.int .i64 (f % 228 * 3 / 2)) ∧ w = w' := by
  have h1 : 0 ≤ f := by have := hf.out; omega
  have h2 : f < 59736 := by have := hf.out; omega
  obtain ⟨l, hl⟩ : ∃ l, f % 228 = l := ⟨_, rfl⟩
  have l1 : 0 ≤ l := by omega
  have l2 : l < 228 := by omega
  have d2 : (l * 3).tdiv 2 = l * 3 / 2 := Int.tdiv_eq_ediv_of_nonneg (by omega)
  rw [hl]
  go_enter Try.func14, Try.ntmps14
  go_wp2_with (go_at_call 22; (with_reducible refine (inLine_at t f hf _).mono ?_); rintro e w' ⟨rfl, rfl⟩; rw [hl])
  go_ret
  exact ⟨rfl, rfl⟩
theorem next_at (t f : Int) (hf : Hid (t % 59736 = f)) (w : World) :
    Calls Try.prog 16 #[.int .i64 t] w fun e w' => e = .returned (.int .i64 (228 - f % 228)) ∧ w = w' := by
  have h1 : 0 ≤ f := by have := hf.out; omega
  have h2 : f < 59736 := by have := hf.out; omega
  obtain ⟨l, hl⟩ : ∃ l, f % 228 = l := ⟨_, rfl⟩
  have l1 : 0 ≤ l := by omega
  have l2 : l < 228 := by omega
  rw [hl]
  go_enter Try.func16, Try.ntmps16
  go_wp2_with (go_at_call 22; (with_reducible refine (inLine_at t f hf _).mono ?_); rintro e w' ⟨rfl, rfl⟩; rw [hl])
  go_ret
  exact ⟨rfl, rfl⟩
theorem isLine_in (l : Int) (h1 : 0 ≤ l) (h2 : l < 262) (w : World) : Calls Try.prog 20 #[.int .i64 l] w fun e w' => e = .returned (.bool true) ∧ w = w' := by
  go_enter Try.func20, Try.ntmps20
  go_wp2
  go_ret
  exact ⟨rfl, rfl⟩
theorem isLine_low (l : Int) (h1 : l < 0) (w : World) : Calls Try.prog 20 #[.int .i64 l] w fun e w' => e = .returned (.bool false) ∧ w = w' := by
  go_enter Try.func20, Try.ntmps20
  go_wp2
  go_ret
  exact ⟨rfl, rfl⟩
theorem isLine_high (l : Int) (h1 : 262 ≤ l) (w : World) : Calls Try.prog 20 #[.int .i64 l] w fun e w' => e = .returned (.bool false) ∧ w = w' := by
  go_enter Try.func20, Try.ntmps20
  go_wp2
  go_ret
  exact ⟨congrArg (fun b => Ending.returned (.bool b)) (decide_eq_false (by omega)), rfl⟩
theorem v_first (l : Int) (h1 : 0 ≤ l) (h2 : l < 219) (w : World) : Calls Try.prog 9 #[.int .i64 l] w fun e w' => e = .returned (.int .u8 (l)) ∧ w = w' := by
  have e : IntKind.u8.wrap l = l := by rw [IntKind.wrap_u8]; omega
  go_enter Try.func9, Try.ntmps9
  go_wp2_with (go_at_call 20; (with_reducible refine (isLine_in l h1 (by omega) _).mono ?_); rintro e w' ⟨rfl, rfl⟩)
  go_ret
  exact ⟨rfl, rfl⟩
theorem v_second (l : Int) (h1 : 219 ≤ l) (h2 : l < 262) (w : World) : Calls Try.prog 9 #[.int .i64 l] w fun e w' => e = .returned (.int .u8 (l - 6)) ∧ w = w' := by
  have e : IntKind.u8.wrap (l - 6) = l - 6 := by rw [IntKind.wrap_u8]; omega
  go_enter Try.func9, Try.ntmps9
  go_wp2_with (go_at_call 20; (with_reducible refine (isLine_in l (by omega) h2 _).mono ?_); rintro e w' ⟨rfl, rfl⟩)
  go_ret
  exact ⟨rfl, rfl⟩
theorem v_low (l : Int) (h1 : l < 0) (w : World) : Calls Try.prog 9 #[.int .i64 l] w fun e w' => e = .returned (.int .u8 (0)) ∧ w = w' := by
  go_enter Try.func9, Try.ntmps9
  go_wp2_with (go_at_call 20; (with_reducible refine (isLine_low l h1 _).mono ?_); rintro e w' ⟨rfl, rfl⟩)
  go_ret
  exact ⟨rfl, rfl⟩
theorem v_high (l : Int) (h1 : 262 ≤ l) (w : World) : Calls Try.prog 9 #[.int .i64 l] w fun e w' => e = .returned (.int .u8 (0)) ∧ w = w' := by
  go_enter Try.func9, Try.ntmps9
  go_wp2_with (go_at_call 20; (with_reducible refine (isLine_high l h1 _).mono ?_); rintro e w' ⟨rfl, rfl⟩)
  go_ret
  exact ⟨rfl, rfl⟩
theorem rv_first (l : Int) (h1 : 0 ≤ l) (h2 : l < 219) (w : World) : Calls Try.prog 18 #[.int .i64 l] w fun e w' => e = .returned (.int .u8 (l)) ∧ w = w' := by
  have e : IntKind.u8.wrap l = l := by rw [IntKind.wrap_u8]; omega
  go_enter Try.func18, Try.ntmps18
  go_wp2
  go_ret
  exact ⟨rfl, rfl⟩
theorem rv_second (l : Int) (h1 : 219 ≤ l) (h2 : l < 262) (w : World) : Calls Try.prog 18 #[.int .i64 l] w fun e w' => e = .returned (.int .u8 (l - 6)) ∧ w = w' := by
  have e : IntKind.u8.wrap (l - 6) = l - 6 := by rw [IntKind.wrap_u8]; omega
  go_enter Try.func18, Try.ntmps18
  go_wp2
  go_ret
  exact ⟨rfl, rfl⟩
theorem rv_low (l : Int) (h1 : l < 0) (w : World) : Calls Try.prog 18 #[.int .i64 l] w fun e w' => e = .returned (.int .u8 (0)) ∧ w = w' := by
  go_enter Try.func18, Try.ntmps18
  go_wp2
  go_ret
  exact ⟨rfl, rfl⟩
theorem rv_high (l : Int) (h1 : 262 ≤ l) (w : World) : Calls Try.prog 18 #[.int .i64 l] w fun e w' => e = .returned (.int .u8 (0)) ∧ w = w' := by
  go_enter Try.func18, Try.ntmps18
  go_wp2
  go_ret
  exact ⟨rfl, rfl⟩
theorem v_at (l v : Int) (hv : Hid (dV l = v)) (w : World) : Calls Try.prog 9 #[.int .i64 l] w fun e w' => e = .returned (.int .u8 v) ∧ w = w' := by
  rw [← hv.out]; unfold dV
  by_cases h : 0 ≤ l ∧ l < 219
  · rw [if_pos h]; exact v_first l h.1 h.2 w
  · rw [if_neg h]
    by_cases k : 219 ≤ l ∧ l < 262
    · rw [if_pos k]; exact v_second l k.1 k.2 w
    · rw [if_neg k]
      by_cases n : l < 0
      · exact v_low l n w
      · exact v_high l (by omega) w
theorem rv_at (l v : Int) (hv : Hid (dV l = v)) (w : World) : Calls Try.prog 18 #[.int .i64 l] w fun e w' => e = .returned (.int .u8 v) ∧ w = w' := by
  rw [← hv.out]; unfold dV
  by_cases h : 0 ≤ l ∧ l < 219
  · rw [if_pos h]; exact rv_first l h.1 h.2 w
  · rw [if_neg h]
    by_cases k : 219 ≤ l ∧ l < 262
    · rw [if_pos k]; exact rv_second l k.1 k.2 w
    · rw [if_neg k]
      by_cases n : l < 0
      · exact rv_low l n w
      · exact rv_high l (by omega) w
theorem h_low (l : Int) (h1 : l < 0) (w : World) : Calls Try.prog 10 #[.int .i64 l] w fun e w' => e = .returned (.int .u8 (0)) ∧ w = w' := by
  go_enter Try.func10, Try.ntmps10
  go_wp2
  go_ret
  exact ⟨rfl, rfl⟩
theorem h_high (l : Int) (h1 : 342 ≤ l) (w : World) : Calls Try.prog 10 #[.int .i64 l] w fun e w' => e = .returned (.int .u8 (0)) ∧ w = w' := by
  go_enter Try.func10, Try.ntmps10
  go_wp2
  go_ret
  exact ⟨rfl, rfl⟩
theorem h_first (l : Int) (h1 : 0 ≤ l) (h2 : l < 342) (h3 : l / 2 < 148) (w : World) : Calls Try.prog 10 #[.int .i64 l] w fun e w' => e = .returned (.int .u8 (l / 2)) ∧ w = w' := by
  have d1 : l.tdiv 2 = l / 2 := Int.tdiv_eq_ediv_of_nonneg (by omega)
  have d2 : 0 ≤ l / 2 := by omega
  have d3 : l / 2 < 171 := by omega
  have e : IntKind.u8.wrap (l / 2) = l / 2 := by rw [IntKind.wrap_u8]; omega
  go_enter Try.func10, Try.ntmps10
  go_wp2
  go_ret
  exact ⟨rfl, rfl⟩
theorem h_second (l : Int) (h1 : 0 ≤ l) (h2 : l < 342) (h3 : 148 ≤ l / 2) (w : World) : Calls Try.prog 10 #[.int .i64 l] w fun e w' => e = .returned (.int .u8 ((l / 2 + 85) % 256)) ∧ w = w' := by
  have d1 : l.tdiv 2 = l / 2 := Int.tdiv_eq_ediv_of_nonneg (by omega)
  have d2 : 0 ≤ l / 2 := by omega
  have d3 : l / 2 < 171 := by omega
  have e : IntKind.u8.wrap (l / 2 + 85) = (l / 2 + 85) % 256 := by rw [IntKind.wrap_u8]
  go_enter Try.func10, Try.ntmps10
  go_wp2
  go_ret
  exact ⟨rfl, rfl⟩
theorem h_at (l v : Int) (hv : Hid (dH l = v)) (w : World) : Calls Try.prog 10 #[.int .i64 l] w fun e w' => e = .returned (.int .u8 v) ∧ w = w' := by
  rw [← hv.out]; unfold dH
  by_cases h : 0 ≤ l ∧ l < 342
  · rw [if_pos h]
    by_cases k : l / 2 < 148
    · rw [if_pos k]; exact h_first l h.1 h.2 k w
    · rw [if_neg k]; exact h_second l h.1 h.2 (by omega) w
  · rw [if_neg h]
    by_cases n : l < 0
    · exact h_low l n w
    · exact h_high l (by omega) w
theorem rh_low (l : Int) (h1 : l < 0) (w : World) : Calls Try.prog 19 #[.int .i64 l] w fun e w' => e = .returned (.int .u8 (0)) ∧ w = w' := by
  go_enter Try.func19, Try.ntmps19
  go_wp2
  go_ret
  exact ⟨rfl, rfl⟩
theorem rh_high (l : Int) (h1 : 342 ≤ l) (w : World) : Calls Try.prog 19 #[.int .i64 l] w fun e w' => e = .returned (.int .u8 (0)) ∧ w = w' := by
  go_enter Try.func19, Try.ntmps19
  go_wp2
  go_ret
  exact ⟨rfl, rfl⟩
theorem rh_first (l : Int) (h1 : 0 ≤ l) (h2 : l < 342) (h3 : l / 2 < 148) (w : World) : Calls Try.prog 19 #[.int .i64 l] w fun e w' => e = .returned (.int .u8 (l / 2)) ∧ w = w' := by
  have d1 : l.tdiv 2 = l / 2 := Int.tdiv_eq_ediv_of_nonneg (by omega)
  have d2 : 0 ≤ l / 2 := by omega
  have d3 : l / 2 < 171 := by omega
  have e : IntKind.u8.wrap (l / 2) = l / 2 := by rw [IntKind.wrap_u8]; omega
  go_enter Try.func19, Try.ntmps19
  go_wp2
  go_ret
  exact ⟨rfl, rfl⟩
theorem rh_second (l : Int) (h1 : 0 ≤ l) (h2 : l < 342) (h3 : 148 ≤ l / 2) (w : World) : Calls Try.prog 19 #[.int .i64 l] w fun e w' => e = .returned (.int .u8 ((l / 2 + 85) % 256)) ∧ w = w' := by
  have d1 : l.tdiv 2 = l / 2 := Int.tdiv_eq_ediv_of_nonneg (by omega)
  have d2 : 0 ≤ l / 2 := by omega
  have d3 : l / 2 < 171 := by omega
  have e : IntKind.u8.wrap (l / 2 + 85) = (l / 2 + 85) % 256 := by rw [IntKind.wrap_u8]
  go_enter Try.func19, Try.ntmps19
  go_wp2
  go_ret
  exact ⟨rfl, rfl⟩
theorem rh_at (l v : Int) (hv : Hid (dH l = v)) (w : World) : Calls Try.prog 19 #[.int .i64 l] w fun e w' => e = .returned (.int .u8 v) ∧ w = w' := by
  rw [← hv.out]; unfold dH
  by_cases h : 0 ≤ l ∧ l < 342
  · rw [if_pos h]
    by_cases k : l / 2 < 148
    · rw [if_pos k]; exact rh_first l h.1 h.2 k w
    · rw [if_neg k]; exact rh_second l h.1 h.2 (by omega) w
  · rw [if_neg h]
    by_cases n : l < 0
    · exact rh_low l n w
    · exact rh_high l (by omega) w
theorem start_in (l : Int) (h1 : 0 ≤ l) (h2 : l < 262) (w : World) : Calls Try.prog 11 #[.int .i64 l] w fun e w' => e = .returned (.int .i64 (228 * l)) ∧ w = w' := by
  go_enter Try.func11, Try.ntmps11
  go_wp2_with (go_at_call 20; (with_reducible refine (isLine_in l h1 h2 _).mono ?_); rintro e w' ⟨rfl, rfl⟩)
  go_ret
  exact ⟨rfl, rfl⟩
theorem start_low (l : Int) (h1 : l < 0) (w : World) : Calls Try.prog 11 #[.int .i64 l] w fun e w' => e = .returned (.int .i64 (-1)) ∧ w = w' := by
  go_enter Try.func11, Try.ntmps11
  go_wp2_with (go_at_call 20; (with_reducible refine (isLine_low l h1 _).mono ?_); rintro e w' ⟨rfl, rfl⟩)
  go_ret
  exact ⟨rfl, rfl⟩
theorem start_high (l : Int) (h1 : 262 ≤ l) (w : World) : Calls Try.prog 11 #[.int .i64 l] w fun e w' => e = .returned (.int .i64 (-1)) ∧ w = w' := by
  go_enter Try.func11, Try.ntmps11
  go_wp2_with (go_at_call 20; (with_reducible refine (isLine_high l h1 _).mono ?_); rintro e w' ⟨rfl, rfl⟩)
  go_ret
  exact ⟨rfl, rfl⟩
theorem start_at (l v : Int) (hv : Hid (dS l = v)) (w : World) : Calls Try.prog 11 #[.int .i64 l] w fun e w' => e = .returned (.int .i64 v) ∧ w = w' := by
  rw [← hv.out]; unfold dS
  by_cases h : 0 ≤ l ∧ l < 262
  · rw [if_pos h]; exact start_in l h.1 h.2 w
  · rw [if_neg h]
    by_cases n : l < 0
    · exact start_low l n w
    · exact start_high l (by omega) w
/-- the document's: how many lines begin up to there, less one -/
theorem rline_at (t f : Int) (hf : Hid (t % 59736 = f)) (w : World) :
    Calls Try.prog 12 #[.int .i64 t] w fun e w' => e = .returned (.int .i64 (f / 228)) ∧ w = w' := by
  have h1 : 0 ≤ f := by have := hf.out; omega
  have h2 : f < 59736 := by have := hf.out; omega
  obtain ⟨l, hl⟩ : ∃ l, f / 228 = l := ⟨_, rfl⟩
  have l1 : 0 ≤ l := by omega
  have l2 : l < 262 := by omega
  have l3 : 228 * l ≤ f := by omega
  have l4 : f < 228 * l + 228 := by omega
  have HF := Lib.hid hf
  rw [hl]
  clear hl
  go_enter Try.func12, Try.ntmps12
  go_wp2
  go_loopw [3] (fun i wr => ∃ k : Int, 0 ≤ k ∧ k ≤ l ∧ i = .int .i64 k ∧ w = wr) (fun i _ => (l - intOf i).toNat)
  case atStart => exact ⟨0, by omega, by omega, rfl, rfl⟩
  case round =>
    obtain ⟨k, k1, k2, rfl, rfl⟩ := hrel
    by_cases hk : k < l
    · have hle : 228 * (k + 1) ≤ f := by omega
      go_wp2_with (go_at_call 17; (with_reducible refine (modulo_at t f hf _).mono ?_); rintro e w' ⟨rfl, rfl⟩)
      go_roundw
      case rel => exact ⟨k + 1, by omega, by omega, rfl, trivial⟩
      case measure => simp [intOf]; omega
    · have hle : f < 228 * (k + 1) := by omega
      have e : k = l := by omega
      go_wp2_with (go_at_call 17; (with_reducible refine (modulo_at t f hf _).mono ?_); rintro e w' ⟨rfl, rfl⟩)
      go_ret
      exact ⟨rfl, rfl⟩
theorem rdot_at (t f : Int) (hf : Hid (t % 59736 = f)) (w : World) :
    Calls Try.prog 15 #[.int .i64 t] w fun e w' => e = .returned (.int .i64 (f % 228 * 3 / 2)) ∧ w = w' := by
  have h1 : 0 ≤ f := by have := hf.out; omega
  have h2 : f < 59736 := by have := hf.out; omega
  obtain ⟨l, hl⟩ : ∃ l, f / 228 = l := ⟨_, rfl⟩
  have l1 : 0 ≤ l := by omega
  have l2 : l < 262 := by omega
  have e1 : f % 228 = f - 228 * l := by omega
  have e2 : 0 ≤ f - 228 * l := by omega
  have e3 : f - 228 * l < 228 := by omega
  have e4 : f % 228 * 3 / 2 = 3 * (f - 228 * l) / 2 := by rw [e1, Int.mul_comm]
  have e5 : (3 * (f - 228 * l)).tdiv 2 = 3 * (f - 228 * l) / 2 := Int.tdiv_eq_ediv_of_nonneg (by omega)
  rw [e4]
  clear e1 e4
  go_enter Try.func15, Try.ntmps15
  go_wp2_with (first
    | (go_at_call 17; (with_reducible refine (modulo_at t f hf _).mono ?_); rintro e w' ⟨rfl, rfl⟩)
    | (go_at_call 12; (with_reducible refine (rline_at t f hf _).mono ?_); rintro e w' ⟨rfl, rfl⟩; rw [hl]))
  go_ret
  exact ⟨rfl, rfl⟩
/-! the same, by names of the results -/
theorem line_n (t r : Int) (h : Hid (t % 59736 / 228 = r)) (w : World) : Calls Try.prog 13 #[.int .i64 t] w fun e w' => e = .returned (.int .i64 r) ∧ w = w' := by
  rw [← h.out]; exact line_at t _ (Lib.hid rfl) w
theorem dot_n (t r : Int) (h : Hid (t % 59736 % 228 * 3 / 2 = r)) (w : World) : Calls Try.prog 14 #[.int .i64 t] w fun e w' => e = .returned (.int .i64 r) ∧ w = w' := by
  rw [← h.out]; exact dot_at t _ (Lib.hid rfl) w
theorem next_n (t r : Int) (h : Hid (228 - t % 59736 % 228 = r)) (w : World) : Calls Try.prog 16 #[.int .i64 t] w fun e w' => e = .returned (.int .i64 r) ∧ w = w' := by
  rw [← h.out]; exact next_at t _ (Lib.hid rfl) w
theorem rline_n (t r : Int) (h : Hid (t % 59736 / 228 = r)) (w : World) : Calls Try.prog 12 #[.int .i64 t] w fun e w' => e = .returned (.int .i64 r) ∧ w = w' := by
  rw [← h.out]; exact rline_at t _ (Lib.hid rfl) w
theorem rdot_n (t r : Int) (h : Hid (t % 59736 % 228 * 3 / 2 = r)) (w : World) : Calls Try.prog 15 #[.int .i64 t] w fun e w' => e = .returned (.int .i64 r) ∧ w = w' := by
  rw [← h.out]; exact rdot_at t _ (Lib.hid rfl) w
end Go.Proofs.Ytmohloamoalmgaa
