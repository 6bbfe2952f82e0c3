/-
  The law DotsGo returns true for every clock, and writes nothing.
-/
import Derived.Test.YtmohloamoalmgaaDotLaws
namespace Go.Proofs.Ytmohloamoalmgaa
open Go.RowKit

theorem go_far (t : Int) (h : 1152921504606846976 < t ∨ t < -1152921504606846976) (w : World) : Calls Try.prog 6 #[.int .i64 t] w fun e w' => e = .returned (.bool true) ∧ Below w.heap.size w w' := by
  rcases h with h | h
  · go_enter Try.func6, Try.ntmps6
    go_wp2_with (go_at_call 8; (with_reducible refine (alive_any _).mono ?_); rintro e w' ⟨rfl, rfl⟩)
    go_ret
    exact ⟨rfl, Below.refl _ _⟩
  · go_enter Try.func6, Try.ntmps6
    go_wp2_with (go_at_call 8; (with_reducible refine (alive_any _).mono ?_); rintro e w' ⟨rfl, rfl⟩)
    go_ret
    exact ⟨rfl, Below.refl _ _⟩
/-- what a clock, and those behind it, are -/
theorem go_math (t f l m d n : Int) (hf : t % 59736 = f) (hl : f / 228 = l) (hm : f % 228 = m) (hd : m * 3 / 2 = d) (hn : 228 - m = n) :
    0 ≤ l ∧ l < 262 ∧ 1 ≤ n ∧ n ≤ 228 ∧ (t + n - 1) % 59736 / 228 = l ∧ (t + n) % 59736 / 228 = (l + 1) % 262 ∧ (t + n) % 59736 % 228 * 3 / 2 = 0 ∧
    (t + 228) % 59736 / 228 = (l + 1) % 262 ∧ (t + 228) % 59736 % 228 * 3 / 2 = d ∧ (t + 59736) % 59736 / 228 = l ∧ (n = 1 ∨ (1 < n ∧ d < (t + 1) % 59736 % 228 * 3 / 2)) := by
  have b1 : 0 ≤ f := by omega
  have b2 : f < 59736 := by omega
  have c1 : f = 228 * l + m := by omega
  have c2 : 0 ≤ m := by omega
  have c3 : m < 228 := by omega
  obtain ⟨q, hq⟩ : ∃ q, t = 59736 * q + f := ⟨t / 59736, by omega⟩
  clear hf hl hm
  subst hq c1
  have k1 : 0 ≤ l := by omega
  have k2 : l < 262 := by omega
  refine ⟨k1, k2, by omega, by omega, ?_, ?_, ?_, ?_, ?_, ?_, ?_⟩
  · rw [show (59736 * q + (228 * l + m) + n - 1) % 59736 = 228 * l + 227 by omega]; omega
  · by_cases e : l = 261
    · rw [show (59736 * q + (228 * l + m) + n) % 59736 = 0 by omega, e]; rfl
    · rw [show (59736 * q + (228 * l + m) + n) % 59736 = 228 * (l + 1) by omega]; omega
  · by_cases e : l = 261
    · rw [show (59736 * q + (228 * l + m) + n) % 59736 = 0 by omega]; rfl
    · rw [show (59736 * q + (228 * l + m) + n) % 59736 = 228 * (l + 1) by omega]; omega
  · by_cases e : l = 261
    · rw [show (59736 * q + (228 * l + m) + 228) % 59736 = m by omega]; omega
    · rw [show (59736 * q + (228 * l + m) + 228) % 59736 = 228 * (l + 1) + m by omega]; omega
  · by_cases e : l = 261
    · rw [show (59736 * q + (228 * l + m) + 228) % 59736 = m by omega]; omega
    · rw [show (59736 * q + (228 * l + m) + 228) % 59736 = 228 * (l + 1) + m by omega]; omega
  · rw [show (59736 * q + (228 * l + m) + 59736) % 59736 = 228 * l + m by omega]; omega
  · by_cases e : n = 1
    · exact .inl e
    · refine .inr ⟨by omega, ?_⟩
      rw [show (59736 * q + (228 * l + m) + 1) % 59736 = 228 * l + (m + 1) by omega, show (228 * l + (m + 1)) % 228 = m + 1 by omega]
      omega

set_option maxHeartbeats 1600000 in
theorem go_near (t : Int) (h : t ≤ 1152921504606846976) (h' : -1152921504606846976 ≤ t) (w : World) : Calls Try.prog 6 #[.int .i64 t] w fun e w' => e = .returned (.bool true) ∧ Below w.heap.size w w' := by
  obtain ⟨l, hl⟩ : ∃ l, Hid (t % 59736 / 228 = l) := ⟨_, rfl⟩
  obtain ⟨d, hd⟩ : ∃ d, Hid (t % 59736 % 228 * 3 / 2 = d) := ⟨_, rfl⟩
  obtain ⟨n, hn⟩ : ∃ n, Hid (228 - t % 59736 % 228 = n) := ⟨_, rfl⟩
  obtain ⟨l1, l2, n1, n2, m1, m2, m3, m4, m5, m6, m7⟩ := go_math t _ l _ d n rfl hl.out rfl hd.out hn.out
  obtain ⟨l', hl'⟩ : ∃ l', (l + 1) % 262 = l' := ⟨_, rfl⟩
  rw [hl'] at m2 m4
  have hll : ¬ l' = l := by omega
  have d0 : 0 ≤ d := by have := hd.out; omega
  have c1 : (l + 1).tmod 262 = l' := by rw [Int.tmod_eq_emod_of_nonneg (by omega)]; exact hl'
  obtain ⟨d', hd'⟩ : ∃ d', Hid ((t + 1) % 59736 % 228 * 3 / 2 = d') := ⟨_, rfl⟩
  rw [hd'.out] at m7
  have H1 := Lib.hid m1
  have H2 := Lib.hid m2
  have H3 := Lib.hid m3
  have H4 := Lib.hid m4
  have H5 := Lib.hid m5
  have H6 := Lib.hid m6
  clear m1 m2 m3 m4 m5 m6 hl'
  rcases m7 with m7 | ⟨m7, m8⟩
  · subst m7
    go_enter Try.func6, Try.ntmps6
    go_wp2_with (first | (go_at_call 8; (with_reducible refine (alive_any _).mono ?_); rintro e w' ⟨rfl, rfl⟩) | (go_at_call 16; first | ((with_reducible refine (next_n t _ hn _).mono ?_); rintro e w' ⟨rfl, rfl⟩)) | (go_at_call 13; first | ((with_reducible refine (line_n t l hl _).mono ?_); rintro e w' ⟨rfl, rfl⟩) | ((with_reducible refine (line_n _ l H1 _).mono ?_); rintro e w' ⟨rfl, rfl⟩) | ((with_reducible refine (line_n _ l' H2 _).mono ?_); rintro e w' ⟨rfl, rfl⟩) | ((with_reducible refine (line_n _ l' H4 _).mono ?_); rintro e w' ⟨rfl, rfl⟩) | ((with_reducible refine (line_n _ l H6 _).mono ?_); rintro e w' ⟨rfl, rfl⟩)) | (go_at_call 14; first | ((with_reducible refine (dot_n t d hd _).mono ?_); rintro e w' ⟨rfl, rfl⟩) | ((with_reducible refine (dot_n _ 0 H3 _).mono ?_); rintro e w' ⟨rfl, rfl⟩) | ((with_reducible refine (dot_n _ d H5 _).mono ?_); rintro e w' ⟨rfl, rfl⟩) | ((with_reducible refine (dot_n _ d' hd' _).mono ?_); rintro e w' ⟨rfl, rfl⟩)))
    go_ret
    exact ⟨congrArg (fun b => Ending.returned (.bool b)) (bne_iff_ne.mpr hll), Below.refl _ _⟩
  · have hn1 : ¬ n = 1 := by omega
    go_enter Try.func6, Try.ntmps6
    go_wp2_with (first | (go_at_call 8; (with_reducible refine (alive_any _).mono ?_); rintro e w' ⟨rfl, rfl⟩) | (go_at_call 16; first | ((with_reducible refine (next_n t _ hn _).mono ?_); rintro e w' ⟨rfl, rfl⟩)) | (go_at_call 13; first | ((with_reducible refine (line_n t l hl _).mono ?_); rintro e w' ⟨rfl, rfl⟩) | ((with_reducible refine (line_n _ l H1 _).mono ?_); rintro e w' ⟨rfl, rfl⟩) | ((with_reducible refine (line_n _ l' H2 _).mono ?_); rintro e w' ⟨rfl, rfl⟩) | ((with_reducible refine (line_n _ l' H4 _).mono ?_); rintro e w' ⟨rfl, rfl⟩) | ((with_reducible refine (line_n _ l H6 _).mono ?_); rintro e w' ⟨rfl, rfl⟩)) | (go_at_call 14; first | ((with_reducible refine (dot_n t d hd _).mono ?_); rintro e w' ⟨rfl, rfl⟩) | ((with_reducible refine (dot_n _ 0 H3 _).mono ?_); rintro e w' ⟨rfl, rfl⟩) | ((with_reducible refine (dot_n _ d H5 _).mono ?_); rintro e w' ⟨rfl, rfl⟩) | ((with_reducible refine (dot_n _ d' hd' _).mono ?_); rintro e w' ⟨rfl, rfl⟩)))
    go_ret
    exact ⟨congrArg (fun b => Ending.returned (.bool b)) (bne_iff_ne.mpr hll), Below.refl _ _⟩
theorem go_any (t : Int) (w : World) : Calls Try.prog 6 #[.int .i64 t] w fun e w' => e = .returned (.bool true) ∧ Below w.heap.size w w' := by
  by_cases h : t ≤ 1152921504606846976 ∧ -1152921504606846976 ≤ t
  · exact go_near t h.1 h.2 w
  · exact go_far t (by omega) w
end Go.Proofs.Ytmohloamoalmgaa
