/-
  The laws DotsNames, DotsTimes, DotsCounts, DotsGo and DotsCover return true for every input, and write nothing.
-/
import Derived.Test.YtmohloamoalmgaaDotCode
namespace Go.Proofs.Ytmohloamoalmgaa
open Go.RowKit

theorem alive_any (w : World) : Calls Try.prog 8 #[] w fun e w' => e = .returned (.bool true) ∧ w = w' := by
  have hl : Hid ((228 : Int) % 59736 / 228 = 1) := by show (228 : Int) % 59736 / 228 = 1; decide +kernel
  have hd : Hid ((228 : Int) % 59736 % 228 * 3 / 2 = 0) := by show (228 : Int) % 59736 % 228 * 3 / 2 = 0; decide +kernel
  have hn : Hid (228 - (228 : Int) % 59736 % 228 = 228) := by show 228 - (228 : Int) % 59736 % 228 = 228; decide +kernel
  have hv : Hid (dV 1 = 1) := by show dV 1 = 1; decide +kernel
  have hh : Hid (dH 2 = 1) := by show dH 2 = 1; decide +kernel
  go_enter Try.func8, Try.ntmps8
  go_wp2_with (first | (go_at_call 13; first | ((with_reducible refine (line_n 228 1 hl _).mono ?_); rintro e w' ⟨rfl, rfl⟩)) | (go_at_call 14; first | ((with_reducible refine (dot_n 228 0 hd _).mono ?_); rintro e w' ⟨rfl, rfl⟩)) | (go_at_call 16; first | ((with_reducible refine (next_n 228 228 hn _).mono ?_); rintro e w' ⟨rfl, rfl⟩)) | (go_at_call 9; first | ((with_reducible refine (v_at 1 1 hv _).mono ?_); rintro e w' ⟨rfl, rfl⟩)) | (go_at_call 10; first | ((with_reducible refine (h_at 2 1 hh _).mono ?_); rintro e w' ⟨rfl, rfl⟩)))
  go_ret
  exact ⟨rfl, rfl⟩

theorem names_any (w : World) : Calls Try.prog 3 #[] w fun e w' => e = .returned (.bool true) ∧ Below w.heap.size w w' := by
  have hv0 : Hid (dV 218 = 218) := by show dV 218 = 218; decide +kernel
  have hv1 : Hid (dV 219 = 213) := by show dV 219 = 213; decide +kernel
  have hv2 : Hid (dV 261 = 255) := by show dV 261 = 255; decide +kernel
  have hv3 : Hid (dV 262 = 0) := by show dV 262 = 0; decide +kernel
  have hh0 : Hid (dH 295 = 147) := by show dH 295 = 147; decide +kernel
  have hh1 : Hid (dH 296 = 233) := by show dH 296 = 233; decide +kernel
  have hh2 : Hid (dH 341 = 255) := by show dH 341 = 255; decide +kernel
  have hh3 : Hid (dH 342 = 0) := by show dH 342 = 0; decide +kernel
  have hs0 : Hid (dS (261) = 59508) := by show dS (261) = 59508; decide +kernel
  have hs1 : Hid (dS (262) = -1) := by show dS (262) = -1; decide +kernel
  have hs2 : Hid (dS (-1) = -1) := by show dS (-1) = -1; decide +kernel
  go_enter Try.func3, Try.ntmps3
  go_wp2_with (first | (go_at_call 8; (with_reducible refine (alive_any _).mono ?_); rintro e w' ⟨rfl, rfl⟩) | (go_at_call 9; first | ((with_reducible refine (v_at 218 (218) hv0 _).mono ?_); rintro e w' ⟨rfl, rfl⟩) | ((with_reducible refine (v_at 219 (213) hv1 _).mono ?_); rintro e w' ⟨rfl, rfl⟩) | ((with_reducible refine (v_at 261 (255) hv2 _).mono ?_); rintro e w' ⟨rfl, rfl⟩) | ((with_reducible refine (v_at 262 (0) hv3 _).mono ?_); rintro e w' ⟨rfl, rfl⟩)) | (go_at_call 10; first | ((with_reducible refine (h_at 295 (147) hh0 _).mono ?_); rintro e w' ⟨rfl, rfl⟩) | ((with_reducible refine (h_at 296 (233) hh1 _).mono ?_); rintro e w' ⟨rfl, rfl⟩) | ((with_reducible refine (h_at 341 (255) hh2 _).mono ?_); rintro e w' ⟨rfl, rfl⟩) | ((with_reducible refine (h_at 342 (0) hh3 _).mono ?_); rintro e w' ⟨rfl, rfl⟩)) | (go_at_call 11; first | ((with_reducible refine (start_at 261 (59508) hs0 _).mono ?_); rintro e w' ⟨rfl, rfl⟩) | ((with_reducible refine (start_at 262 (-1) hs1 _).mono ?_); rintro e w' ⟨rfl, rfl⟩) | ((with_reducible refine (start_at (-1) (-1) hs2 _).mono ?_); rintro e w' ⟨rfl, rfl⟩)))
  go_ret
  exact ⟨rfl, Below.refl _ _⟩

theorem times_any (t : Int) (w : World) : Calls Try.prog 4 #[.int .i64 t] w fun e w' => e = .returned (.bool true) ∧ Below w.heap.size w w' := by
  obtain ⟨f, hf⟩ : ∃ f, Hid (t % 59736 = f) := ⟨_, rfl⟩
  have h1 : 0 ≤ f := by have := hf.out; omega
  have h2 : f < 59736 := by have := hf.out; omega
  obtain ⟨l, hl⟩ : ∃ l, Hid (t % 59736 / 228 = l) := ⟨_, rfl⟩
  obtain ⟨d, hd⟩ : ∃ d, Hid (t % 59736 % 228 * 3 / 2 = d) := ⟨_, rfl⟩
  obtain ⟨n, hn⟩ : ∃ n, Hid (228 - t % 59736 % 228 = n) := ⟨_, rfl⟩
  have e : f / 228 = l := by have := hl.out; rw [hf.out] at this; exact this
  have l1 : 0 ≤ l := by omega
  have l2 : l < 262 := by omega
  have en : 228 * (l + 1) - f = n := by have := hn.out; rw [hf.out] at this; omega
  have hs : Hid (dS l = 228 * l) := by show dS l = _; unfold dS; rw [if_pos ⟨l1, l2⟩]
  clear e
  go_enter Try.func4, Try.ntmps4
  go_wp2_with (first | (go_at_call 8; (with_reducible refine (alive_any _).mono ?_); rintro e w' ⟨rfl, rfl⟩) | (go_at_call 12; first | ((with_reducible refine (rline_n t l hl _).mono ?_); rintro e w' ⟨rfl, rfl⟩)) | (go_at_call 13; first | ((with_reducible refine (line_n t l hl _).mono ?_); rintro e w' ⟨rfl, rfl⟩)) | (go_at_call 14; first | ((with_reducible refine (dot_n t d hd _).mono ?_); rintro e w' ⟨rfl, rfl⟩)) | (go_at_call 15; first | ((with_reducible refine (rdot_n t d hd _).mono ?_); rintro e w' ⟨rfl, rfl⟩)) | (go_at_call 11; first | ((with_reducible refine (start_at l (228 * l) hs _).mono ?_); rintro e w' ⟨rfl, rfl⟩)) | (go_at_call 16; first | ((with_reducible refine (next_n t n hn _).mono ?_); rintro e w' ⟨rfl, rfl⟩)) | (go_at_call 17; first | ((with_reducible refine (modulo_at t f hf _).mono ?_); rintro e w' ⟨rfl, rfl⟩)))
  go_ret
  exact ⟨rfl, Below.refl _ _⟩

theorem counts_any (l d : Int) (w : World) : Calls Try.prog 5 #[.int .i64 l, .int .i64 d] w fun e w' => e = .returned (.bool true) ∧ Below w.heap.size w w' := by
  obtain ⟨v, hv⟩ : ∃ v, Hid (dV l = v) := ⟨_, rfl⟩
  obtain ⟨h, hh⟩ : ∃ h, Hid (dH d = h) := ⟨_, rfl⟩
  go_enter Try.func5, Try.ntmps5
  go_wp2_with (first | (go_at_call 8; (with_reducible refine (alive_any _).mono ?_); rintro e w' ⟨rfl, rfl⟩) | (go_at_call 9; first | ((with_reducible refine (v_at l v hv _).mono ?_); rintro e w' ⟨rfl, rfl⟩)) | (go_at_call 18; first | ((with_reducible refine (rv_at l v hv _).mono ?_); rintro e w' ⟨rfl, rfl⟩)) | (go_at_call 10; first | ((with_reducible refine (h_at d h hh _).mono ?_); rintro e w' ⟨rfl, rfl⟩)) | (go_at_call 19; first | ((with_reducible refine (rh_at d h hh _).mono ?_); rintro e w' ⟨rfl, rfl⟩)))
  go_ret
  exact ⟨rfl, Below.refl _ _⟩

end Go.Proofs.Ytmohloamoalmgaa
