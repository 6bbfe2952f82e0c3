/-
  The laws ToneBeats and ToneRuns return true for every tone, and write nothing that was there.
-/
import Derived.Test.YtbhbhlnbefdlaaaToneUntil
namespace Go.Proofs.Ytbhbhlnbefdlaaa
open Go.RowKit

theorem run_beat (p c : Int) (o : Bool) (hp : 2 ≤ p) (hc : 1 ≤ c) (hc2 : c ≤ p) : runC p c p = c ∧ runO p c o p = !o ∧ runN p c p = 1 := by
  have hm : max c 1 = c := by omega
  have h1 : ¬ p < c := by omega
  have h2 : ¬ p < 2 := by omega
  have hd : (p - c) / p = 0 := Int.ediv_eq_zero_of_lt (by omega) (by omega)
  have hr : (p - c) % p = p - c := Int.emod_eq_of_lt (by omega) (by omega)
  unfold runC runO runN
  rw [hm, if_neg h1, if_neg h1, if_neg h1, if_neg h2, if_neg h2, if_neg h2, hd, hr]
  exact ⟨by omega, by simp, by omega⟩
theorem run_beats (p c : Int) (o : Bool) (hp : 2 ≤ p) (hc : 1 ≤ c) (hc2 : c ≤ p) : runC p c (2 * p) = c ∧ runO p c o (2 * p) = o ∧ runN p c (2 * p) = 2 := by
  have hm : max c 1 = c := by omega
  have h1 : ¬ 2 * p < c := by omega
  have h2 : ¬ p < 2 := by omega
  have hs : 2 * p - c = (p - c) + p * 1 := by omega
  have hd : (2 * p - c) / p = 1 := by rw [hs, Int.add_mul_ediv_left _ _ (by omega), Int.ediv_eq_zero_of_lt (by omega) (by omega)]; rfl
  have hr : (2 * p - c) % p = p - c := by rw [hs, Int.add_mul_emod_self_left]; exact Int.emod_eq_of_lt (by omega) (by omega)
  unfold runC runO runN
  rw [hm, if_neg h1, if_neg h1, if_neg h1, if_neg h2, if_neg h2, if_neg h2, hd, hr]
  exact ⟨by omega, by simp, by omega⟩

theorem tone_eq (d : Nat) (p c : Int) (o : Bool) (p' c' : Int) (o' : Bool) (w : World) :
    (Op.equalIn (d + 2) 25 (.agg #[.int .i64 p, .int .i64 c, .bool o]) (.agg #[.int .i64 p', .int .i64 c', .bool o'])).run Try.prog w = .ok (p == p' && (c == c' && o == o')) w := by
  have ei (a b : Int) (w : World) : (Op.equalIn (d + 1) 3 (.int .i64 a) (.int .i64 b)).run Try.prog w = .ok (a == b) w := run_equalIn_int w d 3 .i64 .i64 a b Try.underlying3
  have eb (a b : Bool) (w : World) : (Op.equalIn (d + 1) 4 (.bool a) (.bool b)).run Try.prog w = .ok (a == b) w := run_equalIn_bool w d 4 a b Try.underlying4
  rw [run_equalIn_struct w (d + 1) 25 _ _ Try.underlying25 (by kernel_rfl)]
  by_cases h0 : p = p' <;> by_cases h1 : c = c' <;> by_cases h2 : o = o' <;> simp [go_sem, ei, eb, h0, h1, h2]
theorem tone_same (p c : Int) (o : Bool) (w : World) :
    (Op.equalIn 10000 25 (.agg #[.int .i64 p, .int .i64 c, .bool o]) (.agg #[.int .i64 p, .int .i64 c, .bool o])).run Try.prog w = .ok true w := by
  have := tone_eq 9998 p c o p c o w
  simpa using this

set_option maxHeartbeats 1600000 in
theorem beats_out (p c : Int) (o : Bool) (h : rightB p c = false) (w : World) :
    Calls Try.prog 6 #[.agg #[.int .i64 p, .int .i64 c, .bool o]] w fun e w' => e = .returned (.bool true) ∧ Below w.heap.size w w' := by
  have H0 := Lib.hid (TOn.start w p c o)
  have HR := Lib.hid h
  clear h
  go_enter Try.func6, Try.ntmps6
  go_wp2_with (first
    | (go_at_call 7; refine (alive_any _).mono ?_; rintro e w1 ⟨rfl, hb⟩; have H1 := Lib.hid (H0.out.next hb); obtain ⟨c0, c1, c2⟩ := H1.out.cells; clear hb)
    | (go_at_call 8; refine (right_at p c o false HR.out _).mono ?_; rintro e w2 ⟨rfl, hb⟩; have H2 := Lib.hid (H1.out.next hb); obtain ⟨c0, c1, c2⟩ := H2.out.cells; clear hb))
  go_ret
  exact ⟨rfl, H2.out.2⟩

set_option maxHeartbeats 1600000 in
theorem beats_low (p c : Int) (o : Bool) (h : rightB p c = true) (hh : p < 2 ∨ c < 1 ∨ p < c) (w : World) :
    Calls Try.prog 6 #[.agg #[.int .i64 p, .int .i64 c, .bool o]] w fun e w' => e = .returned (.bool true) ∧ Below w.heap.size w w' := by
  have H0 := Lib.hid (TOn.start w p c o)
  have HR := Lib.hid h
  clear h
  rcases (show p < 2 ∨ (2 ≤ p ∧ c < 1) ∨ (2 ≤ p ∧ 1 ≤ c ∧ p < c) by omega) with h1 | ⟨h1, h2⟩ | ⟨h1, h2, h3⟩
  all_goals
    clear hh
    go_enter Try.func6, Try.ntmps6
    go_wp2_with (first
      | (go_at_call 7; refine (alive_any _).mono ?_; rintro e w1 ⟨rfl, hb⟩; have H1 := Lib.hid (H0.out.next hb); obtain ⟨c0, c1, c2⟩ := H1.out.cells; clear hb)
      | (go_at_call 8; refine (right_at p c o true HR.out _).mono ?_; rintro e w2 ⟨rfl, hb⟩; have H2 := Lib.hid (H1.out.next hb); obtain ⟨c0, c1, c2⟩ := H2.out.cells; clear hb))
    go_ret
    exact ⟨rfl, H2.out.2⟩

set_option maxHeartbeats 1600000 in
theorem beats_in (p c : Int) (o : Bool) (h : rightB p c = true) (hp : 2 ≤ p) (hc : 1 ≤ c) (hc2 : c ≤ p) (w : World) :
    Calls Try.prog 6 #[.agg #[.int .i64 p, .int .i64 c, .bool o]] w fun e w' => e = .returned (.bool true) ∧ Below w.heap.size w w' := by
  have H0 := Lib.hid (TOn.start w p c o)
  have HR := Lib.hid h
  rw [rightB_iff] at h
  have hp2 : p ≤ 1023 := h.2.1
  obtain ⟨O, hO⟩ : ∃ O, O = !o := ⟨_, rfl⟩
  have HB1 := Lib.hid (run_beat p c o hp hc hc2)
  rw [← hO] at HB1
  have R1 : 0 ≤ p := by omega
  have R2 : 0 ≤ c := by omega
  have R3 : c ≤ 1023 := by omega
  have R4 : p ≤ 1099511627776 := by omega
  have hno : (O != o) = true := by rw [hO]; cases o <;> rfl
  have hno2 : (O == o) = false := by rw [hO]; cases o <;> rfl
  clear hO
  have HB2 := Lib.hid (run_beats p c o hp hc hc2)
  clear h
  go_enter Try.func6, Try.ntmps6
  go_wp2_with (first
    | (go_at_call 7; refine (alive_any _).mono ?_; rintro e w1 ⟨rfl, hb⟩; have H1 := Lib.hid (H0.out.next hb); obtain ⟨c0, c1, c2⟩ := H1.out.cells; clear hb)
    | (go_at_call 8; refine (right_at p c o true HR.out _).mono ?_; rintro e w2 ⟨rfl, hb⟩; have H2 := Lib.hid (H1.out.next hb); obtain ⟨c0, c1, c2⟩ := H2.out.cells; clear hb))
  refine (run_at p c o R1 hp2 R2 R3 p R4 c O 1 HB1 _).mono ?_
  rintro e w4 ⟨rfl, hb⟩
  have H4 := Lib.hid (H2.out.next hb)
  obtain ⟨c0, c1, c2⟩ := H4.out.cells
  have l4 := H4.out.inside
  clear hb
  have A4 : Hid (ToneAt (w4.alloc (.cells #[.int .i64 p, .int .i64 c, .bool O] 25)) w4.heap.size p c O) := Whole.fresh _ _ [_, _, _]
  go_wp2_with fail
  refine (run_at p c o R1 hp2 R2 R3 (2 * p) (by omega) c o 2 HB2 _).mono ?_
  rintro e w5 ⟨rfl, hb⟩
  have H5 := Lib.hid ((H4.out.beside _).next hb)
  have A5 := A4.out.next hb
  clear c0 c1 c2 l4
  obtain ⟨c0, c1, c2⟩ := H5.out.cells
  obtain ⟨a0, a1, a2, -, -, -⟩ := A5.cells
  have l5 := H5.out.inside
  have m5 := A5.inside
  clear hb A5
  have hsame := tone_same p c o
  go_wp2_with fail
  go_ret
  exact ⟨rfl, (H5.out.beside _).2⟩

theorem beats_any (p c : Int) (o : Bool) (w : World) :
    Calls Try.prog 6 #[.agg #[.int .i64 p, .int .i64 c, .bool o]] w fun e w' => e = .returned (.bool true) ∧ Below w.heap.size w w' := by
  by_cases h : rightB p c = true
  · by_cases hh : p < 2 ∨ c < 1 ∨ p < c
    · exact beats_low p c o h hh w
    · exact beats_in p c o h (by omega) (by omega) (by omega) w
  · exact beats_out p c o (by simpa using h) w

end Go.Proofs.Ytbhbhlnbefdlaaa
