/-
  The document's plain, one contract.
-/
import Derived.Test.YtaiceidmcelapaaDoorNamLists
set_option linter.unusedSimpArgs false
set_option linter.unusedVariables false
namespace Go.Proofs.YtaiceidmcelapaaDoor
open Go.RowKit

theorem el_of {w : World} {v : Value} {L : List Tx} {n : Nat} (h : TextsIn w v L) (hn : L.length = n) : ∃ g cap, v = .slice (some ⟨g, 0, none⟩) n cap ∧ ∀ k < n, w.cell? ⟨g, k, none⟩ = some (.string ⟨(sg L k).toArray⟩) := by
  subst hn
  exact h
def x_eight : Tx := [65, 68, 68, 32, 65, 44, 124, 65, 68, 67, 32, 65, 44, 124, 83, 85, 66, 32, 124, 83, 66, 67, 32, 65, 44, 124, 65, 78, 68, 32, 124, 88, 79, 82, 32, 124, 79, 82, 32, 124, 67, 80, 32]
def e_first (k : Nat) : Tx := sg (rSplit x_first 124) k
def e_last (k : Nat) : Tx := sg (rSplit x_last 124) k
def e_ext (k : Nat) : Tx := sg (rSplit x_extended 124) k
def e_ones (k : Nat) : Tx := sg rOnes k
def e_eight (k : Nat) : Tx := sg (rSplit x_eight 124) k
theorem len_first : ∀ k < 64, (e_first k).length ≤ 16 := by decide +kernel
theorem len_last : ∀ k < 64, (e_last k).length ≤ 16 := by decide +kernel
theorem len_ext : ∀ k < 64, (e_ext k).length ≤ 16 := by decide +kernel
theorem len_ones : ∀ k < 8, (e_ones k).length ≤ 16 := by decide +kernel
theorem len_eight : ∀ k < 8, (e_eight k).length ≤ 16 := by decide +kernel
theorem first_el (w : World) : Calls Tryd.prog 44 #[] w fun e w' => ∃ g cap, e = .returned (.slice (some ⟨g, 0, none⟩) 64 cap) ∧ (∀ k < 64, w'.cell? ⟨g, k, none⟩ = some (.string ⟨(e_first k).toArray⟩)) ∧ Below w.heap.size w w' := by
  refine (first_in w).mono ?_
  rintro e w' ⟨v, rfl, ht, hb⟩
  obtain ⟨g, cap, rfl, hc⟩ := el_of (n := 64) ht (by decide +kernel)
  exact ⟨g, cap, rfl, hc, hb⟩
theorem last_el (w : World) : Calls Tryd.prog 46 #[] w fun e w' => ∃ g cap, e = .returned (.slice (some ⟨g, 0, none⟩) 64 cap) ∧ (∀ k < 64, w'.cell? ⟨g, k, none⟩ = some (.string ⟨(e_last k).toArray⟩)) ∧ Below w.heap.size w w' := by
  refine (last_in w).mono ?_
  rintro e w' ⟨v, rfl, ht, hb⟩
  obtain ⟨g, cap, rfl, hc⟩ := el_of (n := 64) ht (by decide +kernel)
  exact ⟨g, cap, rfl, hc, hb⟩
theorem ext_el (w : World) : Calls Tryd.prog 47 #[] w fun e w' => ∃ g cap, e = .returned (.slice (some ⟨g, 0, none⟩) 64 cap) ∧ (∀ k < 64, w'.cell? ⟨g, k, none⟩ = some (.string ⟨(e_ext k).toArray⟩)) ∧ Below w.heap.size w w' := by
  refine (ext_in w).mono ?_
  rintro e w' ⟨v, rfl, ht, hb⟩
  obtain ⟨g, cap, rfl, hc⟩ := el_of (n := 64) ht (by decide +kernel)
  exact ⟨g, cap, rfl, hc, hb⟩
theorem ones_el (w : World) : Calls Tryd.prog 24 #[] w fun e w' => ∃ g cap, e = .returned (.slice (some ⟨g, 0, none⟩) 8 cap) ∧ (∀ k < 8, w'.cell? ⟨g, k, none⟩ = some (.string ⟨(e_ones k).toArray⟩)) ∧ Below w.heap.size w w' := by
  refine (ones_in w).mono ?_
  rintro e w' ⟨v, rfl, ht, hb⟩
  obtain ⟨g, cap, rfl, hc⟩ := el_of (n := 8) ht (by decide +kernel)
  exact ⟨g, cap, rfl, hc, hb⟩
theorem eight_el (w : World) : Calls Tryd.prog 45 #[.string ⟨x_eight.toArray⟩, .int .u8 124] w fun e w' => ∃ g cap, e = .returned (.slice (some ⟨g, 0, none⟩) 8 cap) ∧ (∀ k < 8, w'.cell? ⟨g, k, none⟩ = some (.string ⟨(e_eight k).toArray⟩)) ∧ Below w.heap.size w w' := by
  refine (rsplit_at x_eight 124 124 rfl (by decide) w).mono ?_
  rintro e w' ⟨v, rfl, ht, hb⟩
  obtain ⟨g, cap, rfl, hc⟩ := el_of (n := 8) ht (by decide +kernel)
  exact ⟨g, cap, rfl, hc, hb⟩
set_option maxRecDepth 100000 in
set_option maxHeartbeats 3200000 in
theorem rplain_lo (n : Nat) (hn : n < 64) (w : World) : Calls Tryd.prog 22 #[.int .u8 (n : Int)] w fun e w' => e = .returned (.string ⟨(e_first n).toArray⟩) ∧ Below w.heap.size w w' := by
  have n1 : (n : Int) < 64 := by omega
  have HM := Lib.hid (Own.start w)
  go_enter Tryd.func22, Tryd.ntmps22
  go_wp2_with (first
    | (go_at_call 44; refine (first_el _).mono ?_; rintro e w2 ⟨g, cap, rfl, hc, hb⟩; have x0 := hc n hn;  (first | (have y := (hb.cell (block_lt_of_cell ca)).trans ca; clear ca; have ca := y; clear y) | skip); (first | (have ca := x0; clear x0) | skip);  clear hc; have HM' := Lib.hid (HM.out.call hb); clear HM hb; have HM := HM'; clear HM'))
  all_goals go_ret
  all_goals exact ⟨rfl, Own.fin HM⟩
set_option maxRecDepth 100000 in
set_option maxHeartbeats 3200000 in
theorem rplain_118  (w : World) : Calls Tryd.prog 22 #[.int .u8 118] w fun e w' => e = .returned (.string ⟨([72, 65, 76, 84]).toArray⟩) ∧ Below w.heap.size w w' := by
  have HM := Lib.hid (Own.start w)
  go_enter Tryd.func22, Tryd.ntmps22
  go_wp2_with fail
  all_goals go_ret
  all_goals exact ⟨rfl, Own.fin HM⟩
set_option maxRecDepth 100000 in
set_option maxHeartbeats 3200000 in
theorem rplain_hi (n : Nat) (hn : 192 ≤ n) (h2 : n < 256) (w : World) : Calls Tryd.prog 22 #[.int .u8 (n : Int)] w fun e w' => e = .returned (.string ⟨(e_last (n - 192)).toArray⟩) ∧ Below w.heap.size w w' := by
  have n1 : (192 : Int) ≤ (n : Int) := by omega
  have n2 : (n : Int) < 256 := by omega
  have g1 : ((n : Int) == 118) = false := by rw [beq_eq_false_iff_ne]; omega
  have e1 : (n : Int) - 192 = ((n - 192 : Nat) : Int) := by omega
  have n3 : ((n - 192 : Nat) : Int) < 64 := by omega
  have HM := Lib.hid (Own.start w)
  go_enter Tryd.func22, Tryd.ntmps22
  go_wp2_with (first
    | (go_at_call 46; refine (last_el _).mono ?_; rintro e w2 ⟨g, cap, rfl, hc, hb⟩; have x0 := hc (n - 192) (by omega);  (first | (have y := (hb.cell (block_lt_of_cell ca)).trans ca; clear ca; have ca := y; clear y) | skip); (first | (have ca := x0; clear x0) | skip);  clear hc; have HM' := Lib.hid (HM.out.call hb); clear HM hb; have HM := HM'; clear HM'))
  all_goals go_ret
  all_goals exact ⟨rfl, Own.fin HM⟩
set_option maxRecDepth 100000 in
set_option maxHeartbeats 3200000 in
theorem rplain_mid (n : Nat) (hn : 64 ≤ n) (h2 : n < 128) (h3 : n ≠ 118) (w : World) : Calls Tryd.prog 22 #[.int .u8 (n : Int)] w fun e w' => e = .returned (.string ⟨([76, 68, 32] ++ (e_ones (n / 8 % 8) ++ ([44] ++ e_ones (n % 8)))).toArray⟩) ∧ Below w.heap.size w w' := by
  obtain ⟨a, ha⟩ : ∃ a, a = n / 8 % 8 := ⟨_, rfl⟩
  obtain ⟨b, hb⟩ : ∃ b, b = n % 8 := ⟨_, rfl⟩
  obtain ⟨d, hd⟩ : ∃ d, d = n / 8 := ⟨_, rfl⟩
  have la := len_ones a (by omega)
  have lb := len_ones b (by omega)
  have a7 : a < 8 := by omega
  have b7 : b < 8 := by omega
  have a8 : (a : Int) < 8 := by omega
  have b8 : (b : Int) < 8 := by omega
  have e1 : IntKind.u8.wrap ((n : Int).tdiv 8) = (d : Int) := by rw [Int.tdiv_eq_ediv_of_nonneg (by omega), IntKind.wrap_u8]; omega
  have e2 : (n : Int) / 8 = (d : Int) := by omega
  have e3 : (d : Int).tmod 8 = (a : Int) := by rw [Int.tmod_eq_emod_of_nonneg (by omega)]; omega
  have e4 : (d : Int) % 8 = (a : Int) := by omega
  have e5 : (n : Int).tmod 8 = (b : Int) := by rw [Int.tmod_eq_emod_of_nonneg (by omega)]; omega
  have e6 : (n : Int) % 8 = (b : Int) := by omega
  have e7 : (n : Int) / 8 % 8 = (a : Int) := by omega
  have w1 : IntKind.u8.wrap (d : Int) = (d : Int) := by rw [IntKind.wrap_u8]; omega
  rw [← ha, ← hb]
  have n1 : (64 : Int) ≤ (n : Int) := by omega
  have n2 : (n : Int) < 128 := by omega
  have g1 : ((n : Int) == 118) = false := by rw [beq_eq_false_iff_ne]; omega
  clear ha hb hd hn h2 h3
  have s1 : ¬ 9223372036854775807 < 3 + (e_ones a).length := by omega
  have s2 : ¬ 9223372036854775807 < 3 + (e_ones a).length + 1 := by omega
  have s3 : ¬ 9223372036854775807 < 3 + (e_ones a).length + 1 + (e_ones b).length := by omega
  have HM := Lib.hid (Own.start w)
  go_enter Tryd.func22, Tryd.ntmps22
  go_wp2_with fail
  have HM' := Lib.hid HM.out.drew
  clear HM; have HM := HM'; clear HM'
  go_region_with (first
    | (go_at_call 24; refine (ones_el _).mono ?_; rintro e w2 ⟨g, cap, rfl, hc, hb⟩; have x0 := hc a a7; have x1 := hc b b7;  (first | (have y := (hb.cell (block_lt_of_cell ca)).trans ca; clear ca; have ca := y; clear y) | skip); (first | (have y := (hb.cell (block_lt_of_cell cb)).trans cb; clear cb; have cb := y; clear y) | skip); (first | (have ca := x0; clear x0) | skip); (first | (have cb := x1; clear x1) | skip);  clear hc; have HM' := Lib.hid (HM.out.call hb); clear HM hb; have HM := HM'; clear HM')
    | ((with_reducible apply own_cat); exact rfl; exact rfl; exact rfl; (first | assumption | decide | ((try simp only [List.length_append, List.length_cons, List.length_nil]); omega)); exact rfl; all_goals skip))
  all_goals go_wp2_with (first | ((with_reducible apply own_cat); exact rfl; exact rfl; exact rfl; (first | assumption | decide | ((try simp only [List.length_append, List.length_cons, List.length_nil]); omega)); exact rfl; all_goals skip))
  all_goals go_ret
  all_goals refine ⟨congrArg (fun b : ByteArray => Ending.returned (.string b)) (?_ : (_ : ByteArray) = _), Own.fin HM⟩
  all_goals simp only [str_append, List.append_assoc, List.cons_append, List.nil_append]
set_option maxRecDepth 100000 in
set_option maxHeartbeats 3200000 in
theorem rplain_sum (n : Nat) (hn : 128 ≤ n) (h2 : n < 192) (w : World) : Calls Tryd.prog 22 #[.int .u8 (n : Int)] w fun e w' => e = .returned (.string ⟨(e_eight (n / 8 % 8) ++ e_ones (n % 8)).toArray⟩) ∧ Below w.heap.size w w' := by
  obtain ⟨a, ha⟩ : ∃ a, a = n / 8 % 8 := ⟨_, rfl⟩
  obtain ⟨b, hb⟩ : ∃ b, b = n % 8 := ⟨_, rfl⟩
  obtain ⟨d, hd⟩ : ∃ d, d = n / 8 := ⟨_, rfl⟩
  have la := len_ones a (by omega)
  have lb := len_ones b (by omega)
  have a7 : a < 8 := by omega
  have b7 : b < 8 := by omega
  have a8 : (a : Int) < 8 := by omega
  have b8 : (b : Int) < 8 := by omega
  have e1 : IntKind.u8.wrap ((n : Int).tdiv 8) = (d : Int) := by rw [Int.tdiv_eq_ediv_of_nonneg (by omega), IntKind.wrap_u8]; omega
  have e2 : (n : Int) / 8 = (d : Int) := by omega
  have e3 : (d : Int).tmod 8 = (a : Int) := by rw [Int.tmod_eq_emod_of_nonneg (by omega)]; omega
  have e4 : (d : Int) % 8 = (a : Int) := by omega
  have e5 : (n : Int).tmod 8 = (b : Int) := by rw [Int.tmod_eq_emod_of_nonneg (by omega)]; omega
  have e6 : (n : Int) % 8 = (b : Int) := by omega
  have e7 : (n : Int) / 8 % 8 = (a : Int) := by omega
  have w1 : IntKind.u8.wrap (d : Int) = (d : Int) := by rw [IntKind.wrap_u8]; omega
  rw [← ha, ← hb]
  have lc := len_eight a (by omega)
  have n1 : (128 : Int) ≤ (n : Int) := by omega
  have n2 : (n : Int) < 192 := by omega
  have g1 : ((n : Int) == 118) = false := by rw [beq_eq_false_iff_ne]; omega
  clear ha hb hd hn h2
  have s1 : ¬ 9223372036854775807 < (e_eight a).length + (e_ones b).length := by omega
  have HM := Lib.hid (Own.start w)
  go_enter Tryd.func22, Tryd.ntmps22
  go_wp2_with fail
  have HM' := Lib.hid HM.out.drew
  clear HM; have HM := HM'; clear HM'
  go_region_with (first
    | (go_at_call 45; refine (eight_el _).mono ?_; rintro e w2 ⟨g, cap, rfl, hc, hb⟩; have x0 := hc a a7;  (first | (have y := (hb.cell (block_lt_of_cell ca)).trans ca; clear ca; have ca := y; clear y) | skip); (first | (have ca := x0; clear x0) | skip);  clear hc; have HM' := Lib.hid (HM.out.call hb); clear HM hb; have HM := HM'; clear HM')
    | (go_at_call 24; refine (ones_el _).mono ?_; rintro e w2 ⟨g, cap, rfl, hc, hb⟩; have x0 := hc b b7;  (first | (have y := (hb.cell (block_lt_of_cell ca)).trans ca; clear ca; have ca := y; clear y) | skip); (first | (have y := (hb.cell (block_lt_of_cell cb)).trans cb; clear cb; have cb := y; clear y) | skip); (first | (have cb := x0; clear x0) | skip);  clear hc; have HM' := Lib.hid (HM.out.call hb); clear HM hb; have HM := HM'; clear HM'))
  all_goals go_wp2_with (first | ((with_reducible apply own_cat); exact rfl; exact rfl; exact rfl; (first | assumption | decide | ((try simp only [List.length_append, List.length_cons, List.length_nil]); omega)); exact rfl; all_goals skip))
  all_goals go_ret
  all_goals refine ⟨congrArg (fun b : ByteArray => Ending.returned (.string b)) (?_ : (_ : ByteArray) = _), Own.fin HM⟩
  all_goals simp only [str_append, List.append_assoc, List.cons_append, List.nil_append]
theorem rplain_at (n : Nat) (hn : n < 256) (w : World) : Calls Tryd.prog 22 #[.int .u8 (n : Int)] w fun e w' => e = .returned (.string ⟨(rPlain n).toArray⟩) ∧ Below w.heap.size w w' := by
  by_cases h1 : n < 64
  · have e : rPlain n = e_first n := by rw [rPlain, if_pos h1]; rfl
    rw [e]; exact rplain_lo n h1 w
  · by_cases h2 : n = 118
    · subst h2; exact rplain_118 w
    · by_cases h3 : n < 128
      · have e : rPlain n = [76, 68, 32] ++ (e_ones (n / 8 % 8) ++ ([44] ++ e_ones (n % 8))) := by rw [rPlain, if_neg h1, if_neg h2, if_pos h3]; simp only [List.append_assoc]; rfl
        rw [e]; exact rplain_mid n (by omega) h3 h2 w
      · by_cases h4 : n < 192
        · have e : rPlain n = e_eight (n / 8 % 8) ++ e_ones (n % 8) := by rw [rPlain, if_neg h1, if_neg h2, if_neg h3, if_pos h4]; rfl
          rw [e]; exact rplain_sum n (by omega) h4 w
        · have e : rPlain n = e_last (n - 192) := by rw [rPlain, if_neg h1, if_neg h2, if_neg h3, if_neg h4]; rfl
          rw [e]; exact rplain_hi n (by omega) hn w
theorem len_plain : ∀ n < 256, (rPlain n).length ≤ 16 := by decide +kernel
end Go.Proofs.YtaiceidmcelapaaDoor
