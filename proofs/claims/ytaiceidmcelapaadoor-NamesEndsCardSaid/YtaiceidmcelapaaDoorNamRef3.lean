/-
  The document's bits and extended, each by one contract.
-/
import Derived.Test.YtaiceidmcelapaaDoorNamRef2
set_option linter.unusedSimpArgs false
set_option linter.unusedVariables false
namespace Go.Proofs.YtaiceidmcelapaaDoor
open Go.RowKit

def x_turns : Tx := [82, 76, 67, 124, 82, 82, 67, 124, 82, 76, 124, 82, 82, 124, 83, 76, 65, 124, 83, 82, 65, 124, 83, 76, 76, 124, 83, 82, 76]
def x_acts : Tx := [124, 66, 73, 84, 32, 124, 82, 69, 83, 32, 124, 83, 69, 84, 32]
def x_many : Tx := [76, 68, 73, 124, 67, 80, 73, 124, 73, 78, 73, 124, 79, 85, 84, 73, 124, 76, 68, 68, 124, 67, 80, 68, 124, 73, 78, 68, 124, 79, 85, 84, 68, 124, 76, 68, 73, 82, 124, 67, 80, 73, 82, 124, 73, 78, 73, 82, 124, 79, 84, 73, 82, 124, 76, 68, 68, 82, 124, 67, 80, 68, 82, 124, 73, 78, 68, 82, 124, 79, 84, 68, 82]
def e_turns (k : Nat) : Tx := sg (rSplit x_turns 124) k
def e_acts (k : Nat) : Tx := sg (rSplit x_acts 124) k
def e_many (k : Nat) : Tx := sg (rSplit x_many 124) k
theorem len_turns : ∀ k < 8, (e_turns k).length ≤ 16 := by decide +kernel
theorem len_acts : ∀ k < 4, (e_acts k).length ≤ 16 := by decide +kernel
theorem len_many : ∀ k < 16, (e_many k).length ≤ 16 := by decide +kernel
theorem eight_piece (y : Nat) (hy : y < 8) : (ByteArray.mk #[48, 49, 50, 51, 52, 53, 54, 55]).extract y (y + 1) = ⟨[UInt8.ofNat (48 + y)].toArray⟩ := by
  obtain rfl | rfl | rfl | rfl | rfl | rfl | rfl | rfl : y = 0 ∨ y = 1 ∨ y = 2 ∨ y = 3 ∨ y = 4 ∨ y = 5 ∨ y = 6 ∨ y = 7 := by omega
  all_goals decide +kernel
theorem turns_el (w : World) : Calls Tryd.prog 45 #[.string ⟨x_turns.toArray⟩, .int .u8 124] w fun e w' => ∃ g cap, e = .returned (.slice (some ⟨g, 0, none⟩) 8 cap) ∧ (∀ k < 8, w'.cell? ⟨g, k, none⟩ = some (.string ⟨(e_turns k).toArray⟩)) ∧ Below w.heap.size w w' := by
  refine (rsplit_at x_turns 124 124 rfl (by decide) w).mono ?_
  rintro e w' ⟨v, rfl, ht, hb⟩
  obtain ⟨g, cap, rfl, hc⟩ := el_of (n := 8) ht (by decide +kernel)
  exact ⟨g, cap, rfl, hc, hb⟩
theorem acts_el (w : World) : Calls Tryd.prog 45 #[.string ⟨x_acts.toArray⟩, .int .u8 124] w fun e w' => ∃ g cap, e = .returned (.slice (some ⟨g, 0, none⟩) 4 cap) ∧ (∀ k < 4, w'.cell? ⟨g, k, none⟩ = some (.string ⟨(e_acts k).toArray⟩)) ∧ Below w.heap.size w w' := by
  refine (rsplit_at x_acts 124 124 rfl (by decide) w).mono ?_
  rintro e w' ⟨v, rfl, ht, hb⟩
  obtain ⟨g, cap, rfl, hc⟩ := el_of (n := 4) ht (by decide +kernel)
  exact ⟨g, cap, rfl, hc, hb⟩
theorem rmany_el (w : World) : Calls Tryd.prog 45 #[.string ⟨x_many.toArray⟩, .int .u8 124] w fun e w' => ∃ g cap, e = .returned (.slice (some ⟨g, 0, none⟩) 16 cap) ∧ (∀ k < 16, w'.cell? ⟨g, k, none⟩ = some (.string ⟨(e_many k).toArray⟩)) ∧ Below w.heap.size w w' := by
  refine (rsplit_at x_many 124 124 rfl (by decide) w).mono ?_
  rintro e w' ⟨v, rfl, ht, hb⟩
  obtain ⟨g, cap, rfl, hc⟩ := el_of (n := 16) ht (by decide +kernel)
  exact ⟨g, cap, rfl, hc, hb⟩
set_option maxRecDepth 100000 in
set_option maxHeartbeats 3200000 in
theorem rbits_lo (n : Nat) (t : Tx) (ht : t.length ≤ 24) (hn : n < 64) (w : World) : Calls Tryd.prog 23 #[.int .u8 (n : Int), .string ⟨(t).toArray⟩] w fun e w' => e = .returned (.string ⟨(e_turns (n / 8) ++ ([32] ++ t)).toArray⟩) ∧ Below w.heap.size w w' := by
  obtain ⟨d, hd⟩ : ∃ d, d = n / 8 := ⟨_, rfl⟩
  have d7 : d < 8 := by omega
  have d8 : (d : Int) < 8 := by omega
  have l1 := len_turns d d7
  have qd1 : IntKind.u8.wrap ((n : Int).tdiv 8) = (d : Int) := by rw [Int.tdiv_eq_ediv_of_nonneg (by omega), IntKind.wrap_u8]; omega
  have qd2 : (n : Int) / 8 = (d : Int) := by omega
  have qd3 : IntKind.u8.wrap (d : Int) = (d : Int) := by rw [IntKind.wrap_u8]; omega
  rw [← hd]
  have n1 : (n : Int) < 64 := by omega
  clear hd hn
  have HM := Lib.hid (Own.start w)
  go_enter Tryd.func23, Tryd.ntmps23
  go_wp2_with (first
    | (go_at_call 45; refine (turns_el _).mono ?_; rintro e w2 ⟨g, cap, rfl, hc, hb⟩; have x0 := hc d d7;  (first | (have y := (hb.cell (block_lt_of_cell ca)).trans ca; clear ca; have ca := y; clear y) | skip); (first | (have ca := x0; clear x0) | skip);  clear hc; have HM' := Lib.hid (HM.out.call hb); clear HM hb; have HM := HM'; clear HM')
    | ((with_reducible apply own_cat); exact rfl; exact rfl; exact rfl; (first | assumption | decide | ((try simp only [List.length_append, List.length_cons, List.length_nil]); omega)); exact rfl; all_goals skip))
  all_goals go_ret
  all_goals exact ⟨rfl, Own.fin HM⟩
set_option maxRecDepth 100000 in
set_option maxHeartbeats 3200000 in
theorem rbits_hi (n : Nat) (t : Tx) (ht : t.length ≤ 24) (hn : 64 ≤ n) (h2 : n < 256) (w : World) : Calls Tryd.prog 23 #[.int .u8 (n : Int), .string ⟨(t).toArray⟩] w fun e w' => e = .returned (.string ⟨(e_acts (n / 64) ++ ([UInt8.ofNat (48 + n / 8 % 8)] ++ ([44] ++ t))).toArray⟩) ∧ Below w.heap.size w w' := by
  obtain ⟨d, hd⟩ : ∃ d, d = n / 8 := ⟨_, rfl⟩
  obtain ⟨y, hy⟩ : ∃ y, y = n / 8 % 8 := ⟨_, rfl⟩
  obtain ⟨x, hx⟩ : ∃ x, x = n / 64 := ⟨_, rfl⟩
  have x7 : x < 4 := by omega
  have y7 : y < 8 := by omega
  have x8 : (x : Int) < 4 := by omega
  have y8 : (y : Int) < 8 := by omega
  have l1 := len_acts x x7
  have qd1 : IntKind.u8.wrap ((n : Int).tdiv 8) = (d : Int) := by rw [Int.tdiv_eq_ediv_of_nonneg (by omega), IntKind.wrap_u8]; omega
  have qd2 : (n : Int) / 8 = (d : Int) := by omega
  have qd3 : IntKind.u8.wrap (d : Int) = (d : Int) := by rw [IntKind.wrap_u8]; omega
  have qx1 : IntKind.u8.wrap ((n : Int).tdiv 64) = (x : Int) := by rw [Int.tdiv_eq_ediv_of_nonneg (by omega), IntKind.wrap_u8]; omega
  have qx2 : (n : Int) / 64 = (x : Int) := by omega
  have qx3 : IntKind.u8.wrap (x : Int) = (x : Int) := by rw [IntKind.wrap_u8]; omega
  have ry1 : (d : Int).tmod 8 = (y : Int) := by rw [Int.tmod_eq_emod_of_nonneg (by omega)]; omega
  have ry2 : (d : Int) % 8 = (y : Int) := by omega
  rw [← hy, ← hx]
  obtain ⟨c, hc⟩ : ∃ c, c = UInt8.ofNat (48 + y) := ⟨_, rfl⟩
  have cx := eight_piece y y7
  rw [← hc] at cx
  rw [← hc]
  have n1 : (64 : Int) ≤ (n : Int) := by omega
  have n2 : (n : Int) < 256 := by omega
  have s1 : ¬ 9223372036854775807 < (e_acts x).length + 1 := by omega
  have s2 : ¬ 9223372036854775807 < (e_acts x).length + 1 + 1 := by omega
  have s3 : ¬ 9223372036854775807 < (e_acts x).length + 1 + 1 + t.length := by omega
  have yy1 : IntKind.u8.wrap ((y : Int) + 1) = (y : Int) + 1 := by rw [IntKind.wrap_u8]; omega
  have yy2 : (y : Int) + 1 ≤ 8 := by omega
  have yy3 : (0 : Int) ≤ (y : Int) + 1 := by omega
  have yy4 : (y : Int) ≤ (y : Int) + 1 := by omega
  clear hd hy hx hc hn h2
  have HM := Lib.hid (Own.start w)
  go_enter Tryd.func23, Tryd.ntmps23
  go_wp2_with fail
  have HM' := Lib.hid HM.out.drew
  clear HM; have HM := HM'; clear HM'
  go_region_with (first
    | (go_at_call 45; refine (acts_el _).mono ?_; rintro e w2 ⟨g, cap, rfl, hc, hb⟩; have x0 := hc x x7;  (first | (have y := (hb.cell (block_lt_of_cell ca)).trans ca; clear ca; have ca := y; clear y) | skip); (first | (have ca := x0; clear x0) | skip);  clear hc; have HM' := Lib.hid (HM.out.call hb); clear HM hb; have HM := HM'; clear HM'))
  all_goals go_wp2_with (first | ((with_reducible apply own_cat); exact rfl; exact rfl; exact rfl; (first | assumption | decide | ((try simp only [List.length_append, List.length_cons, List.length_nil]); omega)); exact rfl; all_goals skip))
  all_goals go_ret
  all_goals refine ⟨congrArg (fun b : ByteArray => Ending.returned (.string b)) (?_ : (_ : ByteArray) = _), Own.fin HM⟩
  all_goals simp only [str_append, List.append_assoc, List.cons_append, List.nil_append]
theorem rbits_at (n : Nat) (hn : n < 256) (t : Tx) (ht : t.length ≤ 24) (w : World) : Calls Tryd.prog 23 #[.int .u8 (n : Int), .string ⟨t.toArray⟩] w fun e w' => e = .returned (.string ⟨(rBits n t).toArray⟩) ∧ Below w.heap.size w w' := by
  by_cases h1 : n < 64
  · have e : rBits n t = e_turns (n / 8) ++ ([32] ++ t) := by rw [rBits, if_pos h1]; simp only [List.append_assoc]; rfl
    rw [e]; exact rbits_lo n t ht h1 w
  · have e : rBits n t = e_acts (n / 64) ++ ([UInt8.ofNat (48 + n / 8 % 8)] ++ ([44] ++ t)) := by rw [rBits, if_neg h1]; simp only [List.append_assoc]; rfl
    rw [e]; exact rbits_hi n t ht (by omega) hn w
set_option maxRecDepth 100000 in
set_option maxHeartbeats 3200000 in
theorem rext_a (n : Nat) (hn : n < 64) (w : World) : Calls Tryd.prog 25 #[.int .u8 (n : Int)] w fun e w' => e = .returned (.string ⟨([78, 79, 80]).toArray⟩) ∧ Below w.heap.size w w' := by
  have n1 : (n : Int) < 64 := by omega
  have HM := Lib.hid (Own.start w)
  go_enter Tryd.func25, Tryd.ntmps25
  go_wp2_with fail
  all_goals go_ret
  all_goals exact ⟨rfl, Own.fin HM⟩
set_option maxRecDepth 100000 in
set_option maxHeartbeats 3200000 in
theorem rext_b (n : Nat) (hn : 64 ≤ n) (h2 : n < 128) (w : World) : Calls Tryd.prog 25 #[.int .u8 (n : Int)] w fun e w' => e = .returned (.string ⟨(e_ext (n - 64)).toArray⟩) ∧ Below w.heap.size w w' := by
  obtain ⟨r, hr⟩ : ∃ r, r = n - 64 := ⟨_, rfl⟩
  have r7 : r < 64 := by omega
  have r8 : (r : Int) < 64 := by omega
  have e1 : (n : Int) - 64 = (r : Int) := by omega
  rw [← hr]
  have n1 : (64 : Int) ≤ (n : Int) := by omega
  have n2 : (n : Int) < 128 := by omega
  clear hr hn h2
  have HM := Lib.hid (Own.start w)
  go_enter Tryd.func25, Tryd.ntmps25
  go_wp2_with (first
    | (go_at_call 47; refine (ext_el _).mono ?_; rintro e w2 ⟨g, cap, rfl, hc, hb⟩; have x0 := hc r r7;  (first | (have y := (hb.cell (block_lt_of_cell ca)).trans ca; clear ca; have ca := y; clear y) | skip); (first | (have ca := x0; clear x0) | skip);  clear hc; have HM' := Lib.hid (HM.out.call hb); clear HM hb; have HM := HM'; clear HM'))
  all_goals go_ret
  all_goals exact ⟨rfl, Own.fin HM⟩
set_option maxRecDepth 100000 in
set_option maxHeartbeats 3200000 in
theorem rext_c (n : Nat) (hn : 128 ≤ n) (h2 : n < 160) (w : World) : Calls Tryd.prog 25 #[.int .u8 (n : Int)] w fun e w' => e = .returned (.string ⟨([78, 79, 80]).toArray⟩) ∧ Below w.heap.size w w' := by
  have n1 : (128 : Int) ≤ (n : Int) := by omega
  have n2 : (n : Int) < 160 := by omega
  have HM := Lib.hid (Own.start w)
  go_enter Tryd.func25, Tryd.ntmps25
  go_wp2_with fail
  all_goals go_ret
  all_goals exact ⟨rfl, Own.fin HM⟩
set_option maxRecDepth 100000 in
set_option maxHeartbeats 3200000 in
theorem rext_d (n : Nat) (hn : 160 ≤ n) (h2 : n < 192) (h3 : n % 8 < 4) (w : World) : Calls Tryd.prog 25 #[.int .u8 (n : Int)] w fun e w' => e = .returned (.string ⟨(e_many ((n - 160) / 8 * 4 + n % 8)).toArray⟩) ∧ Below w.heap.size w w' := by
  obtain ⟨r, hr⟩ : ∃ r, r = n - 160 := ⟨_, rfl⟩
  obtain ⟨q, hq⟩ : ∃ q, q = r / 8 := ⟨_, rfl⟩
  obtain ⟨m, hm⟩ : ∃ m, m = q * 4 := ⟨_, rfl⟩
  obtain ⟨b, hb⟩ : ∃ b, b = n % 8 := ⟨_, rfl⟩
  obtain ⟨i, hi⟩ : ∃ i, i = m + b := ⟨_, rfl⟩
  have i7 : i < 16 := by omega
  have i8 : (i : Int) < 16 := by omega
  have b8 : (b : Int) < 4 := by omega
  have e1 : (n : Int) - 160 = (r : Int) := by omega
  have qq1 : IntKind.u8.wrap ((r : Int).tdiv 8) = (q : Int) := by rw [Int.tdiv_eq_ediv_of_nonneg (by omega), IntKind.wrap_u8]; omega
  have qq2 : (r : Int) / 8 = (q : Int) := by omega
  have qq3 : IntKind.u8.wrap (q : Int) = (q : Int) := by rw [IntKind.wrap_u8]; omega
  have e2 : (q : Int) * 4 = (m : Int) := by omega
  have rb1 : (n : Int).tmod 8 = (b : Int) := by rw [Int.tmod_eq_emod_of_nonneg (by omega)]; omega
  have rb2 : (n : Int) % 8 = (b : Int) := by omega
  have e3 : (m : Int) + (b : Int) = (i : Int) := by omega
  have m8 : (m : Int) < 16 := by omega
  have q8 : (q : Int) < 4 := by omega
  have r9 : (r : Int) < 32 := by omega
  rw [← hr, ← hq, ← hm, ← hb, ← hi]
  have n1 : (160 : Int) ≤ (n : Int) := by omega
  have n2 : (n : Int) < 192 := by omega
  clear hr hq hm hb hi hn h2 h3
  have HM := Lib.hid (Own.start w)
  go_enter Tryd.func25, Tryd.ntmps25
  go_wp2_with (first
    | (go_at_call 45; refine (rmany_el _).mono ?_; rintro e w2 ⟨g, cap, rfl, hc, hb⟩; have x0 := hc i i7;  (first | (have y := (hb.cell (block_lt_of_cell ca)).trans ca; clear ca; have ca := y; clear y) | skip); (first | (have ca := x0; clear x0) | skip);  clear hc; have HM' := Lib.hid (HM.out.call hb); clear HM hb; have HM := HM'; clear HM'))
  all_goals go_ret
  all_goals exact ⟨rfl, Own.fin HM⟩
set_option maxRecDepth 100000 in
set_option maxHeartbeats 3200000 in
theorem rext_e (n : Nat) (hn : 160 ≤ n) (h2 : n < 192) (h3 : 4 ≤ n % 8) (w : World) : Calls Tryd.prog 25 #[.int .u8 (n : Int)] w fun e w' => e = .returned (.string ⟨([78, 79, 80]).toArray⟩) ∧ Below w.heap.size w w' := by
  obtain ⟨b, hb⟩ : ∃ b, b = n % 8 := ⟨_, rfl⟩
  have b8 : (4 : Int) ≤ (b : Int) := by omega
  have rb1 : (n : Int).tmod 8 = (b : Int) := by rw [Int.tmod_eq_emod_of_nonneg (by omega)]; omega
  have rb2 : (n : Int) % 8 = (b : Int) := by omega
  have n1 : (160 : Int) ≤ (n : Int) := by omega
  have n2 : (n : Int) < 192 := by omega
  clear hb hn h2 h3
  have HM := Lib.hid (Own.start w)
  go_enter Tryd.func25, Tryd.ntmps25
  go_wp2_with fail
  all_goals go_ret
  all_goals exact ⟨rfl, Own.fin HM⟩
set_option maxRecDepth 100000 in
set_option maxHeartbeats 3200000 in
theorem rext_f (n : Nat) (hn : 192 ≤ n) (h2 : n < 256) (w : World) : Calls Tryd.prog 25 #[.int .u8 (n : Int)] w fun e w' => e = .returned (.string ⟨([78, 79, 80]).toArray⟩) ∧ Below w.heap.size w w' := by
  have n1 : (192 : Int) ≤ (n : Int) := by omega
  have n2 : (n : Int) < 256 := by omega
  have HM := Lib.hid (Own.start w)
  go_enter Tryd.func25, Tryd.ntmps25
  go_wp2_with fail
  all_goals go_ret
  all_goals exact ⟨rfl, Own.fin HM⟩
theorem rext_at (n : Nat) (hn : n < 256) (w : World) : Calls Tryd.prog 25 #[.int .u8 (n : Int)] w fun e w' => e = .returned (.string ⟨(rExtended n).toArray⟩) ∧ Below w.heap.size w w' := by
  by_cases h1 : 64 ≤ n ∧ n < 128
  · have e : rExtended n = e_ext (n - 64) := by rw [rExtended, if_pos h1]; rfl
    rw [e]; exact rext_b n h1.1 h1.2 w
  · by_cases h2 : 160 ≤ n ∧ n < 192 ∧ n % 8 < 4
    · have e : rExtended n = e_many ((n - 160) / 8 * 4 + n % 8) := by rw [rExtended, if_neg h1, if_pos h2]; rfl
      rw [e]; exact rext_d n h2.1 h2.2.1 h2.2.2 w
    · have e : rExtended n = [78, 79, 80] := by rw [rExtended, if_neg h1, if_neg h2]
      rw [e]
      by_cases a : n < 64
      · exact rext_a n a w
      · by_cases b : n < 160
        · exact rext_c n (by omega) b w
        · by_cases c : n < 192
          · exact rext_e n (by omega) c (by omega) w
          · exact rext_f n (by omega) hn w
end Go.Proofs.YtaiceidmcelapaaDoor
