/-
  The document's Pattern, by one contract.
-/
import Derived.Test.YtaiceidmcelapaaDoorNamRef4
set_option linter.unusedSimpArgs false
set_option linter.unusedVariables false
namespace Go.Proofs.YtaiceidmcelapaaDoor
open Go.RowKit

set_option maxRecDepth 100000 in
set_option maxHeartbeats 3200000 in
theorem rpat_0 (n : Nat) (hn : n < 256) (w : World) : Calls Tryd.prog 11 #[.int .i64 0, .int .u8 (n : Int)] w fun e w' => e = .returned (.string ⟨(rPlain n).toArray⟩) ∧ Below w.heap.size w w' := by
  have HM := Lib.hid (Own.start w)
  go_enter Tryd.func11, Tryd.ntmps11
  go_wp2_with (first
    | (go_at_call 22; (with_reducible refine (rplain_at n hn _).mono ?_); rintro e w' ⟨rfl, hb⟩; have HM' := Lib.hid (HM.out.call hb); clear HM hb; have HM := HM'; clear HM'))
  all_goals go_ret
  all_goals exact ⟨rfl, Own.fin HM⟩
set_option maxRecDepth 100000 in
set_option maxHeartbeats 3200000 in
theorem rpat_1 (n : Nat) (hn : n < 256) (w : World) : Calls Tryd.prog 11 #[.int .i64 1, .int .u8 (n : Int)] w fun e w' => e = .returned (.string ⟨(rBits n (e_ones (n % 8))).toArray⟩) ∧ Below w.heap.size w w' := by
  obtain ⟨b, hb⟩ : ∃ b, b = n % 8 := ⟨_, rfl⟩
  have b7 : b < 8 := by omega
  have b8 : (b : Int) < 8 := by omega
  have lb := len_ones b b7
  have rb1 : (n : Int).tmod 8 = (b : Int) := by rw [Int.tmod_eq_emod_of_nonneg (by omega)]; omega
  have rb2 : (n : Int) % 8 = (b : Int) := by omega
  rw [← hb]
  have HB : Hid (∀ w, Calls Tryd.prog 23 #[.int .u8 (n : Int), .string ⟨(e_ones b).toArray⟩] w fun e w' => e = .returned (.string ⟨(rBits n (e_ones b)).toArray⟩) ∧ Below w.heap.size w w') := rbits_at n hn (e_ones b) (by omega)
  obtain ⟨z, hz⟩ : ∃ z, z = rBits n (e_ones b) := ⟨_, rfl⟩
  rw [← hz] at HB
  rw [← hz]
  clear hb hz
  have HM := Lib.hid (Own.start w)
  go_enter Tryd.func11, Tryd.ntmps11
  go_wp2_with (first
    | (go_at_call 24; refine (ones_el _).mono ?_; rintro e w2 ⟨g, cap, rfl, hc, hb⟩; have x0 := hc b b7;  (first | (have y := (hb.cell (block_lt_of_cell ca)).trans ca; clear ca; have ca := y; clear y) | skip); (first | (have ca := x0; clear x0) | skip);  clear hc; have HM' := Lib.hid (HM.out.call hb); clear HM hb; have HM := HM'; clear HM')
    | (go_at_call 23; (with_reducible refine (HB.out _).mono ?_); rintro e w' ⟨rfl, hb⟩; have HM' := Lib.hid (HM.out.call hb); clear HM hb; have HM := HM'; clear HM'))
  all_goals go_ret
  all_goals exact ⟨rfl, Own.fin HM⟩
set_option maxRecDepth 100000 in
set_option maxHeartbeats 3200000 in
theorem rpat_2 (n : Nat) (hn : n < 256) (w : World) : Calls Tryd.prog 11 #[.int .i64 2, .int .u8 (n : Int)] w fun e w' => e = .returned (.string ⟨(rExtended n).toArray⟩) ∧ Below w.heap.size w w' := by
  have HM := Lib.hid (Own.start w)
  go_enter Tryd.func11, Tryd.ntmps11
  go_wp2_with (first
    | (go_at_call 25; (with_reducible refine (rext_at n hn _).mono ?_); rintro e w' ⟨rfl, hb⟩; have HM' := Lib.hid (HM.out.call hb); clear HM hb; have HM := HM'; clear HM'))
  all_goals go_ret
  all_goals exact ⟨rfl, Own.fin HM⟩
set_option maxRecDepth 100000 in
set_option maxHeartbeats 3200000 in
theorem rpat_3 (n : Nat) (hn : n < 256) (w : World) : Calls Tryd.prog 11 #[.int .i64 3, .int .u8 (n : Int)] w fun e w' => e = .returned (.string ⟨(rIndexed n pIX).toArray⟩) ∧ Below w.heap.size w w' := by
  have HM := Lib.hid (Own.start w)
  go_enter Tryd.func11, Tryd.ntmps11
  go_wp2_with (first
    | (go_at_call 26; refine (indexed_at n hn [73, 88] (by decide) _).mono ?_; rintro e w' ⟨rfl, hb⟩; have HM' := Lib.hid (HM.out.call hb); clear HM hb; have HM := HM'; clear HM'))
  all_goals go_ret
  all_goals exact ⟨rfl, Own.fin HM⟩
set_option maxRecDepth 100000 in
set_option maxHeartbeats 3200000 in
theorem rpat_4 (n : Nat) (hn : n < 256) (w : World) : Calls Tryd.prog 11 #[.int .i64 4, .int .u8 (n : Int)] w fun e w' => e = .returned (.string ⟨(rIndexed n pIY).toArray⟩) ∧ Below w.heap.size w w' := by
  have HM := Lib.hid (Own.start w)
  go_enter Tryd.func11, Tryd.ntmps11
  go_wp2_with (first
    | (go_at_call 26; refine (indexed_at n hn [73, 89] (by decide) _).mono ?_; rintro e w' ⟨rfl, hb⟩; have HM' := Lib.hid (HM.out.call hb); clear HM hb; have HM := HM'; clear HM'))
  all_goals go_ret
  all_goals exact ⟨rfl, Own.fin HM⟩
theorem pidx5 (w : World) : (Instr.index 49 (.agg #[.string ⟨#[73, 88]⟩, .string ⟨#[73, 89]⟩]) (.int .i64 0)).run Tryd.prog w = .ok (.string ⟨#[73, 88]⟩) w := by kernel_rfl
theorem hlr5 : ∀ n < 256, (rBits n [40, 73, 88, 43, 100, 41]).length ≤ 60 := by decide +kernel
set_option maxRecDepth 100000 in
set_option maxHeartbeats 3200000 in
theorem rpat_5x (n : Nat) (hn : n < 256) (h1 : n / 64 = 1) (w : World) : Calls Tryd.prog 11 #[.int .i64 5, .int .u8 (n : Int)] w fun e w' => e = .returned (.string ⟨(rBits n [40, 73, 88, 43, 100, 41]).toArray⟩) ∧ Below w.heap.size w w' := by
  obtain ⟨x, hx⟩ : ∃ x, x = n / 64 := ⟨_, rfl⟩
  have x8 : (x : Int) < 4 := by omega
  have qx1 : IntKind.u8.wrap ((n : Int).tdiv 64) = (x : Int) := by rw [Int.tdiv_eq_ediv_of_nonneg (by omega), IntKind.wrap_u8]; omega
  have qx2 : (n : Int) / 64 = (x : Int) := by omega
  have qx3 : IntKind.u8.wrap (x : Int) = (x : Int) := by rw [IntKind.wrap_u8]; omega
  have HB : Hid (∀ w, Calls Tryd.prog 23 #[.int .u8 (n : Int), .string ⟨([40, 73, 88, 43, 100, 41]).toArray⟩] w fun e w' => e = .returned (.string ⟨(rBits n ([40, 73, 88, 43, 100, 41])).toArray⟩) ∧ Below w.heap.size w w') := rbits_at n hn ([40, 73, 88, 43, 100, 41]) (by decide)
  obtain ⟨z, hz⟩ : ∃ z, z = rBits n ([40, 73, 88, 43, 100, 41]) := ⟨_, rfl⟩
  rw [← hz] at HB
  rw [← hz]
  have g1 : ((x : Int) == 1) = true := by rw [beq_iff_eq]; omega
  have g3 : ((x : Int) != 1) = false := by rw [bne_eq_false_iff_eq]; omega
  have lz : z.length ≤ 60 := by rw [hz]; exact hlr5 n hn
  clear hx hz h1
  have HM := Lib.hid (Own.start w)
  go_enter Tryd.func11, Tryd.ntmps11
  go_wp2_with (first
    | ((with_reducible apply own_index); exact rfl; exact rfl; exact rfl; exact pidx5; exact rfl; all_goals skip)
    | ((with_reducible apply own_cat); exact rfl; exact rfl; exact rfl; (first | assumption | decide | ((try simp only [List.length_append, List.length_cons, List.length_nil]); omega)); exact rfl; all_goals skip)
    | (go_at_call 23; refine (HB.out _).mono ?_; rintro e w' ⟨rfl, hb⟩; have HM' := Lib.hid (HM.out.call hb); clear HM hb; have HM := HM'; clear HM'))
  all_goals go_ret
  all_goals exact ⟨rfl, Own.fin HM⟩
set_option maxRecDepth 100000 in
set_option maxHeartbeats 3200000 in
theorem rpat_5z (n : Nat) (hn : n < 256) (h1 : n / 64 ≠ 1) (h2 : n % 8 = 6) (w : World) : Calls Tryd.prog 11 #[.int .i64 5, .int .u8 (n : Int)] w fun e w' => e = .returned (.string ⟨(rBits n [40, 73, 88, 43, 100, 41]).toArray⟩) ∧ Below w.heap.size w w' := by
  obtain ⟨b, hb⟩ : ∃ b, b = n % 8 := ⟨_, rfl⟩
  have b7 : b < 8 := by omega
  have b8 : (b : Int) < 8 := by omega
  have lb := len_ones b b7
  have rb1 : (n : Int).tmod 8 = (b : Int) := by rw [Int.tmod_eq_emod_of_nonneg (by omega)]; omega
  have rb2 : (n : Int) % 8 = (b : Int) := by omega
  obtain ⟨x, hx⟩ : ∃ x, x = n / 64 := ⟨_, rfl⟩
  have x8 : (x : Int) < 4 := by omega
  have qx1 : IntKind.u8.wrap ((n : Int).tdiv 64) = (x : Int) := by rw [Int.tdiv_eq_ediv_of_nonneg (by omega), IntKind.wrap_u8]; omega
  have qx2 : (n : Int) / 64 = (x : Int) := by omega
  have qx3 : IntKind.u8.wrap (x : Int) = (x : Int) := by rw [IntKind.wrap_u8]; omega
  have HB : Hid (∀ w, Calls Tryd.prog 23 #[.int .u8 (n : Int), .string ⟨([40, 73, 88, 43, 100, 41]).toArray⟩] w fun e w' => e = .returned (.string ⟨(rBits n ([40, 73, 88, 43, 100, 41])).toArray⟩) ∧ Below w.heap.size w w') := rbits_at n hn ([40, 73, 88, 43, 100, 41]) (by decide)
  obtain ⟨z, hz⟩ : ∃ z, z = rBits n ([40, 73, 88, 43, 100, 41]) := ⟨_, rfl⟩
  rw [← hz] at HB
  rw [← hz]
  have g1 : ((x : Int) == 1) = false := by rw [beq_eq_false_iff_ne]; omega
  have g3 : ((x : Int) != 1) = true := by rw [bne_iff_ne]; omega
  have g2 : ((b : Int) == 6) = true := by rw [beq_iff_eq]; omega
  have g4 : ((b : Int) != 6) = false := by rw [bne_eq_false_iff_eq]; omega
  have lz : z.length ≤ 60 := by rw [hz]; exact hlr5 n hn
  clear hx hz h1 h2 hb
  have HM := Lib.hid (Own.start w)
  go_enter Tryd.func11, Tryd.ntmps11
  go_wp2_with (first
    | ((with_reducible apply own_index); exact rfl; exact rfl; exact rfl; exact pidx5; exact rfl; all_goals skip)
    | ((with_reducible apply own_cat); exact rfl; exact rfl; exact rfl; (first | assumption | decide | ((try simp only [List.length_append, List.length_cons, List.length_nil]); omega)); exact rfl; all_goals skip)
    | (go_at_call 23; refine (HB.out _).mono ?_; rintro e w' ⟨rfl, hb⟩; have HM' := Lib.hid (HM.out.call hb); clear HM hb; have HM := HM'; clear HM'))
  all_goals go_ret
  all_goals exact ⟨rfl, Own.fin HM⟩
set_option maxRecDepth 100000 in
set_option maxHeartbeats 3200000 in
theorem rpat_5n (n : Nat) (hn : n < 256) (h1 : n / 64 ≠ 1) (h2 : n % 8 ≠ 6) (w : World) : Calls Tryd.prog 11 #[.int .i64 5, .int .u8 (n : Int)] w fun e w' => e = .returned (.string ⟨(rBits n [40, 73, 88, 43, 100, 41] ++ ([44] ++ e_ones (n % 8))).toArray⟩) ∧ Below w.heap.size w w' := by
  obtain ⟨b, hb⟩ : ∃ b, b = n % 8 := ⟨_, rfl⟩
  have b7 : b < 8 := by omega
  have b8 : (b : Int) < 8 := by omega
  have lb := len_ones b b7
  have rb1 : (n : Int).tmod 8 = (b : Int) := by rw [Int.tmod_eq_emod_of_nonneg (by omega)]; omega
  have rb2 : (n : Int) % 8 = (b : Int) := by omega
  rw [← hb]
  obtain ⟨x, hx⟩ : ∃ x, x = n / 64 := ⟨_, rfl⟩
  have x8 : (x : Int) < 4 := by omega
  have qx1 : IntKind.u8.wrap ((n : Int).tdiv 64) = (x : Int) := by rw [Int.tdiv_eq_ediv_of_nonneg (by omega), IntKind.wrap_u8]; omega
  have qx2 : (n : Int) / 64 = (x : Int) := by omega
  have qx3 : IntKind.u8.wrap (x : Int) = (x : Int) := by rw [IntKind.wrap_u8]; omega
  have HB : Hid (∀ w, Calls Tryd.prog 23 #[.int .u8 (n : Int), .string ⟨([40, 73, 88, 43, 100, 41]).toArray⟩] w fun e w' => e = .returned (.string ⟨(rBits n ([40, 73, 88, 43, 100, 41])).toArray⟩) ∧ Below w.heap.size w w') := rbits_at n hn ([40, 73, 88, 43, 100, 41]) (by decide)
  obtain ⟨z, hz⟩ : ∃ z, z = rBits n ([40, 73, 88, 43, 100, 41]) := ⟨_, rfl⟩
  rw [← hz] at HB
  rw [← hz]
  have g1 : ((x : Int) == 1) = false := by rw [beq_eq_false_iff_ne]; omega
  have g3 : ((x : Int) != 1) = true := by rw [bne_iff_ne]; omega
  have g2 : ((b : Int) == 6) = false := by rw [beq_eq_false_iff_ne]; omega
  have g4 : ((b : Int) != 6) = true := by rw [bne_iff_ne]; omega
  have lz : z.length ≤ 60 := by rw [hz]; exact hlr5 n hn
  clear hx hz h1 h2 hb
  have HM := Lib.hid (Own.start w)
  go_enter Tryd.func11, Tryd.ntmps11
  go_wp2_with (first
    | ((with_reducible apply own_index); exact rfl; exact rfl; exact rfl; exact pidx5; exact rfl; all_goals skip)
    | ((with_reducible apply own_cat); exact rfl; exact rfl; exact rfl; (first | assumption | decide | ((try simp only [List.length_append, List.length_cons, List.length_nil]); omega)); exact rfl; all_goals skip)
    | (go_at_call 23; refine (HB.out _).mono ?_; rintro e w' ⟨rfl, hb⟩; have HM' := Lib.hid (HM.out.call hb); clear HM hb; have HM := HM'; clear HM')
    | (go_at_call 24; refine (ones_el _).mono ?_; rintro e w2 ⟨g, cap, rfl, hc, hb⟩; have x0 := hc b b7;  (first | (have y := (hb.cell (block_lt_of_cell ca)).trans ca; clear ca; have ca := y; clear y) | skip); (first | (have ca := x0; clear x0) | skip);  clear hc; have HM' := Lib.hid (HM.out.call hb); clear HM hb; have HM := HM'; clear HM'))
  all_goals go_ret
  all_goals exact ⟨rfl, Own.fin HM⟩
theorem pidx6 (w : World) : (Instr.index 49 (.agg #[.string ⟨#[73, 88]⟩, .string ⟨#[73, 89]⟩]) (.int .i64 1)).run Tryd.prog w = .ok (.string ⟨#[73, 89]⟩) w := by kernel_rfl
theorem hlr6 : ∀ n < 256, (rBits n [40, 73, 89, 43, 100, 41]).length ≤ 60 := by decide +kernel
set_option maxRecDepth 100000 in
set_option maxHeartbeats 3200000 in
theorem rpat_6x (n : Nat) (hn : n < 256) (h1 : n / 64 = 1) (w : World) : Calls Tryd.prog 11 #[.int .i64 6, .int .u8 (n : Int)] w fun e w' => e = .returned (.string ⟨(rBits n [40, 73, 89, 43, 100, 41]).toArray⟩) ∧ Below w.heap.size w w' := by
  obtain ⟨x, hx⟩ : ∃ x, x = n / 64 := ⟨_, rfl⟩
  have x8 : (x : Int) < 4 := by omega
  have qx1 : IntKind.u8.wrap ((n : Int).tdiv 64) = (x : Int) := by rw [Int.tdiv_eq_ediv_of_nonneg (by omega), IntKind.wrap_u8]; omega
  have qx2 : (n : Int) / 64 = (x : Int) := by omega
  have qx3 : IntKind.u8.wrap (x : Int) = (x : Int) := by rw [IntKind.wrap_u8]; omega
  have HB : Hid (∀ w, Calls Tryd.prog 23 #[.int .u8 (n : Int), .string ⟨([40, 73, 89, 43, 100, 41]).toArray⟩] w fun e w' => e = .returned (.string ⟨(rBits n ([40, 73, 89, 43, 100, 41])).toArray⟩) ∧ Below w.heap.size w w') := rbits_at n hn ([40, 73, 89, 43, 100, 41]) (by decide)
  obtain ⟨z, hz⟩ : ∃ z, z = rBits n ([40, 73, 89, 43, 100, 41]) := ⟨_, rfl⟩
  rw [← hz] at HB
  rw [← hz]
  have g1 : ((x : Int) == 1) = true := by rw [beq_iff_eq]; omega
  have g3 : ((x : Int) != 1) = false := by rw [bne_eq_false_iff_eq]; omega
  have lz : z.length ≤ 60 := by rw [hz]; exact hlr6 n hn
  clear hx hz h1
  have HM := Lib.hid (Own.start w)
  go_enter Tryd.func11, Tryd.ntmps11
  go_wp2_with (first
    | ((with_reducible apply own_index); exact rfl; exact rfl; exact rfl; exact pidx6; exact rfl; all_goals skip)
    | ((with_reducible apply own_cat); exact rfl; exact rfl; exact rfl; (first | assumption | decide | ((try simp only [List.length_append, List.length_cons, List.length_nil]); omega)); exact rfl; all_goals skip)
    | (go_at_call 23; refine (HB.out _).mono ?_; rintro e w' ⟨rfl, hb⟩; have HM' := Lib.hid (HM.out.call hb); clear HM hb; have HM := HM'; clear HM'))
  all_goals go_ret
  all_goals exact ⟨rfl, Own.fin HM⟩
set_option maxRecDepth 100000 in
set_option maxHeartbeats 3200000 in
theorem rpat_6z (n : Nat) (hn : n < 256) (h1 : n / 64 ≠ 1) (h2 : n % 8 = 6) (w : World) : Calls Tryd.prog 11 #[.int .i64 6, .int .u8 (n : Int)] w fun e w' => e = .returned (.string ⟨(rBits n [40, 73, 89, 43, 100, 41]).toArray⟩) ∧ Below w.heap.size w w' := by
  obtain ⟨b, hb⟩ : ∃ b, b = n % 8 := ⟨_, rfl⟩
  have b7 : b < 8 := by omega
  have b8 : (b : Int) < 8 := by omega
  have lb := len_ones b b7
  have rb1 : (n : Int).tmod 8 = (b : Int) := by rw [Int.tmod_eq_emod_of_nonneg (by omega)]; omega
  have rb2 : (n : Int) % 8 = (b : Int) := by omega
  obtain ⟨x, hx⟩ : ∃ x, x = n / 64 := ⟨_, rfl⟩
  have x8 : (x : Int) < 4 := by omega
  have qx1 : IntKind.u8.wrap ((n : Int).tdiv 64) = (x : Int) := by rw [Int.tdiv_eq_ediv_of_nonneg (by omega), IntKind.wrap_u8]; omega
  have qx2 : (n : Int) / 64 = (x : Int) := by omega
  have qx3 : IntKind.u8.wrap (x : Int) = (x : Int) := by rw [IntKind.wrap_u8]; omega
  have HB : Hid (∀ w, Calls Tryd.prog 23 #[.int .u8 (n : Int), .string ⟨([40, 73, 89, 43, 100, 41]).toArray⟩] w fun e w' => e = .returned (.string ⟨(rBits n ([40, 73, 89, 43, 100, 41])).toArray⟩) ∧ Below w.heap.size w w') := rbits_at n hn ([40, 73, 89, 43, 100, 41]) (by decide)
  obtain ⟨z, hz⟩ : ∃ z, z = rBits n ([40, 73, 89, 43, 100, 41]) := ⟨_, rfl⟩
  rw [← hz] at HB
  rw [← hz]
  have g1 : ((x : Int) == 1) = false := by rw [beq_eq_false_iff_ne]; omega
  have g3 : ((x : Int) != 1) = true := by rw [bne_iff_ne]; omega
  have g2 : ((b : Int) == 6) = true := by rw [beq_iff_eq]; omega
  have g4 : ((b : Int) != 6) = false := by rw [bne_eq_false_iff_eq]; omega
  have lz : z.length ≤ 60 := by rw [hz]; exact hlr6 n hn
  clear hx hz h1 h2 hb
  have HM := Lib.hid (Own.start w)
  go_enter Tryd.func11, Tryd.ntmps11
  go_wp2_with (first
    | ((with_reducible apply own_index); exact rfl; exact rfl; exact rfl; exact pidx6; exact rfl; all_goals skip)
    | ((with_reducible apply own_cat); exact rfl; exact rfl; exact rfl; (first | assumption | decide | ((try simp only [List.length_append, List.length_cons, List.length_nil]); omega)); exact rfl; all_goals skip)
    | (go_at_call 23; refine (HB.out _).mono ?_; rintro e w' ⟨rfl, hb⟩; have HM' := Lib.hid (HM.out.call hb); clear HM hb; have HM := HM'; clear HM'))
  all_goals go_ret
  all_goals exact ⟨rfl, Own.fin HM⟩
set_option maxRecDepth 100000 in
set_option maxHeartbeats 3200000 in
theorem rpat_6n (n : Nat) (hn : n < 256) (h1 : n / 64 ≠ 1) (h2 : n % 8 ≠ 6) (w : World) : Calls Tryd.prog 11 #[.int .i64 6, .int .u8 (n : Int)] w fun e w' => e = .returned (.string ⟨(rBits n [40, 73, 89, 43, 100, 41] ++ ([44] ++ e_ones (n % 8))).toArray⟩) ∧ Below w.heap.size w w' := by
  obtain ⟨b, hb⟩ : ∃ b, b = n % 8 := ⟨_, rfl⟩
  have b7 : b < 8 := by omega
  have b8 : (b : Int) < 8 := by omega
  have lb := len_ones b b7
  have rb1 : (n : Int).tmod 8 = (b : Int) := by rw [Int.tmod_eq_emod_of_nonneg (by omega)]; omega
  have rb2 : (n : Int) % 8 = (b : Int) := by omega
  rw [← hb]
  obtain ⟨x, hx⟩ : ∃ x, x = n / 64 := ⟨_, rfl⟩
  have x8 : (x : Int) < 4 := by omega
  have qx1 : IntKind.u8.wrap ((n : Int).tdiv 64) = (x : Int) := by rw [Int.tdiv_eq_ediv_of_nonneg (by omega), IntKind.wrap_u8]; omega
  have qx2 : (n : Int) / 64 = (x : Int) := by omega
  have qx3 : IntKind.u8.wrap (x : Int) = (x : Int) := by rw [IntKind.wrap_u8]; omega
  have HB : Hid (∀ w, Calls Tryd.prog 23 #[.int .u8 (n : Int), .string ⟨([40, 73, 89, 43, 100, 41]).toArray⟩] w fun e w' => e = .returned (.string ⟨(rBits n ([40, 73, 89, 43, 100, 41])).toArray⟩) ∧ Below w.heap.size w w') := rbits_at n hn ([40, 73, 89, 43, 100, 41]) (by decide)
  obtain ⟨z, hz⟩ : ∃ z, z = rBits n ([40, 73, 89, 43, 100, 41]) := ⟨_, rfl⟩
  rw [← hz] at HB
  rw [← hz]
  have g1 : ((x : Int) == 1) = false := by rw [beq_eq_false_iff_ne]; omega
  have g3 : ((x : Int) != 1) = true := by rw [bne_iff_ne]; omega
  have g2 : ((b : Int) == 6) = false := by rw [beq_eq_false_iff_ne]; omega
  have g4 : ((b : Int) != 6) = true := by rw [bne_iff_ne]; omega
  have lz : z.length ≤ 60 := by rw [hz]; exact hlr6 n hn
  clear hx hz h1 h2 hb
  have HM := Lib.hid (Own.start w)
  go_enter Tryd.func11, Tryd.ntmps11
  go_wp2_with (first
    | ((with_reducible apply own_index); exact rfl; exact rfl; exact rfl; exact pidx6; exact rfl; all_goals skip)
    | ((with_reducible apply own_cat); exact rfl; exact rfl; exact rfl; (first | assumption | decide | ((try simp only [List.length_append, List.length_cons, List.length_nil]); omega)); exact rfl; all_goals skip)
    | (go_at_call 23; refine (HB.out _).mono ?_; rintro e w' ⟨rfl, hb⟩; have HM' := Lib.hid (HM.out.call hb); clear HM hb; have HM := HM'; clear HM')
    | (go_at_call 24; refine (ones_el _).mono ?_; rintro e w2 ⟨g, cap, rfl, hc, hb⟩; have x0 := hc b b7;  (first | (have y := (hb.cell (block_lt_of_cell ca)).trans ca; clear ca; have ca := y; clear y) | skip); (first | (have ca := x0; clear x0) | skip);  clear hc; have HM' := Lib.hid (HM.out.call hb); clear HM hb; have HM := HM'; clear HM'))
  all_goals go_ret
  all_goals exact ⟨rfl, Own.fin HM⟩
set_option maxRecDepth 100000 in
set_option maxHeartbeats 3200000 in
theorem rpat_x (n : Nat) (hn : n < 256) (page : Int) (h : page < 0 ∨ 6 < page) (w : World) : Calls Tryd.prog 11 #[.int .i64 page, .int .u8 (n : Int)] w fun e w' => e = .returned (.string ⟨(([] : Tx)).toArray⟩) ∧ Below w.heap.size w w' := by
  have g0 : (page == 0) = false := by rw [beq_eq_false_iff_ne]; omega
  have g1 : (page == 1) = false := by rw [beq_eq_false_iff_ne]; omega
  have g2 : (page == 2) = false := by rw [beq_eq_false_iff_ne]; omega
  have g3 : (page == 3) = false := by rw [beq_eq_false_iff_ne]; omega
  have g4 : (page == 4) = false := by rw [beq_eq_false_iff_ne]; omega
  have g5 : (page == 5) = false := by rw [beq_eq_false_iff_ne]; omega
  have g6 : (page == 6) = false := by rw [beq_eq_false_iff_ne]; omega
  have HM := Lib.hid (Own.start w)
  go_enter Tryd.func11, Tryd.ntmps11
  go_wp2_with fail
  all_goals go_ret
  all_goals exact ⟨rfl, Own.fin HM⟩
theorem rpat_at (page : Int) (n : Nat) (hn : n < 256) (w : World) : Calls Tryd.prog 11 #[.int .i64 page, .int .u8 (n : Int)] w fun e w' => e = .returned (.string ⟨(rPat page n).toArray⟩) ∧ Below w.heap.size w w' := by
  by_cases h : page < 0 ∨ 6 < page
  · have e : rPat page n = [] := by
      rw [rPat, if_neg (by omega), if_neg (by omega), if_neg (by omega), if_neg (by omega), if_neg (by omega), if_neg (by omega)]
    rw [e]
    exact rpat_x n hn page h w
  · obtain rfl | rfl | rfl | rfl | rfl | rfl | rfl : page = 0 ∨ page = 1 ∨ page = 2 ∨ page = 3 ∨ page = 4 ∨ page = 5 ∨ page = 6 := by omega
    · exact rpat_0 n hn w
    · exact rpat_1 n hn w
    · exact rpat_2 n hn w
    · exact rpat_3 n hn w
    · exact rpat_4 n hn w
    · by_cases h1 : n / 64 = 1
      · have e : rPat 5 n = rBits n [40, 73, 88, 43, 100, 41] := by
          show (if n / 64 ≠ 1 ∧ n % 8 ≠ 6 then rBits n [40, 73, 88, 43, 100, 41] ++ [44] ++ sg rOnes (n % 8) else rBits n [40, 73, 88, 43, 100, 41]) = _
          rw [if_neg (fun h => h.1 h1)]
        rw [e]; exact rpat_5x n hn h1 w
      · by_cases h2 : n % 8 = 6
        · have e : rPat 5 n = rBits n [40, 73, 88, 43, 100, 41] := by
            show (if n / 64 ≠ 1 ∧ n % 8 ≠ 6 then rBits n [40, 73, 88, 43, 100, 41] ++ [44] ++ sg rOnes (n % 8) else rBits n [40, 73, 88, 43, 100, 41]) = _
            rw [if_neg (fun h => h.2 h2)]
          rw [e]; exact rpat_5z n hn h1 h2 w
        · have e : rPat 5 n = rBits n [40, 73, 88, 43, 100, 41] ++ ([44] ++ e_ones (n % 8)) := by
            show (if n / 64 ≠ 1 ∧ n % 8 ≠ 6 then rBits n [40, 73, 88, 43, 100, 41] ++ [44] ++ sg rOnes (n % 8) else rBits n [40, 73, 88, 43, 100, 41]) = _
            rw [if_pos ⟨h1, h2⟩, List.append_assoc]; rfl
          rw [e]; exact rpat_5n n hn h1 h2 w
    · by_cases h1 : n / 64 = 1
      · have e : rPat 6 n = rBits n [40, 73, 89, 43, 100, 41] := by
          show (if n / 64 ≠ 1 ∧ n % 8 ≠ 6 then rBits n [40, 73, 89, 43, 100, 41] ++ [44] ++ sg rOnes (n % 8) else rBits n [40, 73, 89, 43, 100, 41]) = _
          rw [if_neg (fun h => h.1 h1)]
        rw [e]; exact rpat_6x n hn h1 w
      · by_cases h2 : n % 8 = 6
        · have e : rPat 6 n = rBits n [40, 73, 89, 43, 100, 41] := by
            show (if n / 64 ≠ 1 ∧ n % 8 ≠ 6 then rBits n [40, 73, 89, 43, 100, 41] ++ [44] ++ sg rOnes (n % 8) else rBits n [40, 73, 89, 43, 100, 41]) = _
            rw [if_neg (fun h => h.2 h2)]
          rw [e]; exact rpat_6z n hn h1 h2 w
        · have e : rPat 6 n = rBits n [40, 73, 89, 43, 100, 41] ++ ([44] ++ e_ones (n % 8)) := by
            show (if n / 64 ≠ 1 ∧ n % 8 ≠ 6 then rBits n [40, 73, 89, 43, 100, 41] ++ [44] ++ sg rOnes (n % 8) else rBits n [40, 73, 89, 43, 100, 41]) = _
            rw [if_pos ⟨h1, h2⟩, List.append_assoc]; rfl
          rw [e]; exact rpat_6n n hn h1 h2 w
end Go.Proofs.YtaiceidmcelapaaDoor
