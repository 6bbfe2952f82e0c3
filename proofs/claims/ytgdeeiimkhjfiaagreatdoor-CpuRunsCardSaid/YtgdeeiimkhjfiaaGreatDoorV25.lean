import Derived.Test.YtgdeeiimkhjfiaaGreatDoorV24
set_option maxRecDepth 100000
set_option maxHeartbeats 6400000
set_option linter.unusedSimpArgs false
set_option linter.unusedVariables false
namespace Go.Proofs.YtgdeeiimkhjfiaaGreatDoor
open Go.RowKit
section
variable {W0 w : World} {x b tq n c : Nat} {s : Cs} {ix : Bool} {pg : Int} {l : Zj}
theorem Zlb (n : Nat) (hn : n < 256) (w : World) : CB 20 #[.int .i64 0, .int .u8 (n : Int)] w (.string ⟨(Yh n).toArray⟩) := by
 have HM := Zb (Own.start w)
 go_enter Tryz.func20, Tryz.ntmps20
 go_wp2_with (first | (go_at_call 37; (with_reducible refine (zf n hn _).mono ?_); rintro e w' ⟨rfl, hb⟩; replace HM := Zb (HM.out.call hb); clear hb))
 all_goals go_ret
 all_goals exact ⟨rfl, Own.fin HM⟩
theorem Zlc (n : Nat) (hn : n < 256) (w : World) : CB 20 #[.int .i64 1, .int .u8 (n : Int)] w (.string ⟨(ZM n (Yi (n % 8))).toArray⟩) := by
 obtain ⟨b, hb⟩ : ∃ b, b = n % 8 := ⟨_, rfl⟩
 have b7 : b < 8 := by omega
 have b8 : (b : Int) < 8 := by omega
 have lb := len_ones b b7
 have rb1 : (n : Int).tmod 8 = (b : Int) := by rw [Int.tmod_eq_emod_of_nonneg (by omega)]; omega
 have rb2 : (n : Int) % 8 = (b : Int) := by omega
 rw [← hb]
 have HB : Hid (∀ w, Calls Tryz.prog 38 #[.int .u8 (n : Int), .string ⟨(Yi b).toArray⟩] w fun e w' => e = .returned (.string ⟨(ZM n (Yi b)).toArray⟩) ∧ Below w.heap.size w w') := Jb n hn (Yi b) (by omega)
 obtain ⟨z, hz⟩ : ∃ z, z = ZM n (Yi b) := ⟨_, rfl⟩
 rw [← hz] at HB
 rw [← hz]
 clear hb hz
 have HM := Zb (Own.start w)
 go_enter Tryz.func20, Tryz.ntmps20
 go_wp2_with (first | (go_at_call 39; refine (Vy _).mono ?_; rintro e w2 ⟨g, cap, rfl, hc, hb⟩; have x0 := hc b b7;  (first | (have y := (hb.cell (block_lt_of_cell ca)).trans ca; clear ca; have ca := y; clear y) | skip); (first | (have ca := x0; clear x0) | skip);  clear hc; replace HM := Zb (HM.out.call hb); clear hb) | (go_at_call 38; (with_reducible refine (HB.out _).mono ?_); rintro e w' ⟨rfl, hb⟩; replace HM := Zb (HM.out.call hb); clear hb))
 all_goals go_ret
 all_goals exact ⟨rfl, Own.fin HM⟩
theorem Zld (n : Nat) (hn : n < 256) (w : World) : CB 20 #[.int .i64 2, .int .u8 (n : Int)] w (.string ⟨(Yt n).toArray⟩) := by
 have HM := Zb (Own.start w)
 go_enter Tryz.func20, Tryz.ntmps20
 go_wp2_with (first | (go_at_call 40; (with_reducible refine (Ziw n hn _).mono ?_); rintro e w' ⟨rfl, hb⟩; replace HM := Zb (HM.out.call hb); clear hb))
 all_goals go_ret
 all_goals exact ⟨rfl, Own.fin HM⟩
theorem Zle (n : Nat) (hn : n < 256) (w : World) : CB 20 #[.int .i64 3, .int .u8 (n : Int)] w (.string ⟨(JB n pIX).toArray⟩) := by
 have HM := Zb (Own.start w)
 go_enter Tryz.func20, Tryz.ntmps20
 go_wp2_with (first | (go_at_call 41; refine (Ub n hn [73, 88] (by decide) _).mono ?_; rintro e w' ⟨rfl, hb⟩; replace HM := Zb (HM.out.call hb); clear hb))
 all_goals go_ret
 all_goals exact ⟨rfl, Own.fin HM⟩
theorem Zlf (n : Nat) (hn : n < 256) (w : World) : CB 20 #[.int .i64 4, .int .u8 (n : Int)] w (.string ⟨(JB n pIY).toArray⟩) := by
 have HM := Zb (Own.start w)
 go_enter Tryz.func20, Tryz.ntmps20
 go_wp2_with (first | (go_at_call 41; refine (Ub n hn [73, 89] (by decide) _).mono ?_; rintro e w' ⟨rfl, hb⟩; replace HM := Zb (HM.out.call hb); clear hb))
 all_goals go_ret
 all_goals exact ⟨rfl, Own.fin HM⟩
theorem pidx5 (w : World) : (Instr.index 61 (.agg #[.string ⟨#[73, 88]⟩, .string ⟨#[73, 89]⟩]) (.int .i64 0)).run Tryz.prog w = .ok (.string ⟨#[73, 88]⟩) w := by kernel_rfl
theorem hlr5 : ∀ n < 256, (ZM n [40, 73, 88, 43, 100, 41]).length ≤ 60 := by decide +kernel
theorem k25 {P : Prop} (h : P := by
 have HM := Zb (Own.start w)
 go_enter Tryz.func20, Tryz.ntmps20
 go_wp2_with (first | refine a59 ?_ | ((with_reducible apply ZQ); exact rfl; exact rfl; exact rfl; (first | assumption | decide | ((try simp only [List.length_append, List.length_cons, List.length_nil]); omega)); exact rfl) | (go_at_call 38; refine (HB.out _).mono ?_; rintro e w' ⟨rfl, hb⟩; replace HM := Zb (HM.out.call hb); clear hb))
 all_goals go_ret
 all_goals exact ⟨rfl, Own.fin HM⟩) : P := h
theorem Ziy (n : Nat) (hn : n < 256) (h1 : n / 64 = 1) (w : World) : CB 20 #[.int .i64 5, .int .u8 (n : Int)] w (.string ⟨(ZM n [40, 73, 88, 43, 100, 41]).toArray⟩) := by
 obtain ⟨x, hx⟩ : ∃ x, x = n / 64 := ⟨_, rfl⟩
 have x8 : (x : Int) < 4 := by omega
 have qx1 : IntKind.u8.wrap ((n : Int).tdiv 64) = (x : Int) := by rw [Int.tdiv_eq_ediv_of_nonneg (by omega), IntKind.wrap_u8]; omega
 have qx2 : (n : Int) / 64 = (x : Int) := by omega
 have qx3 : IntKind.u8.wrap (x : Int) = (x : Int) := by rw [IntKind.wrap_u8]; omega
 have HB : Hid (∀ w, Calls Tryz.prog 38 #[.int .u8 (n : Int), .string ⟨([40, 73, 88, 43, 100, 41]).toArray⟩] w fun e w' => e = .returned (.string ⟨(ZM n ([40, 73, 88, 43, 100, 41])).toArray⟩) ∧ Below w.heap.size w w') := Jb n hn ([40, 73, 88, 43, 100, 41]) (by decide)
 obtain ⟨z, hz⟩ : ∃ z, z = ZM n ([40, 73, 88, 43, 100, 41]) := ⟨_, rfl⟩
 rw [← hz] at HB
 rw [← hz]
 have g1 : ((x : Int) == 1) = true := by rw [beq_iff_eq]; omega
 have g3 : ((x : Int) != 1) = false := by rw [bne_eq_false_iff_eq]; omega
 have lz : z.length ≤ 60 := by rw [hz]; exact hlr5 n hn
 clear hx hz h1
 exact k25
theorem Ziz (n : Nat) (hn : n < 256) (h1 : n / 64 ≠ 1) (h2 : n % 8 = 6) (w : World) : CB 20 #[.int .i64 5, .int .u8 (n : Int)] w (.string ⟨(ZM n [40, 73, 88, 43, 100, 41]).toArray⟩) := by
 obtain ⟨b, hb⟩ : ∃ b, b = n % 8 := ⟨_, rfl⟩
 have b7 : b < 8 := by omega
 have b8 : (b : Int) < 8 := by omega
 have lb := len_ones b b7
 have rb1 : (n : Int).tmod 8 = (b : Int) := by rw [Int.tmod_eq_emod_of_nonneg (by omega)]; omega
 have rb2 : (n : Int) % 8 = (b : Int) := by omega
 obtain ⟨x, hx⟩ : ∃ x, x = n / 64 := ⟨_, rfl⟩
 have x8 : (x : Int) < 4 := by omega
 have qx1 : IntKind.u8.wrap ((n : Int).tdiv 64) = (x : Int) := by rw [Int.tdiv_eq_ediv_of_nonneg (by omega), IntKind.wrap_u8]; omega
 have qx2 : (n : Int) / 64 = (x : Int) := by omega
 have qx3 : IntKind.u8.wrap (x : Int) = (x : Int) := by rw [IntKind.wrap_u8]; omega
 have HB : Hid (∀ w, Calls Tryz.prog 38 #[.int .u8 (n : Int), .string ⟨([40, 73, 88, 43, 100, 41]).toArray⟩] w fun e w' => e = .returned (.string ⟨(ZM n ([40, 73, 88, 43, 100, 41])).toArray⟩) ∧ Below w.heap.size w w') := Jb n hn ([40, 73, 88, 43, 100, 41]) (by decide)
 obtain ⟨z, hz⟩ : ∃ z, z = ZM n ([40, 73, 88, 43, 100, 41]) := ⟨_, rfl⟩
 rw [← hz] at HB
 rw [← hz]
 have g1 : ((x : Int) == 1) = false := by rw [beq_eq_false_iff_ne]; omega
 have g3 : ((x : Int) != 1) = true := by rw [bne_iff_ne]; omega
 have g2 : ((b : Int) == 6) = true := by rw [beq_iff_eq]; omega
 have g4 : ((b : Int) != 6) = false := by rw [bne_eq_false_iff_eq]; omega
 have lz : z.length ≤ 60 := by rw [hz]; exact hlr5 n hn
 clear hx hz h1 h2 hb
 exact k25
theorem ZiA (n : Nat) (hn : n < 256) (h1 : n / 64 ≠ 1) (h2 : n % 8 ≠ 6) (w : World) : CB 20 #[.int .i64 5, .int .u8 (n : Int)] w (.string ⟨(ZM n [40, 73, 88, 43, 100, 41] ++ ([44] ++ Yi (n % 8))).toArray⟩) := by
 obtain ⟨b, hb⟩ : ∃ b, b = n % 8 := ⟨_, rfl⟩
 have b7 : b < 8 := by omega
 have b8 : (b : Int) < 8 := by omega
 have lb := len_ones b b7
 have rb1 : (n : Int).tmod 8 = (b : Int) := by rw [Int.tmod_eq_emod_of_nonneg (by omega)]; omega
 have rb2 : (n : Int) % 8 = (b : Int) := by omega
 rw [← hb]
 obtain ⟨x, hx⟩ : ∃ x, x = n / 64 := ⟨_, rfl⟩
 have x8 : (x : Int) < 4 := by omega
 have qx1 : IntKind.u8.wrap ((n : Int).tdiv 64) = (x : Int) := by rw [Int.tdiv_eq_ediv_of_nonneg (by omega), IntKind.wrap_u8]; omega
 have qx2 : (n : Int) / 64 = (x : Int) := by omega
 have qx3 : IntKind.u8.wrap (x : Int) = (x : Int) := by rw [IntKind.wrap_u8]; omega
 have HB : Hid (∀ w, Calls Tryz.prog 38 #[.int .u8 (n : Int), .string ⟨([40, 73, 88, 43, 100, 41]).toArray⟩] w fun e w' => e = .returned (.string ⟨(ZM n ([40, 73, 88, 43, 100, 41])).toArray⟩) ∧ Below w.heap.size w w') := Jb n hn ([40, 73, 88, 43, 100, 41]) (by decide)
 obtain ⟨z, hz⟩ : ∃ z, z = ZM n ([40, 73, 88, 43, 100, 41]) := ⟨_, rfl⟩
 rw [← hz] at HB
 rw [← hz]
 have g1 : ((x : Int) == 1) = false := by rw [beq_eq_false_iff_ne]; omega
 have g3 : ((x : Int) != 1) = true := by rw [bne_iff_ne]; omega
 have g2 : ((b : Int) == 6) = false := by rw [beq_eq_false_iff_ne]; omega
 have g4 : ((b : Int) != 6) = true := by rw [bne_iff_ne]; omega
 have lz : z.length ≤ 60 := by rw [hz]; exact hlr5 n hn
 clear hx hz h1 h2 hb
 have HM := Zb (Own.start w)
 go_enter Tryz.func20, Tryz.ntmps20
 go_wp2_with (first | refine a59 ?_ | ((with_reducible apply ZQ); exact rfl; exact rfl; exact rfl; (first | assumption | decide | ((try simp only [List.length_append, List.length_cons, List.length_nil]); omega)); exact rfl) | (go_at_call 38; refine (HB.out _).mono ?_; rintro e w' ⟨rfl, hb⟩; replace HM := Zb (HM.out.call hb); clear hb) | (go_at_call 39; refine (Vy _).mono ?_; rintro e w2 ⟨g, cap, rfl, hc, hb⟩; have x0 := hc b b7;  (first | (have y := (hb.cell (block_lt_of_cell ca)).trans ca; clear ca; have ca := y; clear y) | skip); (first | (have ca := x0; clear x0) | skip);  clear hc; replace HM := Zb (HM.out.call hb); clear hb))
 all_goals go_ret
 all_goals exact ⟨rfl, Own.fin HM⟩
theorem pidx6 (w : World) : (Instr.index 61 (.agg #[.string ⟨#[73, 88]⟩, .string ⟨#[73, 89]⟩]) (.int .i64 1)).run Tryz.prog w = .ok (.string ⟨#[73, 89]⟩) w := by kernel_rfl
theorem hlr6 : ∀ n < 256, (ZM n [40, 73, 89, 43, 100, 41]).length ≤ 60 := by decide +kernel
theorem k26 {P : Prop} (h : P := by
 have HM := Zb (Own.start w)
 go_enter Tryz.func20, Tryz.ntmps20
 go_wp2_with (first | refine a60 ?_ | ((with_reducible apply ZQ); exact rfl; exact rfl; exact rfl; (first | assumption | decide | ((try simp only [List.length_append, List.length_cons, List.length_nil]); omega)); exact rfl) | (go_at_call 38; refine (HB.out _).mono ?_; rintro e w' ⟨rfl, hb⟩; replace HM := Zb (HM.out.call hb); clear hb))
 all_goals go_ret
 all_goals exact ⟨rfl, Own.fin HM⟩) : P := h
theorem ZiB (n : Nat) (hn : n < 256) (h1 : n / 64 = 1) (w : World) : CB 20 #[.int .i64 6, .int .u8 (n : Int)] w (.string ⟨(ZM n [40, 73, 89, 43, 100, 41]).toArray⟩) := by
 obtain ⟨x, hx⟩ : ∃ x, x = n / 64 := ⟨_, rfl⟩
 have x8 : (x : Int) < 4 := by omega
 have qx1 : IntKind.u8.wrap ((n : Int).tdiv 64) = (x : Int) := by rw [Int.tdiv_eq_ediv_of_nonneg (by omega), IntKind.wrap_u8]; omega
 have qx2 : (n : Int) / 64 = (x : Int) := by omega
 have qx3 : IntKind.u8.wrap (x : Int) = (x : Int) := by rw [IntKind.wrap_u8]; omega
 have HB : Hid (∀ w, Calls Tryz.prog 38 #[.int .u8 (n : Int), .string ⟨([40, 73, 89, 43, 100, 41]).toArray⟩] w fun e w' => e = .returned (.string ⟨(ZM n ([40, 73, 89, 43, 100, 41])).toArray⟩) ∧ Below w.heap.size w w') := Jb n hn ([40, 73, 89, 43, 100, 41]) (by decide)
 obtain ⟨z, hz⟩ : ∃ z, z = ZM n ([40, 73, 89, 43, 100, 41]) := ⟨_, rfl⟩
 rw [← hz] at HB
 rw [← hz]
 have g1 : ((x : Int) == 1) = true := by rw [beq_iff_eq]; omega
 have g3 : ((x : Int) != 1) = false := by rw [bne_eq_false_iff_eq]; omega
 have lz : z.length ≤ 60 := by rw [hz]; exact hlr6 n hn
 clear hx hz h1
 exact k26
theorem ZiC (n : Nat) (hn : n < 256) (h1 : n / 64 ≠ 1) (h2 : n % 8 = 6) (w : World) : CB 20 #[.int .i64 6, .int .u8 (n : Int)] w (.string ⟨(ZM n [40, 73, 89, 43, 100, 41]).toArray⟩) := by
 obtain ⟨b, hb⟩ : ∃ b, b = n % 8 := ⟨_, rfl⟩
 have b7 : b < 8 := by omega
 have b8 : (b : Int) < 8 := by omega
 have lb := len_ones b b7
 have rb1 : (n : Int).tmod 8 = (b : Int) := by rw [Int.tmod_eq_emod_of_nonneg (by omega)]; omega
 have rb2 : (n : Int) % 8 = (b : Int) := by omega
 obtain ⟨x, hx⟩ : ∃ x, x = n / 64 := ⟨_, rfl⟩
 have x8 : (x : Int) < 4 := by omega
 have qx1 : IntKind.u8.wrap ((n : Int).tdiv 64) = (x : Int) := by rw [Int.tdiv_eq_ediv_of_nonneg (by omega), IntKind.wrap_u8]; omega
 have qx2 : (n : Int) / 64 = (x : Int) := by omega
 have qx3 : IntKind.u8.wrap (x : Int) = (x : Int) := by rw [IntKind.wrap_u8]; omega
 have HB : Hid (∀ w, Calls Tryz.prog 38 #[.int .u8 (n : Int), .string ⟨([40, 73, 89, 43, 100, 41]).toArray⟩] w fun e w' => e = .returned (.string ⟨(ZM n ([40, 73, 89, 43, 100, 41])).toArray⟩) ∧ Below w.heap.size w w') := Jb n hn ([40, 73, 89, 43, 100, 41]) (by decide)
 obtain ⟨z, hz⟩ : ∃ z, z = ZM n ([40, 73, 89, 43, 100, 41]) := ⟨_, rfl⟩
 rw [← hz] at HB
 rw [← hz]
 have g1 : ((x : Int) == 1) = false := by rw [beq_eq_false_iff_ne]; omega
 have g3 : ((x : Int) != 1) = true := by rw [bne_iff_ne]; omega
 have g2 : ((b : Int) == 6) = true := by rw [beq_iff_eq]; omega
 have g4 : ((b : Int) != 6) = false := by rw [bne_eq_false_iff_eq]; omega
 have lz : z.length ≤ 60 := by rw [hz]; exact hlr6 n hn
 clear hx hz h1 h2 hb
 exact k26
theorem ZiD (n : Nat) (hn : n < 256) (h1 : n / 64 ≠ 1) (h2 : n % 8 ≠ 6) (w : World) : CB 20 #[.int .i64 6, .int .u8 (n : Int)] w (.string ⟨(ZM n [40, 73, 89, 43, 100, 41] ++ ([44] ++ Yi (n % 8))).toArray⟩) := by
 obtain ⟨b, hb⟩ : ∃ b, b = n % 8 := ⟨_, rfl⟩
 have b7 : b < 8 := by omega
 have b8 : (b : Int) < 8 := by omega
 have lb := len_ones b b7
 have rb1 : (n : Int).tmod 8 = (b : Int) := by rw [Int.tmod_eq_emod_of_nonneg (by omega)]; omega
 have rb2 : (n : Int) % 8 = (b : Int) := by omega
 rw [← hb]
 obtain ⟨x, hx⟩ : ∃ x, x = n / 64 := ⟨_, rfl⟩
 have x8 : (x : Int) < 4 := by omega
 have qx1 : IntKind.u8.wrap ((n : Int).tdiv 64) = (x : Int) := by rw [Int.tdiv_eq_ediv_of_nonneg (by omega), IntKind.wrap_u8]; omega
 have qx2 : (n : Int) / 64 = (x : Int) := by omega
 have qx3 : IntKind.u8.wrap (x : Int) = (x : Int) := by rw [IntKind.wrap_u8]; omega
 have HB : Hid (∀ w, Calls Tryz.prog 38 #[.int .u8 (n : Int), .string ⟨([40, 73, 89, 43, 100, 41]).toArray⟩] w fun e w' => e = .returned (.string ⟨(ZM n ([40, 73, 89, 43, 100, 41])).toArray⟩) ∧ Below w.heap.size w w') := Jb n hn ([40, 73, 89, 43, 100, 41]) (by decide)
 obtain ⟨z, hz⟩ : ∃ z, z = ZM n ([40, 73, 89, 43, 100, 41]) := ⟨_, rfl⟩
 rw [← hz] at HB
 rw [← hz]
 have g1 : ((x : Int) == 1) = false := by rw [beq_eq_false_iff_ne]; omega
 have g3 : ((x : Int) != 1) = true := by rw [bne_iff_ne]; omega
 have g2 : ((b : Int) == 6) = false := by rw [beq_eq_false_iff_ne]; omega
 have g4 : ((b : Int) != 6) = true := by rw [bne_iff_ne]; omega
 have lz : z.length ≤ 60 := by rw [hz]; exact hlr6 n hn
 clear hx hz h1 h2 hb
 have HM := Zb (Own.start w)
 go_enter Tryz.func20, Tryz.ntmps20
 go_wp2_with (first | refine a60 ?_ | ((with_reducible apply ZQ); exact rfl; exact rfl; exact rfl; (first | assumption | decide | ((try simp only [List.length_append, List.length_cons, List.length_nil]); omega)); exact rfl) | (go_at_call 38; refine (HB.out _).mono ?_; rintro e w' ⟨rfl, hb⟩; replace HM := Zb (HM.out.call hb); clear hb) | (go_at_call 39; refine (Vy _).mono ?_; rintro e w2 ⟨g, cap, rfl, hc, hb⟩; have x0 := hc b b7;  (first | (have y := (hb.cell (block_lt_of_cell ca)).trans ca; clear ca; have ca := y; clear y) | skip); (first | (have ca := x0; clear x0) | skip);  clear hc; replace HM := Zb (HM.out.call hb); clear hb))
 all_goals go_ret
 all_goals exact ⟨rfl, Own.fin HM⟩
theorem Zlg (n : Nat) (hn : n < 256) (page : Int) (h : page < 0 ∨ 6 < page) (w : World) : CB 20 #[.int .i64 page, .int .u8 (n : Int)] w (.string ⟨(([] : Tx)).toArray⟩) := by
 have g0 : (page == 0) = false := by rw [beq_eq_false_iff_ne]; omega
 have g1 : (page == 1) = false := by rw [beq_eq_false_iff_ne]; omega
 have g2 : (page == 2) = false := by rw [beq_eq_false_iff_ne]; omega
 have g3 : (page == 3) = false := by rw [beq_eq_false_iff_ne]; omega
 have g4 : (page == 4) = false := by rw [beq_eq_false_iff_ne]; omega
 have g5 : (page == 5) = false := by rw [beq_eq_false_iff_ne]; omega
 have g6 : (page == 6) = false := by rw [beq_eq_false_iff_ne]; omega
 have HM := Zb (Own.start w)
 go_enter Tryz.func20, Tryz.ntmps20
 go_wp2_with fail
 all_goals go_ret
 all_goals exact ⟨rfl, Own.fin HM⟩
theorem ZiE (page : Int) (n : Nat) (hn : n < 256) (w : World) : CB 20 #[.int .i64 page, .int .u8 (n : Int)] w (.string ⟨(Zn page n).toArray⟩) := by
 by_cases h : page < 0 ∨ 6 < page
 ·have e : Zn page n = [] := by
   rw [Zn, if_neg (by omega), if_neg (by omega), if_neg (by omega), if_neg (by omega), if_neg (by omega), if_neg (by omega)]
  rw [e]
  exact Zlg n hn page h w
 ·obtain rfl | rfl | rfl | rfl | rfl | rfl | rfl : page = 0 ∨ page = 1 ∨ page = 2 ∨ page = 3 ∨ page = 4 ∨ page = 5 ∨ page = 6 := by omega
  ·exact Zlb n hn w
  ·exact Zlc n hn w
  ·exact Zld n hn w
  ·exact Zle n hn w
  ·exact Zlf n hn w
  ·by_cases h1 : n / 64 = 1
   ·have e : Zn 5 n = ZM n [40, 73, 88, 43, 100, 41] := by
     show (if n / 64 ≠ 1 ∧ n % 8 ≠ 6 then ZM n [40, 73, 88, 43, 100, 41] ++ [44] ++ sg rOnes (n % 8) else ZM n [40, 73, 88, 43, 100, 41]) = _
     rw [if_neg (fun h => h.1 h1)]
    rw [e]; exact Ziy n hn h1 w
   ·by_cases h2 : n % 8 = 6
    ·have e : Zn 5 n = ZM n [40, 73, 88, 43, 100, 41] := by
      show (if n / 64 ≠ 1 ∧ n % 8 ≠ 6 then ZM n [40, 73, 88, 43, 100, 41] ++ [44] ++ sg rOnes (n % 8) else ZM n [40, 73, 88, 43, 100, 41]) = _
      rw [if_neg (fun h => h.2 h2)]
     rw [e]; exact Ziz n hn h1 h2 w
    ·have e : Zn 5 n = ZM n [40, 73, 88, 43, 100, 41] ++ ([44] ++ Yi (n % 8)) := by
      show (if n / 64 ≠ 1 ∧ n % 8 ≠ 6 then ZM n [40, 73, 88, 43, 100, 41] ++ [44] ++ sg rOnes (n % 8) else ZM n [40, 73, 88, 43, 100, 41]) = _
      rw [if_pos ⟨h1, h2⟩, List.append_assoc]; rfl
     rw [e]; exact ZiA n hn h1 h2 w
  ·by_cases h1 : n / 64 = 1
   ·have e : Zn 6 n = ZM n [40, 73, 89, 43, 100, 41] := by
     show (if n / 64 ≠ 1 ∧ n % 8 ≠ 6 then ZM n [40, 73, 89, 43, 100, 41] ++ [44] ++ sg rOnes (n % 8) else ZM n [40, 73, 89, 43, 100, 41]) = _
     rw [if_neg (fun h => h.1 h1)]
    rw [e]; exact ZiB n hn h1 w
   ·by_cases h2 : n % 8 = 6
    ·have e : Zn 6 n = ZM n [40, 73, 89, 43, 100, 41] := by
      show (if n / 64 ≠ 1 ∧ n % 8 ≠ 6 then ZM n [40, 73, 89, 43, 100, 41] ++ [44] ++ sg rOnes (n % 8) else ZM n [40, 73, 89, 43, 100, 41]) = _
      rw [if_neg (fun h => h.2 h2)]
     rw [e]; exact ZiC n hn h1 h2 w
    ·have e : Zn 6 n = ZM n [40, 73, 89, 43, 100, 41] ++ ([44] ++ Yi (n % 8)) := by
      show (if n / 64 ≠ 1 ∧ n % 8 ≠ 6 then ZM n [40, 73, 89, 43, 100, 41] ++ [44] ++ sg rOnes (n % 8) else ZM n [40, 73, 89, 43, 100, 41]) = _
      rw [if_pos ⟨h1, h2⟩, List.append_assoc]; rfl
     rw [e]; exact ZiD n hn h1 h2 w
theorem ZaJ (v : Nat) (h : v < 256) (w : World) : Calls Tryz.prog 85 #[.int .u8 (v : Int)] w fun e w' =>
  e = .returned (Zb2 (nS v) (nZ v) (Zf 32 v) false (Zf 8 v) false false false) ∧ Below w.heap.size w w' := by
 have HM := Zb (Own.start w)
 go_enter Tryz.func85, Tryz.ntmps85
 go_wp2_with (first | (refine b7 ?_; clear HM; intro w' g' HM) | refine b8 ?_ | (refine a12 ?_; clear HM; intro w' HM))
 refine bodyPost_ret (v := .agg #[.bool _, .bool _, .bool _, .bool _, .bool _, .bool _, .bool _, .bool _]) (Zi HM Tryz.results85 _ rfl (by first | exact .z | exact .s .z) aggF) rfl ⟨?_, Own.fin HM⟩
 exact Vb (ge_of v 128) (ZeL v 0) (ZS v 32 _ (by omega)) rfl (ZS v 8 _ (by omega)) rfl rfl rfl
theorem Z3 (v : Nat) (s z y x : Bool) (h : v < 256) (hr : Hid (nS v = s ∧ nZ v = z ∧ Zf 32 v = y ∧ Zf 8 v = x)) (w : World) : Calls Tryz.prog 85 #[.int .u8 (v : Int)] w fun e w' =>
  e = .returned (.agg #[.bool s, .bool z, .bool y, .bool false, .bool x, .bool false, .bool false, .bool false]) ∧ Below w.heap.size w w' := by
 obtain ⟨rfl, rfl, rfl, rfl⟩ := hr.out; exact ZaJ v h w
def ZgH (bs : Nat → Bool) : Nat → Nat
 | 0 => 0
 | k + 1 => 2 * ZgH bs k + cond (bs k) 1 0
theorem ZiF (bs : Nat → Bool) (k : Nat) : ZgH bs k < 2 ^ k := by
 induction k with
 | zero => simp [ZgH]
 | succ k ih => rw [ZgH, Nat.pow_succ]; cases bs k <;> simp <;> omega
def ZiG (s z y h x p n c : Bool) : Nat → Bool
 | 0 => s | 1 => z | 2 => y | 3 => h | 4 => x | 5 => p | 6 => n | _ => c
theorem Zfo (s z y h x p n c : Bool) : ZgH (ZiG s z y h x p n c) 8 = Zq s z y h x p n c := by
 cases s <;> cases z <;> cases y <;> cases h <;> cases x <;> cases p <;> cases n <;> cases c <;> rfl
theorem idx8 (s z y h x p n c : Bool) (k : Nat) (hk : k < 8) (w : World) :
  (Instr.index 150 (.agg #[.bool s, .bool z, .bool y, .bool h, .bool x, .bool p, .bool n, .bool c]) (.int .i64 (k : Int))).run Tryz.prog w = .ok (.bool (ZiG s z y h x p n c k)) w := by
 match k, hk with
 | 0, _ => exact (by kernel_rfl : (Instr.index 150 (.agg #[.bool s, .bool z, .bool y, .bool h, .bool x, .bool p, .bool n, .bool c]) (.int .i64 0)).run Tryz.prog w = .ok (.bool s) w)
 | 1, _ => exact (by kernel_rfl : (Instr.index 150 (.agg #[.bool s, .bool z, .bool y, .bool h, .bool x, .bool p, .bool n, .bool c]) (.int .i64 1)).run Tryz.prog w = .ok (.bool z) w)
 | 2, _ => exact (by kernel_rfl : (Instr.index 150 (.agg #[.bool s, .bool z, .bool y, .bool h, .bool x, .bool p, .bool n, .bool c]) (.int .i64 2)).run Tryz.prog w = .ok (.bool y) w)
 | 3, _ => exact (by kernel_rfl : (Instr.index 150 (.agg #[.bool s, .bool z, .bool y, .bool h, .bool x, .bool p, .bool n, .bool c]) (.int .i64 3)).run Tryz.prog w = .ok (.bool h) w)
 | 4, _ => exact (by kernel_rfl : (Instr.index 150 (.agg #[.bool s, .bool z, .bool y, .bool h, .bool x, .bool p, .bool n, .bool c]) (.int .i64 4)).run Tryz.prog w = .ok (.bool x) w)
 | 5, _ => exact (by kernel_rfl : (Instr.index 150 (.agg #[.bool s, .bool z, .bool y, .bool h, .bool x, .bool p, .bool n, .bool c]) (.int .i64 5)).run Tryz.prog w = .ok (.bool p) w)
 | 6, _ => exact (by kernel_rfl : (Instr.index 150 (.agg #[.bool s, .bool z, .bool y, .bool h, .bool x, .bool p, .bool n, .bool c]) (.int .i64 6)).run Tryz.prog w = .ok (.bool n) w)
 | 7, _ => exact (by kernel_rfl : (Instr.index 150 (.agg #[.bool s, .bool z, .bool y, .bool h, .bool x, .bool p, .bool n, .bool c]) (.int .i64 7)).run Tryz.prog w = .ok (.bool c) w)
theorem Zs (s z y h x p n c : Bool) (f : Nat) (hf : Hid (Zq s z y h x p n c = f)) (w : World) :
  CB 86 #[.agg #[.bool s, .bool z, .bool y, .bool h, .bool x, .bool p, .bool n, .bool c]] w (.int .u8 (f : Int)) := by
 have HF := Zb (Zfo s z y h x p n c)
 rw [hf.out] at HF
 clear hf
 have HM := Zb (Own.start w)
 go_enter Tryz.func86, Tryz.ntmps86
 go_wp2_with (first | (refine b7 ?_; clear HM; intro w' g' HM) | refine b8 ?_ | (refine a12 ?_; clear HM; intro w' HM))
 go_loopw [3, 23] (fun o i wr => ∃ k m : Nat, k ≤ 8 ∧ i = .int .i64 k ∧ o = .int .u8 m ∧ Hid (ZgH (ZiG s z y h x p n c) k = m) ∧ Hid (Below w.heap.size w wr)) (fun _ i _ => 8 - (intOf i).toNat)
 case atStart => exact ⟨0, 0, by omega, rfl, rfl, rfl, HM.out.below⟩
 case round =>
  clear HM
  obtain ⟨k, m, hk, rfl, rfl, HR, HB⟩ := hrel
  by_cases hlt : (k : Int) < 8
  ·have hI := Zb (idx8 s z y h x p n c k (by omega))
   have HB2 : Hid (2 * m + cond (ZiG s z y h x p n c k) 1 0 = ZgH (ZiG s z y h x p n c) (k + 1)) := by show _ = _; rw [ZgH, HR.out]
   have hm : (m : Int) < 128 := by
    have h1 := ZiF (ZiG s z y h x p n c) k
    exact k59
   obtain ⟨b, hb⟩ : ∃ b, ZiG s z y h x p n c k = b := ⟨_, rfl⟩
   rw [hb] at hI HB2
   clear hb HR
   cases b
   all_goals
    go_wp2_with ((with_reducible apply Vu); exact rfl; exact rfl; exact rfl; exact hI.out; exact rfl)
    go_roundw
    case' rel => refine ⟨k + 1, _, by omega, by go_num, ?_, HB2.out.symm, HB⟩
    case' measure => simp [intOf]; omega
    rw [Int.natCast_add, Int.natCast_mul]; simp
  ·obtain rfl : k = 8 := by omega
   have e : m = f := by rw [← HR.out, HF.out]
   subst e
   go_wp2
   go_ret
   exact ⟨rfl, HB.out⟩
theorem Zlh (c : Bool) (w : World) : CW 172 #[.bool c] w (.int .i64 ((c.toNat : Nat) : Int)) := by
 cases c
 all_goals
  go_enter Tryz.func172, Tryz.ntmps172
  go_wp2
  go_ret
  exact ⟨rfl, rfl⟩
def ZI (v : Nat) : Int := if 128 ≤ v then (v : Int) - 256 else v
theorem J7 (v : Nat) (h : v < 256) (r : Int) (hr : Hid (ZI v = r)) (w : World) : CW 173 #[.int .u8 (v : Int)] w (.int .i64 r) := by
 by_cases hv : (128 : Int) ≤ (v : Int)
 ·have e : (v : Int) - 256 = r := by rw [← hr.out]; unfold ZI; rw [if_pos (by omega)]
  have HE := Zb e
  clear e
  go_enter Tryz.func173, Tryz.ntmps173
  go_wp2
  go_ret
  exact ⟨by rw [← HE.out]; rfl, rfl⟩
 ·have e : (v : Int) = r := by rw [← hr.out]; unfold ZI; rw [if_neg (by omega)]
  subst e
  go_enter Tryz.func173, Tryz.ntmps173
  go_wp2
  go_ret
  exact ⟨rfl, rfl⟩
theorem ZgI (c : Bool) (k : Nat) (h : Hid (c.toNat = k)) (w : World) : CW 172 #[.bool c] w (.int .i64 (k : Int)) := by
 rw [← h.out]; exact Zlh c w
theorem zg {a b : Int} {v f : Nat} (h : a = (v : Int)) (h' : b = (f : Int)) : (Ending.returned (.tuple #[.int .u8 a, .int .u8 b]) : Ending) = .returned (.tuple #[.int .u8 (v : Int), .int .u8 (f : Int)]) := by rw [h, h']
theorem J8 (v : Nat) (h : v < 256) : -128 ≤ ZI v ∧ ZI v ≤ 127 := by unfold ZI; split <;> omega
theorem UR (a b : Nat) (x : Bool) (h : x = true ↔ a ≤ b) : x = Nat.ble a b := by rw [Bool.eq_iff_iff, h, Nat.ble_eq]
theorem Zfp (a b k v f : Nat) (s z y x : Bool) (ha : a < 256) (hb : b < 256) (_hk : k ≤ 1) (hv : Yw a b k = v) (hf : Yp a b k = f) (hs : nS v = s ∧ nZ v = z ∧ Zf 32 v = y ∧ Zf 8 v = x) (H P C : Bool)
  (hH : H = true ↔ (15 : Int) < (a : Int) % 16 + (b : Int) % 16 + k) (hP : P = true ↔ (ZI a + ZI b + k < -128 ∨ 127 < ZI a + ZI b + k)) (hC : C = true ↔ (255 : Int) < (a : Int) + b + k) : Zq s z y H x P false C = f := by
 obtain ⟨rfl, rfl, rfl, rfl⟩ := hs
 rw [← hf]
 unfold Yp zJ
 rw [hv]
 have e1 : H = Nat.ble 16 (Nat.add (Nat.add (Nat.mod a 16) (Nat.mod b 16)) k) := UR _ _ _ (by rw [hH]; show _ ↔ 16 ≤ a % 16 + b % 16 + k; omega)
 have e2 : C = Nat.ble 256 (Nat.add (Nat.add a b) k) := UR _ _ _ (by rw [hC]; show _ ↔ 256 ≤ a + b + k; omega)
 have e3 : P = zI (Nat.add (Nat.add (JT a) (JT b)) k) := by
  rw [Bool.eq_iff_iff, hP]
  unfold zI JT ZI
  rw [Bool.not_eq_true', Bool.and_eq_false_iff]
  simp only [← Bool.not_eq_true, Nat.ble_eq]
  show _ ↔ (¬ 128 ≤ (a + 128) % 256 + (b + 128) % 256 + k ∨ ¬ (a + 128) % 256 + (b + 128) % 256 + k ≤ 383)
  split <;> split <;> omega
 rw [e1, e2, e3]
theorem Zfq (a b k v f : Nat) (s z y x : Bool) (ha : a < 256) (hb : b < 256) (_hk : k ≤ 1) (hv : ZY a b k = v) (hf : ZU a b k = f) (hs : nS v = s ∧ nZ v = z ∧ Zf 32 v = y ∧ Zf 8 v = x) (H P C : Bool)
  (hH : H = true ↔ (a : Int) % 16 - (b : Int) % 16 - k < 0) (hP : P = true ↔ (ZI a - ZI b - k < -128 ∨ 127 < ZI a - ZI b - k)) (hC : C = true ↔ (a : Int) - b - k < 0) : Zq s z y H x P true C = f := by
 obtain ⟨rfl, rfl, rfl, rfl⟩ := hs
 rw [← hf]
 unfold ZU zK
 rw [hv]
 have e1 : H = Nat.ble (Nat.add (Nat.mod a 16) 1) (Nat.add (Nat.mod b 16) k) := UR _ _ _ (by rw [hH]; show _ ↔ a % 16 + 1 ≤ b % 16 + k; omega)
 have e2 : C = Nat.ble (Nat.add a 1) (Nat.add b k) := UR _ _ _ (by rw [hC]; show _ ↔ a + 1 ≤ b + k; omega)
 have e3 : P = zI (Nat.sub (Nat.add (JT a) 256) (Nat.add (JT b) k)) := by
  rw [Bool.eq_iff_iff, hP]
  unfold zI JT ZI
  rw [Bool.not_eq_true', Bool.and_eq_false_iff]
  simp only [← Bool.not_eq_true, Nat.ble_eq]
  show _ ↔ (¬ 128 ≤ (a + 128) % 256 + 256 - ((b + 128) % 256 + k) ∨ ¬ (a + 128) % 256 + 256 - ((b + 128) % 256 + k) ≤ 383)
  split <;> split <;> omega
 rw [e1, e2, e3]
theorem ZaK (a b k v : Nat) (hv : Yw a b k = v) : (((a : Int) + (b : Int) + (k : Int))).tmod 256 = (v : Int) := by
 rw [Int.tmod_eq_emod_of_nonneg (by omega)]
 have : (a + b + k) % 256 = v := hv
 omega
theorem ZaL (a b k v : Nat) (ha : a < 256) (hb : b < 256) (hk : k ≤ 1) (hv : ZY a b k = v) : (((a : Int) - (b : Int) - (k : Int)) + 512).tmod 256 = (v : Int) := by
 rw [Int.tmod_eq_emod_of_nonneg (by omega)]
 have : (a + 512 - (b + k)) % 256 = v := hv
 omega
theorem JQ (a b : Nat) (c : Bool) (v f : Nat) (ha : a < 256) (hb : b < 256) (hv : Hid (ZY a b c.toNat = v)) (hf : Hid (ZU a b c.toNat = f)) (w : World) :
  CB 108 #[.int .u8 (a : Int), .int .u8 (b : Int), .bool c] w (.tuple #[.int .u8 (v : Int), .int .u8 (f : Int)]) := by
 have HM := Zb (Own.start w)
 obtain ⟨k, hk⟩ : ∃ k, Hid (c.toNat = k) := ⟨_, rfl⟩
 have k1 : k ≤ 1 := by rw [← hk.out]; cases c <;> decide
 rw [hk.out] at hv hf
 have v1 : v < 256 := by rw [← hv.out]; exact Yn _ _ _
 obtain ⟨s, z, y, x, hs⟩ : ∃ s z y x, Hid (nS v = s ∧ nZ v = z ∧ Zf 32 v = y ∧ Zf 8 v = x) := ⟨_, _, _, _, rfl, rfl, rfl, rfl⟩
 have hkey := Zfq a b k v f s z y x ha hb k1 hv.out hf.out hs.out
 have hv3 := ZaL a b k v ha hb k1 hv.out
 have h16a : (a : Int).tmod 16 = (a : Int) % 16 := Int.tmod_eq_emod_of_nonneg (by omega)
 have h16b : (b : Int).tmod 16 = (b : Int) % 16 := Int.tmod_eq_emod_of_nonneg (by omega)
 obtain ⟨p, hp⟩ : ∃ p, Hid (ZI a = p) := ⟨_, rfl⟩
 obtain ⟨q, hq⟩ : ∃ q, Hid (ZI b = q) := ⟨_, rfl⟩
 have pb := J8 a ha
 have qb := J8 b hb
 rw [hp.out] at pb hkey
 rw [hq.out] at qb hkey
 have HK : Hid (∀ H P C : Bool, (H = true ↔ (a : Int) % 16 - (b : Int) % 16 - k < 0) → (P = true ↔ (p - q - k < -128 ∨ 127 < p - q - k)) → (C = true ↔ (a : Int) - b - k < 0) → Hid (Zq s z y H x P true C = f)) :=
  fun H P C hH hP hC => hkey H P C hH hP hC
 clear hv hf hkey
 go_enter Tryz.func108, Tryz.ntmps108
 go_wp2_with (first | (refine b7 ?_; clear HM; intro w' g' HM) | refine b8 ?_ | (refine a12 ?_; clear HM; intro w' HM) | (go_at_call 172; (with_reducible refine (ZgI c k hk _).mono ?_); rintro e w' ⟨rfl, rfl⟩) | (go_at_call 173; first | ((with_reducible refine (J7 a ha p hp _).mono ?_); rintro e w' ⟨rfl, rfl⟩) | ((with_reducible refine (J7 b hb q hq _).mono ?_); rintro e w' ⟨rfl, rfl⟩)) | (go_at_call 85; (with_reducible refine (Z3 v s z y x v1 hs _).mono ?_); rintro e w' ⟨rfl, hb⟩; replace HM := Zb (HM.out.call hb); clear hb) | (go_at_call 86; refine (Zs _ _ _ _ _ _ _ _ f (HK.out _ _ _ (by first | (simp; done) | (simp; omega)) (by first | (simp; done) | (simp; omega)) (by first | (simp; done) | (simp; omega))) _).mono ?_; rintro e w' ⟨rfl, hb⟩; replace HM := Zb (HM.out.call hb); clear hb))
 all_goals
  go_ret2
  exact ⟨zg rfl rfl, Own.fin HM⟩
theorem jI (a b : Nat) (c : Bool) (v f : Nat) (ha : a < 256) (hb : b < 256) (hv : Hid (Yw a b c.toNat = v)) (hf : Hid (Yp a b c.toNat = f)) (w : World) :
  CB 163 #[.int .u8 (a : Int), .int .u8 (b : Int), .bool c] w (.tuple #[.int .u8 (v : Int), .int .u8 (f : Int)]) := by
 have HM := Zb (Own.start w)
 obtain ⟨k, hk⟩ : ∃ k, Hid (c.toNat = k) := ⟨_, rfl⟩
 have k1 : k ≤ 1 := by rw [← hk.out]; cases c <;> decide
 rw [hk.out] at hv hf
 have v1 : v < 256 := by rw [← hv.out]; exact YL _ _ _
 obtain ⟨s, z, y, x, hs⟩ : ∃ s z y x, Hid (nS v = s ∧ nZ v = z ∧ Zf 32 v = y ∧ Zf 8 v = x) := ⟨_, _, _, _, rfl, rfl, rfl, rfl⟩
 have hkey := Zfp a b k v f s z y x ha hb k1 hv.out hf.out hs.out
 have hv3 := ZaK a b k v hv.out
 have h16a : (a : Int).tmod 16 = (a : Int) % 16 := Int.tmod_eq_emod_of_nonneg (by omega)
 have h16b : (b : Int).tmod 16 = (b : Int) % 16 := Int.tmod_eq_emod_of_nonneg (by omega)
 obtain ⟨p, hp⟩ : ∃ p, Hid (ZI a = p) := ⟨_, rfl⟩
 obtain ⟨q, hq⟩ : ∃ q, Hid (ZI b = q) := ⟨_, rfl⟩
 have pb := J8 a ha
 have qb := J8 b hb
 rw [hp.out] at pb hkey
 rw [hq.out] at qb hkey
 have HK : Hid (∀ H P C : Bool, (H = true ↔ (15 : Int) < (a : Int) % 16 + (b : Int) % 16 + k) → (P = true ↔ (p + q + k < -128 ∨ 127 < p + q + k)) → (C = true ↔ (255 : Int) < (a : Int) + b + k) → Hid (Zq s z y H x P false C = f)) :=
  fun H P C hH hP hC => hkey H P C hH hP hC
 clear hv hf hkey
 go_enter Tryz.func163, Tryz.ntmps163
 go_wp2_with (first | (refine b7 ?_; clear HM; intro w' g' HM) | refine b8 ?_ | (refine a12 ?_; clear HM; intro w' HM) | (go_at_call 172; (with_reducible refine (ZgI c k hk _).mono ?_); rintro e w' ⟨rfl, rfl⟩) | (go_at_call 173; first | ((with_reducible refine (J7 a ha p hp _).mono ?_); rintro e w' ⟨rfl, rfl⟩) | ((with_reducible refine (J7 b hb q hq _).mono ?_); rintro e w' ⟨rfl, rfl⟩)) | (go_at_call 85; (with_reducible refine (Z3 v s z y x v1 hs _).mono ?_); rintro e w' ⟨rfl, hb⟩; replace HM := Zb (HM.out.call hb); clear hb) | (go_at_call 86; refine (Zs _ _ _ _ _ _ _ _ f (HK.out _ _ _ (by first | (simp; done) | (simp; omega)) (by first | (simp; done) | (simp; omega)) (by first | (simp; done) | (simp; omega))) _).mono ?_; rintro e w' ⟨rfl, hb⟩; replace HM := Zb (HM.out.call hb); clear hb))
 all_goals
  go_ret2
  exact ⟨zg rfl rfl, Own.fin HM⟩
end
end Go.Proofs.YtgdeeiimkhjfiaaGreatDoor
