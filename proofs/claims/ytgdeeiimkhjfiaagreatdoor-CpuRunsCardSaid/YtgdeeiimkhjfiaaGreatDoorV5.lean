import Derived.Test.YtgdeeiimkhjfiaaGreatDoorV4
set_option maxRecDepth 100000
set_option maxHeartbeats 6400000
namespace Go.Proofs.YtgdeeiimkhjfiaaGreatDoor
open Go.RowKit
section
variable {W0 w : World} {x b tq n c : Nat} {s : Cs} {ix : Bool} {pg : Int} {l : Zj}
theorem one_0 (r : Rg) (px : Nat) (w : World) : CB 132 #[r.v, .int .i64 0, .int .u8 (px : Int)] w (.int .u8 (r.b : Int)) := by
 have HM := Zb (Own.start w)
 go_enter Tryz.func132, Tryz.ntmps132
 go_wp2_with (first | (refine a0 ?_; clear HM; intro w' g' HM) | refine a13 ?_ | (go_at_call 193; (with_reducible refine (yv _ _).mono ?_); rintro e w' ⟨rfl, rfl⟩))
 go_ret
 exact ⟨rfl, Own.fin HM⟩
theorem one_1 (r : Rg) (px : Nat) (w : World) : CB 132 #[r.v, .int .i64 1, .int .u8 (px : Int)] w (.int .u8 (r.c : Int)) := by
 have HM := Zb (Own.start w)
 go_enter Tryz.func132, Tryz.ntmps132
 go_wp2_with (first | (refine a0 ?_; clear HM; intro w' g' HM) | refine a13 ?_ | (go_at_call 193; (with_reducible refine (yw _ _).mono ?_); rintro e w' ⟨rfl, rfl⟩))
 go_ret
 exact ⟨rfl, Own.fin HM⟩
theorem one_2 (r : Rg) (px : Nat) (w : World) : CB 132 #[r.v, .int .i64 2, .int .u8 (px : Int)] w (.int .u8 (r.d : Int)) := by
 have HM := Zb (Own.start w)
 go_enter Tryz.func132, Tryz.ntmps132
 go_wp2_with (first | (refine a0 ?_; clear HM; intro w' g' HM) | refine a13 ?_ | (go_at_call 193; (with_reducible refine (yx _ _).mono ?_); rintro e w' ⟨rfl, rfl⟩))
 go_ret
 exact ⟨rfl, Own.fin HM⟩
theorem one_3 (r : Rg) (px : Nat) (w : World) : CB 132 #[r.v, .int .i64 3, .int .u8 (px : Int)] w (.int .u8 (r.e : Int)) := by
 have HM := Zb (Own.start w)
 go_enter Tryz.func132, Tryz.ntmps132
 go_wp2_with (first | (refine a0 ?_; clear HM; intro w' g' HM) | refine a13 ?_ | (go_at_call 193; (with_reducible refine (yA _ _).mono ?_); rintro e w' ⟨rfl, rfl⟩))
 go_ret
 exact ⟨rfl, Own.fin HM⟩
theorem one_7 (r : Rg) (px : Nat) (w : World) : CB 132 #[r.v, .int .i64 7, .int .u8 (px : Int)] w (.int .u8 (r.a : Int)) := by
 have HM := Zb (Own.start w)
 go_enter Tryz.func132, Tryz.ntmps132
 go_wp2_with (first | (refine a0 ?_; clear HM; intro w' g' HM) | refine a13 ?_ | (go_at_call 193; (with_reducible refine (yB _ _).mono ?_); rintro e w' ⟨rfl, rfl⟩))
 go_ret
 exact ⟨rfl, Own.fin HM⟩
theorem k14 {P : Prop} (h : P := by
 (refine Zo HM (by kernel_rfl) (by kernel_rfl) ?_; (try simp only [Act.put, Ze, Zc, Zd]); repeat ((fail_if_success (with_reducible refine wpQuiet_nil ?_)); first | go_big_quiet_skip | (go_big_quiet_want; first | (refine a19 ?_; go_big_quiet_op; go_big_quiet_on) | (refine a20 ?_; go_big_quiet_op; go_big_quiet_on) | (refine a21 ?_; go_big_quiet_op; go_big_quiet_on) | ((with_reducible apply Zh); exact fun w => rfl; (focus (go_simp; all_goals with_reducible rfl)); (intro wq HQ; first | (with_reducible exact (Jx px k hk _).mono fun _ _ ⟨he, hw⟩ => ⟨he, hw ▸ Below.refl _ _⟩) | (with_reducible exact Ky r HR.out k P hP _) | (with_reducible exact (Z7 P x y P1 hx hy _).mono fun _ _ ⟨he, hw⟩ => ⟨he, hw ▸ Below.refl _ _⟩)); go_big_quiet_op; go_big_quiet_on) | (go_big_quiet_op; go_big_quiet_on) | (go_big_quiet_op; refine ⟨_, fun _ _ => rfl, ?_⟩; go_big_quiet_on))))
 refine wpQuiet_nil ?_
 intro w' HM'
 clear HM; have HM := HM'; clear HM'
 go_wp2_with fail
 go_ret
 exact ⟨by rw [E.out]; rfl, Own.fin HM⟩) : P := h
theorem one_4 (r : Rg) (hr : r.Fits) (px : Nat) (w : World) : CB 132 #[r.v, .int .i64 4, .int .u8 (px : Int)] w (.int .u8 (r.pair (ZT px) / 256 : Nat)) := by
 obtain ⟨k, hk⟩ : ∃ k, Hid (ZT px = k) := ⟨_, rfl⟩
 obtain ⟨P, hP⟩ : ∃ P, Hid (r.pair k = P) := ⟨_, rfl⟩
 have P1 : P < 65536 := by rw [← hP.out]; exact r.pair_lt hr k
 obtain ⟨x, hx⟩ : ∃ x, Hid (Zx P = x) := ⟨_, rfl⟩
 obtain ⟨y, hy⟩ : ∃ y, Hid (P % 256 = y) := ⟨_, rfl⟩
 have HR := Zb hr
 clear hr
 have E : Hid (((r.pair (ZT px) / 256 : Nat) : Int) = (x : Int)) := by show _ = _; rw [hk.out, hP.out, ← hx.out]; rfl
 have HM := Zb (Own.start w)
 go_enter Tryz.func132, Tryz.ntmps132
 go_wp2_with (first | (refine a0 ?_; clear HM; intro w' g' HM) | refine a13 ?_ | (go_at_call 193; (with_reducible refine (V6 _ _).mono ?_); rintro e w' ⟨rfl, rfl⟩))
 exact k14
theorem one_5 (r : Rg) (hr : r.Fits) (px : Nat) (w : World) : CB 132 #[r.v, .int .i64 5, .int .u8 (px : Int)] w (.int .u8 (r.pair (ZT px) % 256 : Nat)) := by
 obtain ⟨k, hk⟩ : ∃ k, Hid (ZT px = k) := ⟨_, rfl⟩
 obtain ⟨P, hP⟩ : ∃ P, Hid (r.pair k = P) := ⟨_, rfl⟩
 have P1 : P < 65536 := by rw [← hP.out]; exact r.pair_lt hr k
 obtain ⟨x, hx⟩ : ∃ x, Hid (Zx P = x) := ⟨_, rfl⟩
 obtain ⟨y, hy⟩ : ∃ y, Hid (P % 256 = y) := ⟨_, rfl⟩
 have HR := Zb hr
 clear hr
 have E : Hid (((r.pair (ZT px) % 256 : Nat) : Int) = (y : Int)) := by show _ = _; rw [hk.out, hP.out, ← hy.out]
 have HM := Zb (Own.start w)
 go_enter Tryz.func132, Tryz.ntmps132
 go_wp2_with (first | (refine a0 ?_; clear HM; intro w' g' HM) | refine a13 ?_ | (go_at_call 193; (with_reducible refine (V7 _ _).mono ?_); rintro e w' ⟨rfl, rfl⟩))
 exact k14
theorem one_no (r : Rg) (hr : r.Fits) (n : Int) (hn : ¬ n = 0 ∧ ¬ n = 1 ∧ ¬ n = 2 ∧ ¬ n = 3 ∧ ¬ n = 7 ∧ ¬ n = 4 ∧ ¬ n = 5) (px : Nat) (w : World) : CB 132 #[r.v, .int .i64 n, .int .u8 (px : Int)] w (.int .u8 0) := by
 obtain ⟨h0, h1, h2, h3, h7, h4, h5⟩ := hn
 obtain ⟨k, hk⟩ : ∃ k, Hid (ZT px = k) := ⟨_, rfl⟩
 obtain ⟨P, hP⟩ : ∃ P, Hid (r.pair k = P) := ⟨_, rfl⟩
 have P1 : P < 65536 := by rw [← hP.out]; exact r.pair_lt hr k
 obtain ⟨x, hx⟩ : ∃ x, Hid (Zx P = x) := ⟨_, rfl⟩
 obtain ⟨y, hy⟩ : ∃ y, Hid (P % 256 = y) := ⟨_, rfl⟩
 have HR := Zb hr
 clear hr
 have HM := Zb (Own.start w)
 go_enter Tryz.func132, Tryz.ntmps132
 go_wp2_with (first | (refine a0 ?_; clear HM; intro w' g' HM) | refine a13 ?_ | (go_at_call 193; (with_reducible refine (Wp _ n h0 h1 h2 h3 h7 _).mono ?_); rintro e w' ⟨rfl, rfl⟩))
 (refine Zo HM (by kernel_rfl) (by kernel_rfl) ?_; (try simp only [Act.put, Ze, Zc, Zd]); repeat ((fail_if_success (with_reducible refine wpQuiet_nil ?_)); first | go_big_quiet_skip | (go_big_quiet_want; first | (refine a19 ?_; go_big_quiet_op; go_big_quiet_on) | (refine a20 ?_; go_big_quiet_op; go_big_quiet_on) | (refine a21 ?_; go_big_quiet_op; go_big_quiet_on) | ((with_reducible apply Zh); exact fun w => rfl; (focus (go_simp; all_goals with_reducible rfl)); (intro wq HQ; first | (with_reducible exact (Jx px k hk _).mono fun _ _ ⟨he, hw⟩ => ⟨he, hw ▸ Below.refl _ _⟩) | (with_reducible exact Ky r HR.out k P hP _) | (with_reducible exact (Z7 P x y P1 hx hy _).mono fun _ _ ⟨he, hw⟩ => ⟨he, hw ▸ Below.refl _ _⟩)); go_big_quiet_op; go_big_quiet_on) | (go_big_quiet_op; go_big_quiet_on) | (go_big_quiet_op; refine ⟨_, fun _ _ => rfl, ?_⟩; go_big_quiet_on))))
 exact k11
theorem Wq (r : Rg) (hr : r.Fits) (n : Int) (px O : Nat) (hO : Hid (r.one n px = O)) (w : World) : CB 132 #[r.v, .int .i64 n, .int .u8 (px : Int)] w (.int .u8 (O : Int)) := by
 rw [← hO.out]
 rcases Wd n with rfl | rfl | rfl | rfl | rfl | rfl | rfl | hn
 ·exact one_0 r px w
 ·exact one_1 r px w
 ·exact one_2 r px w
 ·exact one_3 r px w
 ·exact one_7 r px w
 ·exact one_4 r hr px w
 ·exact one_5 r hr px w
 ·rw [r.one_no n px hn]; exact one_no r hr n hn px w
theorem ZeA (r : Rg) (px : Nat) (v : Nat) (_hv : v < 256) (w : World) : CB 135 #[r.v, .int .i64 0, .int .u8 (px : Int), .int .u8 (v : Int)] w (({ r with b := v } : Rg).v) := by
 have HM := Zb (Own.start w)
 go_enter Tryz.func135, Tryz.ntmps135
 go_wp2_with (first | (refine b0 ?_; clear HM; intro w' g' HM) | refine a6 ?_ | (refine b1 ?_; clear HM; intro w' HM) | (go_at_call 193; (with_reducible refine (yv _ _).mono ?_); rintro e w' ⟨rfl, rfl⟩))
 refine bodyPost_ret (v := .agg (r.cells.set 2 (.int .u8 (v : Int))).toArray) (Zi HM Tryz.results135 _ rfl (by first | exact .z | exact .s .z) aggR) rfl ⟨rfl, Own.fin HM⟩
theorem ZeB (r : Rg) (px : Nat) (v : Nat) (_hv : v < 256) (w : World) : CB 135 #[r.v, .int .i64 1, .int .u8 (px : Int), .int .u8 (v : Int)] w (({ r with c := v } : Rg).v) := by
 have HM := Zb (Own.start w)
 go_enter Tryz.func135, Tryz.ntmps135
 go_wp2_with (first | (refine b0 ?_; clear HM; intro w' g' HM) | refine a6 ?_ | (refine b1 ?_; clear HM; intro w' HM) | (go_at_call 193; (with_reducible refine (yw _ _).mono ?_); rintro e w' ⟨rfl, rfl⟩))
 refine bodyPost_ret (v := .agg (r.cells.set 3 (.int .u8 (v : Int))).toArray) (Zi HM Tryz.results135 _ rfl (by first | exact .z | exact .s .z) aggR) rfl ⟨rfl, Own.fin HM⟩
theorem ZeC (r : Rg) (px : Nat) (v : Nat) (_hv : v < 256) (w : World) : CB 135 #[r.v, .int .i64 2, .int .u8 (px : Int), .int .u8 (v : Int)] w (({ r with d := v } : Rg).v) := by
 have HM := Zb (Own.start w)
 go_enter Tryz.func135, Tryz.ntmps135
 go_wp2_with (first | (refine b0 ?_; clear HM; intro w' g' HM) | refine a6 ?_ | (refine b1 ?_; clear HM; intro w' HM) | (go_at_call 193; (with_reducible refine (yx _ _).mono ?_); rintro e w' ⟨rfl, rfl⟩))
 refine bodyPost_ret (v := .agg (r.cells.set 4 (.int .u8 (v : Int))).toArray) (Zi HM Tryz.results135 _ rfl (by first | exact .z | exact .s .z) aggR) rfl ⟨rfl, Own.fin HM⟩
theorem ZeD (r : Rg) (px : Nat) (v : Nat) (_hv : v < 256) (w : World) : CB 135 #[r.v, .int .i64 3, .int .u8 (px : Int), .int .u8 (v : Int)] w (({ r with e := v } : Rg).v) := by
 have HM := Zb (Own.start w)
 go_enter Tryz.func135, Tryz.ntmps135
 go_wp2_with (first | (refine b0 ?_; clear HM; intro w' g' HM) | refine a6 ?_ | (refine b1 ?_; clear HM; intro w' HM) | (go_at_call 193; (with_reducible refine (yA _ _).mono ?_); rintro e w' ⟨rfl, rfl⟩))
 refine bodyPost_ret (v := .agg (r.cells.set 5 (.int .u8 (v : Int))).toArray) (Zi HM Tryz.results135 _ rfl (by first | exact .z | exact .s .z) aggR) rfl ⟨rfl, Own.fin HM⟩
theorem ZeE (r : Rg) (px : Nat) (v : Nat) (_hv : v < 256) (w : World) : CB 135 #[r.v, .int .i64 7, .int .u8 (px : Int), .int .u8 (v : Int)] w (({ r with a := v } : Rg).v) := by
 have HM := Zb (Own.start w)
 go_enter Tryz.func135, Tryz.ntmps135
 go_wp2_with (first | (refine b0 ?_; clear HM; intro w' g' HM) | refine a6 ?_ | (refine b1 ?_; clear HM; intro w' HM) | (go_at_call 193; (with_reducible refine (yB _ _).mono ?_); rintro e w' ⟨rfl, rfl⟩))
 refine bodyPost_ret (v := .agg (r.cells.set 0 (.int .u8 (v : Int))).toArray) (Zi HM Tryz.results135 _ rfl (by first | exact .z | exact .s .z) aggR) rfl ⟨rfl, Own.fin HM⟩
theorem k39 {P : Prop} (h : P := by
 refine wpQuiet_nil ?_
 intro w' HM'
 clear HM; have HM := HM'; clear HM'
 go_wp2_with (first | (refine a7 ?_; clear HM; intro w' HM))
 refine bodyPost_ret (v := .agg s.cells.toArray) (Zi HM Tryz.results135 _ rfl (by first | exact .z | exact .s .z) aggR) rfl ⟨rfl, Own.fin HM⟩) : P := h
theorem ZeF (r : Rg) (hr : r.Fits) (px : Nat) (v : Nat) (hv : v < 256) (w : World) : CB 135 #[r.v, .int .i64 4, .int .u8 (px : Int), .int .u8 (v : Int)] w ((r.setPair (ZT px) (v * 256 + r.pair (ZT px) % 256)).v) := by
 obtain ⟨k, hk⟩ : ∃ k, Hid (ZT px = k) := ⟨_, rfl⟩
 obtain ⟨P, hP⟩ : ∃ P, Hid (r.pair k = P) := ⟨_, rfl⟩
 have P1 : P < 65536 := by rw [← hP.out]; exact r.pair_lt hr k
 obtain ⟨x, hx⟩ : ∃ x, Hid (Zx P = x) := ⟨_, rfl⟩
 obtain ⟨y, hy⟩ : ∃ y, Hid (P % 256 = y) := ⟨_, rfl⟩
 have HR := Zb hr
 clear hr
 have x1 : x < 256 := by rw [← hx.out]; exact Yd _ P1
 have y1 : y < 256 := by have := hy.out; omega
 obtain ⟨J, hJ⟩ : ∃ J, Hid (v * 256 + y = J) := ⟨_, rfl⟩
 have J1 : J < 65536 := by have := hJ.out; omega
 obtain ⟨s, hs⟩ : ∃ s, Hid (r.setPair k J = s) := ⟨_, rfl⟩
 have E : Hid (r.setPair (ZT px) (v * 256 + r.pair (ZT px) % 256) = s) := by show _ = _; rw [hk.out, hP.out, ← hs.out, ← hJ.out, hy.out]
 rw [E.out]
 have HM := Zb (Own.start w)
 go_enter Tryz.func135, Tryz.ntmps135
 go_wp2_with (first | (refine b0 ?_; clear HM; intro w' g' HM) | refine a6 ?_ | (refine b1 ?_; clear HM; intro w' HM) | (go_at_call 193; (with_reducible refine (V6 _ _).mono ?_); rintro e w' ⟨rfl, rfl⟩) | (go_at_call 192; (with_reducible refine (Jx px k hk _).mono ?_); rintro e w' ⟨rfl, rfl⟩) | (go_at_call 130; (with_reducible refine (Ky r HR.out k P hP _).mono ?_); rintro e w' ⟨rfl, hb⟩; replace HM := Zb (HM.out.call hb); clear hb) | (go_at_call 128; (with_reducible refine (Z7 P x y P1 hx hy _).mono ?_); rintro e w' ⟨rfl, rfl⟩))
 (refine Zk 6 HM (by kernel_rfl) (by kernel_rfl) (by kernel_rfl) ?_; simp only [List.take_succ_cons, List.take_zero, List.drop_succ_cons, List.drop_zero]; (try simp only [Act.put, Ze, Zc, Zd]); repeat ((fail_if_success (with_reducible refine wpQuiet_nil ?_)); first | go_big_quiet_skip | (go_big_quiet_want; first | (refine a19 ?_; go_big_quiet_op; go_big_quiet_on) | (refine a20 ?_; go_big_quiet_op; go_big_quiet_on) | (refine a21 ?_; go_big_quiet_op; go_big_quiet_on) | ((with_reducible apply Zh); exact fun w => rfl; (focus (go_simp; all_goals with_reducible rfl)); (intro wq HQ; first | (with_reducible exact (YF v y J hv y1 hJ _).mono fun _ _ ⟨he, hw⟩ => ⟨he, hw ▸ Below.refl _ _⟩) | (with_reducible exact Kz r k J J1 s hs _)); go_big_quiet_op; go_big_quiet_on) | (go_big_quiet_op; go_big_quiet_on) | (go_big_quiet_op; refine ⟨_, fun _ _ => rfl, ?_⟩; go_big_quiet_on))))
 exact k39
theorem ZeG (r : Rg) (hr : r.Fits) (px : Nat) (v : Nat) (hv : v < 256) (w : World) : CB 135 #[r.v, .int .i64 5, .int .u8 (px : Int), .int .u8 (v : Int)] w ((r.setPair (ZT px) (r.pair (ZT px) / 256 * 256 + v)).v) := by
 obtain ⟨k, hk⟩ : ∃ k, Hid (ZT px = k) := ⟨_, rfl⟩
 obtain ⟨P, hP⟩ : ∃ P, Hid (r.pair k = P) := ⟨_, rfl⟩
 have P1 : P < 65536 := by rw [← hP.out]; exact r.pair_lt hr k
 obtain ⟨x, hx⟩ : ∃ x, Hid (Zx P = x) := ⟨_, rfl⟩
 obtain ⟨y, hy⟩ : ∃ y, Hid (P % 256 = y) := ⟨_, rfl⟩
 have HR := Zb hr
 clear hr
 have x1 : x < 256 := by rw [← hx.out]; exact Yd _ P1
 have y1 : y < 256 := by have := hy.out; omega
 obtain ⟨J, hJ⟩ : ∃ J, Hid (x * 256 + v = J) := ⟨_, rfl⟩
 have J1 : J < 65536 := by have := hJ.out; omega
 obtain ⟨s, hs⟩ : ∃ s, Hid (r.setPair k J = s) := ⟨_, rfl⟩
 have E : Hid (r.setPair (ZT px) (r.pair (ZT px) / 256 * 256 + v) = s) := by show _ = _; rw [hk.out, hP.out, ← hs.out, ← hJ.out, ← hx.out]; rfl
 rw [E.out]
 have HM := Zb (Own.start w)
 go_enter Tryz.func135, Tryz.ntmps135
 go_wp2_with (first | (refine b0 ?_; clear HM; intro w' g' HM) | refine a6 ?_ | (refine b1 ?_; clear HM; intro w' HM) | (go_at_call 193; (with_reducible refine (V7 _ _).mono ?_); rintro e w' ⟨rfl, rfl⟩) | (go_at_call 192; (with_reducible refine (Jx px k hk _).mono ?_); rintro e w' ⟨rfl, rfl⟩) | (go_at_call 130; (with_reducible refine (Ky r HR.out k P hP _).mono ?_); rintro e w' ⟨rfl, hb⟩; replace HM := Zb (HM.out.call hb); clear hb) | (go_at_call 128; (with_reducible refine (Z7 P x y P1 hx hy _).mono ?_); rintro e w' ⟨rfl, rfl⟩))
 (refine Zk 6 HM (by kernel_rfl) (by kernel_rfl) (by kernel_rfl) ?_; simp only [List.take_succ_cons, List.take_zero, List.drop_succ_cons, List.drop_zero]; (try simp only [Act.put, Ze, Zc, Zd]); repeat ((fail_if_success (with_reducible refine wpQuiet_nil ?_)); first | go_big_quiet_skip | (go_big_quiet_want; first | (refine a19 ?_; go_big_quiet_op; go_big_quiet_on) | (refine a20 ?_; go_big_quiet_op; go_big_quiet_on) | (refine a21 ?_; go_big_quiet_op; go_big_quiet_on) | ((with_reducible apply Zh); exact fun w => rfl; (focus (go_simp; all_goals with_reducible rfl)); (intro wq HQ; first | (with_reducible exact (YF x v J x1 hv hJ _).mono fun _ _ ⟨he, hw⟩ => ⟨he, hw ▸ Below.refl _ _⟩) | (with_reducible exact Kz r k J J1 s hs _)); go_big_quiet_op; go_big_quiet_on) | (go_big_quiet_op; go_big_quiet_on) | (go_big_quiet_op; refine ⟨_, fun _ _ => rfl, ?_⟩; go_big_quiet_on))))
 exact k39
theorem setOne_no (r : Rg) (hr : r.Fits) (n : Int) (hn : ¬ n = 0 ∧ ¬ n = 1 ∧ ¬ n = 2 ∧ ¬ n = 3 ∧ ¬ n = 7 ∧ ¬ n = 4 ∧ ¬ n = 5) (px : Nat) (v : Nat) (_hv : v < 256) (w : World) : CB 135 #[r.v, .int .i64 n, .int .u8 (px : Int), .int .u8 (v : Int)] w (r.v) := by
 obtain ⟨h0, h1, h2, h3, h7, h4, h5⟩ := hn
 obtain ⟨k, hk⟩ : ∃ k, Hid (ZT px = k) := ⟨_, rfl⟩
 obtain ⟨P, hP⟩ : ∃ P, Hid (r.pair k = P) := ⟨_, rfl⟩
 have P1 : P < 65536 := by rw [← hP.out]; exact r.pair_lt hr k
 obtain ⟨x, hx⟩ : ∃ x, Hid (Zx P = x) := ⟨_, rfl⟩
 obtain ⟨y, hy⟩ : ∃ y, Hid (P % 256 = y) := ⟨_, rfl⟩
 have HR := Zb hr
 clear hr
 have HM := Zb (Own.start w)
 go_enter Tryz.func135, Tryz.ntmps135
 go_wp2_with (first | (refine b0 ?_; clear HM; intro w' g' HM) | refine a6 ?_ | (refine b1 ?_; clear HM; intro w' HM) | (go_at_call 193; (with_reducible refine (Wp _ n h0 h1 h2 h3 h7 _).mono ?_); rintro e w' ⟨rfl, rfl⟩) | (go_at_call 192; (with_reducible refine (Jx px k hk _).mono ?_); rintro e w' ⟨rfl, rfl⟩) | (go_at_call 130; (with_reducible refine (Ky r HR.out k P hP _).mono ?_); rintro e w' ⟨rfl, hb⟩; replace HM := Zb (HM.out.call hb); clear hb) | (go_at_call 128; (with_reducible refine (Z7 P x y P1 hx hy _).mono ?_); rintro e w' ⟨rfl, rfl⟩))
 refine bodyPost_ret (v := .agg r.cells.toArray) (Zi HM Tryz.results135 _ rfl (by first | exact .z | exact .s .z) aggR) rfl ⟨rfl, Own.fin HM⟩
theorem Wr (r : Rg) (hr : r.Fits) (n : Int) (px v : Nat) (hv : v < 256) (s : Rg) (hs : Hid (r.setOne n px v = s)) (w : World) : CB 135 #[r.v, .int .i64 n, .int .u8 (px : Int), .int .u8 (v : Int)] w s.v := by
 rw [← hs.out]
 rcases Wd n with rfl | rfl | rfl | rfl | rfl | rfl | rfl | hn
 ·exact ZeA r px v hv w
 ·exact ZeB r px v hv w
 ·exact ZeC r px v hv w
 ·exact ZeD r px v hv w
 ·exact ZeE r px v hv w
 ·exact ZeF r hr px v hv w
 ·exact ZeG r hr px v hv w
 ·rw [r.setOne_no n px v hn]; exact setOne_no r hr n hn px v hv w
def Rg.swapAt (r : Rg) : Nat → Rg
 | 0 => { r with a := r.x0, x0 := r.a }
 | 1 => { r with f := r.x1, x1 := r.f }
 | 2 => { r with b := r.x2, x2 := r.b }
 | 3 => { r with c := r.x3, x3 := r.c }
 | 4 => { r with d := r.x4, x4 := r.d }
 | 5 => { r with e := r.x5, x5 := r.e }
 | 6 => { r with h := r.x6, x6 := r.h }
 | 7 => { r with l := r.x7, x7 := r.l }
 | _ => r
def Rg.swapTo (r : Rg) (m : Nat) : Nat → Rg
 | 0 => r
 | k + 1 => (r.swapTo m k).swapAt (m + k)
def Va (g : Nat) : List Value := [.pointer (some ⟨g, 0, none⟩), .pointer (some ⟨g, 1, none⟩), .pointer (some ⟨g, 2, none⟩), .pointer (some ⟨g, 3, none⟩), .pointer (some ⟨g, 4, none⟩), .pointer (some ⟨g, 5, none⟩), .pointer (some ⟨g, 6, none⟩), .pointer (some ⟨g, 7, none⟩)]
theorem aggPtrs : Agg Tryz.prog 180 8 := ⟨⟨_, Tryz.underlying180, rfl⟩, by kernel_rfl⟩
theorem zeroPtrs : ZgV Tryz.prog 180 [.pointer none, .pointer none, .pointer none, .pointer none, .pointer none, .pointer none, .pointer none, .pointer none] := ⟨.agg #[.pointer none, .pointer none, .pointer none, .pointer none, .pointer none, .pointer none, .pointer none, .pointer none], fun _ => by kernel_rfl, rfl⟩
theorem onePtr : One Tryz.prog 172 := ⟨⟨_, Tryz.underlying172, rfl⟩, by kernel_rfl⟩
theorem vZ (r : Rg) (w : World) : Calls Tryz.prog 197 #[r.v, .bool false] w fun e w' => e = .returned (r.swap false).v ∧ Below w.heap.size w w' := by
 have tg3 : Hid True := trivial
 have HM := Zb (Own.start w)
 have tg1 : Hid True := trivial
 have tg2 : Hid True := trivial
 go_enter Tryz.func197, Tryz.ntmps197
 go_wp2_with (first | (refine b0 ?_; (first | (clear tg1 HM; intro w' g1 HM) | (clear tg2 HM; intro w' g2 HM) | (clear tg3 HM; intro w' g3 HM) | (clear HM; intro w' g' HM))) | ((with_reducible apply YC HM); exact rfl; (first | (with_reducible exact zeroPtrs)); exact rfl; (first | (clear tg1 HM; intro w' g1 HM) | (clear tg2 HM; intro w' g2 HM) | (clear tg3 HM; intro w' g3 HM) | (clear HM; intro w' g' HM))) | ((with_reducible apply YA HM); exact rfl; exact rfl; (first | (with_reducible exact onePtr)); exact sS; exact dS; exact rfl) | refine a69 ?_ | (refine a70 ?_; clear HM; intro w' HM))
 change Hid (Own w _ [(g3, 180, Va g1), (g2, 25, rg0.cells), (g1, 25, r.cells)]) at HM
 go_loopw [8] (fun i wr => ∃ k : Nat, 0 ≤ k ∧ k ≤ 2 ∧ i = .int .i64 (k : Int) ∧ Hid (Own w wr [(g3, 180, Va g1), (g2, 25, rg0.cells), (g1, 25, (r.swapTo 0 (k - 0)).cells)])) (fun i _ => 2 - (intOf i).toNat)
 case atStart => exact ⟨0, by omega, by omega, rfl, HM⟩
 case round =>
  clear HM
  obtain ⟨k, hk0, hk, rfl, HM⟩ := hrel
  rcases (show k = 0 ∨ k = 1 ∨ k = 2 by omega) with rfl | rfl | rfl
  ·obtain ⟨q, hq⟩ : ∃ q, q = r.swapTo 0 (0 - 0) := ⟨_, rfl⟩
   rw [← hq] at HM
   have cp := ((HM.out.at_ .z).at_ 0).trans (show _ = some (Value.pointer (some ⟨g1, 0, none⟩)) from rfl)
   have cr := ((HM.out.at_ (.s (.s .z))).at_ 0).trans (show _ = some (Value.int .u8 (q.a : Int)) from rfl)
   have ca := ((HM.out.at_ (.s (.s .z))).at_ 8).trans (show _ = some (Value.int .u8 (q.x0 : Int)) from rfl)
   have fr := (HM.out.at_ (.s (.s .z))).free 0
   have fa := (HM.out.at_ (.s (.s .z))).free 8
   have HM2 := Zb ((HM.out.of_cell 0 (v := .int .u8 (q.x0 : Int)) (.s (.s .z))).of_cell 8 (v := .int .u8 (q.a : Int)) (.s (.s .z))).drew
   rw [hq] at cr ca
   clear HM
   go_wp2_with fail
   go_region
   go_wp2_with fail
   go_roundw
   case rel => exact ⟨1, by omega, by omega, by go_num, by rw [hq] at HM2; exact HM2⟩
   case measure => simp [intOf]
  ·obtain ⟨q, hq⟩ : ∃ q, q = r.swapTo 0 (1 - 0) := ⟨_, rfl⟩
   rw [← hq] at HM
   have cp := ((HM.out.at_ .z).at_ 1).trans (show _ = some (Value.pointer (some ⟨g1, 1, none⟩)) from rfl)
   have cr := ((HM.out.at_ (.s (.s .z))).at_ 1).trans (show _ = some (Value.int .u8 (q.f : Int)) from rfl)
   have ca := ((HM.out.at_ (.s (.s .z))).at_ 9).trans (show _ = some (Value.int .u8 (q.x1 : Int)) from rfl)
   have fr := (HM.out.at_ (.s (.s .z))).free 1
   have fa := (HM.out.at_ (.s (.s .z))).free 9
   have HM2 := Zb ((HM.out.of_cell 1 (v := .int .u8 (q.x1 : Int)) (.s (.s .z))).of_cell 9 (v := .int .u8 (q.f : Int)) (.s (.s .z))).drew
   rw [hq] at cr ca
   clear HM
   go_wp2_with fail
   go_region
   go_wp2_with fail
   go_roundw
   case rel => exact ⟨2, by omega, by omega, by go_num, by rw [hq] at HM2; exact HM2⟩
   case measure => simp [intOf]
  ·go_wp2_with (first | refine a6 ?_ | (refine a7 ?_; clear HM; intro w' HM))
   refine bodyPost_ret (v := .agg (r.swapTo 0 2).cells.toArray) (Zi HM Tryz.results197 _ rfl (by first | exact .z | exact .s .z) aggR) rfl ⟨rfl, Own.fin HM⟩
theorem ZbS (r : Rg) (w : World) : Calls Tryz.prog 197 #[r.v, .bool true] w fun e w' => e = .returned (r.swap true).v ∧ Below w.heap.size w w' := by
 have tg3 : Hid True := trivial
 have HM := Zb (Own.start w)
 have tg1 : Hid True := trivial
 have tg2 : Hid True := trivial
 go_enter Tryz.func197, Tryz.ntmps197
 go_wp2_with (first | (refine b0 ?_; (first | (clear tg1 HM; intro w' g1 HM) | (clear tg2 HM; intro w' g2 HM) | (clear tg3 HM; intro w' g3 HM) | (clear HM; intro w' g' HM))) | ((with_reducible apply YC HM); exact rfl; (first | (with_reducible exact zeroPtrs)); exact rfl; (first | (clear tg1 HM; intro w' g1 HM) | (clear tg2 HM; intro w' g2 HM) | (clear tg3 HM; intro w' g3 HM) | (clear HM; intro w' g' HM))) | ((with_reducible apply YA HM); exact rfl; exact rfl; (first | (with_reducible exact onePtr)); exact sS; exact dS; exact rfl) | refine a69 ?_ | (refine a70 ?_; clear HM; intro w' HM))
 change Hid (Own w _ [(g3, 180, Va g1), (g2, 25, rg0.cells), (g1, 25, r.cells)]) at HM
 go_loopw [8] (fun i wr => ∃ k : Nat, 2 ≤ k ∧ k ≤ 8 ∧ i = .int .i64 (k : Int) ∧ Hid (Own w wr [(g3, 180, Va g1), (g2, 25, rg0.cells), (g1, 25, (r.swapTo 2 (k - 2)).cells)])) (fun i _ => 8 - (intOf i).toNat)
 case atStart => exact ⟨2, by omega, by omega, rfl, HM⟩
 case round =>
  clear HM
  obtain ⟨k, hk0, hk, rfl, HM⟩ := hrel
  rcases (show k = 2 ∨ k = 3 ∨ k = 4 ∨ k = 5 ∨ k = 6 ∨ k = 7 ∨ k = 8 by omega) with rfl | rfl | rfl | rfl | rfl | rfl | rfl
  ·obtain ⟨q, hq⟩ : ∃ q, q = r.swapTo 2 (2 - 2) := ⟨_, rfl⟩
   rw [← hq] at HM
   have cp := ((HM.out.at_ .z).at_ 2).trans (show _ = some (Value.pointer (some ⟨g1, 2, none⟩)) from rfl)
   have cr := ((HM.out.at_ (.s (.s .z))).at_ 2).trans (show _ = some (Value.int .u8 (q.b : Int)) from rfl)
   have ca := ((HM.out.at_ (.s (.s .z))).at_ 10).trans (show _ = some (Value.int .u8 (q.x2 : Int)) from rfl)
   have fr := (HM.out.at_ (.s (.s .z))).free 2
   have fa := (HM.out.at_ (.s (.s .z))).free 10
   have HM2 := Zb ((HM.out.of_cell 2 (v := .int .u8 (q.x2 : Int)) (.s (.s .z))).of_cell 10 (v := .int .u8 (q.b : Int)) (.s (.s .z))).drew
   rw [hq] at cr ca
   clear HM
   go_wp2_with fail
   go_region
   go_wp2_with fail
   go_roundw
   case rel => exact ⟨3, by omega, by omega, by go_num, by rw [hq] at HM2; exact HM2⟩
   case measure => simp [intOf]
  ·obtain ⟨q, hq⟩ : ∃ q, q = r.swapTo 2 (3 - 2) := ⟨_, rfl⟩
   rw [← hq] at HM
   have cp := ((HM.out.at_ .z).at_ 3).trans (show _ = some (Value.pointer (some ⟨g1, 3, none⟩)) from rfl)
   have cr := ((HM.out.at_ (.s (.s .z))).at_ 3).trans (show _ = some (Value.int .u8 (q.c : Int)) from rfl)
   have ca := ((HM.out.at_ (.s (.s .z))).at_ 11).trans (show _ = some (Value.int .u8 (q.x3 : Int)) from rfl)
   have fr := (HM.out.at_ (.s (.s .z))).free 3
   have fa := (HM.out.at_ (.s (.s .z))).free 11
   have HM2 := Zb ((HM.out.of_cell 3 (v := .int .u8 (q.x3 : Int)) (.s (.s .z))).of_cell 11 (v := .int .u8 (q.c : Int)) (.s (.s .z))).drew
   rw [hq] at cr ca
   clear HM
   go_wp2_with fail
   go_region
   go_wp2_with fail
   go_roundw
   case rel => exact ⟨4, by omega, by omega, by go_num, by rw [hq] at HM2; exact HM2⟩
   case measure => simp [intOf]
  ·obtain ⟨q, hq⟩ : ∃ q, q = r.swapTo 2 (4 - 2) := ⟨_, rfl⟩
   rw [← hq] at HM
   have cp := ((HM.out.at_ .z).at_ 4).trans (show _ = some (Value.pointer (some ⟨g1, 4, none⟩)) from rfl)
   have cr := ((HM.out.at_ (.s (.s .z))).at_ 4).trans (show _ = some (Value.int .u8 (q.d : Int)) from rfl)
   have ca := ((HM.out.at_ (.s (.s .z))).at_ 12).trans (show _ = some (Value.int .u8 (q.x4 : Int)) from rfl)
   have fr := (HM.out.at_ (.s (.s .z))).free 4
   have fa := (HM.out.at_ (.s (.s .z))).free 12
   have HM2 := Zb ((HM.out.of_cell 4 (v := .int .u8 (q.x4 : Int)) (.s (.s .z))).of_cell 12 (v := .int .u8 (q.d : Int)) (.s (.s .z))).drew
   rw [hq] at cr ca
   clear HM
   go_wp2_with fail
   go_region
   go_wp2_with fail
   go_roundw
   case rel => exact ⟨5, by omega, by omega, by go_num, by rw [hq] at HM2; exact HM2⟩
   case measure => simp [intOf]
  ·obtain ⟨q, hq⟩ : ∃ q, q = r.swapTo 2 (5 - 2) := ⟨_, rfl⟩
   rw [← hq] at HM
   have cp := ((HM.out.at_ .z).at_ 5).trans (show _ = some (Value.pointer (some ⟨g1, 5, none⟩)) from rfl)
   have cr := ((HM.out.at_ (.s (.s .z))).at_ 5).trans (show _ = some (Value.int .u8 (q.e : Int)) from rfl)
   have ca := ((HM.out.at_ (.s (.s .z))).at_ 13).trans (show _ = some (Value.int .u8 (q.x5 : Int)) from rfl)
   have fr := (HM.out.at_ (.s (.s .z))).free 5
   have fa := (HM.out.at_ (.s (.s .z))).free 13
   have HM2 := Zb ((HM.out.of_cell 5 (v := .int .u8 (q.x5 : Int)) (.s (.s .z))).of_cell 13 (v := .int .u8 (q.e : Int)) (.s (.s .z))).drew
   rw [hq] at cr ca
   clear HM
   go_wp2_with fail
   go_region
   go_wp2_with fail
   go_roundw
   case rel => exact ⟨6, by omega, by omega, by go_num, by rw [hq] at HM2; exact HM2⟩
   case measure => simp [intOf]
  ·obtain ⟨q, hq⟩ : ∃ q, q = r.swapTo 2 (6 - 2) := ⟨_, rfl⟩
   rw [← hq] at HM
   have cp := ((HM.out.at_ .z).at_ 6).trans (show _ = some (Value.pointer (some ⟨g1, 6, none⟩)) from rfl)
   have cr := ((HM.out.at_ (.s (.s .z))).at_ 6).trans (show _ = some (Value.int .u8 (q.h : Int)) from rfl)
   have ca := ((HM.out.at_ (.s (.s .z))).at_ 14).trans (show _ = some (Value.int .u8 (q.x6 : Int)) from rfl)
   have fr := (HM.out.at_ (.s (.s .z))).free 6
   have fa := (HM.out.at_ (.s (.s .z))).free 14
   have HM2 := Zb ((HM.out.of_cell 6 (v := .int .u8 (q.x6 : Int)) (.s (.s .z))).of_cell 14 (v := .int .u8 (q.h : Int)) (.s (.s .z))).drew
   rw [hq] at cr ca
   clear HM
   go_wp2_with fail
   go_region
   go_wp2_with fail
   go_roundw
   case rel => exact ⟨7, by omega, by omega, by go_num, by rw [hq] at HM2; exact HM2⟩
   case measure => simp [intOf]
  ·obtain ⟨q, hq⟩ : ∃ q, q = r.swapTo 2 (7 - 2) := ⟨_, rfl⟩
   rw [← hq] at HM
   have cp := ((HM.out.at_ .z).at_ 7).trans (show _ = some (Value.pointer (some ⟨g1, 7, none⟩)) from rfl)
   have cr := ((HM.out.at_ (.s (.s .z))).at_ 7).trans (show _ = some (Value.int .u8 (q.l : Int)) from rfl)
   have ca := ((HM.out.at_ (.s (.s .z))).at_ 15).trans (show _ = some (Value.int .u8 (q.x7 : Int)) from rfl)
   have fr := (HM.out.at_ (.s (.s .z))).free 7
   have fa := (HM.out.at_ (.s (.s .z))).free 15
   have HM2 := Zb ((HM.out.of_cell 7 (v := .int .u8 (q.x7 : Int)) (.s (.s .z))).of_cell 15 (v := .int .u8 (q.l : Int)) (.s (.s .z))).drew
   rw [hq] at cr ca
   clear HM
   go_wp2_with fail
   go_region
   go_wp2_with fail
   go_roundw
   case rel => exact ⟨8, by omega, by omega, by go_num, by rw [hq] at HM2; exact HM2⟩
   case measure => simp [intOf]
  ·go_wp2_with (first | refine a6 ?_ | (refine a7 ?_; clear HM; intro w' HM))
   refine bodyPost_ret (v := .agg (r.swapTo 2 6).cells.toArray) (Zi HM Tryz.results197 _ rfl (by first | exact .z | exact .s .z) aggR) rfl ⟨rfl, Own.fin HM⟩
end
end Go.Proofs.YtgdeeiimkhjfiaaGreatDoor
