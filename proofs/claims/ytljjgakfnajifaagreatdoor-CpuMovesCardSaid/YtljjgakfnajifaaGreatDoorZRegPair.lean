import Derived.Test.YtljjgakfnajifaaGreatDoorZBase
namespace Go.Proofs.YtljjgakfnajifaaGreatDoor
open Go.RowKit
set_option maxRecDepth 100000 in
set_option maxHeartbeats 800000 in
theorem pair_0 (r : Rg) (hr : r.Fits) (w : World) : Calls Tryz.prog 143 #[r.v, .int .i64 0] w fun e w' => e = .returned (.int .u16 ((r.b * 256 + r.c : Nat) : Int)) ∧ Below w.heap.size w w' := by
  have h1 := hr.b
  have h2 := hr.c
  clear hr
  obtain ⟨x, hx⟩ : ∃ x, Hid (r.b * 256 + r.c = x) := ⟨_, rfl⟩
  have hx2 : Hid (((r.b * 256 + r.c : Nat) : Int) = (x : Int)) := by show _ = _; rw [hx.out]
  have HM := Lib.hid (Own.start w)
  have tg1 : Hid True := trivial
  have tg2 : Hid True := trivial
  go_enter Tryz.func143, Tryz.ntmps143
  go_wp2_with (first
    | ((with_reducible apply own_box HM); exact rfl; (conv => lhs; whnf); exact rfl; exact rfl; (first | (clear tg1 HM; intro w' g1 HM) | (clear tg2 HM; intro w' g2 HM) | (clear tg3 HM; intro w' g3 HM) | (clear tg4 HM; intro w' g4 HM) | (clear HM; intro w' g' HM))) | ((with_reducible apply own_get HM); exact rfl; exact rfl; exact oS; exact sS; (conv => lhs; whnf); exact rfl)
    | (go_at_call 203; (with_reducible refine (wide_no0 _ _).mono ?_); rintro e w' ⟨rfl, rfl⟩)
    | (go_at_call 204; (with_reducible refine (halves_0 _ _).mono ?_); rintro e w' ⟨rfl, hb⟩; replace HM := Lib.hid (HM.out.call hb); clear hb))
  (refine own_region HM (by kernel_rfl) (by kernel_rfl) ?_; (try simp only [Act.put, List.setIfInBounds_toArray, List.set_cons_zero, List.set_cons_succ]); repeat ((fail_if_success (with_reducible refine wpQuiet_nil ?_)); first | go_big_quiet_skip | (go_big_quiet_want; first | ((with_reducible apply quiet_row); exact rfl; exact aggR; exact sS; exact lS; go_big_quiet_op; go_big_quiet_on) | ((with_reducible apply quiet_get); exact rfl; exact bS3; exact sS; exact rfl; go_big_quiet_op; go_big_quiet_on) | ((with_reducible apply quiet_load); exact rfl; (with_reducible exact aggAlt); exact sS; exact Rg.altDrop _; exact Rg.altTake _; go_big_quiet_op; go_big_quiet_on) | ((with_reducible apply quiet_call); exact fun w => rfl; (focus (go_simp; all_goals with_reducible rfl)); (intro wq HQ; first | (with_reducible exact (join_at r.b r.c x h1 h2 hx _).mono fun _ _ ⟨he, hw⟩ => ⟨he, hw ▸ Below.refl _ _⟩)); go_big_quiet_op; go_big_quiet_on) | (go_big_quiet_op; go_big_quiet_on) | (go_big_quiet_op; refine ⟨_, fun _ _ => rfl, ?_⟩; go_big_quiet_on))))
  refine wpQuiet_nil ?_
  intro w' HM'
  clear HM; have HM := HM'; clear HM'
  go_wp2_with fail
  go_ret
  exact ⟨by rw [hx2.out]; rfl, Own.fin HM⟩
set_option maxRecDepth 100000 in
set_option maxHeartbeats 800000 in
theorem setPair_0 (r : Rg) (v : Nat) (hv : v < 65536) (w : World) : Calls Tryz.prog 207 #[r.v, .int .i64 0, .int .u16 (v : Int)] w fun e w' => e = .returned (({ r with b := v / 256, c := v % 256 } : Rg).v) ∧ Below w.heap.size w w' := by
  obtain ⟨x, hx⟩ : ∃ x, Hid (wHigh v = x) := ⟨_, rfl⟩
  obtain ⟨y, hy⟩ : ∃ y, Hid (v % 256 = y) := ⟨_, rfl⟩
  have ex : Hid (v / 256 = x) := hx
  have HM := Lib.hid (Own.start w)
  have tg1 : Hid True := trivial
  have tg2 : Hid True := trivial
  go_enter Tryz.func207, Tryz.ntmps207
  go_wp2_with (first
    | ((with_reducible apply own_box HM); exact rfl; (conv => lhs; whnf); exact rfl; exact rfl; (first | (clear tg1 HM; intro w' g1 HM) | (clear tg2 HM; intro w' g2 HM) | (clear tg3 HM; intro w' g3 HM) | (clear tg4 HM; intro w' g4 HM) | (clear HM; intro w' g' HM))) | ((with_reducible apply own_alloc HM); exact rfl; (with_reducible exact zeroR); exact rfl; (first | (clear tg1 HM; intro w' g1 HM) | (clear tg2 HM; intro w' g2 HM) | (clear tg3 HM; intro w' g3 HM) | (clear tg4 HM; intro w' g4 HM) | (clear HM; intro w' g' HM))) | ((with_reducible apply own_row HM); exact rfl; exact rfl; exact aggR; exact sS; exact rfl; exact lS) | ((with_reducible apply own_lay HM); exact rfl; exact rfl; exact rfl; exact sS; exact sS; exact aggR.size; exact lS; exact lS; (first | exact Rg.one1 _ | exact rfl); exact rfl; exact rfl; clear HM; intro w' HM) | ((with_reducible apply own_put HM); exact rfl; exact rfl; (conv => lhs; whnf); exact sS; exact sS; exact zS; exact rfl; exact rfl; (show (_ : Nat) < 29; decide); exact rfl; clear HM; intro w' HM)
    | (go_at_call 203; (with_reducible refine (wide_no0 _ _).mono ?_); rintro e w' ⟨rfl, rfl⟩)
    | (go_at_call 204; (with_reducible refine (halves_0 _ _).mono ?_); rintro e w' ⟨rfl, hb⟩; replace HM := Lib.hid (HM.out.call hb); clear hb)
    | (go_at_call 141; (with_reducible refine (split_at v x y hv hx hy _).mono ?_); rintro e w' ⟨rfl, rfl⟩))
  rw [ex.out, hy.out]
  refine bodyPost_ret (v := .agg ((r.cells.set 2 (.int .u8 (x : Int))).set 3 (.int .u8 (y : Int))).toArray) (own_results HM Tryz.results207 _ rfl (by first | exact .z | exact .s .z) aggR) rfl ⟨rfl, Own.fin HM⟩
set_option maxRecDepth 100000 in
set_option maxHeartbeats 800000 in
theorem pair_1 (r : Rg) (hr : r.Fits) (w : World) : Calls Tryz.prog 143 #[r.v, .int .i64 1] w fun e w' => e = .returned (.int .u16 ((r.d * 256 + r.e : Nat) : Int)) ∧ Below w.heap.size w w' := by
  have h1 := hr.d
  have h2 := hr.e
  clear hr
  obtain ⟨x, hx⟩ : ∃ x, Hid (r.d * 256 + r.e = x) := ⟨_, rfl⟩
  have hx2 : Hid (((r.d * 256 + r.e : Nat) : Int) = (x : Int)) := by show _ = _; rw [hx.out]
  have HM := Lib.hid (Own.start w)
  have tg1 : Hid True := trivial
  have tg2 : Hid True := trivial
  go_enter Tryz.func143, Tryz.ntmps143
  go_wp2_with (first
    | ((with_reducible apply own_box HM); exact rfl; (conv => lhs; whnf); exact rfl; exact rfl; (first | (clear tg1 HM; intro w' g1 HM) | (clear tg2 HM; intro w' g2 HM) | (clear tg3 HM; intro w' g3 HM) | (clear tg4 HM; intro w' g4 HM) | (clear HM; intro w' g' HM))) | ((with_reducible apply own_get HM); exact rfl; exact rfl; exact oS; exact sS; (conv => lhs; whnf); exact rfl)
    | (go_at_call 203; (with_reducible refine (wide_no1 _ _).mono ?_); rintro e w' ⟨rfl, rfl⟩)
    | (go_at_call 204; (with_reducible refine (halves_1 _ _).mono ?_); rintro e w' ⟨rfl, hb⟩; replace HM := Lib.hid (HM.out.call hb); clear hb))
  (refine own_region HM (by kernel_rfl) (by kernel_rfl) ?_; (try simp only [Act.put, List.setIfInBounds_toArray, List.set_cons_zero, List.set_cons_succ]); repeat ((fail_if_success (with_reducible refine wpQuiet_nil ?_)); first | go_big_quiet_skip | (go_big_quiet_want; first | ((with_reducible apply quiet_row); exact rfl; exact aggR; exact sS; exact lS; go_big_quiet_op; go_big_quiet_on) | ((with_reducible apply quiet_get); exact rfl; exact bS3; exact sS; exact rfl; go_big_quiet_op; go_big_quiet_on) | ((with_reducible apply quiet_load); exact rfl; (with_reducible exact aggAlt); exact sS; exact Rg.altDrop _; exact Rg.altTake _; go_big_quiet_op; go_big_quiet_on) | ((with_reducible apply quiet_call); exact fun w => rfl; (focus (go_simp; all_goals with_reducible rfl)); (intro wq HQ; first | (with_reducible exact (join_at r.d r.e x h1 h2 hx _).mono fun _ _ ⟨he, hw⟩ => ⟨he, hw ▸ Below.refl _ _⟩)); go_big_quiet_op; go_big_quiet_on) | (go_big_quiet_op; go_big_quiet_on) | (go_big_quiet_op; refine ⟨_, fun _ _ => rfl, ?_⟩; go_big_quiet_on))))
  refine wpQuiet_nil ?_
  intro w' HM'
  clear HM; have HM := HM'; clear HM'
  go_wp2_with fail
  go_ret
  exact ⟨by rw [hx2.out]; rfl, Own.fin HM⟩
set_option maxRecDepth 100000 in
set_option maxHeartbeats 800000 in
theorem setPair_1 (r : Rg) (v : Nat) (hv : v < 65536) (w : World) : Calls Tryz.prog 207 #[r.v, .int .i64 1, .int .u16 (v : Int)] w fun e w' => e = .returned (({ r with d := v / 256, e := v % 256 } : Rg).v) ∧ Below w.heap.size w w' := by
  obtain ⟨x, hx⟩ : ∃ x, Hid (wHigh v = x) := ⟨_, rfl⟩
  obtain ⟨y, hy⟩ : ∃ y, Hid (v % 256 = y) := ⟨_, rfl⟩
  have ex : Hid (v / 256 = x) := hx
  have HM := Lib.hid (Own.start w)
  have tg1 : Hid True := trivial
  have tg2 : Hid True := trivial
  go_enter Tryz.func207, Tryz.ntmps207
  go_wp2_with (first
    | ((with_reducible apply own_box HM); exact rfl; (conv => lhs; whnf); exact rfl; exact rfl; (first | (clear tg1 HM; intro w' g1 HM) | (clear tg2 HM; intro w' g2 HM) | (clear tg3 HM; intro w' g3 HM) | (clear tg4 HM; intro w' g4 HM) | (clear HM; intro w' g' HM))) | ((with_reducible apply own_alloc HM); exact rfl; (with_reducible exact zeroR); exact rfl; (first | (clear tg1 HM; intro w' g1 HM) | (clear tg2 HM; intro w' g2 HM) | (clear tg3 HM; intro w' g3 HM) | (clear tg4 HM; intro w' g4 HM) | (clear HM; intro w' g' HM))) | ((with_reducible apply own_row HM); exact rfl; exact rfl; exact aggR; exact sS; exact rfl; exact lS) | ((with_reducible apply own_lay HM); exact rfl; exact rfl; exact rfl; exact sS; exact sS; exact aggR.size; exact lS; exact lS; (first | exact Rg.one1 _ | exact rfl); exact rfl; exact rfl; clear HM; intro w' HM) | ((with_reducible apply own_put HM); exact rfl; exact rfl; (conv => lhs; whnf); exact sS; exact sS; exact zS; exact rfl; exact rfl; (show (_ : Nat) < 29; decide); exact rfl; clear HM; intro w' HM)
    | (go_at_call 203; (with_reducible refine (wide_no1 _ _).mono ?_); rintro e w' ⟨rfl, rfl⟩)
    | (go_at_call 204; (with_reducible refine (halves_1 _ _).mono ?_); rintro e w' ⟨rfl, hb⟩; replace HM := Lib.hid (HM.out.call hb); clear hb)
    | (go_at_call 141; (with_reducible refine (split_at v x y hv hx hy _).mono ?_); rintro e w' ⟨rfl, rfl⟩))
  rw [ex.out, hy.out]
  refine bodyPost_ret (v := .agg ((r.cells.set 4 (.int .u8 (x : Int))).set 5 (.int .u8 (y : Int))).toArray) (own_results HM Tryz.results207 _ rfl (by first | exact .z | exact .s .z) aggR) rfl ⟨rfl, Own.fin HM⟩
set_option maxRecDepth 100000 in
set_option maxHeartbeats 800000 in
theorem pair_2 (r : Rg) (hr : r.Fits) (w : World) : Calls Tryz.prog 143 #[r.v, .int .i64 2] w fun e w' => e = .returned (.int .u16 ((r.h * 256 + r.l : Nat) : Int)) ∧ Below w.heap.size w w' := by
  have h1 := hr.h
  have h2 := hr.l
  clear hr
  obtain ⟨x, hx⟩ : ∃ x, Hid (r.h * 256 + r.l = x) := ⟨_, rfl⟩
  have hx2 : Hid (((r.h * 256 + r.l : Nat) : Int) = (x : Int)) := by show _ = _; rw [hx.out]
  have HM := Lib.hid (Own.start w)
  have tg1 : Hid True := trivial
  have tg2 : Hid True := trivial
  go_enter Tryz.func143, Tryz.ntmps143
  go_wp2_with (first
    | ((with_reducible apply own_box HM); exact rfl; (conv => lhs; whnf); exact rfl; exact rfl; (first | (clear tg1 HM; intro w' g1 HM) | (clear tg2 HM; intro w' g2 HM) | (clear tg3 HM; intro w' g3 HM) | (clear tg4 HM; intro w' g4 HM) | (clear HM; intro w' g' HM))) | ((with_reducible apply own_get HM); exact rfl; exact rfl; exact oS; exact sS; (conv => lhs; whnf); exact rfl)
    | (go_at_call 203; (with_reducible refine (wide_no2 _ _).mono ?_); rintro e w' ⟨rfl, rfl⟩)
    | (go_at_call 204; (with_reducible refine (halves_2 _ _).mono ?_); rintro e w' ⟨rfl, hb⟩; replace HM := Lib.hid (HM.out.call hb); clear hb))
  (refine own_region HM (by kernel_rfl) (by kernel_rfl) ?_; (try simp only [Act.put, List.setIfInBounds_toArray, List.set_cons_zero, List.set_cons_succ]); repeat ((fail_if_success (with_reducible refine wpQuiet_nil ?_)); first | go_big_quiet_skip | (go_big_quiet_want; first | ((with_reducible apply quiet_row); exact rfl; exact aggR; exact sS; exact lS; go_big_quiet_op; go_big_quiet_on) | ((with_reducible apply quiet_get); exact rfl; exact bS3; exact sS; exact rfl; go_big_quiet_op; go_big_quiet_on) | ((with_reducible apply quiet_load); exact rfl; (with_reducible exact aggAlt); exact sS; exact Rg.altDrop _; exact Rg.altTake _; go_big_quiet_op; go_big_quiet_on) | ((with_reducible apply quiet_call); exact fun w => rfl; (focus (go_simp; all_goals with_reducible rfl)); (intro wq HQ; first | (with_reducible exact (join_at r.h r.l x h1 h2 hx _).mono fun _ _ ⟨he, hw⟩ => ⟨he, hw ▸ Below.refl _ _⟩)); go_big_quiet_op; go_big_quiet_on) | (go_big_quiet_op; go_big_quiet_on) | (go_big_quiet_op; refine ⟨_, fun _ _ => rfl, ?_⟩; go_big_quiet_on))))
  refine wpQuiet_nil ?_
  intro w' HM'
  clear HM; have HM := HM'; clear HM'
  go_wp2_with fail
  go_ret
  exact ⟨by rw [hx2.out]; rfl, Own.fin HM⟩
set_option maxRecDepth 100000 in
set_option maxHeartbeats 800000 in
theorem setPair_2 (r : Rg) (v : Nat) (hv : v < 65536) (w : World) : Calls Tryz.prog 207 #[r.v, .int .i64 2, .int .u16 (v : Int)] w fun e w' => e = .returned (({ r with h := v / 256, l := v % 256 } : Rg).v) ∧ Below w.heap.size w w' := by
  obtain ⟨x, hx⟩ : ∃ x, Hid (wHigh v = x) := ⟨_, rfl⟩
  obtain ⟨y, hy⟩ : ∃ y, Hid (v % 256 = y) := ⟨_, rfl⟩
  have ex : Hid (v / 256 = x) := hx
  have HM := Lib.hid (Own.start w)
  have tg1 : Hid True := trivial
  have tg2 : Hid True := trivial
  go_enter Tryz.func207, Tryz.ntmps207
  go_wp2_with (first
    | ((with_reducible apply own_box HM); exact rfl; (conv => lhs; whnf); exact rfl; exact rfl; (first | (clear tg1 HM; intro w' g1 HM) | (clear tg2 HM; intro w' g2 HM) | (clear tg3 HM; intro w' g3 HM) | (clear tg4 HM; intro w' g4 HM) | (clear HM; intro w' g' HM))) | ((with_reducible apply own_alloc HM); exact rfl; (with_reducible exact zeroR); exact rfl; (first | (clear tg1 HM; intro w' g1 HM) | (clear tg2 HM; intro w' g2 HM) | (clear tg3 HM; intro w' g3 HM) | (clear tg4 HM; intro w' g4 HM) | (clear HM; intro w' g' HM))) | ((with_reducible apply own_row HM); exact rfl; exact rfl; exact aggR; exact sS; exact rfl; exact lS) | ((with_reducible apply own_lay HM); exact rfl; exact rfl; exact rfl; exact sS; exact sS; exact aggR.size; exact lS; exact lS; (first | exact Rg.one1 _ | exact rfl); exact rfl; exact rfl; clear HM; intro w' HM) | ((with_reducible apply own_put HM); exact rfl; exact rfl; (conv => lhs; whnf); exact sS; exact sS; exact zS; exact rfl; exact rfl; (show (_ : Nat) < 29; decide); exact rfl; clear HM; intro w' HM)
    | (go_at_call 203; (with_reducible refine (wide_no2 _ _).mono ?_); rintro e w' ⟨rfl, rfl⟩)
    | (go_at_call 204; (with_reducible refine (halves_2 _ _).mono ?_); rintro e w' ⟨rfl, hb⟩; replace HM := Lib.hid (HM.out.call hb); clear hb)
    | (go_at_call 141; (with_reducible refine (split_at v x y hv hx hy _).mono ?_); rintro e w' ⟨rfl, rfl⟩))
  rw [ex.out, hy.out]
  refine bodyPost_ret (v := .agg ((r.cells.set 6 (.int .u8 (x : Int))).set 7 (.int .u8 (y : Int))).toArray) (own_results HM Tryz.results207 _ rfl (by first | exact .z | exact .s .z) aggR) rfl ⟨rfl, Own.fin HM⟩
set_option maxRecDepth 100000 in
set_option maxHeartbeats 800000 in
theorem pair_3 (r : Rg) (w : World) : Calls Tryz.prog 143 #[r.v, .int .i64 3] w fun e w' => e = .returned (.int .u16 (r.sp : Int)) ∧ Below w.heap.size w w' := by
  have HM := Lib.hid (Own.start w)
  have tg1 : Hid True := trivial
  have tg2 : Hid True := trivial
  go_enter Tryz.func143, Tryz.ntmps143
  go_wp2_with (first
    | ((with_reducible apply own_box HM); exact rfl; (conv => lhs; whnf); exact rfl; exact rfl; (first | (clear tg1 HM; intro w' g1 HM) | (clear tg2 HM; intro w' g2 HM) | (clear tg3 HM; intro w' g3 HM) | (clear tg4 HM; intro w' g4 HM) | (clear HM; intro w' g' HM))) | ((with_reducible apply own_get HM); exact rfl; exact rfl; exact oS; exact sS; (conv => lhs; whnf); exact rfl)
    | (go_at_call 203; (with_reducible refine (wide_3 _ _).mono ?_); rintro e w' ⟨rfl, rfl⟩)
    | (go_at_call 204; (with_reducible refine (halves_no3 _ _).mono ?_); rintro e w' ⟨rfl, rfl⟩))
  go_ret
  exact ⟨rfl, Own.fin HM⟩
set_option maxRecDepth 100000 in
set_option maxHeartbeats 800000 in
theorem setPair_3 (r : Rg) (v : Nat) (_hv : v < 65536) (w : World) : Calls Tryz.prog 207 #[r.v, .int .i64 3, .int .u16 (v : Int)] w fun e w' => e = .returned (({ r with sp := v } : Rg).v) ∧ Below w.heap.size w w' := by
  have HM := Lib.hid (Own.start w)
  have tg1 : Hid True := trivial
  have tg2 : Hid True := trivial
  go_enter Tryz.func207, Tryz.ntmps207
  go_wp2_with (first
    | ((with_reducible apply own_box HM); exact rfl; (conv => lhs; whnf); exact rfl; exact rfl; (first | (clear tg1 HM; intro w' g1 HM) | (clear tg2 HM; intro w' g2 HM) | (clear tg3 HM; intro w' g3 HM) | (clear tg4 HM; intro w' g4 HM) | (clear HM; intro w' g' HM))) | ((with_reducible apply own_alloc HM); exact rfl; (with_reducible exact zeroR); exact rfl; (first | (clear tg1 HM; intro w' g1 HM) | (clear tg2 HM; intro w' g2 HM) | (clear tg3 HM; intro w' g3 HM) | (clear tg4 HM; intro w' g4 HM) | (clear HM; intro w' g' HM))) | ((with_reducible apply own_row HM); exact rfl; exact rfl; exact aggR; exact sS; exact rfl; exact lS) | ((with_reducible apply own_lay HM); exact rfl; exact rfl; exact rfl; exact sS; exact sS; exact aggR.size; exact lS; exact lS; (first | exact Rg.one1 _ | exact rfl); exact rfl; exact rfl; clear HM; intro w' HM) | ((with_reducible apply own_put HM); exact rfl; exact rfl; (conv => lhs; whnf); exact sS; exact sS; exact zS; exact rfl; exact rfl; (show (_ : Nat) < 29; decide); exact rfl; clear HM; intro w' HM)
    | (go_at_call 203; (with_reducible refine (wide_3 _ _).mono ?_); rintro e w' ⟨rfl, rfl⟩)
    | (go_at_call 204; (with_reducible refine (halves_no3 _ _).mono ?_); rintro e w' ⟨rfl, rfl⟩))
  refine bodyPost_ret (v := .agg (r.cells.set 18 (.int .u16 (v : Int))).toArray) (own_results HM Tryz.results207 _ rfl (by first | exact .z | exact .s .z) aggR) rfl ⟨rfl, Own.fin HM⟩
set_option maxRecDepth 100000 in
set_option maxHeartbeats 800000 in
theorem pair_4 (r : Rg) (hr : r.Fits) (w : World) : Calls Tryz.prog 143 #[r.v, .int .i64 4] w fun e w' => e = .returned (.int .u16 ((r.a * 256 + r.f : Nat) : Int)) ∧ Below w.heap.size w w' := by
  have h1 := hr.a
  have h2 := hr.f
  clear hr
  obtain ⟨x, hx⟩ : ∃ x, Hid (r.a * 256 + r.f = x) := ⟨_, rfl⟩
  have hx2 : Hid (((r.a * 256 + r.f : Nat) : Int) = (x : Int)) := by show _ = _; rw [hx.out]
  have HM := Lib.hid (Own.start w)
  have tg1 : Hid True := trivial
  have tg2 : Hid True := trivial
  go_enter Tryz.func143, Tryz.ntmps143
  go_wp2_with (first
    | ((with_reducible apply own_box HM); exact rfl; (conv => lhs; whnf); exact rfl; exact rfl; (first | (clear tg1 HM; intro w' g1 HM) | (clear tg2 HM; intro w' g2 HM) | (clear tg3 HM; intro w' g3 HM) | (clear tg4 HM; intro w' g4 HM) | (clear HM; intro w' g' HM))) | ((with_reducible apply own_get HM); exact rfl; exact rfl; exact oS; exact sS; (conv => lhs; whnf); exact rfl)
    | (go_at_call 203; (with_reducible refine (wide_no4 _ _).mono ?_); rintro e w' ⟨rfl, rfl⟩)
    | (go_at_call 204; (with_reducible refine (halves_4 _ _).mono ?_); rintro e w' ⟨rfl, hb⟩; replace HM := Lib.hid (HM.out.call hb); clear hb))
  (refine own_region HM (by kernel_rfl) (by kernel_rfl) ?_; (try simp only [Act.put, List.setIfInBounds_toArray, List.set_cons_zero, List.set_cons_succ]); repeat ((fail_if_success (with_reducible refine wpQuiet_nil ?_)); first | go_big_quiet_skip | (go_big_quiet_want; first | ((with_reducible apply quiet_row); exact rfl; exact aggR; exact sS; exact lS; go_big_quiet_op; go_big_quiet_on) | ((with_reducible apply quiet_get); exact rfl; exact bS3; exact sS; exact rfl; go_big_quiet_op; go_big_quiet_on) | ((with_reducible apply quiet_load); exact rfl; (with_reducible exact aggAlt); exact sS; exact Rg.altDrop _; exact Rg.altTake _; go_big_quiet_op; go_big_quiet_on) | ((with_reducible apply quiet_call); exact fun w => rfl; (focus (go_simp; all_goals with_reducible rfl)); (intro wq HQ; first | (with_reducible exact (join_at r.a r.f x h1 h2 hx _).mono fun _ _ ⟨he, hw⟩ => ⟨he, hw ▸ Below.refl _ _⟩)); go_big_quiet_op; go_big_quiet_on) | (go_big_quiet_op; go_big_quiet_on) | (go_big_quiet_op; refine ⟨_, fun _ _ => rfl, ?_⟩; go_big_quiet_on))))
  refine wpQuiet_nil ?_
  intro w' HM'
  clear HM; have HM := HM'; clear HM'
  go_wp2_with fail
  go_ret
  exact ⟨by rw [hx2.out]; rfl, Own.fin HM⟩
set_option maxRecDepth 100000 in
set_option maxHeartbeats 800000 in
theorem setPair_4 (r : Rg) (v : Nat) (hv : v < 65536) (w : World) : Calls Tryz.prog 207 #[r.v, .int .i64 4, .int .u16 (v : Int)] w fun e w' => e = .returned (({ r with a := v / 256, f := v % 256 } : Rg).v) ∧ Below w.heap.size w w' := by
  obtain ⟨x, hx⟩ : ∃ x, Hid (wHigh v = x) := ⟨_, rfl⟩
  obtain ⟨y, hy⟩ : ∃ y, Hid (v % 256 = y) := ⟨_, rfl⟩
  have ex : Hid (v / 256 = x) := hx
  have HM := Lib.hid (Own.start w)
  have tg1 : Hid True := trivial
  have tg2 : Hid True := trivial
  go_enter Tryz.func207, Tryz.ntmps207
  go_wp2_with (first
    | ((with_reducible apply own_box HM); exact rfl; (conv => lhs; whnf); exact rfl; exact rfl; (first | (clear tg1 HM; intro w' g1 HM) | (clear tg2 HM; intro w' g2 HM) | (clear tg3 HM; intro w' g3 HM) | (clear tg4 HM; intro w' g4 HM) | (clear HM; intro w' g' HM))) | ((with_reducible apply own_alloc HM); exact rfl; (with_reducible exact zeroR); exact rfl; (first | (clear tg1 HM; intro w' g1 HM) | (clear tg2 HM; intro w' g2 HM) | (clear tg3 HM; intro w' g3 HM) | (clear tg4 HM; intro w' g4 HM) | (clear HM; intro w' g' HM))) | ((with_reducible apply own_row HM); exact rfl; exact rfl; exact aggR; exact sS; exact rfl; exact lS) | ((with_reducible apply own_lay HM); exact rfl; exact rfl; exact rfl; exact sS; exact sS; exact aggR.size; exact lS; exact lS; (first | exact Rg.one1 _ | exact rfl); exact rfl; exact rfl; clear HM; intro w' HM) | ((with_reducible apply own_put HM); exact rfl; exact rfl; (conv => lhs; whnf); exact sS; exact sS; exact zS; exact rfl; exact rfl; (show (_ : Nat) < 29; decide); exact rfl; clear HM; intro w' HM)
    | (go_at_call 203; (with_reducible refine (wide_no4 _ _).mono ?_); rintro e w' ⟨rfl, rfl⟩)
    | (go_at_call 204; (with_reducible refine (halves_4 _ _).mono ?_); rintro e w' ⟨rfl, hb⟩; replace HM := Lib.hid (HM.out.call hb); clear hb)
    | (go_at_call 141; (with_reducible refine (split_at v x y hv hx hy _).mono ?_); rintro e w' ⟨rfl, rfl⟩))
  rw [ex.out, hy.out]
  refine bodyPost_ret (v := .agg ((r.cells.set 0 (.int .u8 (x : Int))).set 1 (.int .u8 (y : Int))).toArray) (own_results HM Tryz.results207 _ rfl (by first | exact .z | exact .s .z) aggR) rfl ⟨rfl, Own.fin HM⟩
set_option maxRecDepth 100000 in
set_option maxHeartbeats 800000 in
theorem pair_5 (r : Rg) (w : World) : Calls Tryz.prog 143 #[r.v, .int .i64 5] w fun e w' => e = .returned (.int .u16 (r.ix : Int)) ∧ Below w.heap.size w w' := by
  have HM := Lib.hid (Own.start w)
  have tg1 : Hid True := trivial
  have tg2 : Hid True := trivial
  go_enter Tryz.func143, Tryz.ntmps143
  go_wp2_with (first
    | ((with_reducible apply own_box HM); exact rfl; (conv => lhs; whnf); exact rfl; exact rfl; (first | (clear tg1 HM; intro w' g1 HM) | (clear tg2 HM; intro w' g2 HM) | (clear tg3 HM; intro w' g3 HM) | (clear tg4 HM; intro w' g4 HM) | (clear HM; intro w' g' HM))) | ((with_reducible apply own_get HM); exact rfl; exact rfl; exact oS; exact sS; (conv => lhs; whnf); exact rfl)
    | (go_at_call 203; (with_reducible refine (wide_5 _ _).mono ?_); rintro e w' ⟨rfl, rfl⟩)
    | (go_at_call 204; (with_reducible refine (halves_no5 _ _).mono ?_); rintro e w' ⟨rfl, rfl⟩))
  go_ret
  exact ⟨rfl, Own.fin HM⟩
set_option maxRecDepth 100000 in
set_option maxHeartbeats 800000 in
theorem setPair_5 (r : Rg) (v : Nat) (_hv : v < 65536) (w : World) : Calls Tryz.prog 207 #[r.v, .int .i64 5, .int .u16 (v : Int)] w fun e w' => e = .returned (({ r with ix := v } : Rg).v) ∧ Below w.heap.size w w' := by
  have HM := Lib.hid (Own.start w)
  have tg1 : Hid True := trivial
  have tg2 : Hid True := trivial
  go_enter Tryz.func207, Tryz.ntmps207
  go_wp2_with (first
    | ((with_reducible apply own_box HM); exact rfl; (conv => lhs; whnf); exact rfl; exact rfl; (first | (clear tg1 HM; intro w' g1 HM) | (clear tg2 HM; intro w' g2 HM) | (clear tg3 HM; intro w' g3 HM) | (clear tg4 HM; intro w' g4 HM) | (clear HM; intro w' g' HM))) | ((with_reducible apply own_alloc HM); exact rfl; (with_reducible exact zeroR); exact rfl; (first | (clear tg1 HM; intro w' g1 HM) | (clear tg2 HM; intro w' g2 HM) | (clear tg3 HM; intro w' g3 HM) | (clear tg4 HM; intro w' g4 HM) | (clear HM; intro w' g' HM))) | ((with_reducible apply own_row HM); exact rfl; exact rfl; exact aggR; exact sS; exact rfl; exact lS) | ((with_reducible apply own_lay HM); exact rfl; exact rfl; exact rfl; exact sS; exact sS; exact aggR.size; exact lS; exact lS; (first | exact Rg.one1 _ | exact rfl); exact rfl; exact rfl; clear HM; intro w' HM) | ((with_reducible apply own_put HM); exact rfl; exact rfl; (conv => lhs; whnf); exact sS; exact sS; exact zS; exact rfl; exact rfl; (show (_ : Nat) < 29; decide); exact rfl; clear HM; intro w' HM)
    | (go_at_call 203; (with_reducible refine (wide_5 _ _).mono ?_); rintro e w' ⟨rfl, rfl⟩)
    | (go_at_call 204; (with_reducible refine (halves_no5 _ _).mono ?_); rintro e w' ⟨rfl, rfl⟩))
  refine bodyPost_ret (v := .agg (r.cells.set 16 (.int .u16 (v : Int))).toArray) (own_results HM Tryz.results207 _ rfl (by first | exact .z | exact .s .z) aggR) rfl ⟨rfl, Own.fin HM⟩
set_option maxRecDepth 100000 in
set_option maxHeartbeats 800000 in
theorem pair_6 (r : Rg) (w : World) : Calls Tryz.prog 143 #[r.v, .int .i64 6] w fun e w' => e = .returned (.int .u16 (r.iy : Int)) ∧ Below w.heap.size w w' := by
  have HM := Lib.hid (Own.start w)
  have tg1 : Hid True := trivial
  have tg2 : Hid True := trivial
  go_enter Tryz.func143, Tryz.ntmps143
  go_wp2_with (first
    | ((with_reducible apply own_box HM); exact rfl; (conv => lhs; whnf); exact rfl; exact rfl; (first | (clear tg1 HM; intro w' g1 HM) | (clear tg2 HM; intro w' g2 HM) | (clear tg3 HM; intro w' g3 HM) | (clear tg4 HM; intro w' g4 HM) | (clear HM; intro w' g' HM))) | ((with_reducible apply own_get HM); exact rfl; exact rfl; exact oS; exact sS; (conv => lhs; whnf); exact rfl)
    | (go_at_call 203; (with_reducible refine (wide_6 _ _).mono ?_); rintro e w' ⟨rfl, rfl⟩)
    | (go_at_call 204; (with_reducible refine (halves_no6 _ _).mono ?_); rintro e w' ⟨rfl, rfl⟩))
  go_ret
  exact ⟨rfl, Own.fin HM⟩
set_option maxRecDepth 100000 in
set_option maxHeartbeats 800000 in
theorem setPair_6 (r : Rg) (v : Nat) (_hv : v < 65536) (w : World) : Calls Tryz.prog 207 #[r.v, .int .i64 6, .int .u16 (v : Int)] w fun e w' => e = .returned (({ r with iy := v } : Rg).v) ∧ Below w.heap.size w w' := by
  have HM := Lib.hid (Own.start w)
  have tg1 : Hid True := trivial
  have tg2 : Hid True := trivial
  go_enter Tryz.func207, Tryz.ntmps207
  go_wp2_with (first
    | ((with_reducible apply own_box HM); exact rfl; (conv => lhs; whnf); exact rfl; exact rfl; (first | (clear tg1 HM; intro w' g1 HM) | (clear tg2 HM; intro w' g2 HM) | (clear tg3 HM; intro w' g3 HM) | (clear tg4 HM; intro w' g4 HM) | (clear HM; intro w' g' HM))) | ((with_reducible apply own_alloc HM); exact rfl; (with_reducible exact zeroR); exact rfl; (first | (clear tg1 HM; intro w' g1 HM) | (clear tg2 HM; intro w' g2 HM) | (clear tg3 HM; intro w' g3 HM) | (clear tg4 HM; intro w' g4 HM) | (clear HM; intro w' g' HM))) | ((with_reducible apply own_row HM); exact rfl; exact rfl; exact aggR; exact sS; exact rfl; exact lS) | ((with_reducible apply own_lay HM); exact rfl; exact rfl; exact rfl; exact sS; exact sS; exact aggR.size; exact lS; exact lS; (first | exact Rg.one1 _ | exact rfl); exact rfl; exact rfl; clear HM; intro w' HM) | ((with_reducible apply own_put HM); exact rfl; exact rfl; (conv => lhs; whnf); exact sS; exact sS; exact zS; exact rfl; exact rfl; (show (_ : Nat) < 29; decide); exact rfl; clear HM; intro w' HM)
    | (go_at_call 203; (with_reducible refine (wide_6 _ _).mono ?_); rintro e w' ⟨rfl, rfl⟩)
    | (go_at_call 204; (with_reducible refine (halves_no6 _ _).mono ?_); rintro e w' ⟨rfl, rfl⟩))
  refine bodyPost_ret (v := .agg (r.cells.set 17 (.int .u16 (v : Int))).toArray) (own_results HM Tryz.results207 _ rfl (by first | exact .z | exact .s .z) aggR) rfl ⟨rfl, Own.fin HM⟩
set_option maxRecDepth 100000 in
set_option maxHeartbeats 800000 in
theorem pair_no (r : Rg) (n : Int) (hn : ¬ n = 0 ∧ ¬ n = 1 ∧ ¬ n = 2 ∧ ¬ n = 3 ∧ ¬ n = 4 ∧ ¬ n = 5 ∧ ¬ n = 6) (w : World) : Calls Tryz.prog 143 #[r.v, .int .i64 n] w fun e w' => e = .returned (.int .u16 0) ∧ Below w.heap.size w w' := by
  obtain ⟨h0, h1, h2, h3, h4, h5, h6⟩ := hn
  have HM := Lib.hid (Own.start w)
  have tg1 : Hid True := trivial
  have tg2 : Hid True := trivial
  go_enter Tryz.func143, Tryz.ntmps143
  go_wp2_with (first
    | ((with_reducible apply own_box HM); exact rfl; (conv => lhs; whnf); exact rfl; exact rfl; (first | (clear tg1 HM; intro w' g1 HM) | (clear tg2 HM; intro w' g2 HM) | (clear tg3 HM; intro w' g3 HM) | (clear tg4 HM; intro w' g4 HM) | (clear HM; intro w' g' HM))) | ((with_reducible apply own_get HM); exact rfl; exact rfl; exact oS; exact sS; (conv => lhs; whnf); exact rfl)
    | (go_at_call 203; (with_reducible refine (wide_no _ n h3 h5 h6 _).mono ?_); rintro e w' ⟨rfl, rfl⟩)
    | (go_at_call 204; (with_reducible refine (halves_no _ n h0 h1 h2 h4 _).mono ?_); rintro e w' ⟨rfl, rfl⟩))
  go_ret
  exact ⟨rfl, Own.fin HM⟩
set_option maxRecDepth 100000 in
set_option maxHeartbeats 800000 in
theorem setPair_no (r : Rg) (n : Int) (hn : ¬ n = 0 ∧ ¬ n = 1 ∧ ¬ n = 2 ∧ ¬ n = 3 ∧ ¬ n = 4 ∧ ¬ n = 5 ∧ ¬ n = 6) (v : Nat) (_hv : v < 65536) (w : World) : Calls Tryz.prog 207 #[r.v, .int .i64 n, .int .u16 (v : Int)] w fun e w' => e = .returned (r.v) ∧ Below w.heap.size w w' := by
  obtain ⟨h0, h1, h2, h3, h4, h5, h6⟩ := hn
  have HM := Lib.hid (Own.start w)
  have tg1 : Hid True := trivial
  have tg2 : Hid True := trivial
  go_enter Tryz.func207, Tryz.ntmps207
  go_wp2_with (first
    | ((with_reducible apply own_box HM); exact rfl; (conv => lhs; whnf); exact rfl; exact rfl; (first | (clear tg1 HM; intro w' g1 HM) | (clear tg2 HM; intro w' g2 HM) | (clear tg3 HM; intro w' g3 HM) | (clear tg4 HM; intro w' g4 HM) | (clear HM; intro w' g' HM))) | ((with_reducible apply own_alloc HM); exact rfl; (with_reducible exact zeroR); exact rfl; (first | (clear tg1 HM; intro w' g1 HM) | (clear tg2 HM; intro w' g2 HM) | (clear tg3 HM; intro w' g3 HM) | (clear tg4 HM; intro w' g4 HM) | (clear HM; intro w' g' HM))) | ((with_reducible apply own_row HM); exact rfl; exact rfl; exact aggR; exact sS; exact rfl; exact lS) | ((with_reducible apply own_lay HM); exact rfl; exact rfl; exact rfl; exact sS; exact sS; exact aggR.size; exact lS; exact lS; (first | exact Rg.one1 _ | exact rfl); exact rfl; exact rfl; clear HM; intro w' HM) | ((with_reducible apply own_put HM); exact rfl; exact rfl; (conv => lhs; whnf); exact sS; exact sS; exact zS; exact rfl; exact rfl; (show (_ : Nat) < 29; decide); exact rfl; clear HM; intro w' HM)
    | (go_at_call 203; (with_reducible refine (wide_no _ n h3 h5 h6 _).mono ?_); rintro e w' ⟨rfl, rfl⟩)
    | (go_at_call 204; (with_reducible refine (halves_no _ n h0 h1 h2 h4 _).mono ?_); rintro e w' ⟨rfl, rfl⟩))
  refine bodyPost_ret (v := .agg r.cells.toArray) (own_results HM Tryz.results207 _ rfl (by first | exact .z | exact .s .z) aggR) rfl ⟨rfl, Own.fin HM⟩
theorem pair_at (r : Rg) (hr : r.Fits) (n : Int) (P : Nat) (hP : Hid (r.pair n = P)) (w : World) : Calls Tryz.prog 143 #[r.v, .int .i64 n] w fun e w' => e = .returned (.int .u16 (P : Int)) ∧ Below w.heap.size w w' := by
  rw [← hP.out]
  rcases pair_cases n with rfl | rfl | rfl | rfl | rfl | rfl | rfl | hn
  · exact pair_0 r hr w
  · exact pair_1 r hr w
  · exact pair_2 r hr w
  · exact pair_3 r w
  · exact pair_4 r hr w
  · exact pair_5 r w
  · exact pair_6 r w
  · rw [r.pair_no n hn]; exact pair_no r n hn w
theorem setPair_at (r : Rg) (n : Int) (v : Nat) (hv : v < 65536) (s : Rg) (hs : Hid (r.setPair n v = s)) (w : World) : Calls Tryz.prog 207 #[r.v, .int .i64 n, .int .u16 (v : Int)] w fun e w' => e = .returned s.v ∧ Below w.heap.size w w' := by
  rw [← hs.out]
  rcases pair_cases n with rfl | rfl | rfl | rfl | rfl | rfl | rfl | hn
  · exact setPair_0 r v hv w
  · exact setPair_1 r v hv w
  · exact setPair_2 r v hv w
  · exact setPair_3 r v hv w
  · exact setPair_4 r v hv w
  · exact setPair_5 r v hv w
  · exact setPair_6 r v hv w
  · rw [r.setPair_no n v hn]; exact setPair_no r n hn v hv w
end Go.Proofs.YtljjgakfnajifaaGreatDoor
namespace Go.Proofs.YtljjgakfnajifaaGreatDoor
open Go.RowKit
set_option maxRecDepth 100000 in
set_option maxHeartbeats 800000 in
theorem one_0 (r : Rg) (px : Nat) (w : World) : Calls Tryz.prog 145 #[r.v, .int .i64 0, .int .u8 (px : Int)] w fun e w' => e = .returned (.int .u8 (r.b : Int)) ∧ Below w.heap.size w w' := by
  have HM := Lib.hid (Own.start w)
  have tg1 : Hid True := trivial
  have tg2 : Hid True := trivial
  go_enter Tryz.func145, Tryz.ntmps145
  go_wp2_with (first
    | ((with_reducible apply own_box HM); exact rfl; (conv => lhs; whnf); exact rfl; exact rfl; (first | (clear tg1 HM; intro w' g1 HM) | (clear tg2 HM; intro w' g2 HM) | (clear tg3 HM; intro w' g3 HM) | (clear tg4 HM; intro w' g4 HM) | (clear HM; intro w' g' HM))) | ((with_reducible apply own_get HM); exact rfl; exact rfl; exact oS; exact sS; (conv => lhs; whnf); exact rfl)
    | (go_at_call 206; (with_reducible refine (single_0 _ _).mono ?_); rintro e w' ⟨rfl, rfl⟩))
  go_ret
  exact ⟨rfl, Own.fin HM⟩
set_option maxRecDepth 100000 in
set_option maxHeartbeats 800000 in
theorem one_1 (r : Rg) (px : Nat) (w : World) : Calls Tryz.prog 145 #[r.v, .int .i64 1, .int .u8 (px : Int)] w fun e w' => e = .returned (.int .u8 (r.c : Int)) ∧ Below w.heap.size w w' := by
  have HM := Lib.hid (Own.start w)
  have tg1 : Hid True := trivial
  have tg2 : Hid True := trivial
  go_enter Tryz.func145, Tryz.ntmps145
  go_wp2_with (first
    | ((with_reducible apply own_box HM); exact rfl; (conv => lhs; whnf); exact rfl; exact rfl; (first | (clear tg1 HM; intro w' g1 HM) | (clear tg2 HM; intro w' g2 HM) | (clear tg3 HM; intro w' g3 HM) | (clear tg4 HM; intro w' g4 HM) | (clear HM; intro w' g' HM))) | ((with_reducible apply own_get HM); exact rfl; exact rfl; exact oS; exact sS; (conv => lhs; whnf); exact rfl)
    | (go_at_call 206; (with_reducible refine (single_1 _ _).mono ?_); rintro e w' ⟨rfl, rfl⟩))
  go_ret
  exact ⟨rfl, Own.fin HM⟩
set_option maxRecDepth 100000 in
set_option maxHeartbeats 800000 in
theorem one_2 (r : Rg) (px : Nat) (w : World) : Calls Tryz.prog 145 #[r.v, .int .i64 2, .int .u8 (px : Int)] w fun e w' => e = .returned (.int .u8 (r.d : Int)) ∧ Below w.heap.size w w' := by
  have HM := Lib.hid (Own.start w)
  have tg1 : Hid True := trivial
  have tg2 : Hid True := trivial
  go_enter Tryz.func145, Tryz.ntmps145
  go_wp2_with (first
    | ((with_reducible apply own_box HM); exact rfl; (conv => lhs; whnf); exact rfl; exact rfl; (first | (clear tg1 HM; intro w' g1 HM) | (clear tg2 HM; intro w' g2 HM) | (clear tg3 HM; intro w' g3 HM) | (clear tg4 HM; intro w' g4 HM) | (clear HM; intro w' g' HM))) | ((with_reducible apply own_get HM); exact rfl; exact rfl; exact oS; exact sS; (conv => lhs; whnf); exact rfl)
    | (go_at_call 206; (with_reducible refine (single_2 _ _).mono ?_); rintro e w' ⟨rfl, rfl⟩))
  go_ret
  exact ⟨rfl, Own.fin HM⟩
set_option maxRecDepth 100000 in
set_option maxHeartbeats 800000 in
theorem one_3 (r : Rg) (px : Nat) (w : World) : Calls Tryz.prog 145 #[r.v, .int .i64 3, .int .u8 (px : Int)] w fun e w' => e = .returned (.int .u8 (r.e : Int)) ∧ Below w.heap.size w w' := by
  have HM := Lib.hid (Own.start w)
  have tg1 : Hid True := trivial
  have tg2 : Hid True := trivial
  go_enter Tryz.func145, Tryz.ntmps145
  go_wp2_with (first
    | ((with_reducible apply own_box HM); exact rfl; (conv => lhs; whnf); exact rfl; exact rfl; (first | (clear tg1 HM; intro w' g1 HM) | (clear tg2 HM; intro w' g2 HM) | (clear tg3 HM; intro w' g3 HM) | (clear tg4 HM; intro w' g4 HM) | (clear HM; intro w' g' HM))) | ((with_reducible apply own_get HM); exact rfl; exact rfl; exact oS; exact sS; (conv => lhs; whnf); exact rfl)
    | (go_at_call 206; (with_reducible refine (single_3 _ _).mono ?_); rintro e w' ⟨rfl, rfl⟩))
  go_ret
  exact ⟨rfl, Own.fin HM⟩
set_option maxRecDepth 100000 in
set_option maxHeartbeats 800000 in
theorem one_7 (r : Rg) (px : Nat) (w : World) : Calls Tryz.prog 145 #[r.v, .int .i64 7, .int .u8 (px : Int)] w fun e w' => e = .returned (.int .u8 (r.a : Int)) ∧ Below w.heap.size w w' := by
  have HM := Lib.hid (Own.start w)
  have tg1 : Hid True := trivial
  have tg2 : Hid True := trivial
  go_enter Tryz.func145, Tryz.ntmps145
  go_wp2_with (first
    | ((with_reducible apply own_box HM); exact rfl; (conv => lhs; whnf); exact rfl; exact rfl; (first | (clear tg1 HM; intro w' g1 HM) | (clear tg2 HM; intro w' g2 HM) | (clear tg3 HM; intro w' g3 HM) | (clear tg4 HM; intro w' g4 HM) | (clear HM; intro w' g' HM))) | ((with_reducible apply own_get HM); exact rfl; exact rfl; exact oS; exact sS; (conv => lhs; whnf); exact rfl)
    | (go_at_call 206; (with_reducible refine (single_7 _ _).mono ?_); rintro e w' ⟨rfl, rfl⟩))
  go_ret
  exact ⟨rfl, Own.fin HM⟩
set_option maxRecDepth 100000 in
set_option maxHeartbeats 800000 in
theorem one_4 (r : Rg) (hr : r.Fits) (px : Nat) (w : World) : Calls Tryz.prog 145 #[r.v, .int .i64 4, .int .u8 (px : Int)] w fun e w' => e = .returned (.int .u8 (r.pair (rgIdx px) / 256 : Nat)) ∧ Below w.heap.size w w' := by
  obtain ⟨k, hk⟩ : ∃ k, Hid (rgIdx px = k) := ⟨_, rfl⟩
  obtain ⟨P, hP⟩ : ∃ P, Hid (r.pair k = P) := ⟨_, rfl⟩
  have P1 : P < 65536 := by rw [← hP.out]; exact r.pair_lt hr k
  obtain ⟨x, hx⟩ : ∃ x, Hid (wHigh P = x) := ⟨_, rfl⟩
  obtain ⟨y, hy⟩ : ∃ y, Hid (P % 256 = y) := ⟨_, rfl⟩
  have HR := Lib.hid hr
  clear hr
  have E : Hid (((r.pair (rgIdx px) / 256 : Nat) : Int) = (x : Int)) := by show _ = _; rw [hk.out, hP.out, ← hx.out]; rfl
  have HM := Lib.hid (Own.start w)
  have tg1 : Hid True := trivial
  have tg2 : Hid True := trivial
  go_enter Tryz.func145, Tryz.ntmps145
  go_wp2_with (first
    | ((with_reducible apply own_box HM); exact rfl; (conv => lhs; whnf); exact rfl; exact rfl; (first | (clear tg1 HM; intro w' g1 HM) | (clear tg2 HM; intro w' g2 HM) | (clear tg3 HM; intro w' g3 HM) | (clear tg4 HM; intro w' g4 HM) | (clear HM; intro w' g' HM))) | ((with_reducible apply own_get HM); exact rfl; exact rfl; exact oS; exact sS; (conv => lhs; whnf); exact rfl)
    | (go_at_call 206; (with_reducible refine (single_no4 _ _).mono ?_); rintro e w' ⟨rfl, rfl⟩))
  (refine own_region HM (by kernel_rfl) (by kernel_rfl) ?_; (try simp only [Act.put, List.setIfInBounds_toArray, List.set_cons_zero, List.set_cons_succ]); repeat ((fail_if_success (with_reducible refine wpQuiet_nil ?_)); first | go_big_quiet_skip | (go_big_quiet_want; first | ((with_reducible apply quiet_row); exact rfl; exact aggR; exact sS; exact lS; go_big_quiet_op; go_big_quiet_on) | ((with_reducible apply quiet_get); exact rfl; exact bS3; exact sS; exact rfl; go_big_quiet_op; go_big_quiet_on) | ((with_reducible apply quiet_load); exact rfl; (with_reducible exact aggAlt); exact sS; exact Rg.altDrop _; exact Rg.altTake _; go_big_quiet_op; go_big_quiet_on) | ((with_reducible apply quiet_call); exact fun w => rfl; (focus (go_simp; all_goals with_reducible rfl)); (intro wq HQ; first | (with_reducible exact (index_at px k hk _).mono fun _ _ ⟨he, hw⟩ => ⟨he, hw ▸ Below.refl _ _⟩) | (with_reducible exact pair_at r HR.out k P hP _) | (with_reducible exact (split_at P x y P1 hx hy _).mono fun _ _ ⟨he, hw⟩ => ⟨he, hw ▸ Below.refl _ _⟩)); go_big_quiet_op; go_big_quiet_on) | (go_big_quiet_op; go_big_quiet_on) | (go_big_quiet_op; refine ⟨_, fun _ _ => rfl, ?_⟩; go_big_quiet_on))))
  refine wpQuiet_nil ?_
  intro w' HM'
  clear HM; have HM := HM'; clear HM'
  go_wp2_with fail
  go_ret
  exact ⟨by rw [E.out]; rfl, Own.fin HM⟩
set_option maxRecDepth 100000 in
set_option maxHeartbeats 800000 in
theorem one_5 (r : Rg) (hr : r.Fits) (px : Nat) (w : World) : Calls Tryz.prog 145 #[r.v, .int .i64 5, .int .u8 (px : Int)] w fun e w' => e = .returned (.int .u8 (r.pair (rgIdx px) % 256 : Nat)) ∧ Below w.heap.size w w' := by
  obtain ⟨k, hk⟩ : ∃ k, Hid (rgIdx px = k) := ⟨_, rfl⟩
  obtain ⟨P, hP⟩ : ∃ P, Hid (r.pair k = P) := ⟨_, rfl⟩
  have P1 : P < 65536 := by rw [← hP.out]; exact r.pair_lt hr k
  obtain ⟨x, hx⟩ : ∃ x, Hid (wHigh P = x) := ⟨_, rfl⟩
  obtain ⟨y, hy⟩ : ∃ y, Hid (P % 256 = y) := ⟨_, rfl⟩
  have HR := Lib.hid hr
  clear hr
  have E : Hid (((r.pair (rgIdx px) % 256 : Nat) : Int) = (y : Int)) := by show _ = _; rw [hk.out, hP.out, ← hy.out]
  have HM := Lib.hid (Own.start w)
  have tg1 : Hid True := trivial
  have tg2 : Hid True := trivial
  go_enter Tryz.func145, Tryz.ntmps145
  go_wp2_with (first
    | ((with_reducible apply own_box HM); exact rfl; (conv => lhs; whnf); exact rfl; exact rfl; (first | (clear tg1 HM; intro w' g1 HM) | (clear tg2 HM; intro w' g2 HM) | (clear tg3 HM; intro w' g3 HM) | (clear tg4 HM; intro w' g4 HM) | (clear HM; intro w' g' HM))) | ((with_reducible apply own_get HM); exact rfl; exact rfl; exact oS; exact sS; (conv => lhs; whnf); exact rfl)
    | (go_at_call 206; (with_reducible refine (single_no5 _ _).mono ?_); rintro e w' ⟨rfl, rfl⟩))
  (refine own_region HM (by kernel_rfl) (by kernel_rfl) ?_; (try simp only [Act.put, List.setIfInBounds_toArray, List.set_cons_zero, List.set_cons_succ]); repeat ((fail_if_success (with_reducible refine wpQuiet_nil ?_)); first | go_big_quiet_skip | (go_big_quiet_want; first | ((with_reducible apply quiet_row); exact rfl; exact aggR; exact sS; exact lS; go_big_quiet_op; go_big_quiet_on) | ((with_reducible apply quiet_get); exact rfl; exact bS3; exact sS; exact rfl; go_big_quiet_op; go_big_quiet_on) | ((with_reducible apply quiet_load); exact rfl; (with_reducible exact aggAlt); exact sS; exact Rg.altDrop _; exact Rg.altTake _; go_big_quiet_op; go_big_quiet_on) | ((with_reducible apply quiet_call); exact fun w => rfl; (focus (go_simp; all_goals with_reducible rfl)); (intro wq HQ; first | (with_reducible exact (index_at px k hk _).mono fun _ _ ⟨he, hw⟩ => ⟨he, hw ▸ Below.refl _ _⟩) | (with_reducible exact pair_at r HR.out k P hP _) | (with_reducible exact (split_at P x y P1 hx hy _).mono fun _ _ ⟨he, hw⟩ => ⟨he, hw ▸ Below.refl _ _⟩)); go_big_quiet_op; go_big_quiet_on) | (go_big_quiet_op; go_big_quiet_on) | (go_big_quiet_op; refine ⟨_, fun _ _ => rfl, ?_⟩; go_big_quiet_on))))
  refine wpQuiet_nil ?_
  intro w' HM'
  clear HM; have HM := HM'; clear HM'
  go_wp2_with fail
  go_ret
  exact ⟨by rw [E.out]; rfl, Own.fin HM⟩
set_option maxRecDepth 100000 in
set_option maxHeartbeats 800000 in
theorem one_no (r : Rg) (hr : r.Fits) (n : Int) (hn : ¬ n = 0 ∧ ¬ n = 1 ∧ ¬ n = 2 ∧ ¬ n = 3 ∧ ¬ n = 7 ∧ ¬ n = 4 ∧ ¬ n = 5) (px : Nat) (w : World) : Calls Tryz.prog 145 #[r.v, .int .i64 n, .int .u8 (px : Int)] w fun e w' => e = .returned (.int .u8 0) ∧ Below w.heap.size w w' := by
  obtain ⟨h0, h1, h2, h3, h7, h4, h5⟩ := hn
  obtain ⟨k, hk⟩ : ∃ k, Hid (rgIdx px = k) := ⟨_, rfl⟩
  obtain ⟨P, hP⟩ : ∃ P, Hid (r.pair k = P) := ⟨_, rfl⟩
  have P1 : P < 65536 := by rw [← hP.out]; exact r.pair_lt hr k
  obtain ⟨x, hx⟩ : ∃ x, Hid (wHigh P = x) := ⟨_, rfl⟩
  obtain ⟨y, hy⟩ : ∃ y, Hid (P % 256 = y) := ⟨_, rfl⟩
  have HR := Lib.hid hr
  clear hr
  have HM := Lib.hid (Own.start w)
  have tg1 : Hid True := trivial
  have tg2 : Hid True := trivial
  go_enter Tryz.func145, Tryz.ntmps145
  go_wp2_with (first
    | ((with_reducible apply own_box HM); exact rfl; (conv => lhs; whnf); exact rfl; exact rfl; (first | (clear tg1 HM; intro w' g1 HM) | (clear tg2 HM; intro w' g2 HM) | (clear tg3 HM; intro w' g3 HM) | (clear tg4 HM; intro w' g4 HM) | (clear HM; intro w' g' HM))) | ((with_reducible apply own_get HM); exact rfl; exact rfl; exact oS; exact sS; (conv => lhs; whnf); exact rfl)
    | (go_at_call 206; (with_reducible refine (single_no _ n h0 h1 h2 h3 h7 _).mono ?_); rintro e w' ⟨rfl, rfl⟩))
  (refine own_region HM (by kernel_rfl) (by kernel_rfl) ?_; (try simp only [Act.put, List.setIfInBounds_toArray, List.set_cons_zero, List.set_cons_succ]); repeat ((fail_if_success (with_reducible refine wpQuiet_nil ?_)); first | go_big_quiet_skip | (go_big_quiet_want; first | ((with_reducible apply quiet_row); exact rfl; exact aggR; exact sS; exact lS; go_big_quiet_op; go_big_quiet_on) | ((with_reducible apply quiet_get); exact rfl; exact bS3; exact sS; exact rfl; go_big_quiet_op; go_big_quiet_on) | ((with_reducible apply quiet_load); exact rfl; (with_reducible exact aggAlt); exact sS; exact Rg.altDrop _; exact Rg.altTake _; go_big_quiet_op; go_big_quiet_on) | ((with_reducible apply quiet_call); exact fun w => rfl; (focus (go_simp; all_goals with_reducible rfl)); (intro wq HQ; first | (with_reducible exact (index_at px k hk _).mono fun _ _ ⟨he, hw⟩ => ⟨he, hw ▸ Below.refl _ _⟩) | (with_reducible exact pair_at r HR.out k P hP _) | (with_reducible exact (split_at P x y P1 hx hy _).mono fun _ _ ⟨he, hw⟩ => ⟨he, hw ▸ Below.refl _ _⟩)); go_big_quiet_op; go_big_quiet_on) | (go_big_quiet_op; go_big_quiet_on) | (go_big_quiet_op; refine ⟨_, fun _ _ => rfl, ?_⟩; go_big_quiet_on))))
  refine wpQuiet_nil ?_
  intro w' HM'
  clear HM; have HM := HM'; clear HM'
  go_wp2_with fail
  go_ret
  exact ⟨rfl, Own.fin HM⟩
theorem regOne_at (r : Rg) (hr : r.Fits) (n : Int) (px O : Nat) (hO : Hid (r.one n px = O)) (w : World) : Calls Tryz.prog 145 #[r.v, .int .i64 n, .int .u8 (px : Int)] w fun e w' => e = .returned (.int .u8 (O : Int)) ∧ Below w.heap.size w w' := by
  rw [← hO.out]
  rcases one_cases n with rfl | rfl | rfl | rfl | rfl | rfl | rfl | hn
  · exact one_0 r px w
  · exact one_1 r px w
  · exact one_2 r px w
  · exact one_3 r px w
  · exact one_7 r px w
  · exact one_4 r hr px w
  · exact one_5 r hr px w
  · rw [r.one_no n px hn]; exact one_no r hr n hn px w
end Go.Proofs.YtljjgakfnajifaaGreatDoor
namespace Go.Proofs.YtljjgakfnajifaaGreatDoor
open Go.RowKit
set_option maxRecDepth 100000 in
set_option maxHeartbeats 1600000 in
theorem setOne_0 (r : Rg) (px : Nat) (v : Nat) (_hv : v < 256) (w : World) : Calls Tryz.prog 148 #[r.v, .int .i64 0, .int .u8 (px : Int), .int .u8 (v : Int)] w fun e w' => e = .returned (({ r with b := v } : Rg).v) ∧ Below w.heap.size w w' := by
  have HM := Lib.hid (Own.start w)
  have tg1 : Hid True := trivial
  have tg2 : Hid True := trivial
  go_enter Tryz.func148, Tryz.ntmps148
  go_wp2_with (first
    | ((with_reducible apply own_box HM); exact rfl; (conv => lhs; whnf); exact rfl; exact rfl; (first | (clear tg1 HM; intro w' g1 HM) | (clear tg2 HM; intro w' g2 HM) | (clear tg3 HM; intro w' g3 HM) | (clear tg4 HM; intro w' g4 HM) | (clear HM; intro w' g' HM))) | ((with_reducible apply own_alloc HM); exact rfl; (with_reducible exact zeroR); exact rfl; (first | (clear tg1 HM; intro w' g1 HM) | (clear tg2 HM; intro w' g2 HM) | (clear tg3 HM; intro w' g3 HM) | (clear tg4 HM; intro w' g4 HM) | (clear HM; intro w' g' HM))) | ((with_reducible apply own_row HM); exact rfl; exact rfl; exact aggR; exact sS; exact rfl; exact lS) | ((with_reducible apply own_lay HM); exact rfl; exact rfl; exact rfl; exact sS; exact sS; exact aggR.size; exact lS; exact lS; (first | exact Rg.one1 _ | exact rfl); exact rfl; exact rfl; clear HM; intro w' HM) | ((with_reducible apply own_put HM); exact rfl; exact rfl; (conv => lhs; whnf); exact sS; exact sS; exact zS; exact rfl; exact rfl; (show (_ : Nat) < 29; decide); exact rfl; clear HM; intro w' HM)
    | (go_at_call 206; (with_reducible refine (single_0 _ _).mono ?_); rintro e w' ⟨rfl, rfl⟩))
  refine bodyPost_ret (v := .agg (r.cells.set 2 (.int .u8 (v : Int))).toArray) (own_results HM Tryz.results148 _ rfl (by first | exact .z | exact .s .z) aggR) rfl ⟨rfl, Own.fin HM⟩
set_option maxRecDepth 100000 in
set_option maxHeartbeats 1600000 in
theorem setOne_1 (r : Rg) (px : Nat) (v : Nat) (_hv : v < 256) (w : World) : Calls Tryz.prog 148 #[r.v, .int .i64 1, .int .u8 (px : Int), .int .u8 (v : Int)] w fun e w' => e = .returned (({ r with c := v } : Rg).v) ∧ Below w.heap.size w w' := by
  have HM := Lib.hid (Own.start w)
  have tg1 : Hid True := trivial
  have tg2 : Hid True := trivial
  go_enter Tryz.func148, Tryz.ntmps148
  go_wp2_with (first
    | ((with_reducible apply own_box HM); exact rfl; (conv => lhs; whnf); exact rfl; exact rfl; (first | (clear tg1 HM; intro w' g1 HM) | (clear tg2 HM; intro w' g2 HM) | (clear tg3 HM; intro w' g3 HM) | (clear tg4 HM; intro w' g4 HM) | (clear HM; intro w' g' HM))) | ((with_reducible apply own_alloc HM); exact rfl; (with_reducible exact zeroR); exact rfl; (first | (clear tg1 HM; intro w' g1 HM) | (clear tg2 HM; intro w' g2 HM) | (clear tg3 HM; intro w' g3 HM) | (clear tg4 HM; intro w' g4 HM) | (clear HM; intro w' g' HM))) | ((with_reducible apply own_row HM); exact rfl; exact rfl; exact aggR; exact sS; exact rfl; exact lS) | ((with_reducible apply own_lay HM); exact rfl; exact rfl; exact rfl; exact sS; exact sS; exact aggR.size; exact lS; exact lS; (first | exact Rg.one1 _ | exact rfl); exact rfl; exact rfl; clear HM; intro w' HM) | ((with_reducible apply own_put HM); exact rfl; exact rfl; (conv => lhs; whnf); exact sS; exact sS; exact zS; exact rfl; exact rfl; (show (_ : Nat) < 29; decide); exact rfl; clear HM; intro w' HM)
    | (go_at_call 206; (with_reducible refine (single_1 _ _).mono ?_); rintro e w' ⟨rfl, rfl⟩))
  refine bodyPost_ret (v := .agg (r.cells.set 3 (.int .u8 (v : Int))).toArray) (own_results HM Tryz.results148 _ rfl (by first | exact .z | exact .s .z) aggR) rfl ⟨rfl, Own.fin HM⟩
set_option maxRecDepth 100000 in
set_option maxHeartbeats 1600000 in
theorem setOne_2 (r : Rg) (px : Nat) (v : Nat) (_hv : v < 256) (w : World) : Calls Tryz.prog 148 #[r.v, .int .i64 2, .int .u8 (px : Int), .int .u8 (v : Int)] w fun e w' => e = .returned (({ r with d := v } : Rg).v) ∧ Below w.heap.size w w' := by
  have HM := Lib.hid (Own.start w)
  have tg1 : Hid True := trivial
  have tg2 : Hid True := trivial
  go_enter Tryz.func148, Tryz.ntmps148
  go_wp2_with (first
    | ((with_reducible apply own_box HM); exact rfl; (conv => lhs; whnf); exact rfl; exact rfl; (first | (clear tg1 HM; intro w' g1 HM) | (clear tg2 HM; intro w' g2 HM) | (clear tg3 HM; intro w' g3 HM) | (clear tg4 HM; intro w' g4 HM) | (clear HM; intro w' g' HM))) | ((with_reducible apply own_alloc HM); exact rfl; (with_reducible exact zeroR); exact rfl; (first | (clear tg1 HM; intro w' g1 HM) | (clear tg2 HM; intro w' g2 HM) | (clear tg3 HM; intro w' g3 HM) | (clear tg4 HM; intro w' g4 HM) | (clear HM; intro w' g' HM))) | ((with_reducible apply own_row HM); exact rfl; exact rfl; exact aggR; exact sS; exact rfl; exact lS) | ((with_reducible apply own_lay HM); exact rfl; exact rfl; exact rfl; exact sS; exact sS; exact aggR.size; exact lS; exact lS; (first | exact Rg.one1 _ | exact rfl); exact rfl; exact rfl; clear HM; intro w' HM) | ((with_reducible apply own_put HM); exact rfl; exact rfl; (conv => lhs; whnf); exact sS; exact sS; exact zS; exact rfl; exact rfl; (show (_ : Nat) < 29; decide); exact rfl; clear HM; intro w' HM)
    | (go_at_call 206; (with_reducible refine (single_2 _ _).mono ?_); rintro e w' ⟨rfl, rfl⟩))
  refine bodyPost_ret (v := .agg (r.cells.set 4 (.int .u8 (v : Int))).toArray) (own_results HM Tryz.results148 _ rfl (by first | exact .z | exact .s .z) aggR) rfl ⟨rfl, Own.fin HM⟩
set_option maxRecDepth 100000 in
set_option maxHeartbeats 1600000 in
theorem setOne_3 (r : Rg) (px : Nat) (v : Nat) (_hv : v < 256) (w : World) : Calls Tryz.prog 148 #[r.v, .int .i64 3, .int .u8 (px : Int), .int .u8 (v : Int)] w fun e w' => e = .returned (({ r with e := v } : Rg).v) ∧ Below w.heap.size w w' := by
  have HM := Lib.hid (Own.start w)
  have tg1 : Hid True := trivial
  have tg2 : Hid True := trivial
  go_enter Tryz.func148, Tryz.ntmps148
  go_wp2_with (first
    | ((with_reducible apply own_box HM); exact rfl; (conv => lhs; whnf); exact rfl; exact rfl; (first | (clear tg1 HM; intro w' g1 HM) | (clear tg2 HM; intro w' g2 HM) | (clear tg3 HM; intro w' g3 HM) | (clear tg4 HM; intro w' g4 HM) | (clear HM; intro w' g' HM))) | ((with_reducible apply own_alloc HM); exact rfl; (with_reducible exact zeroR); exact rfl; (first | (clear tg1 HM; intro w' g1 HM) | (clear tg2 HM; intro w' g2 HM) | (clear tg3 HM; intro w' g3 HM) | (clear tg4 HM; intro w' g4 HM) | (clear HM; intro w' g' HM))) | ((with_reducible apply own_row HM); exact rfl; exact rfl; exact aggR; exact sS; exact rfl; exact lS) | ((with_reducible apply own_lay HM); exact rfl; exact rfl; exact rfl; exact sS; exact sS; exact aggR.size; exact lS; exact lS; (first | exact Rg.one1 _ | exact rfl); exact rfl; exact rfl; clear HM; intro w' HM) | ((with_reducible apply own_put HM); exact rfl; exact rfl; (conv => lhs; whnf); exact sS; exact sS; exact zS; exact rfl; exact rfl; (show (_ : Nat) < 29; decide); exact rfl; clear HM; intro w' HM)
    | (go_at_call 206; (with_reducible refine (single_3 _ _).mono ?_); rintro e w' ⟨rfl, rfl⟩))
  refine bodyPost_ret (v := .agg (r.cells.set 5 (.int .u8 (v : Int))).toArray) (own_results HM Tryz.results148 _ rfl (by first | exact .z | exact .s .z) aggR) rfl ⟨rfl, Own.fin HM⟩
set_option maxRecDepth 100000 in
set_option maxHeartbeats 1600000 in
theorem setOne_7 (r : Rg) (px : Nat) (v : Nat) (_hv : v < 256) (w : World) : Calls Tryz.prog 148 #[r.v, .int .i64 7, .int .u8 (px : Int), .int .u8 (v : Int)] w fun e w' => e = .returned (({ r with a := v } : Rg).v) ∧ Below w.heap.size w w' := by
  have HM := Lib.hid (Own.start w)
  have tg1 : Hid True := trivial
  have tg2 : Hid True := trivial
  go_enter Tryz.func148, Tryz.ntmps148
  go_wp2_with (first
    | ((with_reducible apply own_box HM); exact rfl; (conv => lhs; whnf); exact rfl; exact rfl; (first | (clear tg1 HM; intro w' g1 HM) | (clear tg2 HM; intro w' g2 HM) | (clear tg3 HM; intro w' g3 HM) | (clear tg4 HM; intro w' g4 HM) | (clear HM; intro w' g' HM))) | ((with_reducible apply own_alloc HM); exact rfl; (with_reducible exact zeroR); exact rfl; (first | (clear tg1 HM; intro w' g1 HM) | (clear tg2 HM; intro w' g2 HM) | (clear tg3 HM; intro w' g3 HM) | (clear tg4 HM; intro w' g4 HM) | (clear HM; intro w' g' HM))) | ((with_reducible apply own_row HM); exact rfl; exact rfl; exact aggR; exact sS; exact rfl; exact lS) | ((with_reducible apply own_lay HM); exact rfl; exact rfl; exact rfl; exact sS; exact sS; exact aggR.size; exact lS; exact lS; (first | exact Rg.one1 _ | exact rfl); exact rfl; exact rfl; clear HM; intro w' HM) | ((with_reducible apply own_put HM); exact rfl; exact rfl; (conv => lhs; whnf); exact sS; exact sS; exact zS; exact rfl; exact rfl; (show (_ : Nat) < 29; decide); exact rfl; clear HM; intro w' HM)
    | (go_at_call 206; (with_reducible refine (single_7 _ _).mono ?_); rintro e w' ⟨rfl, rfl⟩))
  refine bodyPost_ret (v := .agg (r.cells.set 0 (.int .u8 (v : Int))).toArray) (own_results HM Tryz.results148 _ rfl (by first | exact .z | exact .s .z) aggR) rfl ⟨rfl, Own.fin HM⟩
set_option maxRecDepth 100000 in
set_option maxHeartbeats 1600000 in
theorem setOne_4 (r : Rg) (hr : r.Fits) (px : Nat) (v : Nat) (hv : v < 256) (w : World) : Calls Tryz.prog 148 #[r.v, .int .i64 4, .int .u8 (px : Int), .int .u8 (v : Int)] w fun e w' => e = .returned ((r.setPair (rgIdx px) (v * 256 + r.pair (rgIdx px) % 256)).v) ∧ Below w.heap.size w w' := by
  obtain ⟨k, hk⟩ : ∃ k, Hid (rgIdx px = k) := ⟨_, rfl⟩
  obtain ⟨P, hP⟩ : ∃ P, Hid (r.pair k = P) := ⟨_, rfl⟩
  have P1 : P < 65536 := by rw [← hP.out]; exact r.pair_lt hr k
  obtain ⟨x, hx⟩ : ∃ x, Hid (wHigh P = x) := ⟨_, rfl⟩
  obtain ⟨y, hy⟩ : ∃ y, Hid (P % 256 = y) := ⟨_, rfl⟩
  have HR := Lib.hid hr
  clear hr
  have x1 : x < 256 := by rw [← hx.out]; exact wHigh_lt _ P1
  have y1 : y < 256 := by have := hy.out; omega
  obtain ⟨J, hJ⟩ : ∃ J, Hid (v * 256 + y = J) := ⟨_, rfl⟩
  have J1 : J < 65536 := by have := hJ.out; omega
  obtain ⟨s, hs⟩ : ∃ s, Hid (r.setPair k J = s) := ⟨_, rfl⟩
  have E : Hid (r.setPair (rgIdx px) (v * 256 + r.pair (rgIdx px) % 256) = s) := by show _ = _; rw [hk.out, hP.out, ← hs.out, ← hJ.out, hy.out]
  rw [E.out]
  have HM := Lib.hid (Own.start w)
  have tg1 : Hid True := trivial
  have tg2 : Hid True := trivial
  go_enter Tryz.func148, Tryz.ntmps148
  go_wp2_with (first
    | ((with_reducible apply own_box HM); exact rfl; (conv => lhs; whnf); exact rfl; exact rfl; (first | (clear tg1 HM; intro w' g1 HM) | (clear tg2 HM; intro w' g2 HM) | (clear tg3 HM; intro w' g3 HM) | (clear tg4 HM; intro w' g4 HM) | (clear HM; intro w' g' HM))) | ((with_reducible apply own_alloc HM); exact rfl; (with_reducible exact zeroR); exact rfl; (first | (clear tg1 HM; intro w' g1 HM) | (clear tg2 HM; intro w' g2 HM) | (clear tg3 HM; intro w' g3 HM) | (clear tg4 HM; intro w' g4 HM) | (clear HM; intro w' g' HM))) | ((with_reducible apply own_row HM); exact rfl; exact rfl; exact aggR; exact sS; exact rfl; exact lS) | ((with_reducible apply own_lay HM); exact rfl; exact rfl; exact rfl; exact sS; exact sS; exact aggR.size; exact lS; exact lS; (first | exact Rg.one1 _ | exact rfl); exact rfl; exact rfl; clear HM; intro w' HM) | ((with_reducible apply own_put HM); exact rfl; exact rfl; (conv => lhs; whnf); exact sS; exact sS; exact zS; exact rfl; exact rfl; (show (_ : Nat) < 29; decide); exact rfl; clear HM; intro w' HM)
    | (go_at_call 206; (with_reducible refine (single_no4 _ _).mono ?_); rintro e w' ⟨rfl, rfl⟩)
    | (go_at_call 205; (with_reducible refine (index_at px k hk _).mono ?_); rintro e w' ⟨rfl, rfl⟩)
    | (go_at_call 143; (with_reducible refine (pair_at r HR.out k P hP _).mono ?_); rintro e w' ⟨rfl, hb⟩; replace HM := Lib.hid (HM.out.call hb); clear hb)
    | (go_at_call 141; (with_reducible refine (split_at P x y P1 hx hy _).mono ?_); rintro e w' ⟨rfl, rfl⟩))
  (refine own_tail 6 HM (by kernel_rfl) (by kernel_rfl) (by kernel_rfl) ?_; simp only [List.take_succ_cons, List.take_zero, List.drop_succ_cons, List.drop_zero]; (try simp only [Act.put, List.setIfInBounds_toArray, List.set_cons_zero, List.set_cons_succ]); repeat ((fail_if_success (with_reducible refine wpQuiet_nil ?_)); first | go_big_quiet_skip | (go_big_quiet_want; first | ((with_reducible apply quiet_row); exact rfl; exact aggR; exact sS; exact lS; go_big_quiet_op; go_big_quiet_on) | ((with_reducible apply quiet_get); exact rfl; exact bS3; exact sS; exact rfl; go_big_quiet_op; go_big_quiet_on) | ((with_reducible apply quiet_load); exact rfl; (with_reducible exact aggAlt); exact sS; exact Rg.altDrop _; exact Rg.altTake _; go_big_quiet_op; go_big_quiet_on) | ((with_reducible apply quiet_call); exact fun w => rfl; (focus (go_simp; all_goals with_reducible rfl)); (intro wq HQ; first | (with_reducible exact (join_at v y J hv y1 hJ _).mono fun _ _ ⟨he, hw⟩ => ⟨he, hw ▸ Below.refl _ _⟩) | (with_reducible exact setPair_at r k J J1 s hs _)); go_big_quiet_op; go_big_quiet_on) | (go_big_quiet_op; go_big_quiet_on) | (go_big_quiet_op; refine ⟨_, fun _ _ => rfl, ?_⟩; go_big_quiet_on))))
  refine wpQuiet_nil ?_
  intro w' HM'
  clear HM; have HM := HM'; clear HM'
  go_wp2_with (first | ((with_reducible apply own_lay HM); exact rfl; exact rfl; exact rfl; exact sS; exact sS; exact aggR.size; exact lS; exact lS; (first | exact Rg.one1 _ | exact rfl); exact rfl; exact rfl; clear HM; intro w' HM))
  refine bodyPost_ret (v := .agg s.cells.toArray) (own_results HM Tryz.results148 _ rfl (by first | exact .z | exact .s .z) aggR) rfl ⟨rfl, Own.fin HM⟩
set_option maxRecDepth 100000 in
set_option maxHeartbeats 1600000 in
theorem setOne_5 (r : Rg) (hr : r.Fits) (px : Nat) (v : Nat) (hv : v < 256) (w : World) : Calls Tryz.prog 148 #[r.v, .int .i64 5, .int .u8 (px : Int), .int .u8 (v : Int)] w fun e w' => e = .returned ((r.setPair (rgIdx px) (r.pair (rgIdx px) / 256 * 256 + v)).v) ∧ Below w.heap.size w w' := by
  obtain ⟨k, hk⟩ : ∃ k, Hid (rgIdx px = k) := ⟨_, rfl⟩
  obtain ⟨P, hP⟩ : ∃ P, Hid (r.pair k = P) := ⟨_, rfl⟩
  have P1 : P < 65536 := by rw [← hP.out]; exact r.pair_lt hr k
  obtain ⟨x, hx⟩ : ∃ x, Hid (wHigh P = x) := ⟨_, rfl⟩
  obtain ⟨y, hy⟩ : ∃ y, Hid (P % 256 = y) := ⟨_, rfl⟩
  have HR := Lib.hid hr
  clear hr
  have x1 : x < 256 := by rw [← hx.out]; exact wHigh_lt _ P1
  have y1 : y < 256 := by have := hy.out; omega
  obtain ⟨J, hJ⟩ : ∃ J, Hid (x * 256 + v = J) := ⟨_, rfl⟩
  have J1 : J < 65536 := by have := hJ.out; omega
  obtain ⟨s, hs⟩ : ∃ s, Hid (r.setPair k J = s) := ⟨_, rfl⟩
  have E : Hid (r.setPair (rgIdx px) (r.pair (rgIdx px) / 256 * 256 + v) = s) := by show _ = _; rw [hk.out, hP.out, ← hs.out, ← hJ.out, ← hx.out]; rfl
  rw [E.out]
  have HM := Lib.hid (Own.start w)
  have tg1 : Hid True := trivial
  have tg2 : Hid True := trivial
  go_enter Tryz.func148, Tryz.ntmps148
  go_wp2_with (first
    | ((with_reducible apply own_box HM); exact rfl; (conv => lhs; whnf); exact rfl; exact rfl; (first | (clear tg1 HM; intro w' g1 HM) | (clear tg2 HM; intro w' g2 HM) | (clear tg3 HM; intro w' g3 HM) | (clear tg4 HM; intro w' g4 HM) | (clear HM; intro w' g' HM))) | ((with_reducible apply own_alloc HM); exact rfl; (with_reducible exact zeroR); exact rfl; (first | (clear tg1 HM; intro w' g1 HM) | (clear tg2 HM; intro w' g2 HM) | (clear tg3 HM; intro w' g3 HM) | (clear tg4 HM; intro w' g4 HM) | (clear HM; intro w' g' HM))) | ((with_reducible apply own_row HM); exact rfl; exact rfl; exact aggR; exact sS; exact rfl; exact lS) | ((with_reducible apply own_lay HM); exact rfl; exact rfl; exact rfl; exact sS; exact sS; exact aggR.size; exact lS; exact lS; (first | exact Rg.one1 _ | exact rfl); exact rfl; exact rfl; clear HM; intro w' HM) | ((with_reducible apply own_put HM); exact rfl; exact rfl; (conv => lhs; whnf); exact sS; exact sS; exact zS; exact rfl; exact rfl; (show (_ : Nat) < 29; decide); exact rfl; clear HM; intro w' HM)
    | (go_at_call 206; (with_reducible refine (single_no5 _ _).mono ?_); rintro e w' ⟨rfl, rfl⟩)
    | (go_at_call 205; (with_reducible refine (index_at px k hk _).mono ?_); rintro e w' ⟨rfl, rfl⟩)
    | (go_at_call 143; (with_reducible refine (pair_at r HR.out k P hP _).mono ?_); rintro e w' ⟨rfl, hb⟩; replace HM := Lib.hid (HM.out.call hb); clear hb)
    | (go_at_call 141; (with_reducible refine (split_at P x y P1 hx hy _).mono ?_); rintro e w' ⟨rfl, rfl⟩))
  (refine own_tail 6 HM (by kernel_rfl) (by kernel_rfl) (by kernel_rfl) ?_; simp only [List.take_succ_cons, List.take_zero, List.drop_succ_cons, List.drop_zero]; (try simp only [Act.put, List.setIfInBounds_toArray, List.set_cons_zero, List.set_cons_succ]); repeat ((fail_if_success (with_reducible refine wpQuiet_nil ?_)); first | go_big_quiet_skip | (go_big_quiet_want; first | ((with_reducible apply quiet_row); exact rfl; exact aggR; exact sS; exact lS; go_big_quiet_op; go_big_quiet_on) | ((with_reducible apply quiet_get); exact rfl; exact bS3; exact sS; exact rfl; go_big_quiet_op; go_big_quiet_on) | ((with_reducible apply quiet_load); exact rfl; (with_reducible exact aggAlt); exact sS; exact Rg.altDrop _; exact Rg.altTake _; go_big_quiet_op; go_big_quiet_on) | ((with_reducible apply quiet_call); exact fun w => rfl; (focus (go_simp; all_goals with_reducible rfl)); (intro wq HQ; first | (with_reducible exact (join_at x v J x1 hv hJ _).mono fun _ _ ⟨he, hw⟩ => ⟨he, hw ▸ Below.refl _ _⟩) | (with_reducible exact setPair_at r k J J1 s hs _)); go_big_quiet_op; go_big_quiet_on) | (go_big_quiet_op; go_big_quiet_on) | (go_big_quiet_op; refine ⟨_, fun _ _ => rfl, ?_⟩; go_big_quiet_on))))
  refine wpQuiet_nil ?_
  intro w' HM'
  clear HM; have HM := HM'; clear HM'
  go_wp2_with (first | ((with_reducible apply own_lay HM); exact rfl; exact rfl; exact rfl; exact sS; exact sS; exact aggR.size; exact lS; exact lS; (first | exact Rg.one1 _ | exact rfl); exact rfl; exact rfl; clear HM; intro w' HM))
  refine bodyPost_ret (v := .agg s.cells.toArray) (own_results HM Tryz.results148 _ rfl (by first | exact .z | exact .s .z) aggR) rfl ⟨rfl, Own.fin HM⟩
set_option maxRecDepth 100000 in
set_option maxHeartbeats 1600000 in
theorem setOne_no (r : Rg) (hr : r.Fits) (n : Int) (hn : ¬ n = 0 ∧ ¬ n = 1 ∧ ¬ n = 2 ∧ ¬ n = 3 ∧ ¬ n = 7 ∧ ¬ n = 4 ∧ ¬ n = 5) (px : Nat) (v : Nat) (_hv : v < 256) (w : World) : Calls Tryz.prog 148 #[r.v, .int .i64 n, .int .u8 (px : Int), .int .u8 (v : Int)] w fun e w' => e = .returned (r.v) ∧ Below w.heap.size w w' := by
  obtain ⟨h0, h1, h2, h3, h7, h4, h5⟩ := hn
  obtain ⟨k, hk⟩ : ∃ k, Hid (rgIdx px = k) := ⟨_, rfl⟩
  obtain ⟨P, hP⟩ : ∃ P, Hid (r.pair k = P) := ⟨_, rfl⟩
  have P1 : P < 65536 := by rw [← hP.out]; exact r.pair_lt hr k
  obtain ⟨x, hx⟩ : ∃ x, Hid (wHigh P = x) := ⟨_, rfl⟩
  obtain ⟨y, hy⟩ : ∃ y, Hid (P % 256 = y) := ⟨_, rfl⟩
  have HR := Lib.hid hr
  clear hr
  have HM := Lib.hid (Own.start w)
  have tg1 : Hid True := trivial
  have tg2 : Hid True := trivial
  go_enter Tryz.func148, Tryz.ntmps148
  go_wp2_with (first
    | ((with_reducible apply own_box HM); exact rfl; (conv => lhs; whnf); exact rfl; exact rfl; (first | (clear tg1 HM; intro w' g1 HM) | (clear tg2 HM; intro w' g2 HM) | (clear tg3 HM; intro w' g3 HM) | (clear tg4 HM; intro w' g4 HM) | (clear HM; intro w' g' HM))) | ((with_reducible apply own_alloc HM); exact rfl; (with_reducible exact zeroR); exact rfl; (first | (clear tg1 HM; intro w' g1 HM) | (clear tg2 HM; intro w' g2 HM) | (clear tg3 HM; intro w' g3 HM) | (clear tg4 HM; intro w' g4 HM) | (clear HM; intro w' g' HM))) | ((with_reducible apply own_row HM); exact rfl; exact rfl; exact aggR; exact sS; exact rfl; exact lS) | ((with_reducible apply own_lay HM); exact rfl; exact rfl; exact rfl; exact sS; exact sS; exact aggR.size; exact lS; exact lS; (first | exact Rg.one1 _ | exact rfl); exact rfl; exact rfl; clear HM; intro w' HM) | ((with_reducible apply own_put HM); exact rfl; exact rfl; (conv => lhs; whnf); exact sS; exact sS; exact zS; exact rfl; exact rfl; (show (_ : Nat) < 29; decide); exact rfl; clear HM; intro w' HM)
    | (go_at_call 206; (with_reducible refine (single_no _ n h0 h1 h2 h3 h7 _).mono ?_); rintro e w' ⟨rfl, rfl⟩)
    | (go_at_call 205; (with_reducible refine (index_at px k hk _).mono ?_); rintro e w' ⟨rfl, rfl⟩)
    | (go_at_call 143; (with_reducible refine (pair_at r HR.out k P hP _).mono ?_); rintro e w' ⟨rfl, hb⟩; replace HM := Lib.hid (HM.out.call hb); clear hb)
    | (go_at_call 141; (with_reducible refine (split_at P x y P1 hx hy _).mono ?_); rintro e w' ⟨rfl, rfl⟩))
  refine bodyPost_ret (v := .agg r.cells.toArray) (own_results HM Tryz.results148 _ rfl (by first | exact .z | exact .s .z) aggR) rfl ⟨rfl, Own.fin HM⟩
theorem setOne_at (r : Rg) (hr : r.Fits) (n : Int) (px v : Nat) (hv : v < 256) (s : Rg) (hs : Hid (r.setOne n px v = s)) (w : World) : Calls Tryz.prog 148 #[r.v, .int .i64 n, .int .u8 (px : Int), .int .u8 (v : Int)] w fun e w' => e = .returned s.v ∧ Below w.heap.size w w' := by
  rw [← hs.out]
  rcases one_cases n with rfl | rfl | rfl | rfl | rfl | rfl | rfl | hn
  · exact setOne_0 r px v hv w
  · exact setOne_1 r px v hv w
  · exact setOne_2 r px v hv w
  · exact setOne_3 r px v hv w
  · exact setOne_7 r px v hv w
  · exact setOne_4 r hr px v hv w
  · exact setOne_5 r hr px v hv w
  · rw [r.setOne_no n px v hn]; exact setOne_no r hr n hn px v hv w
end Go.Proofs.YtljjgakfnajifaaGreatDoor
