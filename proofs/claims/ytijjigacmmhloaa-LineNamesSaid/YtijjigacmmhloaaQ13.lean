import Derived.Test.YtijjigacmmhloaaQ12
namespace Go.Proofs.Ytijjigacmmhloaa
open Go.RowKit
set_option maxRecDepth 100000 in
set_option maxHeartbeats 3200000 in
theorem rspdot_00 (a : Option Addr) (n cap : Nat) (xs : Nat → Nat) (r0 r1 r2 r3 r4 r5 r6 r7 r8 r9 r10 i x : Nat) (line ac : Int) (b0 : r0 < 256) (b1 : r1 < 256) (b5 : r5 < 256) (_b6 : r6 < 256) (hi : i < 64) (_l1 : line ≤ 191) (hx : x < 256) (b X y t : Nat) (hb : Hid (spBase r5 = b)) (hX : Hid (mem n xs (b + 128 + 2 * i) = X)) (hy : Hid (mem n xs (b + i) = y)) (ht : Hid (mem n xs (b + 129 + 2 * i) = t)) (hs : r1 % 2 = 0) (ty : Int) (_hty : Hid (spTop y = ty)) (_hl : ty ≤ line) (hac : (x : Int) - ((X : Int) - 8 * (r0 / 8 % 2 : Nat)) = ac) (hc : ac < 0) (w : World) (hV : ByteRow w a n xs) :
    Calls Try.prog 38 #[.slice a n cap, regsV r0 r1 r2 r3 r4 r5 r6 r7 r8 r9 r10, .int .i64 (i : Int), .agg #[.int .i64 line, .int .i64 (x : Int)]] w fun e w' => e = .returned (.int .u8 0) ∧ Below w.heap.size w w' := by
  have HM := Lib.hid (Own.start w)
  have tg1 : Hid True := trivial
  have tg2 : Hid True := trivial
  have HV := Lib.hid hV
  have H5 := Lib.hid b5
  have hbb : b ≤ 16128 := by have := spBase_le r5; rw [hb.out] at this; exact this
  have hk1 : Hid (((b : Int) + 128 + 2 * (i : Int)) % 16384 = ((b + 128 + 2 * i : Nat) : Int)) := Lib.hid (by omega)
  have hv1 : Hid (vget n xs (b + 128 + 2 * i) = X) := Lib.hid (by have e := hX.out; unfold mem at e; rwa [Nat.mod_eq_of_lt (by omega)] at e)
  have hk2 : Hid (((b : Int) + (i : Int)) % 16384 = ((b + i : Nat) : Int)) := Lib.hid (by omega)
  have hv2 : Hid (vget n xs (b + i) = y) := Lib.hid (by have e := hy.out; unfold mem at e; rwa [Nat.mod_eq_of_lt (by omega)] at e)
  have hk3 : Hid (((b : Int) + 129 + 2 * (i : Int)) % 16384 = ((b + 129 + 2 * i : Nat) : Int)) := Lib.hid (by omega)
  have hv3 : Hid (vget n xs (b + 129 + 2 * i) = t) := Lib.hid (by have e := ht.out; unfold mem at e; rwa [Nat.mod_eq_of_lt (by omega)] at e)
  have X8 : X < 256 := hv1.out ▸ vget_lt hV _
  have y8 : y < 256 := hv2.out ▸ vget_lt hV _
  have t8 : t < 256 := hv3.out ▸ vget_lt hV _
  have Y8 := Lib.hid y8
  obtain ⟨p, hp⟩ : ∃ p : Nat, r0 / 8 = p := ⟨_, rfl⟩
  obtain ⟨q, hq⟩ : ∃ q : Nat, p % 2 = q := ⟨_, rfl⟩
  have P1 : (r0 : Int) / 8 = (p : Int) := by omega
  have P2 : (p : Int) % 2 = (q : Int) := by omega
  have P3 : IntKind.u8.wrap (p : Int) = (p : Int) := by rw [IntKind.wrap_u8]; omega
  have q1 : (q : Int) < 2 := by omega
  obtain ⟨xx, hxx⟩ : ∃ xx : Int, (X : Int) - 8 * (q : Int) = xx := ⟨_, rfl⟩
  have X8' : (X : Int) < 256 := by omega
  have S1 : (r1 : Int) % 2 = 0 := by omega
  have i64' : (i : Int) < 64 := by omega
  have b16 : (b : Int) ≤ 16128 := by omega
  have x256 : (x : Int) < 256 := by omega
  have xx1 : -8 ≤ xx ∧ xx < 256 := by omega
  obtain ⟨xx2, xx3⟩ := xx1
  have AC : (x : Int) - xx = ac := by rw [hp, hq] at hac; omega
  have ac1 : -256 ≤ ac ∧ ac < 300 := by omega
  obtain ⟨ac2, ac3⟩ := ac1
  clear hac hp hq hX hy ht hV b5 hbb hs X8 y8 hi hx
  go_enter Try.func38, Try.ntmps38
  go_upto_region 2 with (first | ((with_reducible apply own_box HM); exact rfl; (conv => lhs; whnf); exact rfl; exact rfl; (first | (clear tg1 HM; intro w' g1 HM) | (clear tg2 HM; intro w' g2 HM) | (clear tg3 HM; intro w' g3 HM) | (clear tg4 HM; intro w' g4 HM) | (clear HM; intro w' g' HM))) | ((with_reducible apply own_cell HM); exact rfl; exact rfl; (first | (with_reducible exact one8) | (with_reducible exact oneInt)); exact sS; exact dS; exact rfl) | ((with_reducible apply own_load HM); exact rfl; exact rfl; (first | (with_reducible exact agg11) | (with_reducible exact agg2i)); exact sS; exact dS; exact tS; exact rfl) | ((with_reducible apply own_store HM); exact rfl; exact rfl; (conv => lhs; whnf); exact rfl; exact sS; exact vS; exact sS; (first | (with_reducible exact (agg11).size) | (with_reducible exact (agg2i).size) | (with_reducible exact (one8).size) | (with_reducible exact (oneInt).size)); exact rfl; exact rfl; exact rfl; exact rfl; clear HM; intro w' HM))
  (refine own_region HM (by kernel_rfl) (by kernel_rfl) ?_; (try simp only [Act.put, List.setIfInBounds_toArray, List.set_cons_zero, List.set_cons_succ]); repeat ((fail_if_success (with_reducible refine wpQuiet_nil ?_)); first | go_big_quiet_skip | (go_big_quiet_want; first | ((with_reducible apply quiet_load); exact rfl; (first | (with_reducible exact agg11)); exact sS; exact dS; exact tS; go_big_quiet_op; go_big_quiet_on) | ((with_reducible apply quiet_cell); exact rfl; (first | (with_reducible exact one8)); exact sS; exact dS; go_big_quiet_op; go_big_quiet_on) | (go_big_quiet_op; go_big_quiet_on) | ((with_reducible apply quiet_call); exact fun w => rfl; (focus (go_simp; all_goals with_reducible rfl)); (intro wq HQ; first | (with_reducible exact rbase_at r0 r1 r2 r3 r4 r5 r6 r7 r8 r9 r10 H5.out b hb _) | (with_reducible exact (rat_at a n cap xs _ (b + 128 + 2 * i) X hk1 hv1 _ (HV.out.under HQ.out.below)).mono fun _ _ ⟨he, hw⟩ => ⟨he, hw ▸ Below.refl _ _⟩)); go_big_quiet_op; go_big_quiet_on) | (go_big_quiet_op; go_big_quiet_on) | (go_big_quiet_op; refine ⟨_, fun _ _ => rfl, ?_⟩; go_big_quiet_on))))
  refine wpQuiet_nil ?_
  intro w' HM'
  clear HM; have HM := HM'; clear HM'
  clear P1 P2 P3
  go_wp2_with (first | ((with_reducible apply own_box HM); exact rfl; (conv => lhs; whnf); exact rfl; exact rfl; (first | (clear tg1 HM; intro w' g1 HM) | (clear tg2 HM; intro w' g2 HM) | (clear tg3 HM; intro w' g3 HM) | (clear tg4 HM; intro w' g4 HM) | (clear HM; intro w' g' HM))) | ((with_reducible apply own_cell HM); exact rfl; exact rfl; (first | (with_reducible exact one8) | (with_reducible exact oneInt)); exact sS; exact dS; exact rfl) | ((with_reducible apply own_load HM); exact rfl; exact rfl; (first | (with_reducible exact agg11) | (with_reducible exact agg2i)); exact sS; exact dS; exact tS; exact rfl) | ((with_reducible apply own_store HM); exact rfl; exact rfl; (conv => lhs; whnf); exact rfl; exact sS; exact vS; exact sS; (first | (with_reducible exact (agg11).size) | (with_reducible exact (agg2i).size) | (with_reducible exact (one8).size) | (with_reducible exact (oneInt).size)); exact rfl; exact rfl; exact rfl; exact rfl; clear HM; intro w' HM))
  go_ret
  exact ⟨rfl, Own.fin HM⟩
set_option maxRecDepth 100000 in
set_option maxHeartbeats 3200000 in
theorem rspdot_01 (a : Option Addr) (n cap : Nat) (xs : Nat → Nat) (r0 r1 r2 r3 r4 r5 r6 r7 r8 r9 r10 i x : Nat) (line ac : Int) (b0 : r0 < 256) (b1 : r1 < 256) (b5 : r5 < 256) (_b6 : r6 < 256) (hi : i < 64) (_l1 : line ≤ 191) (hx : x < 256) (b X y t : Nat) (hb : Hid (spBase r5 = b)) (hX : Hid (mem n xs (b + 128 + 2 * i) = X)) (hy : Hid (mem n xs (b + i) = y)) (ht : Hid (mem n xs (b + 129 + 2 * i) = t)) (hs : r1 % 2 = 0) (ty : Int) (_hty : Hid (spTop y = ty)) (_hl : ty ≤ line) (hac : (x : Int) - ((X : Int) - 8 * (r0 / 8 % 2 : Nat)) = ac) (hc0 : ¬ ac < 0) (hc : 8 ≤ ac) (w : World) (hV : ByteRow w a n xs) :
    Calls Try.prog 38 #[.slice a n cap, regsV r0 r1 r2 r3 r4 r5 r6 r7 r8 r9 r10, .int .i64 (i : Int), .agg #[.int .i64 line, .int .i64 (x : Int)]] w fun e w' => e = .returned (.int .u8 0) ∧ Below w.heap.size w w' := by
  have HM := Lib.hid (Own.start w)
  have tg1 : Hid True := trivial
  have tg2 : Hid True := trivial
  have HV := Lib.hid hV
  have H5 := Lib.hid b5
  have hbb : b ≤ 16128 := by have := spBase_le r5; rw [hb.out] at this; exact this
  have hk1 : Hid (((b : Int) + 128 + 2 * (i : Int)) % 16384 = ((b + 128 + 2 * i : Nat) : Int)) := Lib.hid (by omega)
  have hv1 : Hid (vget n xs (b + 128 + 2 * i) = X) := Lib.hid (by have e := hX.out; unfold mem at e; rwa [Nat.mod_eq_of_lt (by omega)] at e)
  have hk2 : Hid (((b : Int) + (i : Int)) % 16384 = ((b + i : Nat) : Int)) := Lib.hid (by omega)
  have hv2 : Hid (vget n xs (b + i) = y) := Lib.hid (by have e := hy.out; unfold mem at e; rwa [Nat.mod_eq_of_lt (by omega)] at e)
  have hk3 : Hid (((b : Int) + 129 + 2 * (i : Int)) % 16384 = ((b + 129 + 2 * i : Nat) : Int)) := Lib.hid (by omega)
  have hv3 : Hid (vget n xs (b + 129 + 2 * i) = t) := Lib.hid (by have e := ht.out; unfold mem at e; rwa [Nat.mod_eq_of_lt (by omega)] at e)
  have X8 : X < 256 := hv1.out ▸ vget_lt hV _
  have y8 : y < 256 := hv2.out ▸ vget_lt hV _
  have t8 : t < 256 := hv3.out ▸ vget_lt hV _
  have Y8 := Lib.hid y8
  obtain ⟨p, hp⟩ : ∃ p : Nat, r0 / 8 = p := ⟨_, rfl⟩
  obtain ⟨q, hq⟩ : ∃ q : Nat, p % 2 = q := ⟨_, rfl⟩
  have P1 : (r0 : Int) / 8 = (p : Int) := by omega
  have P2 : (p : Int) % 2 = (q : Int) := by omega
  have P3 : IntKind.u8.wrap (p : Int) = (p : Int) := by rw [IntKind.wrap_u8]; omega
  have q1 : (q : Int) < 2 := by omega
  obtain ⟨xx, hxx⟩ : ∃ xx : Int, (X : Int) - 8 * (q : Int) = xx := ⟨_, rfl⟩
  have X8' : (X : Int) < 256 := by omega
  have S1 : (r1 : Int) % 2 = 0 := by omega
  have i64' : (i : Int) < 64 := by omega
  have b16 : (b : Int) ≤ 16128 := by omega
  have x256 : (x : Int) < 256 := by omega
  have xx1 : -8 ≤ xx ∧ xx < 256 := by omega
  obtain ⟨xx2, xx3⟩ := xx1
  have AC : (x : Int) - xx = ac := by rw [hp, hq] at hac; omega
  have ac1 : -256 ≤ ac ∧ ac < 300 := by omega
  obtain ⟨ac2, ac3⟩ := ac1
  clear hac hp hq hX hy ht hV b5 hbb hs X8 y8 hi hx
  go_enter Try.func38, Try.ntmps38
  go_upto_region 2 with (first | ((with_reducible apply own_box HM); exact rfl; (conv => lhs; whnf); exact rfl; exact rfl; (first | (clear tg1 HM; intro w' g1 HM) | (clear tg2 HM; intro w' g2 HM) | (clear tg3 HM; intro w' g3 HM) | (clear tg4 HM; intro w' g4 HM) | (clear HM; intro w' g' HM))) | ((with_reducible apply own_cell HM); exact rfl; exact rfl; (first | (with_reducible exact one8) | (with_reducible exact oneInt)); exact sS; exact dS; exact rfl) | ((with_reducible apply own_load HM); exact rfl; exact rfl; (first | (with_reducible exact agg11) | (with_reducible exact agg2i)); exact sS; exact dS; exact tS; exact rfl) | ((with_reducible apply own_store HM); exact rfl; exact rfl; (conv => lhs; whnf); exact rfl; exact sS; exact vS; exact sS; (first | (with_reducible exact (agg11).size) | (with_reducible exact (agg2i).size) | (with_reducible exact (one8).size) | (with_reducible exact (oneInt).size)); exact rfl; exact rfl; exact rfl; exact rfl; clear HM; intro w' HM))
  (refine own_region HM (by kernel_rfl) (by kernel_rfl) ?_; (try simp only [Act.put, List.setIfInBounds_toArray, List.set_cons_zero, List.set_cons_succ]); repeat ((fail_if_success (with_reducible refine wpQuiet_nil ?_)); first | go_big_quiet_skip | (go_big_quiet_want; first | ((with_reducible apply quiet_load); exact rfl; (first | (with_reducible exact agg11)); exact sS; exact dS; exact tS; go_big_quiet_op; go_big_quiet_on) | ((with_reducible apply quiet_cell); exact rfl; (first | (with_reducible exact one8)); exact sS; exact dS; go_big_quiet_op; go_big_quiet_on) | (go_big_quiet_op; go_big_quiet_on) | ((with_reducible apply quiet_call); exact fun w => rfl; (focus (go_simp; all_goals with_reducible rfl)); (intro wq HQ; first | (with_reducible exact rbase_at r0 r1 r2 r3 r4 r5 r6 r7 r8 r9 r10 H5.out b hb _) | (with_reducible exact (rat_at a n cap xs _ (b + 128 + 2 * i) X hk1 hv1 _ (HV.out.under HQ.out.below)).mono fun _ _ ⟨he, hw⟩ => ⟨he, hw ▸ Below.refl _ _⟩)); go_big_quiet_op; go_big_quiet_on) | (go_big_quiet_op; go_big_quiet_on) | (go_big_quiet_op; refine ⟨_, fun _ _ => rfl, ?_⟩; go_big_quiet_on))))
  refine wpQuiet_nil ?_
  intro w' HM'
  clear HM; have HM := HM'; clear HM'
  clear P1 P2 P3
  go_wp2_with (first | ((with_reducible apply own_box HM); exact rfl; (conv => lhs; whnf); exact rfl; exact rfl; (first | (clear tg1 HM; intro w' g1 HM) | (clear tg2 HM; intro w' g2 HM) | (clear tg3 HM; intro w' g3 HM) | (clear tg4 HM; intro w' g4 HM) | (clear HM; intro w' g' HM))) | ((with_reducible apply own_cell HM); exact rfl; exact rfl; (first | (with_reducible exact one8) | (with_reducible exact oneInt)); exact sS; exact dS; exact rfl) | ((with_reducible apply own_load HM); exact rfl; exact rfl; (first | (with_reducible exact agg11) | (with_reducible exact agg2i)); exact sS; exact dS; exact tS; exact rfl) | ((with_reducible apply own_store HM); exact rfl; exact rfl; (conv => lhs; whnf); exact rfl; exact sS; exact vS; exact sS; (first | (with_reducible exact (agg11).size) | (with_reducible exact (agg2i).size) | (with_reducible exact (one8).size) | (with_reducible exact (oneInt).size)); exact rfl; exact rfl; exact rfl; exact rfl; clear HM; intro w' HM))
  go_ret
  exact ⟨rfl, Own.fin HM⟩
set_option maxRecDepth 100000 in
set_option maxHeartbeats 3200000 in
theorem rspdot_02 (a : Option Addr) (n cap : Nat) (xs : Nat → Nat) (r0 r1 r2 r3 r4 r5 r6 r7 r8 r9 r10 i x : Nat) (line ac : Int) (b0 : r0 < 256) (b1 : r1 < 256) (b5 : r5 < 256) (b6 : r6 < 256) (hi : i < 64) (l1 : line ≤ 191) (hx : x < 256) (b X y t : Nat) (hb : Hid (spBase r5 = b)) (hX : Hid (mem n xs (b + 128 + 2 * i) = X)) (hy : Hid (mem n xs (b + i) = y)) (ht : Hid (mem n xs (b + 129 + 2 * i) = t)) (hs : r1 % 2 = 0) (ty : Int) (hty : Hid (spTop y = ty)) (hl : ty ≤ line) (hac : (x : Int) - ((X : Int) - 8 * (r0 / 8 % 2 : Nat)) = ac) (hc0 : ¬ ac < 0) (hc : ¬ 8 ≤ ac) (hv : r1 / 2 % 2 = 0) (e h rr cc d : Nat) (hh : Hid ((h : Int) = line - ty)) (hrr : Hid (h / 1 = rr)) (hcc : Hid ((cc : Int) = ac / 1)) (he : Hid (t + 256 * (r6 / 4 % 2) = e)) (hlow : ¬ 8 ≤ rr) (hd : Hid (tAt n xs e rr cc = d)) (w : World) (hV : ByteRow w a n xs) :
    Calls Try.prog 38 #[.slice a n cap, regsV r0 r1 r2 r3 r4 r5 r6 r7 r8 r9 r10, .int .i64 (i : Int), .agg #[.int .i64 line, .int .i64 (x : Int)]] w fun e w' => e = .returned (.int .u8 (d : Int)) ∧ Below w.heap.size w w' := by
  have HM := Lib.hid (Own.start w)
  have tg1 : Hid True := trivial
  have tg2 : Hid True := trivial
  have HV := Lib.hid hV
  have H5 := Lib.hid b5
  have hbb : b ≤ 16128 := by have := spBase_le r5; rw [hb.out] at this; exact this
  have hk1 : Hid (((b : Int) + 128 + 2 * (i : Int)) % 16384 = ((b + 128 + 2 * i : Nat) : Int)) := Lib.hid (by omega)
  have hv1 : Hid (vget n xs (b + 128 + 2 * i) = X) := Lib.hid (by have e := hX.out; unfold mem at e; rwa [Nat.mod_eq_of_lt (by omega)] at e)
  have hk2 : Hid (((b : Int) + (i : Int)) % 16384 = ((b + i : Nat) : Int)) := Lib.hid (by omega)
  have hv2 : Hid (vget n xs (b + i) = y) := Lib.hid (by have e := hy.out; unfold mem at e; rwa [Nat.mod_eq_of_lt (by omega)] at e)
  have hk3 : Hid (((b : Int) + 129 + 2 * (i : Int)) % 16384 = ((b + 129 + 2 * i : Nat) : Int)) := Lib.hid (by omega)
  have hv3 : Hid (vget n xs (b + 129 + 2 * i) = t) := Lib.hid (by have e := ht.out; unfold mem at e; rwa [Nat.mod_eq_of_lt (by omega)] at e)
  have X8 : X < 256 := hv1.out ▸ vget_lt hV _
  have y8 : y < 256 := hv2.out ▸ vget_lt hV _
  have t8 : t < 256 := hv3.out ▸ vget_lt hV _
  have Y8 := Lib.hid y8
  obtain ⟨p, hp⟩ : ∃ p : Nat, r0 / 8 = p := ⟨_, rfl⟩
  obtain ⟨q, hq⟩ : ∃ q : Nat, p % 2 = q := ⟨_, rfl⟩
  have P1 : (r0 : Int) / 8 = (p : Int) := by omega
  have P2 : (p : Int) % 2 = (q : Int) := by omega
  have P3 : IntKind.u8.wrap (p : Int) = (p : Int) := by rw [IntKind.wrap_u8]; omega
  have q1 : (q : Int) < 2 := by omega
  obtain ⟨xx, hxx⟩ : ∃ xx : Int, (X : Int) - 8 * (q : Int) = xx := ⟨_, rfl⟩
  have X8' : (X : Int) < 256 := by omega
  have S1 : (r1 : Int) % 2 = 0 := by omega
  have i64' : (i : Int) < 64 := by omega
  have b16 : (b : Int) ≤ 16128 := by omega
  have x256 : (x : Int) < 256 := by omega
  have xx1 : -8 ≤ xx ∧ xx < 256 := by omega
  obtain ⟨xx2, xx3⟩ := xx1
  have AC : (x : Int) - xx = ac := by rw [hp, hq] at hac; omega
  have ac1 : -256 ≤ ac ∧ ac < 300 := by omega
  obtain ⟨ac2, ac3⟩ := ac1
  have ty1 : -256 ≤ ty ∧ ty ≤ 240 := by have := hty.out; unfold spTop at this; split at this <;> omega
  obtain ⟨ty2, ty3⟩ := ty1
  have hh1 : line - ty = (h : Int) := hh.out.symm
  have h500 : (h : Int) < 500 := by omega
  have RR : (h : Int).tdiv 1 = (rr : Int) := by rw [Int.tdiv_eq_ediv_of_nonneg (by omega)]; have := hrr.out; omega
  have CC : ac.tdiv 1 = (cc : Int) := by rw [Int.tdiv_eq_ediv_of_nonneg (by omega)]; exact hcc.out.symm
  have cc8 : cc < 8 := by have := hcc.out; omega
  have CC8 := Lib.hid cc8
  have rr500 : (rr : Int) < 500 := by have := hrr.out; omega
  obtain ⟨p6, hp6⟩ : ∃ p : Nat, r6 / 4 = p := ⟨_, rfl⟩
  obtain ⟨q6, hq6⟩ : ∃ q : Nat, p6 % 2 = q := ⟨_, rfl⟩
  have P4 : (r6 : Int) / 4 = (p6 : Int) := by omega
  have P5 : (p6 : Int) % 2 = (q6 : Int) := by omega
  have P6 : IntKind.u8.wrap (p6 : Int) = (p6 : Int) := by rw [IntKind.wrap_u8]; omega
  have q62 : (q6 : Int) < 2 := by omega
  have t8' : (t : Int) < 256 := by omega
  have EE : (t : Int) + 256 * (q6 : Int) = (e : Int) := by have := he.out; rw [hp6, hq6] at this; omega
  have e600 : (e : Int) < 600 := by omega
  obtain ⟨p1, hp1⟩ : ∃ p : Nat, r1 / 2 = p := ⟨_, rfl⟩
  have P7 : (r1 : Int) / 2 = (p1 : Int) := by omega
  have P8 : (p1 : Int) % 2 = 0 := by omega
  have P9 : IntKind.u8.wrap (p1 : Int) = (p1 : Int) := by rw [IntKind.wrap_u8]; omega
  skip
  have lw : ¬ 8 ≤ (rr : Int) := by omega
  clear hac hp hq hX hy ht hV b5 hbb hs X8 y8 hi hx hp6 hq6 hh hrr he hv hlow hp1 cc8 hcc t8
  go_enter Try.func38, Try.ntmps38
  go_upto_region 2 with (first | ((with_reducible apply own_box HM); exact rfl; (conv => lhs; whnf); exact rfl; exact rfl; (first | (clear tg1 HM; intro w' g1 HM) | (clear tg2 HM; intro w' g2 HM) | (clear tg3 HM; intro w' g3 HM) | (clear tg4 HM; intro w' g4 HM) | (clear HM; intro w' g' HM))) | ((with_reducible apply own_cell HM); exact rfl; exact rfl; (first | (with_reducible exact one8) | (with_reducible exact oneInt)); exact sS; exact dS; exact rfl) | ((with_reducible apply own_load HM); exact rfl; exact rfl; (first | (with_reducible exact agg11) | (with_reducible exact agg2i)); exact sS; exact dS; exact tS; exact rfl) | ((with_reducible apply own_store HM); exact rfl; exact rfl; (conv => lhs; whnf); exact rfl; exact sS; exact vS; exact sS; (first | (with_reducible exact (agg11).size) | (with_reducible exact (agg2i).size) | (with_reducible exact (one8).size) | (with_reducible exact (oneInt).size)); exact rfl; exact rfl; exact rfl; exact rfl; clear HM; intro w' HM))
  (refine own_region HM (by kernel_rfl) (by kernel_rfl) ?_; (try simp only [Act.put, List.setIfInBounds_toArray, List.set_cons_zero, List.set_cons_succ]); repeat ((fail_if_success (with_reducible refine wpQuiet_nil ?_)); first | go_big_quiet_skip | (go_big_quiet_want; first | ((with_reducible apply quiet_load); exact rfl; (first | (with_reducible exact agg11)); exact sS; exact dS; exact tS; go_big_quiet_op; go_big_quiet_on) | ((with_reducible apply quiet_cell); exact rfl; (first | (with_reducible exact one8)); exact sS; exact dS; go_big_quiet_op; go_big_quiet_on) | (go_big_quiet_op; go_big_quiet_on) | ((with_reducible apply quiet_call); exact fun w => rfl; (focus (go_simp; all_goals with_reducible rfl)); (intro wq HQ; first | (with_reducible exact rbase_at r0 r1 r2 r3 r4 r5 r6 r7 r8 r9 r10 H5.out b hb _) | (with_reducible exact (rat_at a n cap xs _ (b + 128 + 2 * i) X hk1 hv1 _ (HV.out.under HQ.out.below)).mono fun _ _ ⟨he, hw⟩ => ⟨he, hw ▸ Below.refl _ _⟩)); go_big_quiet_op; go_big_quiet_on) | (go_big_quiet_op; go_big_quiet_on) | (go_big_quiet_op; refine ⟨_, fun _ _ => rfl, ?_⟩; go_big_quiet_on))))
  refine wpQuiet_nil ?_
  intro w' HM'
  clear HM; have HM := HM'; clear HM'
  clear P1 P2 P3
  go_upto_region 6 with (first | ((with_reducible apply own_box HM); exact rfl; (conv => lhs; whnf); exact rfl; exact rfl; (first | (clear tg1 HM; intro w' g1 HM) | (clear tg2 HM; intro w' g2 HM) | (clear tg3 HM; intro w' g3 HM) | (clear tg4 HM; intro w' g4 HM) | (clear HM; intro w' g' HM))) | ((with_reducible apply own_cell HM); exact rfl; exact rfl; (first | (with_reducible exact one8) | (with_reducible exact oneInt)); exact sS; exact dS; exact rfl) | ((with_reducible apply own_load HM); exact rfl; exact rfl; (first | (with_reducible exact agg11) | (with_reducible exact agg2i)); exact sS; exact dS; exact tS; exact rfl) | ((with_reducible apply own_store HM); exact rfl; exact rfl; (conv => lhs; whnf); exact rfl; exact sS; exact vS; exact sS; (first | (with_reducible exact (agg11).size) | (with_reducible exact (agg2i).size) | (with_reducible exact (one8).size) | (with_reducible exact (oneInt).size)); exact rfl; exact rfl; exact rfl; exact rfl; clear HM; intro w' HM))
  (refine own_region HM (by kernel_rfl) (by kernel_rfl) ?_; (try simp only [Act.put, List.setIfInBounds_toArray, List.set_cons_zero, List.set_cons_succ]); repeat ((fail_if_success (with_reducible refine wpQuiet_nil ?_)); first | go_big_quiet_skip | (go_big_quiet_want; first | ((with_reducible apply quiet_load); exact rfl; (first | (with_reducible exact agg11) | (with_reducible exact agg2i)); exact sS; exact dS; exact tS; go_big_quiet_op; go_big_quiet_on) | ((with_reducible apply quiet_cell); exact rfl; (first | (with_reducible exact one8) | (with_reducible exact oneInt)); exact sS; exact dS; go_big_quiet_op; go_big_quiet_on) | (go_big_quiet_op; go_big_quiet_on) | ((with_reducible apply quiet_call); exact fun w => rfl; (focus (go_simp; all_goals with_reducible rfl)); (intro wq HQ; first | (with_reducible exact rbase_at r0 r1 r2 r3 r4 r5 r6 r7 r8 r9 r10 H5.out b hb _) | (with_reducible exact (rat_at a n cap xs _ (b + i) y hk2 hv2 _ (HV.out.under HQ.out.below)).mono fun _ _ ⟨he, hw⟩ => ⟨he, hw ▸ Below.refl _ _⟩) | (with_reducible exact (rtop_at y Y8.out ty hty _).mono fun _ _ ⟨he, hw⟩ => ⟨he, hw ▸ Below.refl _ _⟩)); go_big_quiet_op; go_big_quiet_on) | (go_big_quiet_op; go_big_quiet_on) | (go_big_quiet_op; refine ⟨_, fun _ _ => rfl, ?_⟩; go_big_quiet_on))))
  refine wpQuiet_nil ?_
  intro w' HM'
  clear HM; have HM := HM'; clear HM'
  go_upto_region 7 with fail
  (refine own_region HM (by kernel_rfl) (by kernel_rfl) ?_; (try simp only [Act.put, List.setIfInBounds_toArray, List.set_cons_zero, List.set_cons_succ]); repeat ((fail_if_success (with_reducible refine wpQuiet_nil ?_)); first | go_big_quiet_skip | (go_big_quiet_want; first | ((with_reducible apply quiet_load); exact rfl; (first | (with_reducible exact agg11)); exact sS; exact dS; exact tS; go_big_quiet_op; go_big_quiet_on) | ((with_reducible apply quiet_cell); exact rfl; (first | (with_reducible exact one8)); exact sS; exact dS; go_big_quiet_op; go_big_quiet_on) | (go_big_quiet_op; go_big_quiet_on) | ((with_reducible apply quiet_call); exact fun w => rfl; (focus (go_simp; all_goals with_reducible rfl)); (intro wq HQ; first | (with_reducible exact rbase_at r0 r1 r2 r3 r4 r5 r6 r7 r8 r9 r10 H5.out b hb _) | (with_reducible exact (rat_at a n cap xs _ (b + 129 + 2 * i) t hk3 hv3 _ (HV.out.under HQ.out.below)).mono fun _ _ ⟨he, hw⟩ => ⟨he, hw ▸ Below.refl _ _⟩)); go_big_quiet_op; go_big_quiet_on) | (go_big_quiet_op; go_big_quiet_on) | (go_big_quiet_op; refine ⟨_, fun _ _ => rfl, ?_⟩; go_big_quiet_on))))
  refine wpQuiet_nil ?_
  intro w' HM'
  clear HM; have HM := HM'; clear HM'
  have ccb : (cc : Int) < 8 := by have := CC8.out; omega
  go_wp2_with (first | ((with_reducible apply own_box HM); exact rfl; (conv => lhs; whnf); exact rfl; exact rfl; (first | (clear tg1 HM; intro w' g1 HM) | (clear tg2 HM; intro w' g2 HM) | (clear tg3 HM; intro w' g3 HM) | (clear tg4 HM; intro w' g4 HM) | (clear HM; intro w' g' HM))) | ((with_reducible apply own_cell HM); exact rfl; exact rfl; (first | (with_reducible exact one8) | (with_reducible exact oneInt)); exact sS; exact dS; exact rfl) | ((with_reducible apply own_load HM); exact rfl; exact rfl; (first | (with_reducible exact agg11) | (with_reducible exact agg2i)); exact sS; exact dS; exact tS; exact rfl) | ((with_reducible apply own_store HM); exact rfl; exact rfl; (conv => lhs; whnf); exact rfl; exact sS; exact vS; exact sS; (first | (with_reducible exact (agg11).size) | (with_reducible exact (agg2i).size) | (with_reducible exact (one8).size) | (with_reducible exact (oneInt).size)); exact rfl; exact rfl; exact rfl; exact rfl; clear HM; intro w' HM) | (go_at_call 29; (with_reducible refine (rtdot_p a n cap xs e rr cc d trivial CC8.out hd _ (HV.out.under (Own.fin HM))).mono ?_); rintro e w' ⟨rfl, rfl⟩))
  go_ret
  exact ⟨rfl, Own.fin HM⟩
set_option maxRecDepth 100000 in
set_option maxHeartbeats 3200000 in
theorem rspdot_03 (a : Option Addr) (n cap : Nat) (xs : Nat → Nat) (r0 r1 r2 r3 r4 r5 r6 r7 r8 r9 r10 i x : Nat) (line ac : Int) (b0 : r0 < 256) (b1 : r1 < 256) (b5 : r5 < 256) (b6 : r6 < 256) (hi : i < 64) (l1 : line ≤ 191) (hx : x < 256) (b X y t : Nat) (hb : Hid (spBase r5 = b)) (hX : Hid (mem n xs (b + 128 + 2 * i) = X)) (hy : Hid (mem n xs (b + i) = y)) (ht : Hid (mem n xs (b + 129 + 2 * i) = t)) (hs : r1 % 2 = 0) (ty : Int) (hty : Hid (spTop y = ty)) (hl : ty ≤ line) (hac : (x : Int) - ((X : Int) - 8 * (r0 / 8 % 2 : Nat)) = ac) (hc0 : ¬ ac < 0) (hc : ¬ 8 ≤ ac) (hv : r1 / 2 % 2 = 0) (e h rr cc d : Nat) (hh : Hid ((h : Int) = line - ty)) (hrr : Hid (h / 1 = rr)) (hcc : Hid ((cc : Int) = ac / 1)) (he : Hid (t + 256 * (r6 / 4 % 2) = e)) (hlow : 8 ≤ rr) (hd : Hid (tAt n xs (e + 1) (rr - 8) cc = d)) (w : World) (hV : ByteRow w a n xs) :
    Calls Try.prog 38 #[.slice a n cap, regsV r0 r1 r2 r3 r4 r5 r6 r7 r8 r9 r10, .int .i64 (i : Int), .agg #[.int .i64 line, .int .i64 (x : Int)]] w fun e w' => e = .returned (.int .u8 (d : Int)) ∧ Below w.heap.size w w' := by
  have HM := Lib.hid (Own.start w)
  have tg1 : Hid True := trivial
  have tg2 : Hid True := trivial
  have HV := Lib.hid hV
  have H5 := Lib.hid b5
  have hbb : b ≤ 16128 := by have := spBase_le r5; rw [hb.out] at this; exact this
  have hk1 : Hid (((b : Int) + 128 + 2 * (i : Int)) % 16384 = ((b + 128 + 2 * i : Nat) : Int)) := Lib.hid (by omega)
  have hv1 : Hid (vget n xs (b + 128 + 2 * i) = X) := Lib.hid (by have e := hX.out; unfold mem at e; rwa [Nat.mod_eq_of_lt (by omega)] at e)
  have hk2 : Hid (((b : Int) + (i : Int)) % 16384 = ((b + i : Nat) : Int)) := Lib.hid (by omega)
  have hv2 : Hid (vget n xs (b + i) = y) := Lib.hid (by have e := hy.out; unfold mem at e; rwa [Nat.mod_eq_of_lt (by omega)] at e)
  have hk3 : Hid (((b : Int) + 129 + 2 * (i : Int)) % 16384 = ((b + 129 + 2 * i : Nat) : Int)) := Lib.hid (by omega)
  have hv3 : Hid (vget n xs (b + 129 + 2 * i) = t) := Lib.hid (by have e := ht.out; unfold mem at e; rwa [Nat.mod_eq_of_lt (by omega)] at e)
  have X8 : X < 256 := hv1.out ▸ vget_lt hV _
  have y8 : y < 256 := hv2.out ▸ vget_lt hV _
  have t8 : t < 256 := hv3.out ▸ vget_lt hV _
  have Y8 := Lib.hid y8
  obtain ⟨p, hp⟩ : ∃ p : Nat, r0 / 8 = p := ⟨_, rfl⟩
  obtain ⟨q, hq⟩ : ∃ q : Nat, p % 2 = q := ⟨_, rfl⟩
  have P1 : (r0 : Int) / 8 = (p : Int) := by omega
  have P2 : (p : Int) % 2 = (q : Int) := by omega
  have P3 : IntKind.u8.wrap (p : Int) = (p : Int) := by rw [IntKind.wrap_u8]; omega
  have q1 : (q : Int) < 2 := by omega
  obtain ⟨xx, hxx⟩ : ∃ xx : Int, (X : Int) - 8 * (q : Int) = xx := ⟨_, rfl⟩
  have X8' : (X : Int) < 256 := by omega
  have S1 : (r1 : Int) % 2 = 0 := by omega
  have i64' : (i : Int) < 64 := by omega
  have b16 : (b : Int) ≤ 16128 := by omega
  have x256 : (x : Int) < 256 := by omega
  have xx1 : -8 ≤ xx ∧ xx < 256 := by omega
  obtain ⟨xx2, xx3⟩ := xx1
  have AC : (x : Int) - xx = ac := by rw [hp, hq] at hac; omega
  have ac1 : -256 ≤ ac ∧ ac < 300 := by omega
  obtain ⟨ac2, ac3⟩ := ac1
  have ty1 : -256 ≤ ty ∧ ty ≤ 240 := by have := hty.out; unfold spTop at this; split at this <;> omega
  obtain ⟨ty2, ty3⟩ := ty1
  have hh1 : line - ty = (h : Int) := hh.out.symm
  have h500 : (h : Int) < 500 := by omega
  have RR : (h : Int).tdiv 1 = (rr : Int) := by rw [Int.tdiv_eq_ediv_of_nonneg (by omega)]; have := hrr.out; omega
  have CC : ac.tdiv 1 = (cc : Int) := by rw [Int.tdiv_eq_ediv_of_nonneg (by omega)]; exact hcc.out.symm
  have cc8 : cc < 8 := by have := hcc.out; omega
  have CC8 := Lib.hid cc8
  have rr500 : (rr : Int) < 500 := by have := hrr.out; omega
  obtain ⟨p6, hp6⟩ : ∃ p : Nat, r6 / 4 = p := ⟨_, rfl⟩
  obtain ⟨q6, hq6⟩ : ∃ q : Nat, p6 % 2 = q := ⟨_, rfl⟩
  have P4 : (r6 : Int) / 4 = (p6 : Int) := by omega
  have P5 : (p6 : Int) % 2 = (q6 : Int) := by omega
  have P6 : IntKind.u8.wrap (p6 : Int) = (p6 : Int) := by rw [IntKind.wrap_u8]; omega
  have q62 : (q6 : Int) < 2 := by omega
  have t8' : (t : Int) < 256 := by omega
  have EE : (t : Int) + 256 * (q6 : Int) = (e : Int) := by have := he.out; rw [hp6, hq6] at this; omega
  have e600 : (e : Int) < 600 := by omega
  obtain ⟨p1, hp1⟩ : ∃ p : Nat, r1 / 2 = p := ⟨_, rfl⟩
  have P7 : (r1 : Int) / 2 = (p1 : Int) := by omega
  have P8 : (p1 : Int) % 2 = 0 := by omega
  have P9 : IntKind.u8.wrap (p1 : Int) = (p1 : Int) := by rw [IntKind.wrap_u8]; omega
  have LW := Lib.hid hlow
  have lw : 8 ≤ (rr : Int) := by omega
  clear hac hp hq hX hy ht hV b5 hbb hs X8 y8 hi hx hp6 hq6 hh hrr he hv hlow hp1 cc8 hcc t8
  go_enter Try.func38, Try.ntmps38
  go_upto_region 2 with (first | ((with_reducible apply own_box HM); exact rfl; (conv => lhs; whnf); exact rfl; exact rfl; (first | (clear tg1 HM; intro w' g1 HM) | (clear tg2 HM; intro w' g2 HM) | (clear tg3 HM; intro w' g3 HM) | (clear tg4 HM; intro w' g4 HM) | (clear HM; intro w' g' HM))) | ((with_reducible apply own_cell HM); exact rfl; exact rfl; (first | (with_reducible exact one8) | (with_reducible exact oneInt)); exact sS; exact dS; exact rfl) | ((with_reducible apply own_load HM); exact rfl; exact rfl; (first | (with_reducible exact agg11) | (with_reducible exact agg2i)); exact sS; exact dS; exact tS; exact rfl) | ((with_reducible apply own_store HM); exact rfl; exact rfl; (conv => lhs; whnf); exact rfl; exact sS; exact vS; exact sS; (first | (with_reducible exact (agg11).size) | (with_reducible exact (agg2i).size) | (with_reducible exact (one8).size) | (with_reducible exact (oneInt).size)); exact rfl; exact rfl; exact rfl; exact rfl; clear HM; intro w' HM))
  (refine own_region HM (by kernel_rfl) (by kernel_rfl) ?_; (try simp only [Act.put, List.setIfInBounds_toArray, List.set_cons_zero, List.set_cons_succ]); repeat ((fail_if_success (with_reducible refine wpQuiet_nil ?_)); first | go_big_quiet_skip | (go_big_quiet_want; first | ((with_reducible apply quiet_load); exact rfl; (first | (with_reducible exact agg11)); exact sS; exact dS; exact tS; go_big_quiet_op; go_big_quiet_on) | ((with_reducible apply quiet_cell); exact rfl; (first | (with_reducible exact one8)); exact sS; exact dS; go_big_quiet_op; go_big_quiet_on) | (go_big_quiet_op; go_big_quiet_on) | ((with_reducible apply quiet_call); exact fun w => rfl; (focus (go_simp; all_goals with_reducible rfl)); (intro wq HQ; first | (with_reducible exact rbase_at r0 r1 r2 r3 r4 r5 r6 r7 r8 r9 r10 H5.out b hb _) | (with_reducible exact (rat_at a n cap xs _ (b + 128 + 2 * i) X hk1 hv1 _ (HV.out.under HQ.out.below)).mono fun _ _ ⟨he, hw⟩ => ⟨he, hw ▸ Below.refl _ _⟩)); go_big_quiet_op; go_big_quiet_on) | (go_big_quiet_op; go_big_quiet_on) | (go_big_quiet_op; refine ⟨_, fun _ _ => rfl, ?_⟩; go_big_quiet_on))))
  refine wpQuiet_nil ?_
  intro w' HM'
  clear HM; have HM := HM'; clear HM'
  clear P1 P2 P3
  go_upto_region 6 with (first | ((with_reducible apply own_box HM); exact rfl; (conv => lhs; whnf); exact rfl; exact rfl; (first | (clear tg1 HM; intro w' g1 HM) | (clear tg2 HM; intro w' g2 HM) | (clear tg3 HM; intro w' g3 HM) | (clear tg4 HM; intro w' g4 HM) | (clear HM; intro w' g' HM))) | ((with_reducible apply own_cell HM); exact rfl; exact rfl; (first | (with_reducible exact one8) | (with_reducible exact oneInt)); exact sS; exact dS; exact rfl) | ((with_reducible apply own_load HM); exact rfl; exact rfl; (first | (with_reducible exact agg11) | (with_reducible exact agg2i)); exact sS; exact dS; exact tS; exact rfl) | ((with_reducible apply own_store HM); exact rfl; exact rfl; (conv => lhs; whnf); exact rfl; exact sS; exact vS; exact sS; (first | (with_reducible exact (agg11).size) | (with_reducible exact (agg2i).size) | (with_reducible exact (one8).size) | (with_reducible exact (oneInt).size)); exact rfl; exact rfl; exact rfl; exact rfl; clear HM; intro w' HM))
  (refine own_region HM (by kernel_rfl) (by kernel_rfl) ?_; (try simp only [Act.put, List.setIfInBounds_toArray, List.set_cons_zero, List.set_cons_succ]); repeat ((fail_if_success (with_reducible refine wpQuiet_nil ?_)); first | go_big_quiet_skip | (go_big_quiet_want; first | ((with_reducible apply quiet_load); exact rfl; (first | (with_reducible exact agg11) | (with_reducible exact agg2i)); exact sS; exact dS; exact tS; go_big_quiet_op; go_big_quiet_on) | ((with_reducible apply quiet_cell); exact rfl; (first | (with_reducible exact one8) | (with_reducible exact oneInt)); exact sS; exact dS; go_big_quiet_op; go_big_quiet_on) | (go_big_quiet_op; go_big_quiet_on) | ((with_reducible apply quiet_call); exact fun w => rfl; (focus (go_simp; all_goals with_reducible rfl)); (intro wq HQ; first | (with_reducible exact rbase_at r0 r1 r2 r3 r4 r5 r6 r7 r8 r9 r10 H5.out b hb _) | (with_reducible exact (rat_at a n cap xs _ (b + i) y hk2 hv2 _ (HV.out.under HQ.out.below)).mono fun _ _ ⟨he, hw⟩ => ⟨he, hw ▸ Below.refl _ _⟩) | (with_reducible exact (rtop_at y Y8.out ty hty _).mono fun _ _ ⟨he, hw⟩ => ⟨he, hw ▸ Below.refl _ _⟩)); go_big_quiet_op; go_big_quiet_on) | (go_big_quiet_op; go_big_quiet_on) | (go_big_quiet_op; refine ⟨_, fun _ _ => rfl, ?_⟩; go_big_quiet_on))))
  refine wpQuiet_nil ?_
  intro w' HM'
  clear HM; have HM := HM'; clear HM'
  go_upto_region 7 with fail
  (refine own_region HM (by kernel_rfl) (by kernel_rfl) ?_; (try simp only [Act.put, List.setIfInBounds_toArray, List.set_cons_zero, List.set_cons_succ]); repeat ((fail_if_success (with_reducible refine wpQuiet_nil ?_)); first | go_big_quiet_skip | (go_big_quiet_want; first | ((with_reducible apply quiet_load); exact rfl; (first | (with_reducible exact agg11)); exact sS; exact dS; exact tS; go_big_quiet_op; go_big_quiet_on) | ((with_reducible apply quiet_cell); exact rfl; (first | (with_reducible exact one8)); exact sS; exact dS; go_big_quiet_op; go_big_quiet_on) | (go_big_quiet_op; go_big_quiet_on) | ((with_reducible apply quiet_call); exact fun w => rfl; (focus (go_simp; all_goals with_reducible rfl)); (intro wq HQ; first | (with_reducible exact rbase_at r0 r1 r2 r3 r4 r5 r6 r7 r8 r9 r10 H5.out b hb _) | (with_reducible exact (rat_at a n cap xs _ (b + 129 + 2 * i) t hk3 hv3 _ (HV.out.under HQ.out.below)).mono fun _ _ ⟨he, hw⟩ => ⟨he, hw ▸ Below.refl _ _⟩)); go_big_quiet_op; go_big_quiet_on) | (go_big_quiet_op; go_big_quiet_on) | (go_big_quiet_op; refine ⟨_, fun _ _ => rfl, ?_⟩; go_big_quiet_on))))
  refine wpQuiet_nil ?_
  intro w' HM'
  clear HM; have HM := HM'; clear HM'
  have ccb : (cc : Int) < 8 := by have := CC8.out; omega
  go_wp2_with (first | ((with_reducible apply own_box HM); exact rfl; (conv => lhs; whnf); exact rfl; exact rfl; (first | (clear tg1 HM; intro w' g1 HM) | (clear tg2 HM; intro w' g2 HM) | (clear tg3 HM; intro w' g3 HM) | (clear tg4 HM; intro w' g4 HM) | (clear HM; intro w' g' HM))) | ((with_reducible apply own_cell HM); exact rfl; exact rfl; (first | (with_reducible exact one8) | (with_reducible exact oneInt)); exact sS; exact dS; exact rfl) | ((with_reducible apply own_load HM); exact rfl; exact rfl; (first | (with_reducible exact agg11) | (with_reducible exact agg2i)); exact sS; exact dS; exact tS; exact rfl) | ((with_reducible apply own_store HM); exact rfl; exact rfl; (conv => lhs; whnf); exact rfl; exact sS; exact vS; exact sS; (first | (with_reducible exact (agg11).size) | (with_reducible exact (agg2i).size) | (with_reducible exact (one8).size) | (with_reducible exact (oneInt).size)); exact rfl; exact rfl; exact rfl; exact rfl; clear HM; intro w' HM) | (go_at_call 29; (with_reducible refine (rtdot_l a n cap xs e rr cc d LW.out CC8.out hd _ (HV.out.under (Own.fin HM))).mono ?_); rintro e w' ⟨rfl, rfl⟩))
  go_ret
  exact ⟨rfl, Own.fin HM⟩
set_option maxRecDepth 100000 in
set_option maxHeartbeats 3200000 in
theorem rspdot_04 (a : Option Addr) (n cap : Nat) (xs : Nat → Nat) (r0 r1 r2 r3 r4 r5 r6 r7 r8 r9 r10 i x : Nat) (line ac : Int) (b0 : r0 < 256) (b1 : r1 < 256) (b5 : r5 < 256) (b6 : r6 < 256) (hi : i < 64) (l1 : line ≤ 191) (hx : x < 256) (b X y t : Nat) (hb : Hid (spBase r5 = b)) (hX : Hid (mem n xs (b + 128 + 2 * i) = X)) (hy : Hid (mem n xs (b + i) = y)) (ht : Hid (mem n xs (b + 129 + 2 * i) = t)) (hs : r1 % 2 = 0) (ty : Int) (hty : Hid (spTop y = ty)) (hl : ty ≤ line) (hac : (x : Int) - ((X : Int) - 8 * (r0 / 8 % 2 : Nat)) = ac) (hc0 : ¬ ac < 0) (hc : ¬ 8 ≤ ac) (hv : r1 / 2 % 2 = 1) (e h rr cc d : Nat) (hh : Hid ((h : Int) = line - ty)) (hrr : Hid (h / 1 = rr)) (hcc : Hid ((cc : Int) = ac / 1)) (he : Hid (t + 256 * (r6 / 4 % 2) = e)) (hlow : ¬ 8 ≤ rr) (hd : Hid (tAt n xs (e / 2 * 2) rr cc = d)) (w : World) (hV : ByteRow w a n xs) :
    Calls Try.prog 38 #[.slice a n cap, regsV r0 r1 r2 r3 r4 r5 r6 r7 r8 r9 r10, .int .i64 (i : Int), .agg #[.int .i64 line, .int .i64 (x : Int)]] w fun e w' => e = .returned (.int .u8 (d : Int)) ∧ Below w.heap.size w w' := by
  have HM := Lib.hid (Own.start w)
  have tg1 : Hid True := trivial
  have tg2 : Hid True := trivial
  have HV := Lib.hid hV
  have H5 := Lib.hid b5
  have hbb : b ≤ 16128 := by have := spBase_le r5; rw [hb.out] at this; exact this
  have hk1 : Hid (((b : Int) + 128 + 2 * (i : Int)) % 16384 = ((b + 128 + 2 * i : Nat) : Int)) := Lib.hid (by omega)
  have hv1 : Hid (vget n xs (b + 128 + 2 * i) = X) := Lib.hid (by have e := hX.out; unfold mem at e; rwa [Nat.mod_eq_of_lt (by omega)] at e)
  have hk2 : Hid (((b : Int) + (i : Int)) % 16384 = ((b + i : Nat) : Int)) := Lib.hid (by omega)
  have hv2 : Hid (vget n xs (b + i) = y) := Lib.hid (by have e := hy.out; unfold mem at e; rwa [Nat.mod_eq_of_lt (by omega)] at e)
  have hk3 : Hid (((b : Int) + 129 + 2 * (i : Int)) % 16384 = ((b + 129 + 2 * i : Nat) : Int)) := Lib.hid (by omega)
  have hv3 : Hid (vget n xs (b + 129 + 2 * i) = t) := Lib.hid (by have e := ht.out; unfold mem at e; rwa [Nat.mod_eq_of_lt (by omega)] at e)
  have X8 : X < 256 := hv1.out ▸ vget_lt hV _
  have y8 : y < 256 := hv2.out ▸ vget_lt hV _
  have t8 : t < 256 := hv3.out ▸ vget_lt hV _
  have Y8 := Lib.hid y8
  obtain ⟨p, hp⟩ : ∃ p : Nat, r0 / 8 = p := ⟨_, rfl⟩
  obtain ⟨q, hq⟩ : ∃ q : Nat, p % 2 = q := ⟨_, rfl⟩
  have P1 : (r0 : Int) / 8 = (p : Int) := by omega
  have P2 : (p : Int) % 2 = (q : Int) := by omega
  have P3 : IntKind.u8.wrap (p : Int) = (p : Int) := by rw [IntKind.wrap_u8]; omega
  have q1 : (q : Int) < 2 := by omega
  obtain ⟨xx, hxx⟩ : ∃ xx : Int, (X : Int) - 8 * (q : Int) = xx := ⟨_, rfl⟩
  have X8' : (X : Int) < 256 := by omega
  have S1 : (r1 : Int) % 2 = 0 := by omega
  have i64' : (i : Int) < 64 := by omega
  have b16 : (b : Int) ≤ 16128 := by omega
  have x256 : (x : Int) < 256 := by omega
  have xx1 : -8 ≤ xx ∧ xx < 256 := by omega
  obtain ⟨xx2, xx3⟩ := xx1
  have AC : (x : Int) - xx = ac := by rw [hp, hq] at hac; omega
  have ac1 : -256 ≤ ac ∧ ac < 300 := by omega
  obtain ⟨ac2, ac3⟩ := ac1
  have ty1 : -256 ≤ ty ∧ ty ≤ 240 := by have := hty.out; unfold spTop at this; split at this <;> omega
  obtain ⟨ty2, ty3⟩ := ty1
  have hh1 : line - ty = (h : Int) := hh.out.symm
  have h500 : (h : Int) < 500 := by omega
  have RR : (h : Int).tdiv 1 = (rr : Int) := by rw [Int.tdiv_eq_ediv_of_nonneg (by omega)]; have := hrr.out; omega
  have CC : ac.tdiv 1 = (cc : Int) := by rw [Int.tdiv_eq_ediv_of_nonneg (by omega)]; exact hcc.out.symm
  have cc8 : cc < 8 := by have := hcc.out; omega
  have CC8 := Lib.hid cc8
  have rr500 : (rr : Int) < 500 := by have := hrr.out; omega
  obtain ⟨p6, hp6⟩ : ∃ p : Nat, r6 / 4 = p := ⟨_, rfl⟩
  obtain ⟨q6, hq6⟩ : ∃ q : Nat, p6 % 2 = q := ⟨_, rfl⟩
  have P4 : (r6 : Int) / 4 = (p6 : Int) := by omega
  have P5 : (p6 : Int) % 2 = (q6 : Int) := by omega
  have P6 : IntKind.u8.wrap (p6 : Int) = (p6 : Int) := by rw [IntKind.wrap_u8]; omega
  have q62 : (q6 : Int) < 2 := by omega
  have t8' : (t : Int) < 256 := by omega
  have EE : (t : Int) + 256 * (q6 : Int) = (e : Int) := by have := he.out; rw [hp6, hq6] at this; omega
  have e600 : (e : Int) < 600 := by omega
  obtain ⟨p1, hp1⟩ : ∃ p : Nat, r1 / 2 = p := ⟨_, rfl⟩
  have P7 : (r1 : Int) / 2 = (p1 : Int) := by omega
  have P8 : (p1 : Int) % 2 = 1 := by omega
  have P9 : IntKind.u8.wrap (p1 : Int) = (p1 : Int) := by rw [IntKind.wrap_u8]; omega
  skip
  have lw : ¬ 8 ≤ (rr : Int) := by omega
  clear hac hp hq hX hy ht hV b5 hbb hs X8 y8 hi hx hp6 hq6 hh hrr he hv hlow hp1 cc8 hcc t8
  go_enter Try.func38, Try.ntmps38
  go_upto_region 2 with (first | ((with_reducible apply own_box HM); exact rfl; (conv => lhs; whnf); exact rfl; exact rfl; (first | (clear tg1 HM; intro w' g1 HM) | (clear tg2 HM; intro w' g2 HM) | (clear tg3 HM; intro w' g3 HM) | (clear tg4 HM; intro w' g4 HM) | (clear HM; intro w' g' HM))) | ((with_reducible apply own_cell HM); exact rfl; exact rfl; (first | (with_reducible exact one8) | (with_reducible exact oneInt)); exact sS; exact dS; exact rfl) | ((with_reducible apply own_load HM); exact rfl; exact rfl; (first | (with_reducible exact agg11) | (with_reducible exact agg2i)); exact sS; exact dS; exact tS; exact rfl) | ((with_reducible apply own_store HM); exact rfl; exact rfl; (conv => lhs; whnf); exact rfl; exact sS; exact vS; exact sS; (first | (with_reducible exact (agg11).size) | (with_reducible exact (agg2i).size) | (with_reducible exact (one8).size) | (with_reducible exact (oneInt).size)); exact rfl; exact rfl; exact rfl; exact rfl; clear HM; intro w' HM))
  (refine own_region HM (by kernel_rfl) (by kernel_rfl) ?_; (try simp only [Act.put, List.setIfInBounds_toArray, List.set_cons_zero, List.set_cons_succ]); repeat ((fail_if_success (with_reducible refine wpQuiet_nil ?_)); first | go_big_quiet_skip | (go_big_quiet_want; first | ((with_reducible apply quiet_load); exact rfl; (first | (with_reducible exact agg11)); exact sS; exact dS; exact tS; go_big_quiet_op; go_big_quiet_on) | ((with_reducible apply quiet_cell); exact rfl; (first | (with_reducible exact one8)); exact sS; exact dS; go_big_quiet_op; go_big_quiet_on) | (go_big_quiet_op; go_big_quiet_on) | ((with_reducible apply quiet_call); exact fun w => rfl; (focus (go_simp; all_goals with_reducible rfl)); (intro wq HQ; first | (with_reducible exact rbase_at r0 r1 r2 r3 r4 r5 r6 r7 r8 r9 r10 H5.out b hb _) | (with_reducible exact (rat_at a n cap xs _ (b + 128 + 2 * i) X hk1 hv1 _ (HV.out.under HQ.out.below)).mono fun _ _ ⟨he, hw⟩ => ⟨he, hw ▸ Below.refl _ _⟩)); go_big_quiet_op; go_big_quiet_on) | (go_big_quiet_op; go_big_quiet_on) | (go_big_quiet_op; refine ⟨_, fun _ _ => rfl, ?_⟩; go_big_quiet_on))))
  refine wpQuiet_nil ?_
  intro w' HM'
  clear HM; have HM := HM'; clear HM'
  clear P1 P2 P3
  go_upto_region 6 with (first | ((with_reducible apply own_box HM); exact rfl; (conv => lhs; whnf); exact rfl; exact rfl; (first | (clear tg1 HM; intro w' g1 HM) | (clear tg2 HM; intro w' g2 HM) | (clear tg3 HM; intro w' g3 HM) | (clear tg4 HM; intro w' g4 HM) | (clear HM; intro w' g' HM))) | ((with_reducible apply own_cell HM); exact rfl; exact rfl; (first | (with_reducible exact one8) | (with_reducible exact oneInt)); exact sS; exact dS; exact rfl) | ((with_reducible apply own_load HM); exact rfl; exact rfl; (first | (with_reducible exact agg11) | (with_reducible exact agg2i)); exact sS; exact dS; exact tS; exact rfl) | ((with_reducible apply own_store HM); exact rfl; exact rfl; (conv => lhs; whnf); exact rfl; exact sS; exact vS; exact sS; (first | (with_reducible exact (agg11).size) | (with_reducible exact (agg2i).size) | (with_reducible exact (one8).size) | (with_reducible exact (oneInt).size)); exact rfl; exact rfl; exact rfl; exact rfl; clear HM; intro w' HM))
  (refine own_region HM (by kernel_rfl) (by kernel_rfl) ?_; (try simp only [Act.put, List.setIfInBounds_toArray, List.set_cons_zero, List.set_cons_succ]); repeat ((fail_if_success (with_reducible refine wpQuiet_nil ?_)); first | go_big_quiet_skip | (go_big_quiet_want; first | ((with_reducible apply quiet_load); exact rfl; (first | (with_reducible exact agg11) | (with_reducible exact agg2i)); exact sS; exact dS; exact tS; go_big_quiet_op; go_big_quiet_on) | ((with_reducible apply quiet_cell); exact rfl; (first | (with_reducible exact one8) | (with_reducible exact oneInt)); exact sS; exact dS; go_big_quiet_op; go_big_quiet_on) | (go_big_quiet_op; go_big_quiet_on) | ((with_reducible apply quiet_call); exact fun w => rfl; (focus (go_simp; all_goals with_reducible rfl)); (intro wq HQ; first | (with_reducible exact rbase_at r0 r1 r2 r3 r4 r5 r6 r7 r8 r9 r10 H5.out b hb _) | (with_reducible exact (rat_at a n cap xs _ (b + i) y hk2 hv2 _ (HV.out.under HQ.out.below)).mono fun _ _ ⟨he, hw⟩ => ⟨he, hw ▸ Below.refl _ _⟩) | (with_reducible exact (rtop_at y Y8.out ty hty _).mono fun _ _ ⟨he, hw⟩ => ⟨he, hw ▸ Below.refl _ _⟩)); go_big_quiet_op; go_big_quiet_on) | (go_big_quiet_op; go_big_quiet_on) | (go_big_quiet_op; refine ⟨_, fun _ _ => rfl, ?_⟩; go_big_quiet_on))))
  refine wpQuiet_nil ?_
  intro w' HM'
  clear HM; have HM := HM'; clear HM'
  go_upto_region 7 with fail
  (refine own_region HM (by kernel_rfl) (by kernel_rfl) ?_; (try simp only [Act.put, List.setIfInBounds_toArray, List.set_cons_zero, List.set_cons_succ]); repeat ((fail_if_success (with_reducible refine wpQuiet_nil ?_)); first | go_big_quiet_skip | (go_big_quiet_want; first | ((with_reducible apply quiet_load); exact rfl; (first | (with_reducible exact agg11)); exact sS; exact dS; exact tS; go_big_quiet_op; go_big_quiet_on) | ((with_reducible apply quiet_cell); exact rfl; (first | (with_reducible exact one8)); exact sS; exact dS; go_big_quiet_op; go_big_quiet_on) | (go_big_quiet_op; go_big_quiet_on) | ((with_reducible apply quiet_call); exact fun w => rfl; (focus (go_simp; all_goals with_reducible rfl)); (intro wq HQ; first | (with_reducible exact rbase_at r0 r1 r2 r3 r4 r5 r6 r7 r8 r9 r10 H5.out b hb _) | (with_reducible exact (rat_at a n cap xs _ (b + 129 + 2 * i) t hk3 hv3 _ (HV.out.under HQ.out.below)).mono fun _ _ ⟨he, hw⟩ => ⟨he, hw ▸ Below.refl _ _⟩)); go_big_quiet_op; go_big_quiet_on) | (go_big_quiet_op; go_big_quiet_on) | (go_big_quiet_op; refine ⟨_, fun _ _ => rfl, ?_⟩; go_big_quiet_on))))
  refine wpQuiet_nil ?_
  intro w' HM'
  clear HM; have HM := HM'; clear HM'
  have ccb : (cc : Int) < 8 := by have := CC8.out; omega
  go_wp2_with (first | ((with_reducible apply own_box HM); exact rfl; (conv => lhs; whnf); exact rfl; exact rfl; (first | (clear tg1 HM; intro w' g1 HM) | (clear tg2 HM; intro w' g2 HM) | (clear tg3 HM; intro w' g3 HM) | (clear tg4 HM; intro w' g4 HM) | (clear HM; intro w' g' HM))) | ((with_reducible apply own_cell HM); exact rfl; exact rfl; (first | (with_reducible exact one8) | (with_reducible exact oneInt)); exact sS; exact dS; exact rfl) | ((with_reducible apply own_load HM); exact rfl; exact rfl; (first | (with_reducible exact agg11) | (with_reducible exact agg2i)); exact sS; exact dS; exact tS; exact rfl) | ((with_reducible apply own_store HM); exact rfl; exact rfl; (conv => lhs; whnf); exact rfl; exact sS; exact vS; exact sS; (first | (with_reducible exact (agg11).size) | (with_reducible exact (agg2i).size) | (with_reducible exact (one8).size) | (with_reducible exact (oneInt).size)); exact rfl; exact rfl; exact rfl; exact rfl; clear HM; intro w' HM) | (go_at_call 29; (with_reducible refine (rtdot_v a n cap xs e rr cc d trivial CC8.out hd _ (HV.out.under (Own.fin HM))).mono ?_); rintro e w' ⟨rfl, rfl⟩))
  go_ret
  exact ⟨rfl, Own.fin HM⟩
set_option maxRecDepth 100000 in
set_option maxHeartbeats 3200000 in
theorem rspdot_05 (a : Option Addr) (n cap : Nat) (xs : Nat → Nat) (r0 r1 r2 r3 r4 r5 r6 r7 r8 r9 r10 i x : Nat) (line ac : Int) (b0 : r0 < 256) (b1 : r1 < 256) (b5 : r5 < 256) (b6 : r6 < 256) (hi : i < 64) (l1 : line ≤ 191) (hx : x < 256) (b X y t : Nat) (hb : Hid (spBase r5 = b)) (hX : Hid (mem n xs (b + 128 + 2 * i) = X)) (hy : Hid (mem n xs (b + i) = y)) (ht : Hid (mem n xs (b + 129 + 2 * i) = t)) (hs : r1 % 2 = 0) (ty : Int) (hty : Hid (spTop y = ty)) (hl : ty ≤ line) (hac : (x : Int) - ((X : Int) - 8 * (r0 / 8 % 2 : Nat)) = ac) (hc0 : ¬ ac < 0) (hc : ¬ 8 ≤ ac) (hv : r1 / 2 % 2 = 1) (e h rr cc d : Nat) (hh : Hid ((h : Int) = line - ty)) (hrr : Hid (h / 1 = rr)) (hcc : Hid ((cc : Int) = ac / 1)) (he : Hid (t + 256 * (r6 / 4 % 2) = e)) (hlow : 8 ≤ rr) (hd : Hid (tAt n xs ((e / 2 * 2) + 1) (rr - 8) cc = d)) (w : World) (hV : ByteRow w a n xs) :
    Calls Try.prog 38 #[.slice a n cap, regsV r0 r1 r2 r3 r4 r5 r6 r7 r8 r9 r10, .int .i64 (i : Int), .agg #[.int .i64 line, .int .i64 (x : Int)]] w fun e w' => e = .returned (.int .u8 (d : Int)) ∧ Below w.heap.size w w' := by
  have HM := Lib.hid (Own.start w)
  have tg1 : Hid True := trivial
  have tg2 : Hid True := trivial
  have HV := Lib.hid hV
  have H5 := Lib.hid b5
  have hbb : b ≤ 16128 := by have := spBase_le r5; rw [hb.out] at this; exact this
  have hk1 : Hid (((b : Int) + 128 + 2 * (i : Int)) % 16384 = ((b + 128 + 2 * i : Nat) : Int)) := Lib.hid (by omega)
  have hv1 : Hid (vget n xs (b + 128 + 2 * i) = X) := Lib.hid (by have e := hX.out; unfold mem at e; rwa [Nat.mod_eq_of_lt (by omega)] at e)
  have hk2 : Hid (((b : Int) + (i : Int)) % 16384 = ((b + i : Nat) : Int)) := Lib.hid (by omega)
  have hv2 : Hid (vget n xs (b + i) = y) := Lib.hid (by have e := hy.out; unfold mem at e; rwa [Nat.mod_eq_of_lt (by omega)] at e)
  have hk3 : Hid (((b : Int) + 129 + 2 * (i : Int)) % 16384 = ((b + 129 + 2 * i : Nat) : Int)) := Lib.hid (by omega)
  have hv3 : Hid (vget n xs (b + 129 + 2 * i) = t) := Lib.hid (by have e := ht.out; unfold mem at e; rwa [Nat.mod_eq_of_lt (by omega)] at e)
  have X8 : X < 256 := hv1.out ▸ vget_lt hV _
  have y8 : y < 256 := hv2.out ▸ vget_lt hV _
  have t8 : t < 256 := hv3.out ▸ vget_lt hV _
  have Y8 := Lib.hid y8
  obtain ⟨p, hp⟩ : ∃ p : Nat, r0 / 8 = p := ⟨_, rfl⟩
  obtain ⟨q, hq⟩ : ∃ q : Nat, p % 2 = q := ⟨_, rfl⟩
  have P1 : (r0 : Int) / 8 = (p : Int) := by omega
  have P2 : (p : Int) % 2 = (q : Int) := by omega
  have P3 : IntKind.u8.wrap (p : Int) = (p : Int) := by rw [IntKind.wrap_u8]; omega
  have q1 : (q : Int) < 2 := by omega
  obtain ⟨xx, hxx⟩ : ∃ xx : Int, (X : Int) - 8 * (q : Int) = xx := ⟨_, rfl⟩
  have X8' : (X : Int) < 256 := by omega
  have S1 : (r1 : Int) % 2 = 0 := by omega
  have i64' : (i : Int) < 64 := by omega
  have b16 : (b : Int) ≤ 16128 := by omega
  have x256 : (x : Int) < 256 := by omega
  have xx1 : -8 ≤ xx ∧ xx < 256 := by omega
  obtain ⟨xx2, xx3⟩ := xx1
  have AC : (x : Int) - xx = ac := by rw [hp, hq] at hac; omega
  have ac1 : -256 ≤ ac ∧ ac < 300 := by omega
  obtain ⟨ac2, ac3⟩ := ac1
  have ty1 : -256 ≤ ty ∧ ty ≤ 240 := by have := hty.out; unfold spTop at this; split at this <;> omega
  obtain ⟨ty2, ty3⟩ := ty1
  have hh1 : line - ty = (h : Int) := hh.out.symm
  have h500 : (h : Int) < 500 := by omega
  have RR : (h : Int).tdiv 1 = (rr : Int) := by rw [Int.tdiv_eq_ediv_of_nonneg (by omega)]; have := hrr.out; omega
  have CC : ac.tdiv 1 = (cc : Int) := by rw [Int.tdiv_eq_ediv_of_nonneg (by omega)]; exact hcc.out.symm
  have cc8 : cc < 8 := by have := hcc.out; omega
  have CC8 := Lib.hid cc8
  have rr500 : (rr : Int) < 500 := by have := hrr.out; omega
  obtain ⟨p6, hp6⟩ : ∃ p : Nat, r6 / 4 = p := ⟨_, rfl⟩
  obtain ⟨q6, hq6⟩ : ∃ q : Nat, p6 % 2 = q := ⟨_, rfl⟩
  have P4 : (r6 : Int) / 4 = (p6 : Int) := by omega
  have P5 : (p6 : Int) % 2 = (q6 : Int) := by omega
  have P6 : IntKind.u8.wrap (p6 : Int) = (p6 : Int) := by rw [IntKind.wrap_u8]; omega
  have q62 : (q6 : Int) < 2 := by omega
  have t8' : (t : Int) < 256 := by omega
  have EE : (t : Int) + 256 * (q6 : Int) = (e : Int) := by have := he.out; rw [hp6, hq6] at this; omega
  have e600 : (e : Int) < 600 := by omega
  obtain ⟨p1, hp1⟩ : ∃ p : Nat, r1 / 2 = p := ⟨_, rfl⟩
  have P7 : (r1 : Int) / 2 = (p1 : Int) := by omega
  have P8 : (p1 : Int) % 2 = 1 := by omega
  have P9 : IntKind.u8.wrap (p1 : Int) = (p1 : Int) := by rw [IntKind.wrap_u8]; omega
  have LW := Lib.hid hlow
  have lw : 8 ≤ (rr : Int) := by omega
  clear hac hp hq hX hy ht hV b5 hbb hs X8 y8 hi hx hp6 hq6 hh hrr he hv hlow hp1 cc8 hcc t8
  go_enter Try.func38, Try.ntmps38
  go_upto_region 2 with (first | ((with_reducible apply own_box HM); exact rfl; (conv => lhs; whnf); exact rfl; exact rfl; (first | (clear tg1 HM; intro w' g1 HM) | (clear tg2 HM; intro w' g2 HM) | (clear tg3 HM; intro w' g3 HM) | (clear tg4 HM; intro w' g4 HM) | (clear HM; intro w' g' HM))) | ((with_reducible apply own_cell HM); exact rfl; exact rfl; (first | (with_reducible exact one8) | (with_reducible exact oneInt)); exact sS; exact dS; exact rfl) | ((with_reducible apply own_load HM); exact rfl; exact rfl; (first | (with_reducible exact agg11) | (with_reducible exact agg2i)); exact sS; exact dS; exact tS; exact rfl) | ((with_reducible apply own_store HM); exact rfl; exact rfl; (conv => lhs; whnf); exact rfl; exact sS; exact vS; exact sS; (first | (with_reducible exact (agg11).size) | (with_reducible exact (agg2i).size) | (with_reducible exact (one8).size) | (with_reducible exact (oneInt).size)); exact rfl; exact rfl; exact rfl; exact rfl; clear HM; intro w' HM))
  (refine own_region HM (by kernel_rfl) (by kernel_rfl) ?_; (try simp only [Act.put, List.setIfInBounds_toArray, List.set_cons_zero, List.set_cons_succ]); repeat ((fail_if_success (with_reducible refine wpQuiet_nil ?_)); first | go_big_quiet_skip | (go_big_quiet_want; first | ((with_reducible apply quiet_load); exact rfl; (first | (with_reducible exact agg11)); exact sS; exact dS; exact tS; go_big_quiet_op; go_big_quiet_on) | ((with_reducible apply quiet_cell); exact rfl; (first | (with_reducible exact one8)); exact sS; exact dS; go_big_quiet_op; go_big_quiet_on) | (go_big_quiet_op; go_big_quiet_on) | ((with_reducible apply quiet_call); exact fun w => rfl; (focus (go_simp; all_goals with_reducible rfl)); (intro wq HQ; first | (with_reducible exact rbase_at r0 r1 r2 r3 r4 r5 r6 r7 r8 r9 r10 H5.out b hb _) | (with_reducible exact (rat_at a n cap xs _ (b + 128 + 2 * i) X hk1 hv1 _ (HV.out.under HQ.out.below)).mono fun _ _ ⟨he, hw⟩ => ⟨he, hw ▸ Below.refl _ _⟩)); go_big_quiet_op; go_big_quiet_on) | (go_big_quiet_op; go_big_quiet_on) | (go_big_quiet_op; refine ⟨_, fun _ _ => rfl, ?_⟩; go_big_quiet_on))))
  refine wpQuiet_nil ?_
  intro w' HM'
  clear HM; have HM := HM'; clear HM'
  clear P1 P2 P3
  go_upto_region 6 with (first | ((with_reducible apply own_box HM); exact rfl; (conv => lhs; whnf); exact rfl; exact rfl; (first | (clear tg1 HM; intro w' g1 HM) | (clear tg2 HM; intro w' g2 HM) | (clear tg3 HM; intro w' g3 HM) | (clear tg4 HM; intro w' g4 HM) | (clear HM; intro w' g' HM))) | ((with_reducible apply own_cell HM); exact rfl; exact rfl; (first | (with_reducible exact one8) | (with_reducible exact oneInt)); exact sS; exact dS; exact rfl) | ((with_reducible apply own_load HM); exact rfl; exact rfl; (first | (with_reducible exact agg11) | (with_reducible exact agg2i)); exact sS; exact dS; exact tS; exact rfl) | ((with_reducible apply own_store HM); exact rfl; exact rfl; (conv => lhs; whnf); exact rfl; exact sS; exact vS; exact sS; (first | (with_reducible exact (agg11).size) | (with_reducible exact (agg2i).size) | (with_reducible exact (one8).size) | (with_reducible exact (oneInt).size)); exact rfl; exact rfl; exact rfl; exact rfl; clear HM; intro w' HM))
  (refine own_region HM (by kernel_rfl) (by kernel_rfl) ?_; (try simp only [Act.put, List.setIfInBounds_toArray, List.set_cons_zero, List.set_cons_succ]); repeat ((fail_if_success (with_reducible refine wpQuiet_nil ?_)); first | go_big_quiet_skip | (go_big_quiet_want; first | ((with_reducible apply quiet_load); exact rfl; (first | (with_reducible exact agg11) | (with_reducible exact agg2i)); exact sS; exact dS; exact tS; go_big_quiet_op; go_big_quiet_on) | ((with_reducible apply quiet_cell); exact rfl; (first | (with_reducible exact one8) | (with_reducible exact oneInt)); exact sS; exact dS; go_big_quiet_op; go_big_quiet_on) | (go_big_quiet_op; go_big_quiet_on) | ((with_reducible apply quiet_call); exact fun w => rfl; (focus (go_simp; all_goals with_reducible rfl)); (intro wq HQ; first | (with_reducible exact rbase_at r0 r1 r2 r3 r4 r5 r6 r7 r8 r9 r10 H5.out b hb _) | (with_reducible exact (rat_at a n cap xs _ (b + i) y hk2 hv2 _ (HV.out.under HQ.out.below)).mono fun _ _ ⟨he, hw⟩ => ⟨he, hw ▸ Below.refl _ _⟩) | (with_reducible exact (rtop_at y Y8.out ty hty _).mono fun _ _ ⟨he, hw⟩ => ⟨he, hw ▸ Below.refl _ _⟩)); go_big_quiet_op; go_big_quiet_on) | (go_big_quiet_op; go_big_quiet_on) | (go_big_quiet_op; refine ⟨_, fun _ _ => rfl, ?_⟩; go_big_quiet_on))))
  refine wpQuiet_nil ?_
  intro w' HM'
  clear HM; have HM := HM'; clear HM'
  go_upto_region 7 with fail
  (refine own_region HM (by kernel_rfl) (by kernel_rfl) ?_; (try simp only [Act.put, List.setIfInBounds_toArray, List.set_cons_zero, List.set_cons_succ]); repeat ((fail_if_success (with_reducible refine wpQuiet_nil ?_)); first | go_big_quiet_skip | (go_big_quiet_want; first | ((with_reducible apply quiet_load); exact rfl; (first | (with_reducible exact agg11)); exact sS; exact dS; exact tS; go_big_quiet_op; go_big_quiet_on) | ((with_reducible apply quiet_cell); exact rfl; (first | (with_reducible exact one8)); exact sS; exact dS; go_big_quiet_op; go_big_quiet_on) | (go_big_quiet_op; go_big_quiet_on) | ((with_reducible apply quiet_call); exact fun w => rfl; (focus (go_simp; all_goals with_reducible rfl)); (intro wq HQ; first | (with_reducible exact rbase_at r0 r1 r2 r3 r4 r5 r6 r7 r8 r9 r10 H5.out b hb _) | (with_reducible exact (rat_at a n cap xs _ (b + 129 + 2 * i) t hk3 hv3 _ (HV.out.under HQ.out.below)).mono fun _ _ ⟨he, hw⟩ => ⟨he, hw ▸ Below.refl _ _⟩)); go_big_quiet_op; go_big_quiet_on) | (go_big_quiet_op; go_big_quiet_on) | (go_big_quiet_op; refine ⟨_, fun _ _ => rfl, ?_⟩; go_big_quiet_on))))
  refine wpQuiet_nil ?_
  intro w' HM'
  clear HM; have HM := HM'; clear HM'
  have ccb : (cc : Int) < 8 := by have := CC8.out; omega
  go_wp2_with (first | ((with_reducible apply own_box HM); exact rfl; (conv => lhs; whnf); exact rfl; exact rfl; (first | (clear tg1 HM; intro w' g1 HM) | (clear tg2 HM; intro w' g2 HM) | (clear tg3 HM; intro w' g3 HM) | (clear tg4 HM; intro w' g4 HM) | (clear HM; intro w' g' HM))) | ((with_reducible apply own_cell HM); exact rfl; exact rfl; (first | (with_reducible exact one8) | (with_reducible exact oneInt)); exact sS; exact dS; exact rfl) | ((with_reducible apply own_load HM); exact rfl; exact rfl; (first | (with_reducible exact agg11) | (with_reducible exact agg2i)); exact sS; exact dS; exact tS; exact rfl) | ((with_reducible apply own_store HM); exact rfl; exact rfl; (conv => lhs; whnf); exact rfl; exact sS; exact vS; exact sS; (first | (with_reducible exact (agg11).size) | (with_reducible exact (agg2i).size) | (with_reducible exact (one8).size) | (with_reducible exact (oneInt).size)); exact rfl; exact rfl; exact rfl; exact rfl; clear HM; intro w' HM) | (go_at_call 29; (with_reducible refine (rtdot_w a n cap xs e rr cc d LW.out CC8.out hd _ (HV.out.under (Own.fin HM))).mono ?_); rintro e w' ⟨rfl, rfl⟩))
  go_ret
  exact ⟨rfl, Own.fin HM⟩
end Go.Proofs.Ytijjigacmmhloaa
