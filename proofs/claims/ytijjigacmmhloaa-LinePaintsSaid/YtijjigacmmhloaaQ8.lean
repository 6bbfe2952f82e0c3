import Derived.Test.YtijjigacmmhloaaQ5
namespace Go.Proofs.Ytijjigacmmhloaa
open Go.RowKit
theorem sp_even : ∀ m : Nat, m < 512 → bits .andNot .i64 (m : Int) 1 = ((m / 2 * 2 : Nat) : Int) := by decide +kernel
def spNum (r1 r6 t : Nat) : Nat := if r1 / 2 % 2 = 1 then (t + 256 * (r6 / 4 % 2)) / 2 * 2 else t + 256 * (r6 / 4 % 2)
def spRowD (n : Nat) (xs : Nat → Nat) (r1 r6 : Nat) (line : Int) (y t : Nat) : Nat → Nat :=
  if 8 ≤ (line - spTop y).toNat / (1 + r1 % 2) then tAt n xs (spNum r1 r6 t + 1) ((line - spTop y).toNat / (1 + r1 % 2) - 8) else tAt n xs (spNum r1 r6 t) ((line - spTop y).toNat / (1 + r1 % 2))
theorem spRowD_lt (n : Nat) (xs : Nat → Nat) (r1 r6 : Nat) (line : Int) (y t j : Nat) : spRowD n xs r1 r6 line y t j < 16 := by
  unfold spRowD
  split <;> exact tAt_lt _ _ _ _ _
theorem row_n (a : Option Addr) (n cap : Nat) (xs : Nat → Nat) (e r : Nat) (D : Nat → Nat) (hD : Hid (tAt n xs e r = D)) (w : World) (hV : ByteRow w a n xs) :
    Calls Try.prog 46 #[.slice a n cap, .int .i64 (e : Int), .int .i64 (r : Int), .bool false] w fun e w' => e = .returned (.agg #[.int .u8 (D 0 : Int), .int .u8 (D 1 : Int), .int .u8 (D 2 : Int), .int .u8 (D 3 : Int), .int .u8 (D 4 : Int), .int .u8 (D 5 : Int), .int .u8 (D 6 : Int), .int .u8 (D 7 : Int)]) ∧ Below w.heap.size w w' := by
  have hx : ∀ i, tAt n xs e r i = D i := fun i => by rw [hD.out]
  exact row_f a n cap xs e r ((e % 512 : Nat) : Int) ((r % 8 : Nat) : Int) (32 * (e % 512) + 4 * (r % 8)) _ _ _ _ (D 0) (D 1) (D 2) (D 3) (D 4) (D 5) (D 6) (D 7) (by show _ = _; omega) (by show _ = _; omega) (by show _ = _; omega) (Lib.hid rfl) (Lib.hid rfl) (Lib.hid rfl) (Lib.hid rfl) (hx 0) (hx 1) (hx 2) (hx 3) (hx 4) (hx 5) (hx 6) (hx 7) w hV
set_option maxRecDepth 100000 in
set_option maxHeartbeats 6400000 in
theorem dots_at (a : Option Addr) (n cap : Nat) (xs : Nat → Nat) (r0 r1 r2 r3 r4 r5 r6 r7 r8 r9 r10 i : Nat) (line : Int) (b1 : r1 < 256) (b5 : r5 < 256) (b6 : r6 < 256) (hi : i < 64) (y t : Nat) (hY : Hid (mem n xs (spBase r5 + i) = y)) (hT : Hid (mem n xs (spBase r5 + 129 + 2 * i) = t)) (h0 : spTop y ≤ line) (h1 : line < spTop y + (spH r1 : Nat)) (D : Nat → Nat) (hD : Hid (spRowD n xs r1 r6 line y t = D)) (w : World) (hV : ByteRow w a n xs) :
    Calls Try.prog 36 #[.slice a n cap, regsV r0 r1 r2 r3 r4 r5 r6 r7 r8 r9 r10, .int .i64 (i : Int), .int .i64 line] w fun e w' => e = .returned (.agg #[.int .u8 (D 0 : Int), .int .u8 (D 1 : Int), .int .u8 (D 2 : Int), .int .u8 (D 3 : Int), .int .u8 (D 4 : Int), .int .u8 (D 5 : Int), .int .u8 (D 6 : Int), .int .u8 (D 7 : Int)]) ∧ Below w.heap.size w w' := by
  have HM := Lib.hid (Own.start w)
  have tg1 : Hid True := trivial
  have tg2 : Hid True := trivial
  have tg3 : Hid True := trivial
  have tg4 : Hid True := trivial
  have HV := Lib.hid hV
  have H5 := Lib.hid b5
  have H1 := Lib.hid b1
  obtain ⟨b, hb⟩ : ∃ b, Hid (spBase r5 = b) := ⟨_, rfl⟩
  have hb1 : (b : Int) ≤ 16128 := by have := spBase_le r5; rw [hb.out] at this; omega
  have hi1 : (i : Int) < 64 := by omega
  have hv1 : Hid (vget n xs (b + i) = y) := Lib.hid (by
    have := hY.out
    unfold mem at this
    rw [hb.out, Nat.mod_eq_of_lt (by omega)] at this
    exact this)
  have hv2 : Hid (vget n xs (b + 129 + 2 * i) = t) := Lib.hid (by
    have := hT.out
    unfold mem at this
    rw [hb.out, Nat.mod_eq_of_lt (by omega)] at this
    exact this)
  have Y8 : Hid (y < 256) := Lib.hid (hv1.out ▸ vget_lt hV _)
  have t8 : t < 256 := hv2.out ▸ vget_lt hV _
  have t9 : (t : Int) < 256 := by omega
  have hm1 : Hid (((b : Int) + (i : Int)) % 16384 = ((b + i : Nat) : Int)) := Lib.hid (by omega)
  have hm2 : Hid (((b : Int) + 128 + 2 * (i : Int) + 1) % 16384 = ((b + 129 + 2 * i : Nat) : Int)) := Lib.hid (by omega)
  have e4 := sp_and4 r6 b6
  have e2 := sp_and2 r1 b1
  obtain ⟨T, hTp⟩ : ∃ T, Hid (spTop y = T) := ⟨_, rfl⟩
  have T0 : -256 ≤ T ∧ T ≤ 240 := by have := hTp.out; have y9 := Y8.out; unfold spTop at this; split at this <;> omega
  obtain ⟨T1, T2⟩ := T0
  rw [hTp.out] at h0 h1
  have hH := (spH_le r1).2
  obtain ⟨d, hd⟩ : ∃ d : Nat, line - T = (d : Int) := ⟨(line - T).toNat, by omega⟩
  have d1 : (d : Int) < 32 := by omega
  have d2 : d < spH r1 := by omega
  have l1 : -512 ≤ line := by omega
  have l2 : line < 512 := by omega
  obtain ⟨m6, hm6⟩ : ∃ m : Nat, t + 256 * (r6 / 4 % 2) = m := ⟨_, rfl⟩
  have m6l : m6 < 512 := by omega
  have hDn : ∀ j, (if 8 ≤ d / (1 + r1 % 2) then tAt n xs ((if r1 / 2 % 2 = 1 then m6 / 2 * 2 else m6) + 1) (d / (1 + r1 % 2) - 8) else tAt n xs (if r1 / 2 % 2 = 1 then m6 / 2 * 2 else m6) (d / (1 + r1 % 2))) j = D j := by
    intro j
    rw [← hD.out]
    unfold spRowD spNum
    rw [hTp.out, hd, Int.toNat_natCast, hm6]
  unfold spH at d2
  have ev := sp_even m6 m6l
  clear hV b5 hi b6 b1 hY hT hD h0 h1 hH
  rcases (show r6 / 4 % 2 = 0 ∨ r6 / 4 % 2 = 1 by omega) with k6 | k6 <;> rcases (show r1 / 2 % 2 = 0 ∨ (r1 / 2 % 2 = 1 ∧ d / (1 + r1 % 2) < 8) ∨ (r1 / 2 % 2 = 1 ∧ 8 ≤ d / (1 + r1 % 2)) by omega) with k2 | ⟨k2, k8⟩ | ⟨k2, k8⟩ <;> rcases (show r1 % 2 = 0 ∨ r1 % 2 = 1 by omega) with k1 | k1
  · have HS : Hid (1 + r1 % 2 = 1) := Lib.hid (by rw [k1])
    rw [k6] at e4 hm6
    rw [k2] at e2 d2
    rw [k1] at d2
    simp only [k2, k1, Nat.zero_ne_one, if_false, Nat.add_zero, Nat.div_one] at hDn
    have hq2 : IntKind.i64.wrap (d : Int) = (d : Int) := by rw [IntKind.wrap_i64]; omega
    have hq3 : IntKind.i64.wrap ((d : Int).tdiv 1) = (d : Int) := by rw [Int.tdiv_one]; exact hq2
    have q1 : d < 8 := by omega
    have q2 : (d : Int) < 16 := by omega
    obtain rfl : t = m6 := by omega
    clear ev
    have m7l : (t : Int) < 512 := by omega
    rw [if_neg (by omega)] at hDn
    have Q1 : (d : Int) / 8 = 0 := by omega
    have Q2 : (d : Int).tmod 8 = (d : Int) := by rw [Int.tmod_eq_emod_of_nonneg (by omega)]; omega
    have Q3 : (d : Int) % 8 = (d : Int) := by omega
    have HD : Hid (tAt n xs t d = D) := Lib.hid (funext hDn)
    clear hDn k6 k2 k1 d2 hm6 m6l t8 q1
    go_enter Try.func36, Try.ntmps36
    go_upto_region 7 with (first | ((with_reducible apply own_box HM); exact rfl; (conv => lhs; whnf); exact rfl; exact rfl; (first | (clear tg1 HM; intro w' g1 HM) | (clear tg2 HM; intro w' g2 HM) | (clear tg3 HM; intro w' g3 HM) | (clear tg4 HM; intro w' g4 HM) | (clear HM; intro w' g' HM))) | ((with_reducible apply own_alloc HM); exact rfl; (first | (with_reducible exact zero8)); exact rfl; (first | (clear tg1 HM; intro w' g1 HM) | (clear tg2 HM; intro w' g2 HM) | (clear tg3 HM; intro w' g3 HM) | (clear tg4 HM; intro w' g4 HM) | (clear HM; intro w' g' HM))) | ((with_reducible apply own_cell HM); exact rfl; exact rfl; (first | (with_reducible exact one8) | (with_reducible exact oneInt)); exact sS; exact dS; exact rfl) | ((with_reducible apply own_load HM); exact rfl; exact rfl; (first | (with_reducible exact agg11) | (with_reducible exact agg8)); exact sS; exact dS; exact tS; exact rfl) | ((with_reducible apply own_store HM); exact rfl; exact rfl; (conv => lhs; whnf); exact rfl; exact sS; exact vS; exact sS; (first | (with_reducible exact (agg11).size) | (with_reducible exact (agg8).size) | (with_reducible exact (one8).size) | (with_reducible exact (oneInt).size)); exact rfl; exact rfl; exact rfl; exact rfl; clear HM; intro w' HM) | (go_at_call 47; (with_reducible refine (table_at r0 r1 r2 r3 r4 r5 r6 r7 r8 r9 r10 H5.out b hb _).mono ?_); rintro e w' ⟨rfl, hb⟩; replace HM := Lib.hid (HM.out.call hb); clear hb) | (go_at_call 49; (with_reducible refine (at_at a n cap xs _ (b + 129 + 2 * i) t hm2 hv2 _ (HV.out.under (Own.fin HM))).mono ?_); rintro e w' ⟨rfl, rfl⟩))
    (refine own_region HM (by kernel_rfl) (by kernel_rfl) ?_; (try simp only [Act.put, List.setIfInBounds_toArray, List.set_cons_zero, List.set_cons_succ]); repeat ((fail_if_success (with_reducible refine wpQuiet_nil ?_)); first | go_big_quiet_skip | (go_big_quiet_want; first | ((with_reducible apply quiet_load); exact rfl; (first | (with_reducible exact agg11)); exact sS; exact dS; exact tS; go_big_quiet_op; go_big_quiet_on) | ((with_reducible apply quiet_call); exact fun w => rfl; (focus (go_simp; all_goals with_reducible rfl)); (intro wq HQ; first | (with_reducible exact (at_at a n cap xs _ (b + i) y hm1 hv1 _ (HV.out.under (Own.fin HQ))).mono fun _ _ ⟨he, hw⟩ => ⟨he, hw ▸ Below.refl _ _⟩) | (with_reducible exact (first_at y Y8.out T hTp _).mono fun _ _ ⟨he, hw⟩ => ⟨he, hw ▸ Below.refl _ _⟩) | (with_reducible exact scale_at r0 r1 r2 r3 r4 r5 r6 r7 r8 r9 r10 H1.out 1 HS _)); go_big_quiet_op; go_big_quiet_on) | (go_big_quiet_op; go_big_quiet_on) | (go_big_quiet_op; refine ⟨_, fun _ _ => rfl, ?_⟩; go_big_quiet_on))))
    refine wpQuiet_nil ?_
    intro w' HM'
    clear HM; have HM := HM'; clear HM'
    go_wp2_with (first | ((with_reducible apply own_box HM); exact rfl; (conv => lhs; whnf); exact rfl; exact rfl; (first | (clear tg1 HM; intro w' g1 HM) | (clear tg2 HM; intro w' g2 HM) | (clear tg3 HM; intro w' g3 HM) | (clear tg4 HM; intro w' g4 HM) | (clear HM; intro w' g' HM))) | ((with_reducible apply own_alloc HM); exact rfl; (first | (with_reducible exact zero8)); exact rfl; (first | (clear tg1 HM; intro w' g1 HM) | (clear tg2 HM; intro w' g2 HM) | (clear tg3 HM; intro w' g3 HM) | (clear tg4 HM; intro w' g4 HM) | (clear HM; intro w' g' HM))) | ((with_reducible apply own_cell HM); exact rfl; exact rfl; (first | (with_reducible exact one8) | (with_reducible exact oneInt)); exact sS; exact dS; exact rfl) | ((with_reducible apply own_load HM); exact rfl; exact rfl; (first | (with_reducible exact agg11) | (with_reducible exact agg8)); exact sS; exact dS; exact tS; exact rfl) | ((with_reducible apply own_store HM); exact rfl; exact rfl; (conv => lhs; whnf); exact rfl; exact sS; exact vS; exact sS; (first | (with_reducible exact (agg11).size) | (with_reducible exact (agg8).size) | (with_reducible exact (one8).size) | (with_reducible exact (oneInt).size)); exact rfl; exact rfl; exact rfl; exact rfl; clear HM; intro w' HM) | (go_at_call 46; (with_reducible refine (row_n a n cap xs t d D HD _ (HV.out.under (Own.fin HM))).mono ?_); rintro e w' ⟨rfl, hb⟩; replace HM := Lib.hid (HM.out.call hb); clear hb))
    refine bodyPost_ret (v := .agg #[.int .u8 (D 0 : Int), .int .u8 (D 1 : Int), .int .u8 (D 2 : Int), .int .u8 (D 3 : Int), .int .u8 (D 4 : Int), .int .u8 (D 5 : Int), .int .u8 (D 6 : Int), .int .u8 (D 7 : Int)]) (own_results HM Try.results36 _ rfl (by first | exact .z | exact .s .z | exact .s (.s .z)) agg8) rfl ⟨rfl, Own.fin HM⟩
  · have HS : Hid (1 + r1 % 2 = 2) := Lib.hid (by rw [k1])
    rw [k6] at e4 hm6
    rw [k2] at e2 d2
    rw [k1] at d2
    simp only [k2, k1, Nat.zero_ne_one, if_false, Nat.reduceAdd] at hDn
    obtain ⟨q, hq⟩ : ∃ q : Nat, d / 2 = q := ⟨_, rfl⟩
    rw [hq] at hDn
    have hq2 : IntKind.i64.wrap ((d : Int).tdiv 2) = (q : Int) := by rw [Int.tdiv_eq_ediv_of_nonneg (by omega), IntKind.wrap_i64]; omega
    have hq4 : (d : Int) / 2 = (q : Int) := by omega
    have q1 : q < 8 := by omega
    have q2 : (q : Int) < 16 := by omega
    obtain rfl : t = m6 := by omega
    clear ev
    have m7l : (t : Int) < 512 := by omega
    rw [if_neg (by omega)] at hDn
    have Q1 : (q : Int) / 8 = 0 := by omega
    have Q2 : (q : Int).tmod 8 = (q : Int) := by rw [Int.tmod_eq_emod_of_nonneg (by omega)]; omega
    have Q3 : (q : Int) % 8 = (q : Int) := by omega
    have HD : Hid (tAt n xs t q = D) := Lib.hid (funext hDn)
    clear hDn k6 k2 k1 d2 hm6 m6l t8 hq q1
    go_enter Try.func36, Try.ntmps36
    go_upto_region 7 with (first | ((with_reducible apply own_box HM); exact rfl; (conv => lhs; whnf); exact rfl; exact rfl; (first | (clear tg1 HM; intro w' g1 HM) | (clear tg2 HM; intro w' g2 HM) | (clear tg3 HM; intro w' g3 HM) | (clear tg4 HM; intro w' g4 HM) | (clear HM; intro w' g' HM))) | ((with_reducible apply own_alloc HM); exact rfl; (first | (with_reducible exact zero8)); exact rfl; (first | (clear tg1 HM; intro w' g1 HM) | (clear tg2 HM; intro w' g2 HM) | (clear tg3 HM; intro w' g3 HM) | (clear tg4 HM; intro w' g4 HM) | (clear HM; intro w' g' HM))) | ((with_reducible apply own_cell HM); exact rfl; exact rfl; (first | (with_reducible exact one8) | (with_reducible exact oneInt)); exact sS; exact dS; exact rfl) | ((with_reducible apply own_load HM); exact rfl; exact rfl; (first | (with_reducible exact agg11) | (with_reducible exact agg8)); exact sS; exact dS; exact tS; exact rfl) | ((with_reducible apply own_store HM); exact rfl; exact rfl; (conv => lhs; whnf); exact rfl; exact sS; exact vS; exact sS; (first | (with_reducible exact (agg11).size) | (with_reducible exact (agg8).size) | (with_reducible exact (one8).size) | (with_reducible exact (oneInt).size)); exact rfl; exact rfl; exact rfl; exact rfl; clear HM; intro w' HM) | (go_at_call 47; (with_reducible refine (table_at r0 r1 r2 r3 r4 r5 r6 r7 r8 r9 r10 H5.out b hb _).mono ?_); rintro e w' ⟨rfl, hb⟩; replace HM := Lib.hid (HM.out.call hb); clear hb) | (go_at_call 49; (with_reducible refine (at_at a n cap xs _ (b + 129 + 2 * i) t hm2 hv2 _ (HV.out.under (Own.fin HM))).mono ?_); rintro e w' ⟨rfl, rfl⟩))
    (refine own_region HM (by kernel_rfl) (by kernel_rfl) ?_; (try simp only [Act.put, List.setIfInBounds_toArray, List.set_cons_zero, List.set_cons_succ]); repeat ((fail_if_success (with_reducible refine wpQuiet_nil ?_)); first | go_big_quiet_skip | (go_big_quiet_want; first | ((with_reducible apply quiet_load); exact rfl; (first | (with_reducible exact agg11)); exact sS; exact dS; exact tS; go_big_quiet_op; go_big_quiet_on) | ((with_reducible apply quiet_call); exact fun w => rfl; (focus (go_simp; all_goals with_reducible rfl)); (intro wq HQ; first | (with_reducible exact (at_at a n cap xs _ (b + i) y hm1 hv1 _ (HV.out.under (Own.fin HQ))).mono fun _ _ ⟨he, hw⟩ => ⟨he, hw ▸ Below.refl _ _⟩) | (with_reducible exact (first_at y Y8.out T hTp _).mono fun _ _ ⟨he, hw⟩ => ⟨he, hw ▸ Below.refl _ _⟩) | (with_reducible exact scale_at r0 r1 r2 r3 r4 r5 r6 r7 r8 r9 r10 H1.out 2 HS _)); go_big_quiet_op; go_big_quiet_on) | (go_big_quiet_op; go_big_quiet_on) | (go_big_quiet_op; refine ⟨_, fun _ _ => rfl, ?_⟩; go_big_quiet_on))))
    refine wpQuiet_nil ?_
    intro w' HM'
    clear HM; have HM := HM'; clear HM'
    go_wp2_with (first | ((with_reducible apply own_box HM); exact rfl; (conv => lhs; whnf); exact rfl; exact rfl; (first | (clear tg1 HM; intro w' g1 HM) | (clear tg2 HM; intro w' g2 HM) | (clear tg3 HM; intro w' g3 HM) | (clear tg4 HM; intro w' g4 HM) | (clear HM; intro w' g' HM))) | ((with_reducible apply own_alloc HM); exact rfl; (first | (with_reducible exact zero8)); exact rfl; (first | (clear tg1 HM; intro w' g1 HM) | (clear tg2 HM; intro w' g2 HM) | (clear tg3 HM; intro w' g3 HM) | (clear tg4 HM; intro w' g4 HM) | (clear HM; intro w' g' HM))) | ((with_reducible apply own_cell HM); exact rfl; exact rfl; (first | (with_reducible exact one8) | (with_reducible exact oneInt)); exact sS; exact dS; exact rfl) | ((with_reducible apply own_load HM); exact rfl; exact rfl; (first | (with_reducible exact agg11) | (with_reducible exact agg8)); exact sS; exact dS; exact tS; exact rfl) | ((with_reducible apply own_store HM); exact rfl; exact rfl; (conv => lhs; whnf); exact rfl; exact sS; exact vS; exact sS; (first | (with_reducible exact (agg11).size) | (with_reducible exact (agg8).size) | (with_reducible exact (one8).size) | (with_reducible exact (oneInt).size)); exact rfl; exact rfl; exact rfl; exact rfl; clear HM; intro w' HM) | (go_at_call 46; (with_reducible refine (row_n a n cap xs t q D HD _ (HV.out.under (Own.fin HM))).mono ?_); rintro e w' ⟨rfl, hb⟩; replace HM := Lib.hid (HM.out.call hb); clear hb))
    refine bodyPost_ret (v := .agg #[.int .u8 (D 0 : Int), .int .u8 (D 1 : Int), .int .u8 (D 2 : Int), .int .u8 (D 3 : Int), .int .u8 (D 4 : Int), .int .u8 (D 5 : Int), .int .u8 (D 6 : Int), .int .u8 (D 7 : Int)]) (own_results HM Try.results36 _ rfl (by first | exact .z | exact .s .z | exact .s (.s .z)) agg8) rfl ⟨rfl, Own.fin HM⟩
  · have HS : Hid (1 + r1 % 2 = 1) := Lib.hid (by rw [k1])
    rw [k6] at e4 hm6
    rw [k2] at e2 d2
    rw [k1] at d2 k8
    simp only [k2, k1, if_true, Nat.add_zero, Nat.div_one] at hDn
    have hq2 : IntKind.i64.wrap (d : Int) = (d : Int) := by rw [IntKind.wrap_i64]; omega
    have hq3 : IntKind.i64.wrap ((d : Int).tdiv 1) = (d : Int) := by rw [Int.tdiv_one]; exact hq2
    have q1 : d < 8 := by omega
    have q2 : (d : Int) < 16 := by omega
    obtain rfl : t = m6 := by omega
    obtain ⟨m7, hm7⟩ : ∃ m : Nat, t / 2 * 2 = m := ⟨_, rfl⟩
    rw [hm7] at ev hDn
    have m7l : (m7 : Int) < 512 := by omega
    rw [if_neg (by omega)] at hDn
    have Q1 : (d : Int) / 8 = 0 := by omega
    have Q2 : (d : Int).tmod 8 = (d : Int) := by rw [Int.tmod_eq_emod_of_nonneg (by omega)]; omega
    have Q3 : (d : Int) % 8 = (d : Int) := by omega
    have HD : Hid (tAt n xs m7 d = D) := Lib.hid (funext hDn)
    clear hDn k6 k2 k1 d2 hm6 m6l t8 k8 hm7 q1
    go_enter Try.func36, Try.ntmps36
    go_upto_region 7 with (first | ((with_reducible apply own_box HM); exact rfl; (conv => lhs; whnf); exact rfl; exact rfl; (first | (clear tg1 HM; intro w' g1 HM) | (clear tg2 HM; intro w' g2 HM) | (clear tg3 HM; intro w' g3 HM) | (clear tg4 HM; intro w' g4 HM) | (clear HM; intro w' g' HM))) | ((with_reducible apply own_alloc HM); exact rfl; (first | (with_reducible exact zero8)); exact rfl; (first | (clear tg1 HM; intro w' g1 HM) | (clear tg2 HM; intro w' g2 HM) | (clear tg3 HM; intro w' g3 HM) | (clear tg4 HM; intro w' g4 HM) | (clear HM; intro w' g' HM))) | ((with_reducible apply own_cell HM); exact rfl; exact rfl; (first | (with_reducible exact one8) | (with_reducible exact oneInt)); exact sS; exact dS; exact rfl) | ((with_reducible apply own_load HM); exact rfl; exact rfl; (first | (with_reducible exact agg11) | (with_reducible exact agg8)); exact sS; exact dS; exact tS; exact rfl) | ((with_reducible apply own_store HM); exact rfl; exact rfl; (conv => lhs; whnf); exact rfl; exact sS; exact vS; exact sS; (first | (with_reducible exact (agg11).size) | (with_reducible exact (agg8).size) | (with_reducible exact (one8).size) | (with_reducible exact (oneInt).size)); exact rfl; exact rfl; exact rfl; exact rfl; clear HM; intro w' HM) | (go_at_call 47; (with_reducible refine (table_at r0 r1 r2 r3 r4 r5 r6 r7 r8 r9 r10 H5.out b hb _).mono ?_); rintro e w' ⟨rfl, hb⟩; replace HM := Lib.hid (HM.out.call hb); clear hb) | (go_at_call 49; (with_reducible refine (at_at a n cap xs _ (b + 129 + 2 * i) t hm2 hv2 _ (HV.out.under (Own.fin HM))).mono ?_); rintro e w' ⟨rfl, rfl⟩))
    (refine own_region HM (by kernel_rfl) (by kernel_rfl) ?_; (try simp only [Act.put, List.setIfInBounds_toArray, List.set_cons_zero, List.set_cons_succ]); repeat ((fail_if_success (with_reducible refine wpQuiet_nil ?_)); first | go_big_quiet_skip | (go_big_quiet_want; first | ((with_reducible apply quiet_load); exact rfl; (first | (with_reducible exact agg11)); exact sS; exact dS; exact tS; go_big_quiet_op; go_big_quiet_on) | ((with_reducible apply quiet_call); exact fun w => rfl; (focus (go_simp; all_goals with_reducible rfl)); (intro wq HQ; first | (with_reducible exact (at_at a n cap xs _ (b + i) y hm1 hv1 _ (HV.out.under (Own.fin HQ))).mono fun _ _ ⟨he, hw⟩ => ⟨he, hw ▸ Below.refl _ _⟩) | (with_reducible exact (first_at y Y8.out T hTp _).mono fun _ _ ⟨he, hw⟩ => ⟨he, hw ▸ Below.refl _ _⟩) | (with_reducible exact scale_at r0 r1 r2 r3 r4 r5 r6 r7 r8 r9 r10 H1.out 1 HS _)); go_big_quiet_op; go_big_quiet_on) | (go_big_quiet_op; go_big_quiet_on) | (go_big_quiet_op; refine ⟨_, fun _ _ => rfl, ?_⟩; go_big_quiet_on))))
    refine wpQuiet_nil ?_
    intro w' HM'
    clear HM; have HM := HM'; clear HM'
    go_wp2_with (first | ((with_reducible apply own_box HM); exact rfl; (conv => lhs; whnf); exact rfl; exact rfl; (first | (clear tg1 HM; intro w' g1 HM) | (clear tg2 HM; intro w' g2 HM) | (clear tg3 HM; intro w' g3 HM) | (clear tg4 HM; intro w' g4 HM) | (clear HM; intro w' g' HM))) | ((with_reducible apply own_alloc HM); exact rfl; (first | (with_reducible exact zero8)); exact rfl; (first | (clear tg1 HM; intro w' g1 HM) | (clear tg2 HM; intro w' g2 HM) | (clear tg3 HM; intro w' g3 HM) | (clear tg4 HM; intro w' g4 HM) | (clear HM; intro w' g' HM))) | ((with_reducible apply own_cell HM); exact rfl; exact rfl; (first | (with_reducible exact one8) | (with_reducible exact oneInt)); exact sS; exact dS; exact rfl) | ((with_reducible apply own_load HM); exact rfl; exact rfl; (first | (with_reducible exact agg11) | (with_reducible exact agg8)); exact sS; exact dS; exact tS; exact rfl) | ((with_reducible apply own_store HM); exact rfl; exact rfl; (conv => lhs; whnf); exact rfl; exact sS; exact vS; exact sS; (first | (with_reducible exact (agg11).size) | (with_reducible exact (agg8).size) | (with_reducible exact (one8).size) | (with_reducible exact (oneInt).size)); exact rfl; exact rfl; exact rfl; exact rfl; clear HM; intro w' HM) | (go_at_call 46; (with_reducible refine (row_n a n cap xs m7 d D HD _ (HV.out.under (Own.fin HM))).mono ?_); rintro e w' ⟨rfl, hb⟩; replace HM := Lib.hid (HM.out.call hb); clear hb))
    refine bodyPost_ret (v := .agg #[.int .u8 (D 0 : Int), .int .u8 (D 1 : Int), .int .u8 (D 2 : Int), .int .u8 (D 3 : Int), .int .u8 (D 4 : Int), .int .u8 (D 5 : Int), .int .u8 (D 6 : Int), .int .u8 (D 7 : Int)]) (own_results HM Try.results36 _ rfl (by first | exact .z | exact .s .z | exact .s (.s .z)) agg8) rfl ⟨rfl, Own.fin HM⟩
  · have HS : Hid (1 + r1 % 2 = 2) := Lib.hid (by rw [k1])
    rw [k6] at e4 hm6
    rw [k2] at e2 d2
    rw [k1] at d2 k8
    simp only [k2, k1, if_true, Nat.reduceAdd] at hDn
    obtain ⟨q, hq⟩ : ∃ q : Nat, d / 2 = q := ⟨_, rfl⟩
    rw [hq] at hDn
    have hq2 : IntKind.i64.wrap ((d : Int).tdiv 2) = (q : Int) := by rw [Int.tdiv_eq_ediv_of_nonneg (by omega), IntKind.wrap_i64]; omega
    have hq4 : (d : Int) / 2 = (q : Int) := by omega
    have q1 : q < 8 := by omega
    have q2 : (q : Int) < 16 := by omega
    obtain rfl : t = m6 := by omega
    obtain ⟨m7, hm7⟩ : ∃ m : Nat, t / 2 * 2 = m := ⟨_, rfl⟩
    rw [hm7] at ev hDn
    have m7l : (m7 : Int) < 512 := by omega
    rw [if_neg (by omega)] at hDn
    have Q1 : (q : Int) / 8 = 0 := by omega
    have Q2 : (q : Int).tmod 8 = (q : Int) := by rw [Int.tmod_eq_emod_of_nonneg (by omega)]; omega
    have Q3 : (q : Int) % 8 = (q : Int) := by omega
    have HD : Hid (tAt n xs m7 q = D) := Lib.hid (funext hDn)
    clear hDn k6 k2 k1 d2 hm6 m6l t8 k8 hm7 hq q1
    go_enter Try.func36, Try.ntmps36
    go_upto_region 7 with (first | ((with_reducible apply own_box HM); exact rfl; (conv => lhs; whnf); exact rfl; exact rfl; (first | (clear tg1 HM; intro w' g1 HM) | (clear tg2 HM; intro w' g2 HM) | (clear tg3 HM; intro w' g3 HM) | (clear tg4 HM; intro w' g4 HM) | (clear HM; intro w' g' HM))) | ((with_reducible apply own_alloc HM); exact rfl; (first | (with_reducible exact zero8)); exact rfl; (first | (clear tg1 HM; intro w' g1 HM) | (clear tg2 HM; intro w' g2 HM) | (clear tg3 HM; intro w' g3 HM) | (clear tg4 HM; intro w' g4 HM) | (clear HM; intro w' g' HM))) | ((with_reducible apply own_cell HM); exact rfl; exact rfl; (first | (with_reducible exact one8) | (with_reducible exact oneInt)); exact sS; exact dS; exact rfl) | ((with_reducible apply own_load HM); exact rfl; exact rfl; (first | (with_reducible exact agg11) | (with_reducible exact agg8)); exact sS; exact dS; exact tS; exact rfl) | ((with_reducible apply own_store HM); exact rfl; exact rfl; (conv => lhs; whnf); exact rfl; exact sS; exact vS; exact sS; (first | (with_reducible exact (agg11).size) | (with_reducible exact (agg8).size) | (with_reducible exact (one8).size) | (with_reducible exact (oneInt).size)); exact rfl; exact rfl; exact rfl; exact rfl; clear HM; intro w' HM) | (go_at_call 47; (with_reducible refine (table_at r0 r1 r2 r3 r4 r5 r6 r7 r8 r9 r10 H5.out b hb _).mono ?_); rintro e w' ⟨rfl, hb⟩; replace HM := Lib.hid (HM.out.call hb); clear hb) | (go_at_call 49; (with_reducible refine (at_at a n cap xs _ (b + 129 + 2 * i) t hm2 hv2 _ (HV.out.under (Own.fin HM))).mono ?_); rintro e w' ⟨rfl, rfl⟩))
    (refine own_region HM (by kernel_rfl) (by kernel_rfl) ?_; (try simp only [Act.put, List.setIfInBounds_toArray, List.set_cons_zero, List.set_cons_succ]); repeat ((fail_if_success (with_reducible refine wpQuiet_nil ?_)); first | go_big_quiet_skip | (go_big_quiet_want; first | ((with_reducible apply quiet_load); exact rfl; (first | (with_reducible exact agg11)); exact sS; exact dS; exact tS; go_big_quiet_op; go_big_quiet_on) | ((with_reducible apply quiet_call); exact fun w => rfl; (focus (go_simp; all_goals with_reducible rfl)); (intro wq HQ; first | (with_reducible exact (at_at a n cap xs _ (b + i) y hm1 hv1 _ (HV.out.under (Own.fin HQ))).mono fun _ _ ⟨he, hw⟩ => ⟨he, hw ▸ Below.refl _ _⟩) | (with_reducible exact (first_at y Y8.out T hTp _).mono fun _ _ ⟨he, hw⟩ => ⟨he, hw ▸ Below.refl _ _⟩) | (with_reducible exact scale_at r0 r1 r2 r3 r4 r5 r6 r7 r8 r9 r10 H1.out 2 HS _)); go_big_quiet_op; go_big_quiet_on) | (go_big_quiet_op; go_big_quiet_on) | (go_big_quiet_op; refine ⟨_, fun _ _ => rfl, ?_⟩; go_big_quiet_on))))
    refine wpQuiet_nil ?_
    intro w' HM'
    clear HM; have HM := HM'; clear HM'
    go_wp2_with (first | ((with_reducible apply own_box HM); exact rfl; (conv => lhs; whnf); exact rfl; exact rfl; (first | (clear tg1 HM; intro w' g1 HM) | (clear tg2 HM; intro w' g2 HM) | (clear tg3 HM; intro w' g3 HM) | (clear tg4 HM; intro w' g4 HM) | (clear HM; intro w' g' HM))) | ((with_reducible apply own_alloc HM); exact rfl; (first | (with_reducible exact zero8)); exact rfl; (first | (clear tg1 HM; intro w' g1 HM) | (clear tg2 HM; intro w' g2 HM) | (clear tg3 HM; intro w' g3 HM) | (clear tg4 HM; intro w' g4 HM) | (clear HM; intro w' g' HM))) | ((with_reducible apply own_cell HM); exact rfl; exact rfl; (first | (with_reducible exact one8) | (with_reducible exact oneInt)); exact sS; exact dS; exact rfl) | ((with_reducible apply own_load HM); exact rfl; exact rfl; (first | (with_reducible exact agg11) | (with_reducible exact agg8)); exact sS; exact dS; exact tS; exact rfl) | ((with_reducible apply own_store HM); exact rfl; exact rfl; (conv => lhs; whnf); exact rfl; exact sS; exact vS; exact sS; (first | (with_reducible exact (agg11).size) | (with_reducible exact (agg8).size) | (with_reducible exact (one8).size) | (with_reducible exact (oneInt).size)); exact rfl; exact rfl; exact rfl; exact rfl; clear HM; intro w' HM) | (go_at_call 46; (with_reducible refine (row_n a n cap xs m7 q D HD _ (HV.out.under (Own.fin HM))).mono ?_); rintro e w' ⟨rfl, hb⟩; replace HM := Lib.hid (HM.out.call hb); clear hb))
    refine bodyPost_ret (v := .agg #[.int .u8 (D 0 : Int), .int .u8 (D 1 : Int), .int .u8 (D 2 : Int), .int .u8 (D 3 : Int), .int .u8 (D 4 : Int), .int .u8 (D 5 : Int), .int .u8 (D 6 : Int), .int .u8 (D 7 : Int)]) (own_results HM Try.results36 _ rfl (by first | exact .z | exact .s .z | exact .s (.s .z)) agg8) rfl ⟨rfl, Own.fin HM⟩
  · have HS : Hid (1 + r1 % 2 = 1) := Lib.hid (by rw [k1])
    rw [k6] at e4 hm6
    rw [k2] at e2 d2
    rw [k1] at d2 k8
    simp only [k2, k1, if_true, Nat.add_zero, Nat.div_one] at hDn
    have hq2 : IntKind.i64.wrap (d : Int) = (d : Int) := by rw [IntKind.wrap_i64]; omega
    have hq3 : IntKind.i64.wrap ((d : Int).tdiv 1) = (d : Int) := by rw [Int.tdiv_one]; exact hq2
    have q1 : d < 16 := by omega
    have q2 : (d : Int) < 16 := by omega
    obtain rfl : t = m6 := by omega
    obtain ⟨m7, hm7⟩ : ∃ m : Nat, t / 2 * 2 = m := ⟨_, rfl⟩
    rw [hm7] at ev hDn
    have m7l : (m7 : Int) < 512 := by omega
    rw [if_pos (by omega)] at hDn
    obtain ⟨e8, he8⟩ : ∃ e : Nat, m7 + 1 = e := ⟨_, rfl⟩
    obtain ⟨rz, hrz⟩ : ∃ r : Nat, d - 8 = r := ⟨_, rfl⟩
    rw [he8, hrz] at hDn
    have E8 : (m7 : Int) + 1 = (e8 : Int) := by omega
    have Q1 : (d : Int) / 8 = 1 := by omega
    have Q2 : (d : Int).tmod 8 = (rz : Int) := by rw [Int.tmod_eq_emod_of_nonneg (by omega)]; omega
    have Q3 : (d : Int) % 8 = (rz : Int) := by omega
    have HD : Hid (tAt n xs e8 rz = D) := Lib.hid (funext hDn)
    clear hDn k6 k2 k1 d2 hm6 m6l t8 k8 hm7 he8 hrz q1
    go_enter Try.func36, Try.ntmps36
    go_upto_region 7 with (first | ((with_reducible apply own_box HM); exact rfl; (conv => lhs; whnf); exact rfl; exact rfl; (first | (clear tg1 HM; intro w' g1 HM) | (clear tg2 HM; intro w' g2 HM) | (clear tg3 HM; intro w' g3 HM) | (clear tg4 HM; intro w' g4 HM) | (clear HM; intro w' g' HM))) | ((with_reducible apply own_alloc HM); exact rfl; (first | (with_reducible exact zero8)); exact rfl; (first | (clear tg1 HM; intro w' g1 HM) | (clear tg2 HM; intro w' g2 HM) | (clear tg3 HM; intro w' g3 HM) | (clear tg4 HM; intro w' g4 HM) | (clear HM; intro w' g' HM))) | ((with_reducible apply own_cell HM); exact rfl; exact rfl; (first | (with_reducible exact one8) | (with_reducible exact oneInt)); exact sS; exact dS; exact rfl) | ((with_reducible apply own_load HM); exact rfl; exact rfl; (first | (with_reducible exact agg11) | (with_reducible exact agg8)); exact sS; exact dS; exact tS; exact rfl) | ((with_reducible apply own_store HM); exact rfl; exact rfl; (conv => lhs; whnf); exact rfl; exact sS; exact vS; exact sS; (first | (with_reducible exact (agg11).size) | (with_reducible exact (agg8).size) | (with_reducible exact (one8).size) | (with_reducible exact (oneInt).size)); exact rfl; exact rfl; exact rfl; exact rfl; clear HM; intro w' HM) | (go_at_call 47; (with_reducible refine (table_at r0 r1 r2 r3 r4 r5 r6 r7 r8 r9 r10 H5.out b hb _).mono ?_); rintro e w' ⟨rfl, hb⟩; replace HM := Lib.hid (HM.out.call hb); clear hb) | (go_at_call 49; (with_reducible refine (at_at a n cap xs _ (b + 129 + 2 * i) t hm2 hv2 _ (HV.out.under (Own.fin HM))).mono ?_); rintro e w' ⟨rfl, rfl⟩))
    (refine own_region HM (by kernel_rfl) (by kernel_rfl) ?_; (try simp only [Act.put, List.setIfInBounds_toArray, List.set_cons_zero, List.set_cons_succ]); repeat ((fail_if_success (with_reducible refine wpQuiet_nil ?_)); first | go_big_quiet_skip | (go_big_quiet_want; first | ((with_reducible apply quiet_load); exact rfl; (first | (with_reducible exact agg11)); exact sS; exact dS; exact tS; go_big_quiet_op; go_big_quiet_on) | ((with_reducible apply quiet_call); exact fun w => rfl; (focus (go_simp; all_goals with_reducible rfl)); (intro wq HQ; first | (with_reducible exact (at_at a n cap xs _ (b + i) y hm1 hv1 _ (HV.out.under (Own.fin HQ))).mono fun _ _ ⟨he, hw⟩ => ⟨he, hw ▸ Below.refl _ _⟩) | (with_reducible exact (first_at y Y8.out T hTp _).mono fun _ _ ⟨he, hw⟩ => ⟨he, hw ▸ Below.refl _ _⟩) | (with_reducible exact scale_at r0 r1 r2 r3 r4 r5 r6 r7 r8 r9 r10 H1.out 1 HS _)); go_big_quiet_op; go_big_quiet_on) | (go_big_quiet_op; go_big_quiet_on) | (go_big_quiet_op; refine ⟨_, fun _ _ => rfl, ?_⟩; go_big_quiet_on))))
    refine wpQuiet_nil ?_
    intro w' HM'
    clear HM; have HM := HM'; clear HM'
    go_wp2_with (first | ((with_reducible apply own_box HM); exact rfl; (conv => lhs; whnf); exact rfl; exact rfl; (first | (clear tg1 HM; intro w' g1 HM) | (clear tg2 HM; intro w' g2 HM) | (clear tg3 HM; intro w' g3 HM) | (clear tg4 HM; intro w' g4 HM) | (clear HM; intro w' g' HM))) | ((with_reducible apply own_alloc HM); exact rfl; (first | (with_reducible exact zero8)); exact rfl; (first | (clear tg1 HM; intro w' g1 HM) | (clear tg2 HM; intro w' g2 HM) | (clear tg3 HM; intro w' g3 HM) | (clear tg4 HM; intro w' g4 HM) | (clear HM; intro w' g' HM))) | ((with_reducible apply own_cell HM); exact rfl; exact rfl; (first | (with_reducible exact one8) | (with_reducible exact oneInt)); exact sS; exact dS; exact rfl) | ((with_reducible apply own_load HM); exact rfl; exact rfl; (first | (with_reducible exact agg11) | (with_reducible exact agg8)); exact sS; exact dS; exact tS; exact rfl) | ((with_reducible apply own_store HM); exact rfl; exact rfl; (conv => lhs; whnf); exact rfl; exact sS; exact vS; exact sS; (first | (with_reducible exact (agg11).size) | (with_reducible exact (agg8).size) | (with_reducible exact (one8).size) | (with_reducible exact (oneInt).size)); exact rfl; exact rfl; exact rfl; exact rfl; clear HM; intro w' HM) | (go_at_call 46; (with_reducible refine (row_n a n cap xs e8 rz D HD _ (HV.out.under (Own.fin HM))).mono ?_); rintro e w' ⟨rfl, hb⟩; replace HM := Lib.hid (HM.out.call hb); clear hb))
    refine bodyPost_ret (v := .agg #[.int .u8 (D 0 : Int), .int .u8 (D 1 : Int), .int .u8 (D 2 : Int), .int .u8 (D 3 : Int), .int .u8 (D 4 : Int), .int .u8 (D 5 : Int), .int .u8 (D 6 : Int), .int .u8 (D 7 : Int)]) (own_results HM Try.results36 _ rfl (by first | exact .z | exact .s .z | exact .s (.s .z)) agg8) rfl ⟨rfl, Own.fin HM⟩
  · have HS : Hid (1 + r1 % 2 = 2) := Lib.hid (by rw [k1])
    rw [k6] at e4 hm6
    rw [k2] at e2 d2
    rw [k1] at d2 k8
    simp only [k2, k1, if_true, Nat.reduceAdd] at hDn
    obtain ⟨q, hq⟩ : ∃ q : Nat, d / 2 = q := ⟨_, rfl⟩
    rw [hq] at hDn
    have hq2 : IntKind.i64.wrap ((d : Int).tdiv 2) = (q : Int) := by rw [Int.tdiv_eq_ediv_of_nonneg (by omega), IntKind.wrap_i64]; omega
    have hq4 : (d : Int) / 2 = (q : Int) := by omega
    have q1 : q < 16 := by omega
    have q2 : (q : Int) < 16 := by omega
    obtain rfl : t = m6 := by omega
    obtain ⟨m7, hm7⟩ : ∃ m : Nat, t / 2 * 2 = m := ⟨_, rfl⟩
    rw [hm7] at ev hDn
    have m7l : (m7 : Int) < 512 := by omega
    rw [if_pos (by omega)] at hDn
    obtain ⟨e8, he8⟩ : ∃ e : Nat, m7 + 1 = e := ⟨_, rfl⟩
    obtain ⟨rz, hrz⟩ : ∃ r : Nat, q - 8 = r := ⟨_, rfl⟩
    rw [he8, hrz] at hDn
    have E8 : (m7 : Int) + 1 = (e8 : Int) := by omega
    have Q1 : (q : Int) / 8 = 1 := by omega
    have Q2 : (q : Int).tmod 8 = (rz : Int) := by rw [Int.tmod_eq_emod_of_nonneg (by omega)]; omega
    have Q3 : (q : Int) % 8 = (rz : Int) := by omega
    have HD : Hid (tAt n xs e8 rz = D) := Lib.hid (funext hDn)
    clear hDn k6 k2 k1 d2 hm6 m6l t8 k8 hm7 hq he8 hrz q1
    go_enter Try.func36, Try.ntmps36
    go_upto_region 7 with (first | ((with_reducible apply own_box HM); exact rfl; (conv => lhs; whnf); exact rfl; exact rfl; (first | (clear tg1 HM; intro w' g1 HM) | (clear tg2 HM; intro w' g2 HM) | (clear tg3 HM; intro w' g3 HM) | (clear tg4 HM; intro w' g4 HM) | (clear HM; intro w' g' HM))) | ((with_reducible apply own_alloc HM); exact rfl; (first | (with_reducible exact zero8)); exact rfl; (first | (clear tg1 HM; intro w' g1 HM) | (clear tg2 HM; intro w' g2 HM) | (clear tg3 HM; intro w' g3 HM) | (clear tg4 HM; intro w' g4 HM) | (clear HM; intro w' g' HM))) | ((with_reducible apply own_cell HM); exact rfl; exact rfl; (first | (with_reducible exact one8) | (with_reducible exact oneInt)); exact sS; exact dS; exact rfl) | ((with_reducible apply own_load HM); exact rfl; exact rfl; (first | (with_reducible exact agg11) | (with_reducible exact agg8)); exact sS; exact dS; exact tS; exact rfl) | ((with_reducible apply own_store HM); exact rfl; exact rfl; (conv => lhs; whnf); exact rfl; exact sS; exact vS; exact sS; (first | (with_reducible exact (agg11).size) | (with_reducible exact (agg8).size) | (with_reducible exact (one8).size) | (with_reducible exact (oneInt).size)); exact rfl; exact rfl; exact rfl; exact rfl; clear HM; intro w' HM) | (go_at_call 47; (with_reducible refine (table_at r0 r1 r2 r3 r4 r5 r6 r7 r8 r9 r10 H5.out b hb _).mono ?_); rintro e w' ⟨rfl, hb⟩; replace HM := Lib.hid (HM.out.call hb); clear hb) | (go_at_call 49; (with_reducible refine (at_at a n cap xs _ (b + 129 + 2 * i) t hm2 hv2 _ (HV.out.under (Own.fin HM))).mono ?_); rintro e w' ⟨rfl, rfl⟩))
    (refine own_region HM (by kernel_rfl) (by kernel_rfl) ?_; (try simp only [Act.put, List.setIfInBounds_toArray, List.set_cons_zero, List.set_cons_succ]); repeat ((fail_if_success (with_reducible refine wpQuiet_nil ?_)); first | go_big_quiet_skip | (go_big_quiet_want; first | ((with_reducible apply quiet_load); exact rfl; (first | (with_reducible exact agg11)); exact sS; exact dS; exact tS; go_big_quiet_op; go_big_quiet_on) | ((with_reducible apply quiet_call); exact fun w => rfl; (focus (go_simp; all_goals with_reducible rfl)); (intro wq HQ; first | (with_reducible exact (at_at a n cap xs _ (b + i) y hm1 hv1 _ (HV.out.under (Own.fin HQ))).mono fun _ _ ⟨he, hw⟩ => ⟨he, hw ▸ Below.refl _ _⟩) | (with_reducible exact (first_at y Y8.out T hTp _).mono fun _ _ ⟨he, hw⟩ => ⟨he, hw ▸ Below.refl _ _⟩) | (with_reducible exact scale_at r0 r1 r2 r3 r4 r5 r6 r7 r8 r9 r10 H1.out 2 HS _)); go_big_quiet_op; go_big_quiet_on) | (go_big_quiet_op; go_big_quiet_on) | (go_big_quiet_op; refine ⟨_, fun _ _ => rfl, ?_⟩; go_big_quiet_on))))
    refine wpQuiet_nil ?_
    intro w' HM'
    clear HM; have HM := HM'; clear HM'
    go_wp2_with (first | ((with_reducible apply own_box HM); exact rfl; (conv => lhs; whnf); exact rfl; exact rfl; (first | (clear tg1 HM; intro w' g1 HM) | (clear tg2 HM; intro w' g2 HM) | (clear tg3 HM; intro w' g3 HM) | (clear tg4 HM; intro w' g4 HM) | (clear HM; intro w' g' HM))) | ((with_reducible apply own_alloc HM); exact rfl; (first | (with_reducible exact zero8)); exact rfl; (first | (clear tg1 HM; intro w' g1 HM) | (clear tg2 HM; intro w' g2 HM) | (clear tg3 HM; intro w' g3 HM) | (clear tg4 HM; intro w' g4 HM) | (clear HM; intro w' g' HM))) | ((with_reducible apply own_cell HM); exact rfl; exact rfl; (first | (with_reducible exact one8) | (with_reducible exact oneInt)); exact sS; exact dS; exact rfl) | ((with_reducible apply own_load HM); exact rfl; exact rfl; (first | (with_reducible exact agg11) | (with_reducible exact agg8)); exact sS; exact dS; exact tS; exact rfl) | ((with_reducible apply own_store HM); exact rfl; exact rfl; (conv => lhs; whnf); exact rfl; exact sS; exact vS; exact sS; (first | (with_reducible exact (agg11).size) | (with_reducible exact (agg8).size) | (with_reducible exact (one8).size) | (with_reducible exact (oneInt).size)); exact rfl; exact rfl; exact rfl; exact rfl; clear HM; intro w' HM) | (go_at_call 46; (with_reducible refine (row_n a n cap xs e8 rz D HD _ (HV.out.under (Own.fin HM))).mono ?_); rintro e w' ⟨rfl, hb⟩; replace HM := Lib.hid (HM.out.call hb); clear hb))
    refine bodyPost_ret (v := .agg #[.int .u8 (D 0 : Int), .int .u8 (D 1 : Int), .int .u8 (D 2 : Int), .int .u8 (D 3 : Int), .int .u8 (D 4 : Int), .int .u8 (D 5 : Int), .int .u8 (D 6 : Int), .int .u8 (D 7 : Int)]) (own_results HM Try.results36 _ rfl (by first | exact .z | exact .s .z | exact .s (.s .z)) agg8) rfl ⟨rfl, Own.fin HM⟩
  · have HS : Hid (1 + r1 % 2 = 1) := Lib.hid (by rw [k1])
    rw [k6] at e4 hm6
    rw [k2] at e2 d2
    rw [k1] at d2
    simp only [k2, k1, Nat.zero_ne_one, if_false, Nat.add_zero, Nat.div_one] at hDn
    have hq2 : IntKind.i64.wrap (d : Int) = (d : Int) := by rw [IntKind.wrap_i64]; omega
    have hq3 : IntKind.i64.wrap ((d : Int).tdiv 1) = (d : Int) := by rw [Int.tdiv_one]; exact hq2
    have q1 : d < 8 := by omega
    have q2 : (d : Int) < 16 := by omega
    have E6 : (t : Int) + 256 = (m6 : Int) := by omega
    clear ev
    have m7l : (m6 : Int) < 512 := by omega
    rw [if_neg (by omega)] at hDn
    have Q1 : (d : Int) / 8 = 0 := by omega
    have Q2 : (d : Int).tmod 8 = (d : Int) := by rw [Int.tmod_eq_emod_of_nonneg (by omega)]; omega
    have Q3 : (d : Int) % 8 = (d : Int) := by omega
    have HD : Hid (tAt n xs m6 d = D) := Lib.hid (funext hDn)
    clear hDn k6 k2 k1 d2 hm6 m6l t8 q1
    go_enter Try.func36, Try.ntmps36
    go_upto_region 7 with (first | ((with_reducible apply own_box HM); exact rfl; (conv => lhs; whnf); exact rfl; exact rfl; (first | (clear tg1 HM; intro w' g1 HM) | (clear tg2 HM; intro w' g2 HM) | (clear tg3 HM; intro w' g3 HM) | (clear tg4 HM; intro w' g4 HM) | (clear HM; intro w' g' HM))) | ((with_reducible apply own_alloc HM); exact rfl; (first | (with_reducible exact zero8)); exact rfl; (first | (clear tg1 HM; intro w' g1 HM) | (clear tg2 HM; intro w' g2 HM) | (clear tg3 HM; intro w' g3 HM) | (clear tg4 HM; intro w' g4 HM) | (clear HM; intro w' g' HM))) | ((with_reducible apply own_cell HM); exact rfl; exact rfl; (first | (with_reducible exact one8) | (with_reducible exact oneInt)); exact sS; exact dS; exact rfl) | ((with_reducible apply own_load HM); exact rfl; exact rfl; (first | (with_reducible exact agg11) | (with_reducible exact agg8)); exact sS; exact dS; exact tS; exact rfl) | ((with_reducible apply own_store HM); exact rfl; exact rfl; (conv => lhs; whnf); exact rfl; exact sS; exact vS; exact sS; (first | (with_reducible exact (agg11).size) | (with_reducible exact (agg8).size) | (with_reducible exact (one8).size) | (with_reducible exact (oneInt).size)); exact rfl; exact rfl; exact rfl; exact rfl; clear HM; intro w' HM) | (go_at_call 47; (with_reducible refine (table_at r0 r1 r2 r3 r4 r5 r6 r7 r8 r9 r10 H5.out b hb _).mono ?_); rintro e w' ⟨rfl, hb⟩; replace HM := Lib.hid (HM.out.call hb); clear hb) | (go_at_call 49; (with_reducible refine (at_at a n cap xs _ (b + 129 + 2 * i) t hm2 hv2 _ (HV.out.under (Own.fin HM))).mono ?_); rintro e w' ⟨rfl, rfl⟩))
    (refine own_region HM (by kernel_rfl) (by kernel_rfl) ?_; (try simp only [Act.put, List.setIfInBounds_toArray, List.set_cons_zero, List.set_cons_succ]); repeat ((fail_if_success (with_reducible refine wpQuiet_nil ?_)); first | go_big_quiet_skip | (go_big_quiet_want; first | ((with_reducible apply quiet_load); exact rfl; (first | (with_reducible exact agg11)); exact sS; exact dS; exact tS; go_big_quiet_op; go_big_quiet_on) | ((with_reducible apply quiet_call); exact fun w => rfl; (focus (go_simp; all_goals with_reducible rfl)); (intro wq HQ; first | (with_reducible exact (at_at a n cap xs _ (b + i) y hm1 hv1 _ (HV.out.under (Own.fin HQ))).mono fun _ _ ⟨he, hw⟩ => ⟨he, hw ▸ Below.refl _ _⟩) | (with_reducible exact (first_at y Y8.out T hTp _).mono fun _ _ ⟨he, hw⟩ => ⟨he, hw ▸ Below.refl _ _⟩) | (with_reducible exact scale_at r0 r1 r2 r3 r4 r5 r6 r7 r8 r9 r10 H1.out 1 HS _)); go_big_quiet_op; go_big_quiet_on) | (go_big_quiet_op; go_big_quiet_on) | (go_big_quiet_op; refine ⟨_, fun _ _ => rfl, ?_⟩; go_big_quiet_on))))
    refine wpQuiet_nil ?_
    intro w' HM'
    clear HM; have HM := HM'; clear HM'
    go_wp2_with (first | ((with_reducible apply own_box HM); exact rfl; (conv => lhs; whnf); exact rfl; exact rfl; (first | (clear tg1 HM; intro w' g1 HM) | (clear tg2 HM; intro w' g2 HM) | (clear tg3 HM; intro w' g3 HM) | (clear tg4 HM; intro w' g4 HM) | (clear HM; intro w' g' HM))) | ((with_reducible apply own_alloc HM); exact rfl; (first | (with_reducible exact zero8)); exact rfl; (first | (clear tg1 HM; intro w' g1 HM) | (clear tg2 HM; intro w' g2 HM) | (clear tg3 HM; intro w' g3 HM) | (clear tg4 HM; intro w' g4 HM) | (clear HM; intro w' g' HM))) | ((with_reducible apply own_cell HM); exact rfl; exact rfl; (first | (with_reducible exact one8) | (with_reducible exact oneInt)); exact sS; exact dS; exact rfl) | ((with_reducible apply own_load HM); exact rfl; exact rfl; (first | (with_reducible exact agg11) | (with_reducible exact agg8)); exact sS; exact dS; exact tS; exact rfl) | ((with_reducible apply own_store HM); exact rfl; exact rfl; (conv => lhs; whnf); exact rfl; exact sS; exact vS; exact sS; (first | (with_reducible exact (agg11).size) | (with_reducible exact (agg8).size) | (with_reducible exact (one8).size) | (with_reducible exact (oneInt).size)); exact rfl; exact rfl; exact rfl; exact rfl; clear HM; intro w' HM) | (go_at_call 46; (with_reducible refine (row_n a n cap xs m6 d D HD _ (HV.out.under (Own.fin HM))).mono ?_); rintro e w' ⟨rfl, hb⟩; replace HM := Lib.hid (HM.out.call hb); clear hb))
    refine bodyPost_ret (v := .agg #[.int .u8 (D 0 : Int), .int .u8 (D 1 : Int), .int .u8 (D 2 : Int), .int .u8 (D 3 : Int), .int .u8 (D 4 : Int), .int .u8 (D 5 : Int), .int .u8 (D 6 : Int), .int .u8 (D 7 : Int)]) (own_results HM Try.results36 _ rfl (by first | exact .z | exact .s .z | exact .s (.s .z)) agg8) rfl ⟨rfl, Own.fin HM⟩
  · have HS : Hid (1 + r1 % 2 = 2) := Lib.hid (by rw [k1])
    rw [k6] at e4 hm6
    rw [k2] at e2 d2
    rw [k1] at d2
    simp only [k2, k1, Nat.zero_ne_one, if_false, Nat.reduceAdd] at hDn
    obtain ⟨q, hq⟩ : ∃ q : Nat, d / 2 = q := ⟨_, rfl⟩
    rw [hq] at hDn
    have hq2 : IntKind.i64.wrap ((d : Int).tdiv 2) = (q : Int) := by rw [Int.tdiv_eq_ediv_of_nonneg (by omega), IntKind.wrap_i64]; omega
    have hq4 : (d : Int) / 2 = (q : Int) := by omega
    have q1 : q < 8 := by omega
    have q2 : (q : Int) < 16 := by omega
    have E6 : (t : Int) + 256 = (m6 : Int) := by omega
    clear ev
    have m7l : (m6 : Int) < 512 := by omega
    rw [if_neg (by omega)] at hDn
    have Q1 : (q : Int) / 8 = 0 := by omega
    have Q2 : (q : Int).tmod 8 = (q : Int) := by rw [Int.tmod_eq_emod_of_nonneg (by omega)]; omega
    have Q3 : (q : Int) % 8 = (q : Int) := by omega
    have HD : Hid (tAt n xs m6 q = D) := Lib.hid (funext hDn)
    clear hDn k6 k2 k1 d2 hm6 m6l t8 hq q1
    go_enter Try.func36, Try.ntmps36
    go_upto_region 7 with (first | ((with_reducible apply own_box HM); exact rfl; (conv => lhs; whnf); exact rfl; exact rfl; (first | (clear tg1 HM; intro w' g1 HM) | (clear tg2 HM; intro w' g2 HM) | (clear tg3 HM; intro w' g3 HM) | (clear tg4 HM; intro w' g4 HM) | (clear HM; intro w' g' HM))) | ((with_reducible apply own_alloc HM); exact rfl; (first | (with_reducible exact zero8)); exact rfl; (first | (clear tg1 HM; intro w' g1 HM) | (clear tg2 HM; intro w' g2 HM) | (clear tg3 HM; intro w' g3 HM) | (clear tg4 HM; intro w' g4 HM) | (clear HM; intro w' g' HM))) | ((with_reducible apply own_cell HM); exact rfl; exact rfl; (first | (with_reducible exact one8) | (with_reducible exact oneInt)); exact sS; exact dS; exact rfl) | ((with_reducible apply own_load HM); exact rfl; exact rfl; (first | (with_reducible exact agg11) | (with_reducible exact agg8)); exact sS; exact dS; exact tS; exact rfl) | ((with_reducible apply own_store HM); exact rfl; exact rfl; (conv => lhs; whnf); exact rfl; exact sS; exact vS; exact sS; (first | (with_reducible exact (agg11).size) | (with_reducible exact (agg8).size) | (with_reducible exact (one8).size) | (with_reducible exact (oneInt).size)); exact rfl; exact rfl; exact rfl; exact rfl; clear HM; intro w' HM) | (go_at_call 47; (with_reducible refine (table_at r0 r1 r2 r3 r4 r5 r6 r7 r8 r9 r10 H5.out b hb _).mono ?_); rintro e w' ⟨rfl, hb⟩; replace HM := Lib.hid (HM.out.call hb); clear hb) | (go_at_call 49; (with_reducible refine (at_at a n cap xs _ (b + 129 + 2 * i) t hm2 hv2 _ (HV.out.under (Own.fin HM))).mono ?_); rintro e w' ⟨rfl, rfl⟩))
    (refine own_region HM (by kernel_rfl) (by kernel_rfl) ?_; (try simp only [Act.put, List.setIfInBounds_toArray, List.set_cons_zero, List.set_cons_succ]); repeat ((fail_if_success (with_reducible refine wpQuiet_nil ?_)); first | go_big_quiet_skip | (go_big_quiet_want; first | ((with_reducible apply quiet_load); exact rfl; (first | (with_reducible exact agg11)); exact sS; exact dS; exact tS; go_big_quiet_op; go_big_quiet_on) | ((with_reducible apply quiet_call); exact fun w => rfl; (focus (go_simp; all_goals with_reducible rfl)); (intro wq HQ; first | (with_reducible exact (at_at a n cap xs _ (b + i) y hm1 hv1 _ (HV.out.under (Own.fin HQ))).mono fun _ _ ⟨he, hw⟩ => ⟨he, hw ▸ Below.refl _ _⟩) | (with_reducible exact (first_at y Y8.out T hTp _).mono fun _ _ ⟨he, hw⟩ => ⟨he, hw ▸ Below.refl _ _⟩) | (with_reducible exact scale_at r0 r1 r2 r3 r4 r5 r6 r7 r8 r9 r10 H1.out 2 HS _)); go_big_quiet_op; go_big_quiet_on) | (go_big_quiet_op; go_big_quiet_on) | (go_big_quiet_op; refine ⟨_, fun _ _ => rfl, ?_⟩; go_big_quiet_on))))
    refine wpQuiet_nil ?_
    intro w' HM'
    clear HM; have HM := HM'; clear HM'
    go_wp2_with (first | ((with_reducible apply own_box HM); exact rfl; (conv => lhs; whnf); exact rfl; exact rfl; (first | (clear tg1 HM; intro w' g1 HM) | (clear tg2 HM; intro w' g2 HM) | (clear tg3 HM; intro w' g3 HM) | (clear tg4 HM; intro w' g4 HM) | (clear HM; intro w' g' HM))) | ((with_reducible apply own_alloc HM); exact rfl; (first | (with_reducible exact zero8)); exact rfl; (first | (clear tg1 HM; intro w' g1 HM) | (clear tg2 HM; intro w' g2 HM) | (clear tg3 HM; intro w' g3 HM) | (clear tg4 HM; intro w' g4 HM) | (clear HM; intro w' g' HM))) | ((with_reducible apply own_cell HM); exact rfl; exact rfl; (first | (with_reducible exact one8) | (with_reducible exact oneInt)); exact sS; exact dS; exact rfl) | ((with_reducible apply own_load HM); exact rfl; exact rfl; (first | (with_reducible exact agg11) | (with_reducible exact agg8)); exact sS; exact dS; exact tS; exact rfl) | ((with_reducible apply own_store HM); exact rfl; exact rfl; (conv => lhs; whnf); exact rfl; exact sS; exact vS; exact sS; (first | (with_reducible exact (agg11).size) | (with_reducible exact (agg8).size) | (with_reducible exact (one8).size) | (with_reducible exact (oneInt).size)); exact rfl; exact rfl; exact rfl; exact rfl; clear HM; intro w' HM) | (go_at_call 46; (with_reducible refine (row_n a n cap xs m6 q D HD _ (HV.out.under (Own.fin HM))).mono ?_); rintro e w' ⟨rfl, hb⟩; replace HM := Lib.hid (HM.out.call hb); clear hb))
    refine bodyPost_ret (v := .agg #[.int .u8 (D 0 : Int), .int .u8 (D 1 : Int), .int .u8 (D 2 : Int), .int .u8 (D 3 : Int), .int .u8 (D 4 : Int), .int .u8 (D 5 : Int), .int .u8 (D 6 : Int), .int .u8 (D 7 : Int)]) (own_results HM Try.results36 _ rfl (by first | exact .z | exact .s .z | exact .s (.s .z)) agg8) rfl ⟨rfl, Own.fin HM⟩
  · have HS : Hid (1 + r1 % 2 = 1) := Lib.hid (by rw [k1])
    rw [k6] at e4 hm6
    rw [k2] at e2 d2
    rw [k1] at d2 k8
    simp only [k2, k1, if_true, Nat.add_zero, Nat.div_one] at hDn
    have hq2 : IntKind.i64.wrap (d : Int) = (d : Int) := by rw [IntKind.wrap_i64]; omega
    have hq3 : IntKind.i64.wrap ((d : Int).tdiv 1) = (d : Int) := by rw [Int.tdiv_one]; exact hq2
    have q1 : d < 8 := by omega
    have q2 : (d : Int) < 16 := by omega
    have E6 : (t : Int) + 256 = (m6 : Int) := by omega
    obtain ⟨m7, hm7⟩ : ∃ m : Nat, m6 / 2 * 2 = m := ⟨_, rfl⟩
    rw [hm7] at ev hDn
    have m7l : (m7 : Int) < 512 := by omega
    rw [if_neg (by omega)] at hDn
    have Q1 : (d : Int) / 8 = 0 := by omega
    have Q2 : (d : Int).tmod 8 = (d : Int) := by rw [Int.tmod_eq_emod_of_nonneg (by omega)]; omega
    have Q3 : (d : Int) % 8 = (d : Int) := by omega
    have HD : Hid (tAt n xs m7 d = D) := Lib.hid (funext hDn)
    clear hDn k6 k2 k1 d2 hm6 m6l t8 k8 hm7 q1
    go_enter Try.func36, Try.ntmps36
    go_upto_region 7 with (first | ((with_reducible apply own_box HM); exact rfl; (conv => lhs; whnf); exact rfl; exact rfl; (first | (clear tg1 HM; intro w' g1 HM) | (clear tg2 HM; intro w' g2 HM) | (clear tg3 HM; intro w' g3 HM) | (clear tg4 HM; intro w' g4 HM) | (clear HM; intro w' g' HM))) | ((with_reducible apply own_alloc HM); exact rfl; (first | (with_reducible exact zero8)); exact rfl; (first | (clear tg1 HM; intro w' g1 HM) | (clear tg2 HM; intro w' g2 HM) | (clear tg3 HM; intro w' g3 HM) | (clear tg4 HM; intro w' g4 HM) | (clear HM; intro w' g' HM))) | ((with_reducible apply own_cell HM); exact rfl; exact rfl; (first | (with_reducible exact one8) | (with_reducible exact oneInt)); exact sS; exact dS; exact rfl) | ((with_reducible apply own_load HM); exact rfl; exact rfl; (first | (with_reducible exact agg11) | (with_reducible exact agg8)); exact sS; exact dS; exact tS; exact rfl) | ((with_reducible apply own_store HM); exact rfl; exact rfl; (conv => lhs; whnf); exact rfl; exact sS; exact vS; exact sS; (first | (with_reducible exact (agg11).size) | (with_reducible exact (agg8).size) | (with_reducible exact (one8).size) | (with_reducible exact (oneInt).size)); exact rfl; exact rfl; exact rfl; exact rfl; clear HM; intro w' HM) | (go_at_call 47; (with_reducible refine (table_at r0 r1 r2 r3 r4 r5 r6 r7 r8 r9 r10 H5.out b hb _).mono ?_); rintro e w' ⟨rfl, hb⟩; replace HM := Lib.hid (HM.out.call hb); clear hb) | (go_at_call 49; (with_reducible refine (at_at a n cap xs _ (b + 129 + 2 * i) t hm2 hv2 _ (HV.out.under (Own.fin HM))).mono ?_); rintro e w' ⟨rfl, rfl⟩))
    (refine own_region HM (by kernel_rfl) (by kernel_rfl) ?_; (try simp only [Act.put, List.setIfInBounds_toArray, List.set_cons_zero, List.set_cons_succ]); repeat ((fail_if_success (with_reducible refine wpQuiet_nil ?_)); first | go_big_quiet_skip | (go_big_quiet_want; first | ((with_reducible apply quiet_load); exact rfl; (first | (with_reducible exact agg11)); exact sS; exact dS; exact tS; go_big_quiet_op; go_big_quiet_on) | ((with_reducible apply quiet_call); exact fun w => rfl; (focus (go_simp; all_goals with_reducible rfl)); (intro wq HQ; first | (with_reducible exact (at_at a n cap xs _ (b + i) y hm1 hv1 _ (HV.out.under (Own.fin HQ))).mono fun _ _ ⟨he, hw⟩ => ⟨he, hw ▸ Below.refl _ _⟩) | (with_reducible exact (first_at y Y8.out T hTp _).mono fun _ _ ⟨he, hw⟩ => ⟨he, hw ▸ Below.refl _ _⟩) | (with_reducible exact scale_at r0 r1 r2 r3 r4 r5 r6 r7 r8 r9 r10 H1.out 1 HS _)); go_big_quiet_op; go_big_quiet_on) | (go_big_quiet_op; go_big_quiet_on) | (go_big_quiet_op; refine ⟨_, fun _ _ => rfl, ?_⟩; go_big_quiet_on))))
    refine wpQuiet_nil ?_
    intro w' HM'
    clear HM; have HM := HM'; clear HM'
    go_wp2_with (first | ((with_reducible apply own_box HM); exact rfl; (conv => lhs; whnf); exact rfl; exact rfl; (first | (clear tg1 HM; intro w' g1 HM) | (clear tg2 HM; intro w' g2 HM) | (clear tg3 HM; intro w' g3 HM) | (clear tg4 HM; intro w' g4 HM) | (clear HM; intro w' g' HM))) | ((with_reducible apply own_alloc HM); exact rfl; (first | (with_reducible exact zero8)); exact rfl; (first | (clear tg1 HM; intro w' g1 HM) | (clear tg2 HM; intro w' g2 HM) | (clear tg3 HM; intro w' g3 HM) | (clear tg4 HM; intro w' g4 HM) | (clear HM; intro w' g' HM))) | ((with_reducible apply own_cell HM); exact rfl; exact rfl; (first | (with_reducible exact one8) | (with_reducible exact oneInt)); exact sS; exact dS; exact rfl) | ((with_reducible apply own_load HM); exact rfl; exact rfl; (first | (with_reducible exact agg11) | (with_reducible exact agg8)); exact sS; exact dS; exact tS; exact rfl) | ((with_reducible apply own_store HM); exact rfl; exact rfl; (conv => lhs; whnf); exact rfl; exact sS; exact vS; exact sS; (first | (with_reducible exact (agg11).size) | (with_reducible exact (agg8).size) | (with_reducible exact (one8).size) | (with_reducible exact (oneInt).size)); exact rfl; exact rfl; exact rfl; exact rfl; clear HM; intro w' HM) | (go_at_call 46; (with_reducible refine (row_n a n cap xs m7 d D HD _ (HV.out.under (Own.fin HM))).mono ?_); rintro e w' ⟨rfl, hb⟩; replace HM := Lib.hid (HM.out.call hb); clear hb))
    refine bodyPost_ret (v := .agg #[.int .u8 (D 0 : Int), .int .u8 (D 1 : Int), .int .u8 (D 2 : Int), .int .u8 (D 3 : Int), .int .u8 (D 4 : Int), .int .u8 (D 5 : Int), .int .u8 (D 6 : Int), .int .u8 (D 7 : Int)]) (own_results HM Try.results36 _ rfl (by first | exact .z | exact .s .z | exact .s (.s .z)) agg8) rfl ⟨rfl, Own.fin HM⟩
  · have HS : Hid (1 + r1 % 2 = 2) := Lib.hid (by rw [k1])
    rw [k6] at e4 hm6
    rw [k2] at e2 d2
    rw [k1] at d2 k8
    simp only [k2, k1, if_true, Nat.reduceAdd] at hDn
    obtain ⟨q, hq⟩ : ∃ q : Nat, d / 2 = q := ⟨_, rfl⟩
    rw [hq] at hDn
    have hq2 : IntKind.i64.wrap ((d : Int).tdiv 2) = (q : Int) := by rw [Int.tdiv_eq_ediv_of_nonneg (by omega), IntKind.wrap_i64]; omega
    have hq4 : (d : Int) / 2 = (q : Int) := by omega
    have q1 : q < 8 := by omega
    have q2 : (q : Int) < 16 := by omega
    have E6 : (t : Int) + 256 = (m6 : Int) := by omega
    obtain ⟨m7, hm7⟩ : ∃ m : Nat, m6 / 2 * 2 = m := ⟨_, rfl⟩
    rw [hm7] at ev hDn
    have m7l : (m7 : Int) < 512 := by omega
    rw [if_neg (by omega)] at hDn
    have Q1 : (q : Int) / 8 = 0 := by omega
    have Q2 : (q : Int).tmod 8 = (q : Int) := by rw [Int.tmod_eq_emod_of_nonneg (by omega)]; omega
    have Q3 : (q : Int) % 8 = (q : Int) := by omega
    have HD : Hid (tAt n xs m7 q = D) := Lib.hid (funext hDn)
    clear hDn k6 k2 k1 d2 hm6 m6l t8 k8 hm7 hq q1
    go_enter Try.func36, Try.ntmps36
    go_upto_region 7 with (first | ((with_reducible apply own_box HM); exact rfl; (conv => lhs; whnf); exact rfl; exact rfl; (first | (clear tg1 HM; intro w' g1 HM) | (clear tg2 HM; intro w' g2 HM) | (clear tg3 HM; intro w' g3 HM) | (clear tg4 HM; intro w' g4 HM) | (clear HM; intro w' g' HM))) | ((with_reducible apply own_alloc HM); exact rfl; (first | (with_reducible exact zero8)); exact rfl; (first | (clear tg1 HM; intro w' g1 HM) | (clear tg2 HM; intro w' g2 HM) | (clear tg3 HM; intro w' g3 HM) | (clear tg4 HM; intro w' g4 HM) | (clear HM; intro w' g' HM))) | ((with_reducible apply own_cell HM); exact rfl; exact rfl; (first | (with_reducible exact one8) | (with_reducible exact oneInt)); exact sS; exact dS; exact rfl) | ((with_reducible apply own_load HM); exact rfl; exact rfl; (first | (with_reducible exact agg11) | (with_reducible exact agg8)); exact sS; exact dS; exact tS; exact rfl) | ((with_reducible apply own_store HM); exact rfl; exact rfl; (conv => lhs; whnf); exact rfl; exact sS; exact vS; exact sS; (first | (with_reducible exact (agg11).size) | (with_reducible exact (agg8).size) | (with_reducible exact (one8).size) | (with_reducible exact (oneInt).size)); exact rfl; exact rfl; exact rfl; exact rfl; clear HM; intro w' HM) | (go_at_call 47; (with_reducible refine (table_at r0 r1 r2 r3 r4 r5 r6 r7 r8 r9 r10 H5.out b hb _).mono ?_); rintro e w' ⟨rfl, hb⟩; replace HM := Lib.hid (HM.out.call hb); clear hb) | (go_at_call 49; (with_reducible refine (at_at a n cap xs _ (b + 129 + 2 * i) t hm2 hv2 _ (HV.out.under (Own.fin HM))).mono ?_); rintro e w' ⟨rfl, rfl⟩))
    (refine own_region HM (by kernel_rfl) (by kernel_rfl) ?_; (try simp only [Act.put, List.setIfInBounds_toArray, List.set_cons_zero, List.set_cons_succ]); repeat ((fail_if_success (with_reducible refine wpQuiet_nil ?_)); first | go_big_quiet_skip | (go_big_quiet_want; first | ((with_reducible apply quiet_load); exact rfl; (first | (with_reducible exact agg11)); exact sS; exact dS; exact tS; go_big_quiet_op; go_big_quiet_on) | ((with_reducible apply quiet_call); exact fun w => rfl; (focus (go_simp; all_goals with_reducible rfl)); (intro wq HQ; first | (with_reducible exact (at_at a n cap xs _ (b + i) y hm1 hv1 _ (HV.out.under (Own.fin HQ))).mono fun _ _ ⟨he, hw⟩ => ⟨he, hw ▸ Below.refl _ _⟩) | (with_reducible exact (first_at y Y8.out T hTp _).mono fun _ _ ⟨he, hw⟩ => ⟨he, hw ▸ Below.refl _ _⟩) | (with_reducible exact scale_at r0 r1 r2 r3 r4 r5 r6 r7 r8 r9 r10 H1.out 2 HS _)); go_big_quiet_op; go_big_quiet_on) | (go_big_quiet_op; go_big_quiet_on) | (go_big_quiet_op; refine ⟨_, fun _ _ => rfl, ?_⟩; go_big_quiet_on))))
    refine wpQuiet_nil ?_
    intro w' HM'
    clear HM; have HM := HM'; clear HM'
    go_wp2_with (first | ((with_reducible apply own_box HM); exact rfl; (conv => lhs; whnf); exact rfl; exact rfl; (first | (clear tg1 HM; intro w' g1 HM) | (clear tg2 HM; intro w' g2 HM) | (clear tg3 HM; intro w' g3 HM) | (clear tg4 HM; intro w' g4 HM) | (clear HM; intro w' g' HM))) | ((with_reducible apply own_alloc HM); exact rfl; (first | (with_reducible exact zero8)); exact rfl; (first | (clear tg1 HM; intro w' g1 HM) | (clear tg2 HM; intro w' g2 HM) | (clear tg3 HM; intro w' g3 HM) | (clear tg4 HM; intro w' g4 HM) | (clear HM; intro w' g' HM))) | ((with_reducible apply own_cell HM); exact rfl; exact rfl; (first | (with_reducible exact one8) | (with_reducible exact oneInt)); exact sS; exact dS; exact rfl) | ((with_reducible apply own_load HM); exact rfl; exact rfl; (first | (with_reducible exact agg11) | (with_reducible exact agg8)); exact sS; exact dS; exact tS; exact rfl) | ((with_reducible apply own_store HM); exact rfl; exact rfl; (conv => lhs; whnf); exact rfl; exact sS; exact vS; exact sS; (first | (with_reducible exact (agg11).size) | (with_reducible exact (agg8).size) | (with_reducible exact (one8).size) | (with_reducible exact (oneInt).size)); exact rfl; exact rfl; exact rfl; exact rfl; clear HM; intro w' HM) | (go_at_call 46; (with_reducible refine (row_n a n cap xs m7 q D HD _ (HV.out.under (Own.fin HM))).mono ?_); rintro e w' ⟨rfl, hb⟩; replace HM := Lib.hid (HM.out.call hb); clear hb))
    refine bodyPost_ret (v := .agg #[.int .u8 (D 0 : Int), .int .u8 (D 1 : Int), .int .u8 (D 2 : Int), .int .u8 (D 3 : Int), .int .u8 (D 4 : Int), .int .u8 (D 5 : Int), .int .u8 (D 6 : Int), .int .u8 (D 7 : Int)]) (own_results HM Try.results36 _ rfl (by first | exact .z | exact .s .z | exact .s (.s .z)) agg8) rfl ⟨rfl, Own.fin HM⟩
  · have HS : Hid (1 + r1 % 2 = 1) := Lib.hid (by rw [k1])
    rw [k6] at e4 hm6
    rw [k2] at e2 d2
    rw [k1] at d2 k8
    simp only [k2, k1, if_true, Nat.add_zero, Nat.div_one] at hDn
    have hq2 : IntKind.i64.wrap (d : Int) = (d : Int) := by rw [IntKind.wrap_i64]; omega
    have hq3 : IntKind.i64.wrap ((d : Int).tdiv 1) = (d : Int) := by rw [Int.tdiv_one]; exact hq2
    have q1 : d < 16 := by omega
    have q2 : (d : Int) < 16 := by omega
    have E6 : (t : Int) + 256 = (m6 : Int) := by omega
    obtain ⟨m7, hm7⟩ : ∃ m : Nat, m6 / 2 * 2 = m := ⟨_, rfl⟩
    rw [hm7] at ev hDn
    have m7l : (m7 : Int) < 512 := by omega
    rw [if_pos (by omega)] at hDn
    obtain ⟨e8, he8⟩ : ∃ e : Nat, m7 + 1 = e := ⟨_, rfl⟩
    obtain ⟨rz, hrz⟩ : ∃ r : Nat, d - 8 = r := ⟨_, rfl⟩
    rw [he8, hrz] at hDn
    have E8 : (m7 : Int) + 1 = (e8 : Int) := by omega
    have Q1 : (d : Int) / 8 = 1 := by omega
    have Q2 : (d : Int).tmod 8 = (rz : Int) := by rw [Int.tmod_eq_emod_of_nonneg (by omega)]; omega
    have Q3 : (d : Int) % 8 = (rz : Int) := by omega
    have HD : Hid (tAt n xs e8 rz = D) := Lib.hid (funext hDn)
    clear hDn k6 k2 k1 d2 hm6 m6l t8 k8 hm7 he8 hrz q1
    go_enter Try.func36, Try.ntmps36
    go_upto_region 7 with (first | ((with_reducible apply own_box HM); exact rfl; (conv => lhs; whnf); exact rfl; exact rfl; (first | (clear tg1 HM; intro w' g1 HM) | (clear tg2 HM; intro w' g2 HM) | (clear tg3 HM; intro w' g3 HM) | (clear tg4 HM; intro w' g4 HM) | (clear HM; intro w' g' HM))) | ((with_reducible apply own_alloc HM); exact rfl; (first | (with_reducible exact zero8)); exact rfl; (first | (clear tg1 HM; intro w' g1 HM) | (clear tg2 HM; intro w' g2 HM) | (clear tg3 HM; intro w' g3 HM) | (clear tg4 HM; intro w' g4 HM) | (clear HM; intro w' g' HM))) | ((with_reducible apply own_cell HM); exact rfl; exact rfl; (first | (with_reducible exact one8) | (with_reducible exact oneInt)); exact sS; exact dS; exact rfl) | ((with_reducible apply own_load HM); exact rfl; exact rfl; (first | (with_reducible exact agg11) | (with_reducible exact agg8)); exact sS; exact dS; exact tS; exact rfl) | ((with_reducible apply own_store HM); exact rfl; exact rfl; (conv => lhs; whnf); exact rfl; exact sS; exact vS; exact sS; (first | (with_reducible exact (agg11).size) | (with_reducible exact (agg8).size) | (with_reducible exact (one8).size) | (with_reducible exact (oneInt).size)); exact rfl; exact rfl; exact rfl; exact rfl; clear HM; intro w' HM) | (go_at_call 47; (with_reducible refine (table_at r0 r1 r2 r3 r4 r5 r6 r7 r8 r9 r10 H5.out b hb _).mono ?_); rintro e w' ⟨rfl, hb⟩; replace HM := Lib.hid (HM.out.call hb); clear hb) | (go_at_call 49; (with_reducible refine (at_at a n cap xs _ (b + 129 + 2 * i) t hm2 hv2 _ (HV.out.under (Own.fin HM))).mono ?_); rintro e w' ⟨rfl, rfl⟩))
    (refine own_region HM (by kernel_rfl) (by kernel_rfl) ?_; (try simp only [Act.put, List.setIfInBounds_toArray, List.set_cons_zero, List.set_cons_succ]); repeat ((fail_if_success (with_reducible refine wpQuiet_nil ?_)); first | go_big_quiet_skip | (go_big_quiet_want; first | ((with_reducible apply quiet_load); exact rfl; (first | (with_reducible exact agg11)); exact sS; exact dS; exact tS; go_big_quiet_op; go_big_quiet_on) | ((with_reducible apply quiet_call); exact fun w => rfl; (focus (go_simp; all_goals with_reducible rfl)); (intro wq HQ; first | (with_reducible exact (at_at a n cap xs _ (b + i) y hm1 hv1 _ (HV.out.under (Own.fin HQ))).mono fun _ _ ⟨he, hw⟩ => ⟨he, hw ▸ Below.refl _ _⟩) | (with_reducible exact (first_at y Y8.out T hTp _).mono fun _ _ ⟨he, hw⟩ => ⟨he, hw ▸ Below.refl _ _⟩) | (with_reducible exact scale_at r0 r1 r2 r3 r4 r5 r6 r7 r8 r9 r10 H1.out 1 HS _)); go_big_quiet_op; go_big_quiet_on) | (go_big_quiet_op; go_big_quiet_on) | (go_big_quiet_op; refine ⟨_, fun _ _ => rfl, ?_⟩; go_big_quiet_on))))
    refine wpQuiet_nil ?_
    intro w' HM'
    clear HM; have HM := HM'; clear HM'
    go_wp2_with (first | ((with_reducible apply own_box HM); exact rfl; (conv => lhs; whnf); exact rfl; exact rfl; (first | (clear tg1 HM; intro w' g1 HM) | (clear tg2 HM; intro w' g2 HM) | (clear tg3 HM; intro w' g3 HM) | (clear tg4 HM; intro w' g4 HM) | (clear HM; intro w' g' HM))) | ((with_reducible apply own_alloc HM); exact rfl; (first | (with_reducible exact zero8)); exact rfl; (first | (clear tg1 HM; intro w' g1 HM) | (clear tg2 HM; intro w' g2 HM) | (clear tg3 HM; intro w' g3 HM) | (clear tg4 HM; intro w' g4 HM) | (clear HM; intro w' g' HM))) | ((with_reducible apply own_cell HM); exact rfl; exact rfl; (first | (with_reducible exact one8) | (with_reducible exact oneInt)); exact sS; exact dS; exact rfl) | ((with_reducible apply own_load HM); exact rfl; exact rfl; (first | (with_reducible exact agg11) | (with_reducible exact agg8)); exact sS; exact dS; exact tS; exact rfl) | ((with_reducible apply own_store HM); exact rfl; exact rfl; (conv => lhs; whnf); exact rfl; exact sS; exact vS; exact sS; (first | (with_reducible exact (agg11).size) | (with_reducible exact (agg8).size) | (with_reducible exact (one8).size) | (with_reducible exact (oneInt).size)); exact rfl; exact rfl; exact rfl; exact rfl; clear HM; intro w' HM) | (go_at_call 46; (with_reducible refine (row_n a n cap xs e8 rz D HD _ (HV.out.under (Own.fin HM))).mono ?_); rintro e w' ⟨rfl, hb⟩; replace HM := Lib.hid (HM.out.call hb); clear hb))
    refine bodyPost_ret (v := .agg #[.int .u8 (D 0 : Int), .int .u8 (D 1 : Int), .int .u8 (D 2 : Int), .int .u8 (D 3 : Int), .int .u8 (D 4 : Int), .int .u8 (D 5 : Int), .int .u8 (D 6 : Int), .int .u8 (D 7 : Int)]) (own_results HM Try.results36 _ rfl (by first | exact .z | exact .s .z | exact .s (.s .z)) agg8) rfl ⟨rfl, Own.fin HM⟩
  · have HS : Hid (1 + r1 % 2 = 2) := Lib.hid (by rw [k1])
    rw [k6] at e4 hm6
    rw [k2] at e2 d2
    rw [k1] at d2 k8
    simp only [k2, k1, if_true, Nat.reduceAdd] at hDn
    obtain ⟨q, hq⟩ : ∃ q : Nat, d / 2 = q := ⟨_, rfl⟩
    rw [hq] at hDn
    have hq2 : IntKind.i64.wrap ((d : Int).tdiv 2) = (q : Int) := by rw [Int.tdiv_eq_ediv_of_nonneg (by omega), IntKind.wrap_i64]; omega
    have hq4 : (d : Int) / 2 = (q : Int) := by omega
    have q1 : q < 16 := by omega
    have q2 : (q : Int) < 16 := by omega
    have E6 : (t : Int) + 256 = (m6 : Int) := by omega
    obtain ⟨m7, hm7⟩ : ∃ m : Nat, m6 / 2 * 2 = m := ⟨_, rfl⟩
    rw [hm7] at ev hDn
    have m7l : (m7 : Int) < 512 := by omega
    rw [if_pos (by omega)] at hDn
    obtain ⟨e8, he8⟩ : ∃ e : Nat, m7 + 1 = e := ⟨_, rfl⟩
    obtain ⟨rz, hrz⟩ : ∃ r : Nat, q - 8 = r := ⟨_, rfl⟩
    rw [he8, hrz] at hDn
    have E8 : (m7 : Int) + 1 = (e8 : Int) := by omega
    have Q1 : (q : Int) / 8 = 1 := by omega
    have Q2 : (q : Int).tmod 8 = (rz : Int) := by rw [Int.tmod_eq_emod_of_nonneg (by omega)]; omega
    have Q3 : (q : Int) % 8 = (rz : Int) := by omega
    have HD : Hid (tAt n xs e8 rz = D) := Lib.hid (funext hDn)
    clear hDn k6 k2 k1 d2 hm6 m6l t8 k8 hm7 hq he8 hrz q1
    go_enter Try.func36, Try.ntmps36
    go_upto_region 7 with (first | ((with_reducible apply own_box HM); exact rfl; (conv => lhs; whnf); exact rfl; exact rfl; (first | (clear tg1 HM; intro w' g1 HM) | (clear tg2 HM; intro w' g2 HM) | (clear tg3 HM; intro w' g3 HM) | (clear tg4 HM; intro w' g4 HM) | (clear HM; intro w' g' HM))) | ((with_reducible apply own_alloc HM); exact rfl; (first | (with_reducible exact zero8)); exact rfl; (first | (clear tg1 HM; intro w' g1 HM) | (clear tg2 HM; intro w' g2 HM) | (clear tg3 HM; intro w' g3 HM) | (clear tg4 HM; intro w' g4 HM) | (clear HM; intro w' g' HM))) | ((with_reducible apply own_cell HM); exact rfl; exact rfl; (first | (with_reducible exact one8) | (with_reducible exact oneInt)); exact sS; exact dS; exact rfl) | ((with_reducible apply own_load HM); exact rfl; exact rfl; (first | (with_reducible exact agg11) | (with_reducible exact agg8)); exact sS; exact dS; exact tS; exact rfl) | ((with_reducible apply own_store HM); exact rfl; exact rfl; (conv => lhs; whnf); exact rfl; exact sS; exact vS; exact sS; (first | (with_reducible exact (agg11).size) | (with_reducible exact (agg8).size) | (with_reducible exact (one8).size) | (with_reducible exact (oneInt).size)); exact rfl; exact rfl; exact rfl; exact rfl; clear HM; intro w' HM) | (go_at_call 47; (with_reducible refine (table_at r0 r1 r2 r3 r4 r5 r6 r7 r8 r9 r10 H5.out b hb _).mono ?_); rintro e w' ⟨rfl, hb⟩; replace HM := Lib.hid (HM.out.call hb); clear hb) | (go_at_call 49; (with_reducible refine (at_at a n cap xs _ (b + 129 + 2 * i) t hm2 hv2 _ (HV.out.under (Own.fin HM))).mono ?_); rintro e w' ⟨rfl, rfl⟩))
    (refine own_region HM (by kernel_rfl) (by kernel_rfl) ?_; (try simp only [Act.put, List.setIfInBounds_toArray, List.set_cons_zero, List.set_cons_succ]); repeat ((fail_if_success (with_reducible refine wpQuiet_nil ?_)); first | go_big_quiet_skip | (go_big_quiet_want; first | ((with_reducible apply quiet_load); exact rfl; (first | (with_reducible exact agg11)); exact sS; exact dS; exact tS; go_big_quiet_op; go_big_quiet_on) | ((with_reducible apply quiet_call); exact fun w => rfl; (focus (go_simp; all_goals with_reducible rfl)); (intro wq HQ; first | (with_reducible exact (at_at a n cap xs _ (b + i) y hm1 hv1 _ (HV.out.under (Own.fin HQ))).mono fun _ _ ⟨he, hw⟩ => ⟨he, hw ▸ Below.refl _ _⟩) | (with_reducible exact (first_at y Y8.out T hTp _).mono fun _ _ ⟨he, hw⟩ => ⟨he, hw ▸ Below.refl _ _⟩) | (with_reducible exact scale_at r0 r1 r2 r3 r4 r5 r6 r7 r8 r9 r10 H1.out 2 HS _)); go_big_quiet_op; go_big_quiet_on) | (go_big_quiet_op; go_big_quiet_on) | (go_big_quiet_op; refine ⟨_, fun _ _ => rfl, ?_⟩; go_big_quiet_on))))
    refine wpQuiet_nil ?_
    intro w' HM'
    clear HM; have HM := HM'; clear HM'
    go_wp2_with (first | ((with_reducible apply own_box HM); exact rfl; (conv => lhs; whnf); exact rfl; exact rfl; (first | (clear tg1 HM; intro w' g1 HM) | (clear tg2 HM; intro w' g2 HM) | (clear tg3 HM; intro w' g3 HM) | (clear tg4 HM; intro w' g4 HM) | (clear HM; intro w' g' HM))) | ((with_reducible apply own_alloc HM); exact rfl; (first | (with_reducible exact zero8)); exact rfl; (first | (clear tg1 HM; intro w' g1 HM) | (clear tg2 HM; intro w' g2 HM) | (clear tg3 HM; intro w' g3 HM) | (clear tg4 HM; intro w' g4 HM) | (clear HM; intro w' g' HM))) | ((with_reducible apply own_cell HM); exact rfl; exact rfl; (first | (with_reducible exact one8) | (with_reducible exact oneInt)); exact sS; exact dS; exact rfl) | ((with_reducible apply own_load HM); exact rfl; exact rfl; (first | (with_reducible exact agg11) | (with_reducible exact agg8)); exact sS; exact dS; exact tS; exact rfl) | ((with_reducible apply own_store HM); exact rfl; exact rfl; (conv => lhs; whnf); exact rfl; exact sS; exact vS; exact sS; (first | (with_reducible exact (agg11).size) | (with_reducible exact (agg8).size) | (with_reducible exact (one8).size) | (with_reducible exact (oneInt).size)); exact rfl; exact rfl; exact rfl; exact rfl; clear HM; intro w' HM) | (go_at_call 46; (with_reducible refine (row_n a n cap xs e8 rz D HD _ (HV.out.under (Own.fin HM))).mono ?_); rintro e w' ⟨rfl, hb⟩; replace HM := Lib.hid (HM.out.call hb); clear hb))
    refine bodyPost_ret (v := .agg #[.int .u8 (D 0 : Int), .int .u8 (D 1 : Int), .int .u8 (D 2 : Int), .int .u8 (D 3 : Int), .int .u8 (D 4 : Int), .int .u8 (D 5 : Int), .int .u8 (D 6 : Int), .int .u8 (D 7 : Int)]) (own_results HM Try.results36 _ rfl (by first | exact .z | exact .s .z | exact .s (.s .z)) agg8) rfl ⟨rfl, Own.fin HM⟩
end Go.Proofs.Ytijjigacmmhloaa
