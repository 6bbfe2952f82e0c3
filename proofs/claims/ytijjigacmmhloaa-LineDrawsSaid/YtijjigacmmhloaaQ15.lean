import Derived.Test.YtijjigacmmhloaaQ13
import Derived.Test.YtijjigacmmhloaaQ14
namespace Go.Proofs.Ytijjigacmmhloaa
open Go.RowKit
set_option maxHeartbeats 1600000 in
theorem rspdot_in (a : Option Addr) (n cap : Nat) (xs : Nat → Nat) (r0 r1 r2 r3 r4 r5 r6 r7 r8 r9 r10 i x : Nat) (line : Int) (b0 : r0 < 256) (b1 : r1 < 256) (b5 : r5 < 256) (b6 : r6 < 256) (hi : i < 64) (l1 : line ≤ 191) (hx : x < 256) (hon0 : spTop (mem n xs (spBase r5 + i)) ≤ line) (d : Nat) (hd : Hid (spDot n xs r0 r1 r5 r6 line x i = d)) (w : World) (hV : ByteRow w a n xs) :
    Calls Try.prog 38 #[.slice a n cap, regsV r0 r1 r2 r3 r4 r5 r6 r7 r8 r9 r10, .int .i64 (i : Int), .agg #[.int .i64 line, .int .i64 (x : Int)]] w fun e w' => e = .returned (.int .u8 (d : Int)) ∧ Below w.heap.size w w' := by
  have hd' := hd.out
  unfold spDot spDotV at hd'
  obtain ⟨y, hy⟩ : ∃ y, mem n xs (spBase r5 + i) = y := ⟨_, rfl⟩
  obtain ⟨X, hX⟩ : ∃ X, mem n xs (spBase r5 + 128 + 2 * i) = X := ⟨_, rfl⟩
  obtain ⟨t, ht⟩ : ∃ t, mem n xs (spBase r5 + 129 + 2 * i) = t := ⟨_, rfl⟩
  obtain ⟨ac, hac⟩ : ∃ ac : Int, (x : Int) - ((X : Int) - 8 * (r0 / 8 % 2 : Nat)) = ac := ⟨_, rfl⟩
  rw [hy, hX, ht, hac] at hd'
  have hon := hon0
  rw [hy] at hon
  obtain hs | hs : r1 % 2 = 0 ∨ r1 % 2 = 1 := by omega
  · rw [hs] at hd'
    by_cases c0 : ac < 0
    · rw [if_pos (.inl c0)] at hd'
      subst hd'
      exact rspdot_00 a n cap xs r0 r1 r2 r3 r4 r5 r6 r7 r8 r9 r10 i x line ac b0 b1 b5 b6 hi l1 hx _ X y t rfl hX hy ht hs _ rfl hon hac c0 w hV
    · by_cases c1 : 8 ≤ ac
      · rw [if_pos (.inr (by omega))] at hd'
        subst hd'
        exact rspdot_01 a n cap xs r0 r1 r2 r3 r4 r5 r6 r7 r8 r9 r10 i x line ac b0 b1 b5 b6 hi l1 hx _ X y t rfl hX hy ht hs _ rfl hon hac c0 c1 w hV
      · rw [if_neg (by omega)] at hd'
        obtain ⟨h, hh⟩ : ∃ h, (line - spTop y).toNat = h := ⟨_, rfl⟩
        obtain ⟨cc, hcc⟩ : ∃ cc, ac.toNat / 1 = cc := ⟨_, rfl⟩
        rw [hh] at hd'
        rw [show 1 + 0 = 1 from rfl, hcc] at hd'
        have HH : Hid ((h : Int) = line - spTop y) := Lib.hid (by omega)
        have HC : Hid ((cc : Int) = ac / 1) := Lib.hid (by omega)
        by_cases lw : 8 ≤ h / 1
        · rw [if_pos lw] at hd'
          obtain hv | hv : r1 / 2 % 2 = 0 ∨ r1 / 2 % 2 = 1 := by omega
          · rw [if_neg (by omega)] at hd'
            exact rspdot_03 a n cap xs r0 r1 r2 r3 r4 r5 r6 r7 r8 r9 r10 i x line ac b0 b1 b5 b6 hi l1 hx _ X y t rfl hX hy ht hs _ rfl hon hac c0 c1 hv _ h _ cc d HH (Lib.hid rfl) HC (Lib.hid rfl) lw (Lib.hid hd') w hV
          · rw [if_pos hv] at hd'
            exact rspdot_05 a n cap xs r0 r1 r2 r3 r4 r5 r6 r7 r8 r9 r10 i x line ac b0 b1 b5 b6 hi l1 hx _ X y t rfl hX hy ht hs _ rfl hon hac c0 c1 hv _ h _ cc d HH (Lib.hid rfl) HC (Lib.hid rfl) lw (Lib.hid hd') w hV
        · rw [if_neg lw] at hd'
          obtain hv | hv : r1 / 2 % 2 = 0 ∨ r1 / 2 % 2 = 1 := by omega
          · rw [if_neg (by omega)] at hd'
            exact rspdot_02 a n cap xs r0 r1 r2 r3 r4 r5 r6 r7 r8 r9 r10 i x line ac b0 b1 b5 b6 hi l1 hx _ X y t rfl hX hy ht hs _ rfl hon hac c0 c1 hv _ h _ cc d HH (Lib.hid rfl) HC (Lib.hid rfl) lw (Lib.hid hd') w hV
          · rw [if_pos hv] at hd'
            exact rspdot_04 a n cap xs r0 r1 r2 r3 r4 r5 r6 r7 r8 r9 r10 i x line ac b0 b1 b5 b6 hi l1 hx _ X y t rfl hX hy ht hs _ rfl hon hac c0 c1 hv _ h _ cc d HH (Lib.hid rfl) HC (Lib.hid rfl) lw (Lib.hid hd') w hV
  · rw [hs] at hd'
    by_cases c0 : ac < 0
    · rw [if_pos (.inl c0)] at hd'
      subst hd'
      exact rspdot_10 a n cap xs r0 r1 r2 r3 r4 r5 r6 r7 r8 r9 r10 i x line ac b0 b1 b5 b6 hi l1 hx _ X y t rfl hX hy ht hs _ rfl hon hac c0 w hV
    · by_cases c1 : 16 ≤ ac
      · rw [if_pos (.inr (by omega))] at hd'
        subst hd'
        exact rspdot_11 a n cap xs r0 r1 r2 r3 r4 r5 r6 r7 r8 r9 r10 i x line ac b0 b1 b5 b6 hi l1 hx _ X y t rfl hX hy ht hs _ rfl hon hac c0 c1 w hV
      · rw [if_neg (by omega)] at hd'
        obtain ⟨h, hh⟩ : ∃ h, (line - spTop y).toNat = h := ⟨_, rfl⟩
        obtain ⟨cc, hcc⟩ : ∃ cc, ac.toNat / 2 = cc := ⟨_, rfl⟩
        rw [hh] at hd'
        rw [show 1 + 1 = 2 from rfl, hcc] at hd'
        have HH : Hid ((h : Int) = line - spTop y) := Lib.hid (by omega)
        have HC : Hid ((cc : Int) = ac / 2) := Lib.hid (by omega)
        by_cases lw : 8 ≤ h / 2
        · rw [if_pos lw] at hd'
          obtain hv | hv : r1 / 2 % 2 = 0 ∨ r1 / 2 % 2 = 1 := by omega
          · rw [if_neg (by omega)] at hd'
            exact rspdot_13 a n cap xs r0 r1 r2 r3 r4 r5 r6 r7 r8 r9 r10 i x line ac b0 b1 b5 b6 hi l1 hx _ X y t rfl hX hy ht hs _ rfl hon hac c0 c1 hv _ h _ cc d HH (Lib.hid rfl) HC (Lib.hid rfl) lw (Lib.hid hd') w hV
          · rw [if_pos hv] at hd'
            exact rspdot_15 a n cap xs r0 r1 r2 r3 r4 r5 r6 r7 r8 r9 r10 i x line ac b0 b1 b5 b6 hi l1 hx _ X y t rfl hX hy ht hs _ rfl hon hac c0 c1 hv _ h _ cc d HH (Lib.hid rfl) HC (Lib.hid rfl) lw (Lib.hid hd') w hV
        · rw [if_neg lw] at hd'
          obtain hv | hv : r1 / 2 % 2 = 0 ∨ r1 / 2 % 2 = 1 := by omega
          · rw [if_neg (by omega)] at hd'
            exact rspdot_12 a n cap xs r0 r1 r2 r3 r4 r5 r6 r7 r8 r9 r10 i x line ac b0 b1 b5 b6 hi l1 hx _ X y t rfl hX hy ht hs _ rfl hon hac c0 c1 hv _ h _ cc d HH (Lib.hid rfl) HC (Lib.hid rfl) lw (Lib.hid hd') w hV
          · rw [if_pos hv] at hd'
            exact rspdot_14 a n cap xs r0 r1 r2 r3 r4 r5 r6 r7 r8 r9 r10 i x line ac b0 b1 b5 b6 hi l1 hx _ X y t rfl hX hy ht hs _ rfl hon hac c0 c1 hv _ h _ cc d HH (Lib.hid rfl) HC (Lib.hid rfl) lw (Lib.hid hd') w hV
set_option maxRecDepth 100000 in
set_option maxHeartbeats 3200000 in
theorem ron_at (a : Option Addr) (n cap : Nat) (xs : Nat → Nat) (r0 r1 r2 r3 r4 r5 r6 r7 r8 r9 r10 : Nat) (line : Int) (b1 : r1 < 256) (b5 : r5 < 256) (l0 : 0 ≤ line) (l1 : line ≤ 191) (L : List Nat) (hL : Hid (spAll (spY n xs r5) (spH r1) line = L)) (w : World) (hV : ByteRow w a n xs) :
    Calls Try.prog 25 #[.slice a n cap, regsV r0 r1 r2 r3 r4 r5 r6 r7 r8 r9 r10, .int .i64 line] w fun e w' => ∃ v R, e = .returned v ∧ RowN 1 3 R v L.length (nts L) ∧ (∀ x ∈ R, w.heap.size ≤ x.1 ∧ Whole w' x.1 x.2.1 x.2.2) ∧ Below w.heap.size w w' := by
  have HM := Lib.hid (Own.start w)
  have tg1 : Hid True := trivial
  have HV := Lib.hid hV
  have H1 := Lib.hid b1
  have H5 := Lib.hid b5
  obtain ⟨h, hh⟩ : ∃ h, Hid (spH r1 = h) := ⟨_, rfl⟩
  obtain ⟨b, hb⟩ : ∃ b, Hid (spBase r5 = b) := ⟨_, rfl⟩
  have hb1 : (b : Int) ≤ 16128 := by have := spBase_le r5; rw [hb.out] at this; omega
  have hh1 : (h : Int) ≤ 32 := by have := (spH_le r1).2; rw [hh.out] at this; omega
  obtain ⟨Y, hY⟩ : ∃ Y, Hid (spY n xs r5 = Y) := ⟨_, rfl⟩
  have HL : Hid (spFrom Y h line 64 0 = L) := Lib.hid (by rw [← hY.out, ← hh.out]; exact hL.out)
  have hi0 := Lib.hid made_i0
  clear hL hV b1 b5
  go_enter Try.func25, Try.ntmps25
  go_upto_region 5 with (first | ((with_reducible apply own_made (cs := []) (e := 3) (n := 0) HM); exact rfl; exact hi0.out; (focus (first | exact rfl | (go_simp; done))); exact rfl; intro w' g2 HM'; clear HM; have HM := HM'; clear HM') | ((with_reducible apply own_box HM); exact rfl; (conv => lhs; whnf); exact rfl; exact rfl; (first | (clear tg1 HM; intro w' g1 HM) | (clear tg2 HM; intro w' g2 HM) | (clear tg3 HM; intro w' g3 HM) | (clear tg4 HM; intro w' g4 HM) | (clear HM; intro w' g' HM))) | ((with_reducible apply own_cell HM); exact rfl; exact rfl; (first | (with_reducible exact one8) | (with_reducible exact oneInt)); exact sS; exact dS; exact rfl) | ((with_reducible apply own_load HM); exact rfl; exact rfl; (first | (with_reducible exact agg11)); exact sS; exact dS; exact tS; exact rfl) | ((with_reducible apply own_store HM); exact rfl; exact rfl; (conv => lhs; whnf); exact rfl; exact sS; exact vS; exact sS; (first | (with_reducible exact (agg11).size) | (with_reducible exact (one8).size) | (with_reducible exact (oneInt).size)); exact rfl; exact rfl; exact rfl; exact rfl; clear HM; intro w' HM))
  go_loopw [7, 8] (fun ov iv wr => ∃ (j : Nat) (R : List (Nat × TypeId × List Value)) (done : List Nat), j ≤ 64 ∧ iv = .int .i64 (j : Int) ∧ Hid (RowN 1 3 R ov done.length (nts done)) ∧ Hid (done ++ spFrom Y h line (64 - j) j = L ∧ done.length ≤ j) ∧ Hid (Own w wr ((g1, 27, [.int .u8 (r0 : Int), .int .u8 (r1 : Int), .int .u8 (r2 : Int), .int .u8 (r3 : Int), .int .u8 (r4 : Int), .int .u8 (r5 : Int), .int .u8 (r6 : Int), .int .u8 (r7 : Int), .int .u8 (r8 : Int), .int .u8 (r9 : Int), .int .u8 (r10 : Int)]) :: R))) (fun _ iv _ => 64 - (intOf iv).toNat)
  case atStart => exact ⟨0, [(g2, 3, [])], [], by omega, rfl, Lib.hid (RowN.fresh 1 3 g2 0 [] rfl (by decide)), Lib.hid ⟨HL.out, Nat.le_refl _⟩, Lib.hid HM.out.swap2⟩
  case round =>
    clear HM
    obtain ⟨j, R, done, hj, rfl, HR, HD, HM⟩ := hrel
    by_cases hlt : j < 64
    · have hlt' : (j : Int) < 64 := by omega
      have HJ := Lib.hid hlt
      obtain ⟨y, hy⟩ : ∃ y, Y j = y := ⟨_, rfl⟩
      have Hy := Lib.hid hy
      have hk : Hid (((b : Int) + (j : Int)) % 16384 = ((b + j : Nat) : Int)) := Lib.hid (by omega)
      have hv : Hid (vget n xs (b + j) = y) := Lib.hid (by
        rw [← hY.out] at hy
        unfold spY mem at hy
        rw [hb.out, Nat.mod_eq_of_lt (by omega)] at hy
        exact hy)
      have y8 : y < 256 := hv.out ▸ vget_lt HV.out _
      have Y8 := Lib.hid y8
      obtain ⟨t, ht⟩ : ∃ t, Hid (spTop y = t) := ⟨_, rfl⟩
      have t0 : -256 ≤ t ∧ t ≤ 240 := by have := ht.out; unfold spTop at this; split at this <;> omega
      obtain ⟨t1, t2⟩ := t0
      clear hlt hj hy y8
      by_cases h0 : y = 208
      · subst h0
        go_wp2_with (first | ((with_reducible apply own_box HM); exact rfl; (conv => lhs; whnf); exact rfl; exact rfl; (first | (clear tg1 HM; intro w' g1 HM) | (clear tg2 HM; intro w' g2 HM) | (clear tg3 HM; intro w' g3 HM) | (clear tg4 HM; intro w' g4 HM) | (clear HM; intro w' g' HM))) | ((with_reducible apply own_cell HM); exact rfl; exact rfl; (first | (with_reducible exact one8) | (with_reducible exact oneInt)); exact sS; exact dS; exact rfl) | ((with_reducible apply own_load HM); exact rfl; exact rfl; (first | (with_reducible exact agg11)); exact sS; exact dS; exact tS; exact rfl) | ((with_reducible apply own_store HM); exact rfl; exact rfl; (conv => lhs; whnf); exact rfl; exact sS; exact vS; exact sS; (first | (with_reducible exact (agg11).size) | (with_reducible exact (one8).size) | (with_reducible exact (oneInt).size)); exact rfl; exact rfl; exact rfl; exact rfl; clear HM; intro w' HM) | (go_at_call 23; (with_reducible refine (rbase_at r0 r1 r2 r3 r4 r5 r6 r7 r8 r9 r10 H5.out b hb _).mono ?_); rintro e w' ⟨rfl, hb⟩; replace HM := Lib.hid (HM.out.call hb); clear hb) | (go_at_call 39; (with_reducible refine (rat_at a n cap xs _ (b + j) _ hk hv _ (HV.out.under (Own.fin HM))).mono ?_); rintro e w' ⟨rfl, rfl⟩))
        go_ret
        have e1 : done = L := by have := HD.out.1; rw [spFrom_end Hy.out rfl, List.append_nil] at this; exact this
        rw [e1] at HR
        exact ⟨_, R, rfl, HR.out, Own.rows (l := [_]) HM.out, Own.fin HM⟩
      · have K0 : ((y : Int) == 208) = false := by simp; omega
        have H0 := Lib.hid h0
        clear h0
        go_upto_region 10 with (first | ((with_reducible apply own_box HM); exact rfl; (conv => lhs; whnf); exact rfl; exact rfl; (first | (clear tg1 HM; intro w' g1 HM) | (clear tg2 HM; intro w' g2 HM) | (clear tg3 HM; intro w' g3 HM) | (clear tg4 HM; intro w' g4 HM) | (clear HM; intro w' g' HM))) | ((with_reducible apply own_cell HM); exact rfl; exact rfl; (first | (with_reducible exact one8) | (with_reducible exact oneInt)); exact sS; exact dS; exact rfl) | ((with_reducible apply own_load HM); exact rfl; exact rfl; (first | (with_reducible exact agg11)); exact sS; exact dS; exact tS; exact rfl) | ((with_reducible apply own_store HM); exact rfl; exact rfl; (conv => lhs; whnf); exact rfl; exact sS; exact vS; exact sS; (first | (with_reducible exact (agg11).size) | (with_reducible exact (one8).size) | (with_reducible exact (oneInt).size)); exact rfl; exact rfl; exact rfl; exact rfl; clear HM; intro w' HM) | (go_at_call 23; (with_reducible refine (rbase_at r0 r1 r2 r3 r4 r5 r6 r7 r8 r9 r10 H5.out b hb _).mono ?_); rintro e w' ⟨rfl, hb⟩; replace HM := Lib.hid (HM.out.call hb); clear hb) | (go_at_call 39; (with_reducible refine (rat_at a n cap xs _ (b + j) _ hk hv _ (HV.out.under (Own.fin HM))).mono ?_); rintro e w' ⟨rfl, rfl⟩))
        clear K0
        by_cases k1 : t ≤ line
        · by_cases k2 : line < t + (h : Int)
          · have K1 : (t ≤ line) = True := eq_true k1
            have K2 : (line < t + (h : Int)) = True := eq_true k2
            have HK1 := Lib.hid k1
            have HK2 := Lib.hid k2
            clear k1 k2
            (refine own_region HM (by kernel_rfl) (by kernel_rfl) ?_; (try simp only [Act.put, List.setIfInBounds_toArray, List.set_cons_zero, List.set_cons_succ]); repeat ((fail_if_success (with_reducible refine wpQuiet_nil ?_)); first | go_big_quiet_skip | (go_big_quiet_want; first | ((with_reducible apply quiet_load); exact rfl; (first | (with_reducible exact agg11)); exact sS; exact dS; exact tS; go_big_quiet_op; go_big_quiet_on) | (go_big_quiet_op; go_big_quiet_on) | ((with_reducible apply quiet_call); exact fun w => rfl; (focus (go_simp; all_goals with_reducible rfl)); (intro wq HQ; first | (with_reducible exact (rtop_at y Y8.out t ht _).mono fun _ _ ⟨he, hw⟩ => ⟨he, hw ▸ Below.refl _ _⟩) | (with_reducible exact rheight_at r0 r1 r2 r3 r4 r5 r6 r7 r8 r9 r10 H1.out h hh _)); go_big_quiet_op; go_big_quiet_on) | (go_big_quiet_op; go_big_quiet_on) | (go_big_quiet_op; refine ⟨_, fun _ _ => rfl, ?_⟩; go_big_quiet_on))))
            refine wpQuiet_nil ?_
            intro w' HM'
            clear HM; have HM := HM'; clear HM'
            clear K1 K2
            obtain ⟨i0, hi, hz0, hz1, hz2⟩ := int_parts
            have hm1 := made_i1 (j : Int)
            have HD64 : Hid (done.length ≤ 100000) := Lib.hid (by have := HD.out.2; have := HJ.out; omega)
            go_wp2_with (first
              | ((with_reducible apply own_made (cs := [.int .i64 (j : Int)]) (e := 3) (n := 1) HM); exact rfl; exact hm1; (focus (first | exact rfl | (go_simp; done))); exact rfl; intro w' g3 HM'; clear HM; have HM := HM'; clear HM')
              | (refine own_appends (L := [(g1, 27, [.int .u8 (r0 : Int), .int .u8 (r1 : Int), .int .u8 (r2 : Int), .int .u8 (r3 : Int), .int .u8 (r4 : Int), .int .u8 (r5 : Int), .int .u8 (r6 : Int), .int .u8 (r7 : Int), .int .u8 (r8 : Int), .int .u8 (r9 : Int), .int .u8 (r10 : Int)])]) HM HR Try.underlying60 hi hz0 hz1 hz2 rfl (by decide) (by decide) rfl rfl HD64.out rfl rfl rfl rfl ?_; intro v' w' R' HR' HM'; clear HM HR; have HM := HM'; have HR := HR'; clear HM' HR')
              | ((with_reducible apply own_box HM); exact rfl; (conv => lhs; whnf); exact rfl; exact rfl; (first | (clear tg1 HM; intro w' g1 HM) | (clear tg2 HM; intro w' g2 HM) | (clear tg3 HM; intro w' g3 HM) | (clear tg4 HM; intro w' g4 HM) | (clear HM; intro w' g' HM))) | ((with_reducible apply own_cell HM); exact rfl; exact rfl; (first | (with_reducible exact one8) | (with_reducible exact oneInt)); exact sS; exact dS; exact rfl) | ((with_reducible apply own_load HM); exact rfl; exact rfl; (first | (with_reducible exact agg11)); exact sS; exact dS; exact tS; exact rfl) | ((with_reducible apply own_store HM); exact rfl; exact rfl; (conv => lhs; whnf); exact rfl; exact sS; exact vS; exact sS; (first | (with_reducible exact (agg11).size) | (with_reducible exact (one8).size) | (with_reducible exact (oneInt).size)); exact rfl; exact rfl; exact rfl; exact rfl; clear HM; intro w' HM))
            go_roundw
            case rel =>
              refine ⟨j + 1, _, done ++ [j], by have := HJ.out; omega, by go_num, ?_, ?_, HM⟩
              · show RowN _ _ _ _ _ _
                rw [nts_snoc, List.length_append]; exact HR.out
              · refine Lib.hid ⟨?_, by rw [List.length_append]; have := HD.out.2; simp; omega⟩
                have := HD.out.1
                rw [show 64 - j = (64 - (j + 1)) + 1 by have := HJ.out; omega, spFrom_on Hy.out H0.out t ht.out HK1.out HK2.out] at this
                rw [List.append_assoc]; exact this
            case measure => have := HJ.out; simp [intOf]; omega
          · have K1 : (t ≤ line) = True := eq_true k1
            have K2 : (line < t + (h : Int)) = False := eq_false k2
            have HK2 := Lib.hid k2
            clear k1 k2
            (refine own_region HM (by kernel_rfl) (by kernel_rfl) ?_; (try simp only [Act.put, List.setIfInBounds_toArray, List.set_cons_zero, List.set_cons_succ]); repeat ((fail_if_success (with_reducible refine wpQuiet_nil ?_)); first | go_big_quiet_skip | (go_big_quiet_want; first | ((with_reducible apply quiet_load); exact rfl; (first | (with_reducible exact agg11)); exact sS; exact dS; exact tS; go_big_quiet_op; go_big_quiet_on) | (go_big_quiet_op; go_big_quiet_on) | ((with_reducible apply quiet_call); exact fun w => rfl; (focus (go_simp; all_goals with_reducible rfl)); (intro wq HQ; first | (with_reducible exact (rtop_at y Y8.out t ht _).mono fun _ _ ⟨he, hw⟩ => ⟨he, hw ▸ Below.refl _ _⟩) | (with_reducible exact rheight_at r0 r1 r2 r3 r4 r5 r6 r7 r8 r9 r10 H1.out h hh _)); go_big_quiet_op; go_big_quiet_on) | (go_big_quiet_op; go_big_quiet_on) | (go_big_quiet_op; refine ⟨_, fun _ _ => rfl, ?_⟩; go_big_quiet_on))))
            refine wpQuiet_nil ?_
            intro w' HM'
            clear HM; have HM := HM'; clear HM'
            clear K1 K2
            go_wp2_with (first | ((with_reducible apply own_box HM); exact rfl; (conv => lhs; whnf); exact rfl; exact rfl; (first | (clear tg1 HM; intro w' g1 HM) | (clear tg2 HM; intro w' g2 HM) | (clear tg3 HM; intro w' g3 HM) | (clear tg4 HM; intro w' g4 HM) | (clear HM; intro w' g' HM))) | ((with_reducible apply own_cell HM); exact rfl; exact rfl; (first | (with_reducible exact one8) | (with_reducible exact oneInt)); exact sS; exact dS; exact rfl) | ((with_reducible apply own_load HM); exact rfl; exact rfl; (first | (with_reducible exact agg11)); exact sS; exact dS; exact tS; exact rfl) | ((with_reducible apply own_store HM); exact rfl; exact rfl; (conv => lhs; whnf); exact rfl; exact sS; exact vS; exact sS; (first | (with_reducible exact (agg11).size) | (with_reducible exact (one8).size) | (with_reducible exact (oneInt).size)); exact rfl; exact rfl; exact rfl; exact rfl; clear HM; intro w' HM))
            go_roundw
            case rel =>
              refine ⟨j + 1, _, done, by have := HJ.out; omega, by go_num, HR, ?_, HM⟩
              refine Lib.hid ⟨?_, by have := HD.out.2; omega⟩
              have := HD.out.1
              rw [show 64 - j = (64 - (j + 1)) + 1 by have := HJ.out; omega, spFrom_off Hy.out H0.out t ht.out (fun h => HK2.out h.2)] at this
              exact this
            case measure => have := HJ.out; simp [intOf]; omega
        · have K1 : (t ≤ line) = False := eq_false k1
          have HK1 := Lib.hid k1
          clear k1
          (refine own_region HM (by kernel_rfl) (by kernel_rfl) ?_; (try simp only [Act.put, List.setIfInBounds_toArray, List.set_cons_zero, List.set_cons_succ]); repeat ((fail_if_success (with_reducible refine wpQuiet_nil ?_)); first | go_big_quiet_skip | (go_big_quiet_want; first | ((with_reducible apply quiet_load); exact rfl; (first | (with_reducible exact agg11)); exact sS; exact dS; exact tS; go_big_quiet_op; go_big_quiet_on) | (go_big_quiet_op; go_big_quiet_on) | ((with_reducible apply quiet_call); exact fun w => rfl; (focus (go_simp; all_goals with_reducible rfl)); (intro wq HQ; first | (with_reducible exact (rtop_at y Y8.out t ht _).mono fun _ _ ⟨he, hw⟩ => ⟨he, hw ▸ Below.refl _ _⟩) | (with_reducible exact rheight_at r0 r1 r2 r3 r4 r5 r6 r7 r8 r9 r10 H1.out h hh _)); go_big_quiet_op; go_big_quiet_on) | (go_big_quiet_op; go_big_quiet_on) | (go_big_quiet_op; refine ⟨_, fun _ _ => rfl, ?_⟩; go_big_quiet_on))))
          refine wpQuiet_nil ?_
          intro w' HM'
          clear HM; have HM := HM'; clear HM'
          clear K1
          go_wp2_with (first | ((with_reducible apply own_box HM); exact rfl; (conv => lhs; whnf); exact rfl; exact rfl; (first | (clear tg1 HM; intro w' g1 HM) | (clear tg2 HM; intro w' g2 HM) | (clear tg3 HM; intro w' g3 HM) | (clear tg4 HM; intro w' g4 HM) | (clear HM; intro w' g' HM))) | ((with_reducible apply own_cell HM); exact rfl; exact rfl; (first | (with_reducible exact one8) | (with_reducible exact oneInt)); exact sS; exact dS; exact rfl) | ((with_reducible apply own_load HM); exact rfl; exact rfl; (first | (with_reducible exact agg11)); exact sS; exact dS; exact tS; exact rfl) | ((with_reducible apply own_store HM); exact rfl; exact rfl; (conv => lhs; whnf); exact rfl; exact sS; exact vS; exact sS; (first | (with_reducible exact (agg11).size) | (with_reducible exact (one8).size) | (with_reducible exact (oneInt).size)); exact rfl; exact rfl; exact rfl; exact rfl; clear HM; intro w' HM))
          go_roundw
          case rel =>
            refine ⟨j + 1, _, done, by have := HJ.out; omega, by go_num, HR, ?_, HM⟩
            refine Lib.hid ⟨?_, by have := HD.out.2; omega⟩
            have := HD.out.1
            rw [show 64 - j = (64 - (j + 1)) + 1 by have := HJ.out; omega, spFrom_off Hy.out H0.out t ht.out (fun h => HK1.out h.1)] at this
            exact this
          case measure => have := HJ.out; simp [intOf]; omega
    · obtain rfl : j = 64 := by omega
      go_wp2_with (first | ((with_reducible apply own_box HM); exact rfl; (conv => lhs; whnf); exact rfl; exact rfl; (first | (clear tg1 HM; intro w' g1 HM) | (clear tg2 HM; intro w' g2 HM) | (clear tg3 HM; intro w' g3 HM) | (clear tg4 HM; intro w' g4 HM) | (clear HM; intro w' g' HM))) | ((with_reducible apply own_cell HM); exact rfl; exact rfl; (first | (with_reducible exact one8) | (with_reducible exact oneInt)); exact sS; exact dS; exact rfl) | ((with_reducible apply own_load HM); exact rfl; exact rfl; (first | (with_reducible exact agg11)); exact sS; exact dS; exact tS; exact rfl) | ((with_reducible apply own_store HM); exact rfl; exact rfl; (conv => lhs; whnf); exact rfl; exact sS; exact vS; exact sS; (first | (with_reducible exact (agg11).size) | (with_reducible exact (one8).size) | (with_reducible exact (oneInt).size)); exact rfl; exact rfl; exact rfl; exact rfl; clear HM; intro w' HM))
      go_ret
      have e1 : done = L := by have := HD.out.1; rw [show 64 - 64 = 0 from rfl] at this; unfold spFrom at this; rw [List.append_nil] at this; exact this
      rw [e1] at HR
      exact ⟨_, R, rfl, HR.out, Own.rows (l := [_]) HM.out, Own.fin HM⟩
theorem rowN_num {w : World} {B : Nat} {R : List (Nat × TypeId × List Value)} {v : Value} {t : TypeId} {L : List Nat} (h : RowN 1 t R v L.length (nts L)) (hW : ∀ x ∈ R, B ≤ x.1 ∧ Whole w x.1 x.2.1 x.2.2) : ∃ p c, v = .slice p L.length c ∧ NumRow w p L := by
  obtain ⟨_, ⟨rfl, rfl, h0⟩ | ⟨g, cap, cur, rfl, rfl, h1, h2, h3, h4⟩⟩ := h
  · exact ⟨none, 0, by rw [h0], fun hn => by omega⟩
  · refine ⟨_, cap, rfl, fun _ => ⟨g, 0, rfl, (hW (g, t, cur) (by simp)).2.inside, fun i x hx => ?_⟩⟩
    rw [Nat.zero_add, (hW (g, t, cur) (by simp)).2.at_]
    have hi : i < L.length := (List.getElem?_eq_some_iff.1 hx).1
    have e1 : (cur.take (L.length * 1))[i]? = cur[i]? := by rw [List.getElem?_take, if_pos (by omega)]
    rw [← e1, h4]
    exact nts_get L i x hx
theorem ron_num (a : Option Addr) (n cap : Nat) (xs : Nat → Nat) (r0 r1 r2 r3 r4 r5 r6 r7 r8 r9 r10 : Nat) (line : Int) (b1 : r1 < 256) (b5 : r5 < 256) (l0 : 0 ≤ line) (l1 : line ≤ 191) (L : List Nat) (hL : Hid (spL n xs r1 r5 line = L)) (w : World) (hV : ByteRow w a n xs) :
    Calls Try.prog 25 #[.slice a n cap, regsV r0 r1 r2 r3 r4 r5 r6 r7 r8 r9 r10, .int .i64 line] w fun e w' => ∃ p c, e = .returned (.slice p L.length c) ∧ NumRow w' p L ∧ Below w.heap.size w w' :=
  (ron_at a n cap xs r0 r1 r2 r3 r4 r5 r6 r7 r8 r9 r10 line b1 b5 l0 l1 L hL w hV).mono fun e w' ⟨v, R, h1, h2, h3, h4⟩ => by
    obtain ⟨p, c, rfl, hp⟩ := rowN_num h2 h3
    exact ⟨p, c, h1, hp, h4⟩
theorem ron_n (a : Option Addr) (n cap : Nat) (xs : Nat → Nat) (r0 r1 r2 r3 r4 r5 r6 r7 r8 r9 r10 : Nat) (line : Int) (b1 : r1 < 256) (b5 : r5 < 256) (l0 : 0 ≤ line) (l1 : line ≤ 191) (L : List Nat) (k : Nat) (hL : Hid (spL n xs r1 r5 line = L)) (hk : Hid (L.length = k)) (w : World) (hV : ByteRow w a n xs) :
    Calls Try.prog 25 #[.slice a n cap, regsV r0 r1 r2 r3 r4 r5 r6 r7 r8 r9 r10, .int .i64 line] w fun e w' => ∃ p c, e = .returned (.slice p k c) ∧ NumRow w' p L ∧ Below w.heap.size w w' := by
  obtain rfl : L.length = k := hk.out
  exact ron_num a n cap xs r0 r1 r2 r3 r4 r5 r6 r7 r8 r9 r10 line b1 b5 l0 l1 L hL w hV
theorem own_oldwhole {P : Program} {W0 w : World} {l : List (Nat × TypeId × List Value)} {ops : Array Oper} {rest : List Oper} {o : Oper} {a : Act} {Q : Exit → Act → World → Prop} {ty : TypeId} {x : Operand} {g n : Nat} {cs : List Value} (HM : Hid (Own W0 w l)) (ho : o.op = .load ty x) (hx : a.eval x = .pointer (some ⟨g, 0, none⟩)) (hty : Agg P ty n)
    (hc : ∀ (j : Nat) (v : Value), cs[j]? = some v → W0.cell? ⟨g, j, none⟩ = some v) (hl : cs.length = n) (hw : Region.wanted o (yielded ops a.tmps) = true)
    (h : wpList P ops Q rest (a.put o.dst (.agg cs.toArray)) w) : wpList P ops Q (o :: rest) a w := by
  refine wpList_wanted hw fun K hK => ?_
  obtain ⟨⟨d, hu, hr⟩, hsz⟩ := hty
  refine wp_load_mid ty x ho g 0 hx cs d ?_ hu hr (by rw [hl]; exact hsz) (hK _ _ h)
  intro j v hv
  have hc' := hc _ _ hv
  rw [Nat.zero_add]
  exact (HM.out.below.cell (block_lt_of_cell hc')).trans hc'
theorem oneInt' : One Try.prog 3 := ⟨⟨_, Try.underlying3, rfl⟩, by kernel_rfl⟩
set_option maxRecDepth 100000 in
set_option maxHeartbeats 6400000 in
theorem ratsp_in (a : Option Addr) (n cap : Nat) (xs : Nat → Nat) (r0 r1 r2 r3 r4 r5 r6 r7 r8 r9 r10 x : Nat) (line : Int) (b0 : r0 < 256) (b1 : r1 < 256) (b5 : r5 < 256) (b6 : r6 < 256) (l0 : 0 ≤ line) (l1 : line ≤ 191) (hx : x < 256) (v : Nat) (m : Bool) (hv : Hid (spC n xs r0 r1 r5 r6 line x = v)) (hm : Hid (decide (1 < spCnt (spDots n xs r0 r1 r5 r6 line x)) = m)) (w : World) (hV : ByteRow w a n xs) :
    Calls Try.prog 24 #[.slice a n cap, regsV r0 r1 r2 r3 r4 r5 r6 r7 r8 r9 r10, .int .i64 line, .int .i64 (x : Int)] w fun e w' => e = .returned (.tuple #[.int .u8 (v : Int), .bool m]) ∧ Below w.heap.size w w' := by
  have HM := Lib.hid (Own.start w)
  have tg1 : Hid True := trivial
  have tg2 : Hid True := trivial
  have HV := Lib.hid hV
  have H0 := Lib.hid b0
  have H1 := Lib.hid b1
  have H5 := Lib.hid b5
  have H6 := Lib.hid b6
  have L0 := Lib.hid l0
  have L1 := Lib.hid l1
  obtain ⟨L, hL⟩ : ∃ L, Hid (spL n xs r1 r5 line = L) := ⟨_, rfl⟩
  obtain ⟨k, hk⟩ : ∃ k, Hid (L.length = k) := ⟨_, rfl⟩
  have HK : Hid (k ≤ 64) := Lib.hid (by rw [← hk.out, ← hL.out]; exact spFrom_le _ _ _ _ _)
  have HLT : Hid (∀ i ∈ L, i < 64 ∧ spTop (mem n xs (spBase r5 + i)) ≤ line) := Lib.hid fun i hi => by
    rw [← hL.out] at hi
    have h1 := spFrom_lt _ _ _ _ _ i hi
    exact ⟨by omega, spFrom_top (Y := spY n xs r5) _ _ i hi⟩
  have HXX := Lib.hid hx
  obtain ⟨D, hD⟩ : ∃ D, Hid ((L.take 8).map (spDot n xs r0 r1 r5 r6 line x) = D) := ⟨_, rfl⟩
  have HD16 : Hid (∀ d ∈ D, d < 16) := Lib.hid fun d hd => by
    rw [← hD.out] at hd
    obtain ⟨i, _, rfl⟩ := List.mem_map.1 hd
    exact spDotV_lt (tAt_lt n xs) _ _ _ _ _ _ _ _
  have HVv : Hid (spCol D = v ∧ decide (1 < spCnt D) = m) := Lib.hid (by
    have e : spDots n xs r0 r1 r5 r6 line x = D := by unfold spDots; rw [hL.out, hD.out]
    rw [← hv.out, ← hm.out]; unfold spC; rw [e]; exact ⟨rfl, rfl⟩)
  clear hV b0 b1 b5 b6 l0 l1 hx hv hm
  go_enter Try.func24, Try.ntmps24
  go_upto_region 3 with (first | ((with_reducible apply own_box HM); exact rfl; (conv => lhs; whnf); exact rfl; exact rfl; (first | (clear tg1 HM; intro w' g1 HM) | (clear tg2 HM; intro w' g2 HM) | (clear tg3 HM; intro w' g3 HM) | (clear tg4 HM; intro w' g4 HM) | (clear HM; intro w' g' HM))) | ((with_reducible apply own_cell HM); exact rfl; exact rfl; (first | (with_reducible exact one8) | (with_reducible exact oneInt)); exact sS; exact dS; exact rfl) | ((with_reducible apply own_load HM); exact rfl; exact rfl; (first | (with_reducible exact agg11) | (with_reducible exact agg2i)); exact sS; exact dS; exact tS; exact rfl) | ((with_reducible apply own_store HM); exact rfl; exact rfl; (conv => lhs; whnf); exact rfl; exact sS; exact vS; exact sS; (first | (with_reducible exact (agg11).size) | (with_reducible exact (agg2i).size) | (with_reducible exact (one8).size) | (with_reducible exact (oneInt).size)); exact rfl; exact rfl; exact rfl; exact rfl; clear HM; intro w' HM) | (go_at_call 25; (with_reducible refine (ron_n a n cap xs r0 r1 r2 r3 r4 r5 r6 r7 r8 r9 r10 line H1.out H5.out L0.out L1.out L k hL hk _ (HV.out.under (Own.fin HM))).mono ?_); rintro e w2 ⟨p2, cp2, rfl, HN, hb⟩; replace HM := Lib.hid (HM.out.call hb); clear hb))
  have HN' := Lib.hid HN
  have HCR : Hid (∀ (j : Nat) (v : Value), ([.int .u8 (r0 : Int), .int .u8 (r1 : Int), .int .u8 (r2 : Int), .int .u8 (r3 : Int), .int .u8 (r4 : Int), .int .u8 (r5 : Int), .int .u8 (r6 : Int), .int .u8 (r7 : Int), .int .u8 (r8 : Int), .int .u8 (r9 : Int), .int .u8 (r10 : Int)] : List Value)[j]? = some v → w2.cell? ⟨g1, j, none⟩ = some v) := Lib.hid fun j v hv => by rw [(HM.out.at_ .z).at_]; exact hv
  have HV2 := Lib.hid (HV.out.under (Own.fin HM))
  have HM0 := HM
  clear HM HN
  have HM := Lib.hid (Own.start w2)
  go_loopw [10, 11, 20] (fun cv mv iv wr => ∃ (j c q : Nat), j ≤ k ∧ iv = .int .i64 (j : Int) ∧ cv = .int .u8 (c : Int) ∧ mv = .int .i64 (q : Int) ∧ Hid (spCol (D.take j) = c ∧ spCnt (D.take j) = q ∧ q ≤ j) ∧ Hid (Own w2 wr [])) (fun _ _ iv _ => k - (intOf iv).toNat)
  case atStart => exact ⟨0, 0, 0, by omega, rfl, rfl, rfl, Lib.hid ⟨rfl, rfl, Nat.le_refl _⟩, HM⟩
  case round =>
    clear HM
    obtain ⟨j, c, q, hj, rfl, rfl, rfl, HS, HM⟩ := hrel
    by_cases hlt : j < k
    · have hlt' : (j : Int) < (k : Int) := by omega
      have k64 : (k : Int) ≤ 64 := by have := HK.out; omega
      have q64 : (q : Int) ≤ 64 := by have := HS.out.2.2; have := HK.out; omega
      have HJ := Lib.hid hlt
      have hkl : j < L.length := by rw [hk.out]; exact hlt
      obtain ⟨i, hi⟩ : ∃ i, L[j]? = some i := ⟨_, List.getElem?_eq_getElem hkl⟩
      have HI : Hid (i < 64 ∧ spTop (mem n xs (spBase r5 + i)) ≤ line) := Lib.hid (HLT.out i (List.mem_of_getElem? hi))
      obtain ⟨gn, on_, ep, hgn, hcn⟩ := HN'.out (by omega)
      subst ep
      have HCL := Lib.hid (hcn j i hi)
      have HLJ := Lib.hid hi
      clear hgn hcn hi hkl hlt hj
      by_cases h8 : j < 8
      · obtain ⟨d, hd⟩ : ∃ d, Hid (spDot n xs r0 r1 r5 r6 line x i = d) := ⟨_, rfl⟩
        have h8' : (j : Int) < 8 := by omega
        have hDj : D[j]? = some d := by rw [← hD.out, List.getElem?_map, List.getElem?_take, if_pos h8, HLJ.out]; exact congrArg some hd.out
        have HT : Hid (D.take (j + 1) = D.take j ++ [d]) := Lib.hid (by rw [List.take_add_one, hDj]; rfl)
        have d16 : d < 16 := HD16.out d (List.mem_of_getElem? hDj)
        clear hDj h8
        have HS' := HS.out
        by_cases d0 : d = 0
        · have e1 : spCol (D.take (j + 1)) = c := by
            rw [HT.out, spCol_snoc, d0]
            by_cases q0 : spCnt (D.take j) = 0
            · rw [if_pos q0]; exact (spCol_none _ q0).symm.trans HS'.1
            · rw [if_neg q0]; exact HS'.1
          have e2 : spCnt (D.take (j + 1)) = q := by rw [HT.out, spCnt_snoc, if_pos d0]; exact HS'.2.1
          have HE := Lib.hid (And.intro e1 e2)
          have D0 : ¬ (0 : Int) < (d : Int) := by omega
          clear e1 e2 HS' d16 d0
          go_wp2_with (first | ((with_reducible apply own_oldwhole HM); exact rfl; exact rfl; exact agg11; exact HCR.out; exact rfl; exact rfl) | ((with_reducible apply own_old HM); exact rfl; exact rfl; (with_reducible exact oneInt); exact HCL.out; exact rfl; exact rfl) | (go_at_call 38; (with_reducible refine (rspdot_in a n cap xs r0 r1 r2 r3 r4 r5 r6 r7 r8 r9 r10 i x line H0.out H1.out H5.out H6.out HI.out.1 L1.out HXX.out HI.out.2 d hd _ (HV2.out.under (Own.fin HM))).mono ?_); rintro e w' ⟨rfl, hb⟩; replace HM := Lib.hid (HM.out.call hb); clear hb) | ((with_reducible apply own_box HM); exact rfl; (conv => lhs; whnf); exact rfl; exact rfl; (first | (clear tg1 HM; intro w' g1 HM) | (clear tg2 HM; intro w' g2 HM) | (clear tg3 HM; intro w' g3 HM) | (clear tg4 HM; intro w' g4 HM) | (clear HM; intro w' g' HM))) | ((with_reducible apply own_cell HM); exact rfl; exact rfl; (first | (with_reducible exact one8) | (with_reducible exact oneInt)); exact sS; exact dS; exact rfl) | ((with_reducible apply own_load HM); exact rfl; exact rfl; (first | (with_reducible exact agg11) | (with_reducible exact agg2i)); exact sS; exact dS; exact tS; exact rfl) | ((with_reducible apply own_store HM); exact rfl; exact rfl; (conv => lhs; whnf); exact rfl; exact sS; exact vS; exact sS; (first | (with_reducible exact (agg11).size) | (with_reducible exact (agg2i).size) | (with_reducible exact (one8).size) | (with_reducible exact (oneInt).size)); exact rfl; exact rfl; exact rfl; exact rfl; clear HM; intro w' HM))
          go_roundw
          case rel => exact ⟨j + 1, c, q, by have := HJ.out; omega, by go_num, rfl, rfl, Lib.hid ⟨HE.out.1, HE.out.2, by have := HS.out.2.2; omega⟩, HM⟩
          case measure => have := HJ.out; simp [intOf]; omega
        · have D1 : (0 : Int) < (d : Int) := by omega
          have D2 : (d : Int) < 16 := by omega
          by_cases q0 : q = 0
          · have HE : Hid (spCol (D.take (j + 1)) = 16 + d ∧ spCnt (D.take (j + 1)) = 1) := Lib.hid ⟨by rw [HT.out, spCol_snoc, if_pos (HS'.2.1.trans q0), if_neg d0], by rw [HT.out, spCnt_snoc, if_neg d0, HS'.2.1, q0]⟩
            subst q0
            clear HS' d16 d0
            go_wp2_with (first | ((with_reducible apply own_oldwhole HM); exact rfl; exact rfl; exact agg11; exact HCR.out; exact rfl; exact rfl) | ((with_reducible apply own_old HM); exact rfl; exact rfl; (with_reducible exact oneInt); exact HCL.out; exact rfl; exact rfl) | (go_at_call 38; (with_reducible refine (rspdot_in a n cap xs r0 r1 r2 r3 r4 r5 r6 r7 r8 r9 r10 i x line H0.out H1.out H5.out H6.out HI.out.1 L1.out HXX.out HI.out.2 d hd _ (HV2.out.under (Own.fin HM))).mono ?_); rintro e w' ⟨rfl, hb⟩; replace HM := Lib.hid (HM.out.call hb); clear hb) | ((with_reducible apply own_box HM); exact rfl; (conv => lhs; whnf); exact rfl; exact rfl; (first | (clear tg1 HM; intro w' g1 HM) | (clear tg2 HM; intro w' g2 HM) | (clear tg3 HM; intro w' g3 HM) | (clear tg4 HM; intro w' g4 HM) | (clear HM; intro w' g' HM))) | ((with_reducible apply own_cell HM); exact rfl; exact rfl; (first | (with_reducible exact one8) | (with_reducible exact oneInt)); exact sS; exact dS; exact rfl) | ((with_reducible apply own_load HM); exact rfl; exact rfl; (first | (with_reducible exact agg11) | (with_reducible exact agg2i)); exact sS; exact dS; exact tS; exact rfl) | ((with_reducible apply own_store HM); exact rfl; exact rfl; (conv => lhs; whnf); exact rfl; exact sS; exact vS; exact sS; (first | (with_reducible exact (agg11).size) | (with_reducible exact (agg2i).size) | (with_reducible exact (one8).size) | (with_reducible exact (oneInt).size)); exact rfl; exact rfl; exact rfl; exact rfl; clear HM; intro w' HM))
            go_roundw
            case rel => exact ⟨j + 1, 16 + d, 1, by have := HJ.out; omega, by go_num, by go_num, rfl, Lib.hid ⟨HE.out.1, HE.out.2, by omega⟩, HM⟩
            case measure => have := HJ.out; simp [intOf]; omega
          · have HE : Hid (spCol (D.take (j + 1)) = c ∧ spCnt (D.take (j + 1)) = q + 1) := Lib.hid ⟨by rw [HT.out, spCol_snoc, if_neg (fun e => q0 (HS'.2.1.symm.trans e))]; exact HS'.1, by rw [HT.out, spCnt_snoc, if_neg d0, HS'.2.1]⟩
            have Q1 : ¬ (q : Int) + 1 = 1 := by omega
            have Q2 : ((q : Int) + 1 == 1) = false := by simp; omega
            clear HS' d16 d0 q0
            go_wp2_with (first | ((with_reducible apply own_oldwhole HM); exact rfl; exact rfl; exact agg11; exact HCR.out; exact rfl; exact rfl) | ((with_reducible apply own_old HM); exact rfl; exact rfl; (with_reducible exact oneInt); exact HCL.out; exact rfl; exact rfl) | (go_at_call 38; (with_reducible refine (rspdot_in a n cap xs r0 r1 r2 r3 r4 r5 r6 r7 r8 r9 r10 i x line H0.out H1.out H5.out H6.out HI.out.1 L1.out HXX.out HI.out.2 d hd _ (HV2.out.under (Own.fin HM))).mono ?_); rintro e w' ⟨rfl, hb⟩; replace HM := Lib.hid (HM.out.call hb); clear hb) | ((with_reducible apply own_box HM); exact rfl; (conv => lhs; whnf); exact rfl; exact rfl; (first | (clear tg1 HM; intro w' g1 HM) | (clear tg2 HM; intro w' g2 HM) | (clear tg3 HM; intro w' g3 HM) | (clear tg4 HM; intro w' g4 HM) | (clear HM; intro w' g' HM))) | ((with_reducible apply own_cell HM); exact rfl; exact rfl; (first | (with_reducible exact one8) | (with_reducible exact oneInt)); exact sS; exact dS; exact rfl) | ((with_reducible apply own_load HM); exact rfl; exact rfl; (first | (with_reducible exact agg11) | (with_reducible exact agg2i)); exact sS; exact dS; exact tS; exact rfl) | ((with_reducible apply own_store HM); exact rfl; exact rfl; (conv => lhs; whnf); exact rfl; exact sS; exact vS; exact sS; (first | (with_reducible exact (agg11).size) | (with_reducible exact (agg2i).size) | (with_reducible exact (one8).size) | (with_reducible exact (oneInt).size)); exact rfl; exact rfl; exact rfl; exact rfl; clear HM; intro w' HM))
            go_roundw
            case rel => exact ⟨j + 1, c, q + 1, by have := HJ.out; omega, by go_num, rfl, by go_num, Lib.hid ⟨HE.out.1, HE.out.2, by have := HS.out.2.2; omega⟩, HM⟩
            case measure => have := HJ.out; simp [intOf]; omega
      · have h8' : ¬ (j : Int) < 8 := by omega
        have HT : Hid (D.take (j + 1) = D.take j) := Lib.hid (by
          have : D.length ≤ 8 := by rw [← hD.out, List.length_map, List.length_take]; omega
          rw [List.take_of_length_le (by omega), List.take_of_length_le (by omega)])
        clear h8
        go_wp2_with (first | ((with_reducible apply own_oldwhole HM); exact rfl; exact rfl; exact agg11; exact HCR.out; exact rfl; exact rfl) | ((with_reducible apply own_old HM); exact rfl; exact rfl; (with_reducible exact oneInt); exact HCL.out; exact rfl; exact rfl) | (go_at_call 38; (with_reducible refine (rspdot_in a n cap xs r0 r1 r2 r3 r4 r5 r6 r7 r8 r9 r10 i x line H0.out H1.out H5.out H6.out HI.out.1 L1.out HXX.out HI.out.2 d hd _ (HV2.out.under (Own.fin HM))).mono ?_); rintro e w' ⟨rfl, hb⟩; replace HM := Lib.hid (HM.out.call hb); clear hb) | ((with_reducible apply own_box HM); exact rfl; (conv => lhs; whnf); exact rfl; exact rfl; (first | (clear tg1 HM; intro w' g1 HM) | (clear tg2 HM; intro w' g2 HM) | (clear tg3 HM; intro w' g3 HM) | (clear tg4 HM; intro w' g4 HM) | (clear HM; intro w' g' HM))) | ((with_reducible apply own_cell HM); exact rfl; exact rfl; (first | (with_reducible exact one8) | (with_reducible exact oneInt)); exact sS; exact dS; exact rfl) | ((with_reducible apply own_load HM); exact rfl; exact rfl; (first | (with_reducible exact agg11) | (with_reducible exact agg2i)); exact sS; exact dS; exact tS; exact rfl) | ((with_reducible apply own_store HM); exact rfl; exact rfl; (conv => lhs; whnf); exact rfl; exact sS; exact vS; exact sS; (first | (with_reducible exact (agg11).size) | (with_reducible exact (agg2i).size) | (with_reducible exact (one8).size) | (with_reducible exact (oneInt).size)); exact rfl; exact rfl; exact rfl; exact rfl; clear HM; intro w' HM))
        go_roundw
        case rel => exact ⟨j + 1, c, q, by have := HJ.out; omega, by go_num, rfl, rfl, Lib.hid ⟨by rw [HT.out]; exact HS.out.1, by rw [HT.out]; exact HS.out.2.1, by have := HS.out.2.2; omega⟩, HM⟩
        case measure => have := HJ.out; simp [intOf]; omega
    · have hjk : j = k := by omega
      have eD : D.take j = D := List.take_of_length_le (by rw [← hD.out, List.length_map, List.length_take, hk.out]; omega)
      have hge : ¬ (j : Int) < (k : Int) := by omega
      have q64 : (q : Int) ≤ 64 := by have := HS.out.2.2; have := HK.out; omega
      have HE : Hid (c = v ∧ decide (1 < q) = m) := Lib.hid (by
        have e1 := HS.out
        rw [eD] at e1
        exact ⟨e1.1.symm.trans HVv.out.1, by rw [← e1.2.1]; exact HVv.out.2⟩)
      have EM : decide ((1 : Int) < (q : Int)) = m := by rw [← HE.out.2]; exact decide_eq_decide.2 (by omega)
      obtain rfl := HE.out.1
      clear hlt hj hjk eD
      go_wp2_with (first | ((with_reducible apply own_box HM); exact rfl; (conv => lhs; whnf); exact rfl; exact rfl; (first | (clear tg1 HM; intro w' g1 HM) | (clear tg2 HM; intro w' g2 HM) | (clear tg3 HM; intro w' g3 HM) | (clear tg4 HM; intro w' g4 HM) | (clear HM; intro w' g' HM))) | ((with_reducible apply own_cell HM); exact rfl; exact rfl; (first | (with_reducible exact one8) | (with_reducible exact oneInt)); exact sS; exact dS; exact rfl) | ((with_reducible apply own_load HM); exact rfl; exact rfl; (first | (with_reducible exact agg11) | (with_reducible exact agg2i)); exact sS; exact dS; exact tS; exact rfl) | ((with_reducible apply own_store HM); exact rfl; exact rfl; (conv => lhs; whnf); exact rfl; exact sS; exact vS; exact sS; (first | (with_reducible exact (agg11).size) | (with_reducible exact (agg2i).size) | (with_reducible exact (one8).size) | (with_reducible exact (oneInt).size)); exact rfl; exact rfl; exact rfl; exact rfl; clear HM; intro w' HM))
      go_ret2
      first
        | exact ⟨by rw [EM], Own.fin (Lib.hid (HM0.out.call (Own.fin HM)))⟩
        | exact ⟨rfl, Own.fin (Lib.hid (HM0.out.call (Own.fin HM)))⟩
        | exact ⟨by simp only [EM], Own.fin (Lib.hid (HM0.out.call (Own.fin HM)))⟩
        | exact ⟨by simp [← EM], Own.fin (Lib.hid (HM0.out.call (Own.fin HM)))⟩
set_option maxRecDepth 100000 in
theorem rpaint_at (a : Option Addr) (n cap : Nat) (xs : Nat → Nat) (v : Int) (k p : Nat) (hk : Hid (v % 32 = (k : Int))) (hp : Hid (vget n xs k % 64 = p)) (w : World) (hV : ByteRow w a n xs) :
    Calls Try.prog 16 #[.slice a n cap, .int .i64 v] w fun e w' => e = .returned (.int .u8 (p : Int)) ∧ w = w' := by
  obtain ⟨q, hq⟩ : ∃ q, v.tmod 32 = q := ⟨_, rfl⟩
  have hw := tmod_way v 32 k (by decide) hk.out
  rw [hq] at hw
  have hk0 : v % 32 = (k : Int) := hk.out
  have k32 : (k : Int) < 32 := by omega
  have k0 : (0 : Int) ≤ (k : Int) := Int.natCast_nonneg k
  have q2 : -32 ≤ q := by
    rcases hw with ⟨h1, h2⟩ | ⟨h1, h2⟩
    · have := h2; omega
    · have := h1; omega
  have q3 : q < 32 := by
    rcases hw with ⟨h1, h2⟩ | ⟨h1, h2⟩
    · omega
    · have := h1; omega
  have Q : (q + 32).tmod 32 = (k : Int) := by rw [Int.tmod_eq_emod_of_nonneg (by omega)]; omega
  have h := hp.out
  unfold vget at h
  by_cases hlt : k < n
  · rw [if_pos hlt] at h
    obtain ⟨g, o, rfl, hg, hc⟩ := hV (by omega)
    have hc' := (hc k hlt).1
    have x8 : ((xs k : Nat) : Int) < 256 := by have := (hc k hlt).2; omega
    obtain ⟨x, hx⟩ : ∃ x, xs k = x := ⟨_, rfl⟩
    rw [hx] at hc' h x8
    have E1 : (x : Int) % 64 = (p : Int) := by omega
    have E2 : (x : Int).tmod 64 = (p : Int) := by rw [Int.tmod_eq_emod_of_nonneg (by omega)]; exact E1
    have hlt' : (k : Int) < (n : Int) := by omega
    have p64 : (p : Int) < 64 := by omega
    clear h hc hk hp hV hlt hw hk0 hx
    go_enter Try.func16, Try.ntmps16
    go_wp2
    go_ret
    first
      | exact ⟨rfl, rfl⟩
      | exact ⟨by rw [E1], rfl⟩
  · rw [if_neg hlt] at h
    have hge : (n : Int) ≤ (k : Int) := by omega
    obtain rfl : p = 0 := by omega
    clear hk hp hV hlt hw hk0 h
    go_enter Try.func16, Try.ntmps16
    go_wp2
    go_ret
    exact ⟨rfl, rfl⟩
end Go.Proofs.Ytijjigacmmhloaa
