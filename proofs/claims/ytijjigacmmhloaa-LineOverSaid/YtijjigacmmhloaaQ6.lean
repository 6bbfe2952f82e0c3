import Derived.Test.YtijjigacmmhloaaQ5
namespace Go.Proofs.Ytijjigacmmhloaa
open Go.RowKit
theorem RowN.shape {sz : Nat} {t : TypeId} {R : List (Nat × TypeId × List Value)} {v : Value} {k : Nat} {xs : List Value} (h : RowN sz t R v k xs) : ∃ p c, v = .slice p k c := by
  obtain ⟨_, ⟨_, rfl, rfl⟩ | ⟨g, cap, cur, _, rfl, _⟩⟩ := h
  · exact ⟨none, 0, rfl⟩
  · exact ⟨_, cap, rfl⟩
theorem take8 {L done rest : List Nat} (h : done ++ rest = L) (hd : done.length = 8) : L.take 8 = done := by rw [← h, ← hd]; exact List.take_left
set_option maxRecDepth 100000 in
set_option maxHeartbeats 3200000 in
theorem on_own (a : Option Addr) (n cap : Nat) (xs : Nat → Nat) (r0 r1 r2 r3 r4 r5 r6 r7 r8 r9 r10 : Nat) (line : Int) (b1 : r1 < 256) (b5 : r5 < 256) (l0 : 0 ≤ line) (l1 : line ≤ 191) (L : List Nat) (hL : Hid (spL n xs r1 r5 line = L)) (w : World) (hV : ByteRow w a n xs) :
    Calls Try.prog 33 #[.slice a n cap, regsV r0 r1 r2 r3 r4 r5 r6 r7 r8 r9 r10, .int .i64 line] w fun e w' => ∃ v R, e = .returned (.tuple #[v, .bool (decide (8 < L.length))]) ∧ RowN 1 3 R v (L.take 8).length (nts (L.take 8)) ∧ (∀ x ∈ R, w.heap.size ≤ x.1 ∧ Whole w' x.1 x.2.1 x.2.2) ∧ Below w.heap.size w w' := by
  have HM := Lib.hid (Own.start w)
  have tg1 : Hid True := trivial
  have HV := Lib.hid hV
  have H1 := Lib.hid b1
  have H5 := Lib.hid b5
  obtain ⟨h, hh⟩ : ∃ h, Hid (spH r1 = h) := ⟨_, rfl⟩
  obtain ⟨b, hb⟩ : ∃ b, Hid (spBase r5 = b) := ⟨_, rfl⟩
  have hb1 : (b : Int) ≤ 16128 := by have := spBase_le r5; rw [hb.out] at this; omega
  have hh1 : (h : Int) ≤ 32 := by have := (spH_le r1).2; rw [hh.out] at this; omega
  obtain ⟨Y, hY⟩ : ∃ Y, Hid (spY n xs r5 = Y) := ⟨_, rfl⟩
  have HL : Hid (spFrom Y h line 64 0 = L) := Lib.hid (by rw [← hY.out, ← hh.out]; exact hL.out)
  clear hL hV b1 b5
  go_enter Try.func33, Try.ntmps33
  go_upto_region 4 with (first | ((with_reducible apply own_box HM); exact rfl; (conv => lhs; whnf); exact rfl; exact rfl; (first | (clear tg1 HM; intro w' g1 HM) | (clear tg2 HM; intro w' g2 HM) | (clear tg3 HM; intro w' g3 HM) | (clear tg4 HM; intro w' g4 HM) | (clear HM; intro w' g' HM))) | ((with_reducible apply own_cell HM); exact rfl; exact rfl; (first | (with_reducible exact one8) | (with_reducible exact oneInt)); exact sS; exact dS; exact rfl) | ((with_reducible apply own_load HM); exact rfl; exact rfl; (first | (with_reducible exact agg11)); exact sS; exact dS; exact tS; exact rfl) | ((with_reducible apply own_store HM); exact rfl; exact rfl; (conv => lhs; whnf); exact rfl; exact sS; exact vS; exact sS; (first | (with_reducible exact (agg11).size) | (with_reducible exact (one8).size) | (with_reducible exact (oneInt).size)); exact rfl; exact rfl; exact rfl; exact rfl; clear HM; intro w' HM))
  (refine own_region HM (by kernel_rfl) (by kernel_rfl) ?_; (try simp only [Act.put, List.setIfInBounds_toArray, List.set_cons_zero, List.set_cons_succ]); repeat ((fail_if_success (with_reducible refine wpQuiet_nil ?_)); first | go_big_quiet_skip | (go_big_quiet_want; first | ((with_reducible apply quiet_load); exact rfl; (first | (with_reducible exact agg11)); exact sS; exact dS; exact tS; go_big_quiet_op; go_big_quiet_on) | ((with_reducible apply quiet_call); exact fun w => rfl; (focus (go_simp; all_goals with_reducible rfl)); (intro wq HQ; first | (with_reducible exact table_at r0 r1 r2 r3 r4 r5 r6 r7 r8 r9 r10 H5.out b hb _) | (with_reducible exact height_at r0 r1 r2 r3 r4 r5 r6 r7 r8 r9 r10 H1.out h hh _)); go_big_quiet_op; go_big_quiet_on) | (go_big_quiet_op; go_big_quiet_on) | (go_big_quiet_op; refine ⟨_, fun _ _ => rfl, ?_⟩; go_big_quiet_on))))
  refine wpQuiet_nil ?_
  intro w' HM'
  clear HM; have HM := HM'; clear HM'
  go_upto_region 6 with (first | ((with_reducible apply own_box HM); exact rfl; (conv => lhs; whnf); exact rfl; exact rfl; (first | (clear tg1 HM; intro w' g1 HM) | (clear tg2 HM; intro w' g2 HM) | (clear tg3 HM; intro w' g3 HM) | (clear tg4 HM; intro w' g4 HM) | (clear HM; intro w' g' HM))) | ((with_reducible apply own_cell HM); exact rfl; exact rfl; (first | (with_reducible exact one8) | (with_reducible exact oneInt)); exact sS; exact dS; exact rfl) | ((with_reducible apply own_load HM); exact rfl; exact rfl; (first | (with_reducible exact agg11)); exact sS; exact dS; exact tS; exact rfl) | ((with_reducible apply own_store HM); exact rfl; exact rfl; (conv => lhs; whnf); exact rfl; exact sS; exact vS; exact sS; (first | (with_reducible exact (agg11).size) | (with_reducible exact (one8).size) | (with_reducible exact (oneInt).size)); exact rfl; exact rfl; exact rfl; exact rfl; clear HM; intro w' HM))
  go_loopw [8, 24] (fun ov iv wr => ∃ (j : Nat) (R : List (Nat × TypeId × List Value)) (done : List Nat), j ≤ 64 ∧ iv = .int .i64 (j : Int) ∧ Hid (RowN 1 3 R ov done.length (nts done)) ∧ Hid (done ++ spFrom Y h line (64 - j) j = L ∧ done.length ≤ 8 ∧ done.length ≤ j) ∧ Hid (Own w wr ((g1, 27, [.int .u8 (r0 : Int), .int .u8 (r1 : Int), .int .u8 (r2 : Int), .int .u8 (r3 : Int), .int .u8 (r4 : Int), .int .u8 (r5 : Int), .int .u8 (r6 : Int), .int .u8 (r7 : Int), .int .u8 (r8 : Int), .int .u8 (r9 : Int), .int .u8 (r10 : Int)]) :: R))) (fun _ iv _ => 64 - (intOf iv).toNat)
  case atStart => exact ⟨0, [], [], by omega, rfl, Lib.hid (RowN.nil 1 3), Lib.hid ⟨HL.out, Nat.zero_le _, Nat.le_refl _⟩, HM⟩
  case round =>
    clear HM
    obtain ⟨j, R, done, hj, rfl, HR, HD, HM⟩ := hrel
    by_cases hlt : j < 64
    · have hlt' : (j : Int) < 64 := by omega
      have HJ := Lib.hid hlt
      obtain ⟨y, hy⟩ : ∃ y, Y j = y := ⟨_, rfl⟩
      have Hy := Lib.hid hy
      have hk : Hid (((b : Int) + (j : Int)) % 16384 = ((b + j : Nat) : Int)) := Lib.hid (by omega)
      have hv : Hid (vget n xs (b + j) = y) := Lib.hid (by
        rw [← hY.out] at hy
        unfold spY mem at hy
        rw [hb.out, Nat.mod_eq_of_lt (by omega)] at hy
        exact hy)
      have y8 : y < 256 := hv.out ▸ vget_lt HV.out _
      have Y8 := Lib.hid y8
      obtain ⟨t, ht⟩ : ∃ t, Hid (spTop y = t) := ⟨_, rfl⟩
      have t0 : -256 ≤ t ∧ t ≤ 240 := by have := ht.out; unfold spTop at this; split at this <;> omega
      obtain ⟨t1, t2⟩ := t0
      clear hlt hj hy y8
      by_cases h0 : y = 208
      · subst h0
        go_wp2_with (first | ((with_reducible apply own_box HM); exact rfl; (conv => lhs; whnf); exact rfl; exact rfl; (first | (clear tg1 HM; intro w' g1 HM) | (clear tg2 HM; intro w' g2 HM) | (clear tg3 HM; intro w' g3 HM) | (clear tg4 HM; intro w' g4 HM) | (clear HM; intro w' g' HM))) | ((with_reducible apply own_cell HM); exact rfl; exact rfl; (first | (with_reducible exact one8) | (with_reducible exact oneInt)); exact sS; exact dS; exact rfl) | ((with_reducible apply own_load HM); exact rfl; exact rfl; (first | (with_reducible exact agg11)); exact sS; exact dS; exact tS; exact rfl) | ((with_reducible apply own_store HM); exact rfl; exact rfl; (conv => lhs; whnf); exact rfl; exact sS; exact vS; exact sS; (first | (with_reducible exact (agg11).size) | (with_reducible exact (one8).size) | (with_reducible exact (oneInt).size)); exact rfl; exact rfl; exact rfl; exact rfl; clear HM; intro w' HM) | (go_at_call 49; (with_reducible refine (at_at a n cap xs _ (b + j) _ hk hv _ (HV.out.under (Own.fin HM))).mono ?_); rintro e w' ⟨rfl, rfl⟩))
        go_ret2
        have e1 : done = L := by have := HD.out.1; rw [spFrom_end Hy.out rfl, List.append_nil] at this; exact this
        have e2 : L.take 8 = done := by rw [← e1]; exact List.take_of_length_le HD.out.2.1
        have e3 : decide (8 < L.length) = false := by rw [← e1, decide_eq_false_iff_not]; have := HD.out.2.1; omega
        rw [e3, e2]
        exact ⟨_, R, rfl, HR.out, Own.rows (l := [_]) HM.out, Own.fin HM⟩
      · have K0 : ((y : Int) == 208) = false := by simp; omega
        have H0 := Lib.hid h0
        clear h0
        by_cases k1 : t ≤ line
        · by_cases k2 : line < t + (h : Int)
          · have HK1 := Lib.hid k1
            have HK2 := Lib.hid k2
            have K1 : ¬ line - t < 0 := by omega
            have K2 : ¬ (h : Int) ≤ line - t := by omega
            clear k1 k2
            obtain ⟨p, c, rfl⟩ := RowN.shape HR.out
            obtain ⟨m, hm⟩ : ∃ m : Nat, Hid (done.length = m) := ⟨_, rfl⟩
            have hs : Hid (done ++ j :: spFrom Y h line (63 - j) (j + 1) = L) := Lib.hid (by
              have := HD.out.1
              rw [show 64 - j = (63 - j) + 1 by have := HJ.out; omega, spFrom_on Hy.out H0.out t ht.out HK1.out HK2.out] at this
              exact this)
            rw [hm.out] at HR ⊢
            by_cases k8 : m = 8
            · subst k8
              go_wp2_with (first | ((with_reducible apply own_box HM); exact rfl; (conv => lhs; whnf); exact rfl; exact rfl; (first | (clear tg1 HM; intro w' g1 HM) | (clear tg2 HM; intro w' g2 HM) | (clear tg3 HM; intro w' g3 HM) | (clear tg4 HM; intro w' g4 HM) | (clear HM; intro w' g' HM))) | ((with_reducible apply own_cell HM); exact rfl; exact rfl; (first | (with_reducible exact one8) | (with_reducible exact oneInt)); exact sS; exact dS; exact rfl) | ((with_reducible apply own_load HM); exact rfl; exact rfl; (first | (with_reducible exact agg11)); exact sS; exact dS; exact tS; exact rfl) | ((with_reducible apply own_store HM); exact rfl; exact rfl; (conv => lhs; whnf); exact rfl; exact sS; exact vS; exact sS; (first | (with_reducible exact (agg11).size) | (with_reducible exact (one8).size) | (with_reducible exact (oneInt).size)); exact rfl; exact rfl; exact rfl; exact rfl; clear HM; intro w' HM) | (go_at_call 49; (with_reducible refine (at_at a n cap xs _ (b + j) _ hk hv _ (HV.out.under (Own.fin HM))).mono ?_); rintro e w' ⟨rfl, rfl⟩) | (go_at_call 50; (with_reducible refine (first_at y Y8.out t ht _).mono ?_); rintro e w' ⟨rfl, rfl⟩))
              go_ret2
              have e2 : L.take 8 = done := take8 hs.out hm.out
              have e3 : decide (8 < L.length) = true := by rw [← hs.out, decide_eq_true_eq, List.length_append, hm.out]; simp
              rw [e3, e2, hm.out]
              exact ⟨_, R, rfl, HR.out, Own.rows (l := [_]) HM.out, Own.fin HM⟩
            · have K8 : ((m : Int) == 8) = false := by simp; omega
              have HN8 : Hid (m < 8) := Lib.hid (by have := HD.out.2.1; rw [hm.out] at this; omega)
              have m1 : (m : Int) < 8 := by have := HN8.out; omega
              clear k8
              obtain ⟨i0, hi, hz0, hz1, hz2⟩ := int_parts
              have hm1 := made_i1 (j : Int)
              have HD64 : Hid (m ≤ 100000) := Lib.hid (by have := HN8.out; omega)
              go_upto_region 14 with (first | ((with_reducible apply own_box HM); exact rfl; (conv => lhs; whnf); exact rfl; exact rfl; (first | (clear tg1 HM; intro w' g1 HM) | (clear tg2 HM; intro w' g2 HM) | (clear tg3 HM; intro w' g3 HM) | (clear tg4 HM; intro w' g4 HM) | (clear HM; intro w' g' HM))) | ((with_reducible apply own_cell HM); exact rfl; exact rfl; (first | (with_reducible exact one8) | (with_reducible exact oneInt)); exact sS; exact dS; exact rfl) | ((with_reducible apply own_load HM); exact rfl; exact rfl; (first | (with_reducible exact agg11)); exact sS; exact dS; exact tS; exact rfl) | ((with_reducible apply own_store HM); exact rfl; exact rfl; (conv => lhs; whnf); exact rfl; exact sS; exact vS; exact sS; (first | (with_reducible exact (agg11).size) | (with_reducible exact (one8).size) | (with_reducible exact (oneInt).size)); exact rfl; exact rfl; exact rfl; exact rfl; clear HM; intro w' HM) | (go_at_call 49; (with_reducible refine (at_at a n cap xs _ (b + j) _ hk hv _ (HV.out.under (Own.fin HM))).mono ?_); rintro e w' ⟨rfl, rfl⟩) | (go_at_call 50; (with_reducible refine (first_at y Y8.out t ht _).mono ?_); rintro e w' ⟨rfl, rfl⟩))
              clear K1 K2 K8
              generalize Value.slice p m c = V at HR ⊢
              go_wp2_with (first
                | ((with_reducible apply own_made (cs := [.int .i64 (j : Int)]) (e := 3) (n := 1) HM); exact rfl; exact hm1; (focus (first | exact rfl | (go_simp; done))); exact rfl; intro w' g3 HM'; clear HM; have HM := HM'; clear HM')
                | (refine own_appends (L := [(g1, 27, [.int .u8 (r0 : Int), .int .u8 (r1 : Int), .int .u8 (r2 : Int), .int .u8 (r3 : Int), .int .u8 (r4 : Int), .int .u8 (r5 : Int), .int .u8 (r6 : Int), .int .u8 (r7 : Int), .int .u8 (r8 : Int), .int .u8 (r9 : Int), .int .u8 (r10 : Int)])]) HM HR Try.underlying60 hi hz0 hz1 hz2 rfl (by decide) (by decide) rfl rfl HD64.out rfl rfl rfl rfl ?_; intro v' w' R' HR' HM'; clear HM HR; have HM := HM'; have HR := HR'; clear HM' HR')
                | ((with_reducible apply own_box HM); exact rfl; (conv => lhs; whnf); exact rfl; exact rfl; (first | (clear tg1 HM; intro w' g1 HM) | (clear tg2 HM; intro w' g2 HM) | (clear tg3 HM; intro w' g3 HM) | (clear tg4 HM; intro w' g4 HM) | (clear HM; intro w' g' HM))) | ((with_reducible apply own_cell HM); exact rfl; exact rfl; (first | (with_reducible exact one8) | (with_reducible exact oneInt)); exact sS; exact dS; exact rfl) | ((with_reducible apply own_load HM); exact rfl; exact rfl; (first | (with_reducible exact agg11)); exact sS; exact dS; exact tS; exact rfl) | ((with_reducible apply own_store HM); exact rfl; exact rfl; (conv => lhs; whnf); exact rfl; exact sS; exact vS; exact sS; (first | (with_reducible exact (agg11).size) | (with_reducible exact (one8).size) | (with_reducible exact (oneInt).size)); exact rfl; exact rfl; exact rfl; exact rfl; clear HM; intro w' HM) | (go_at_call 49; (with_reducible refine (at_at a n cap xs _ (b + j) _ hk hv _ (HV.out.under (Own.fin HM))).mono ?_); rintro e w' ⟨rfl, rfl⟩) | (go_at_call 50; (with_reducible refine (first_at y Y8.out t ht _).mono ?_); rintro e w' ⟨rfl, rfl⟩))
              go_roundw
              case rel =>
                refine ⟨j + 1, _, done ++ [j], by have := HJ.out; omega, by go_num, ?_, ?_, HM⟩
                · show RowN _ _ _ _ _ _
                  rw [nts_snoc, List.length_append, hm.out]; exact HR.out
                · refine Lib.hid ⟨?_, by rw [List.length_append, hm.out]; exact HN8.out, by rw [List.length_append]; have := HD.out.2.2; simp; omega⟩
                  rw [List.append_assoc, show 64 - (j + 1) = 63 - j by omega]; exact hs.out
              case measure => have := HJ.out; simp [intOf]; omega
          · have HK2 := Lib.hid k2
            have K1 : ¬ line - t < 0 := by omega
            have K2 : (h : Int) ≤ line - t := by omega
            clear k1 k2
            go_wp2_with (first | ((with_reducible apply own_box HM); exact rfl; (conv => lhs; whnf); exact rfl; exact rfl; (first | (clear tg1 HM; intro w' g1 HM) | (clear tg2 HM; intro w' g2 HM) | (clear tg3 HM; intro w' g3 HM) | (clear tg4 HM; intro w' g4 HM) | (clear HM; intro w' g' HM))) | ((with_reducible apply own_cell HM); exact rfl; exact rfl; (first | (with_reducible exact one8) | (with_reducible exact oneInt)); exact sS; exact dS; exact rfl) | ((with_reducible apply own_load HM); exact rfl; exact rfl; (first | (with_reducible exact agg11)); exact sS; exact dS; exact tS; exact rfl) | ((with_reducible apply own_store HM); exact rfl; exact rfl; (conv => lhs; whnf); exact rfl; exact sS; exact vS; exact sS; (first | (with_reducible exact (agg11).size) | (with_reducible exact (one8).size) | (with_reducible exact (oneInt).size)); exact rfl; exact rfl; exact rfl; exact rfl; clear HM; intro w' HM) | (go_at_call 49; (with_reducible refine (at_at a n cap xs _ (b + j) _ hk hv _ (HV.out.under (Own.fin HM))).mono ?_); rintro e w' ⟨rfl, rfl⟩) | (go_at_call 50; (with_reducible refine (first_at y Y8.out t ht _).mono ?_); rintro e w' ⟨rfl, rfl⟩))
            go_roundw
            case rel =>
              refine ⟨j + 1, _, done, by have := HJ.out; omega, by go_num, HR, ?_, HM⟩
              refine Lib.hid ⟨?_, HD.out.2.1, by have := HD.out.2.2; omega⟩
              have := HD.out.1
              rw [show 64 - j = (64 - (j + 1)) + 1 by have := HJ.out; omega, spFrom_off Hy.out H0.out t ht.out (fun hh => by have := HK2.out; omega)] at this
              exact this
            case measure => have := HJ.out; simp [intOf]; omega
        · have HK1 := Lib.hid k1
          have K1 : line - t < 0 := by omega
          clear k1
          go_wp2_with (first | ((with_reducible apply own_box HM); exact rfl; (conv => lhs; whnf); exact rfl; exact rfl; (first | (clear tg1 HM; intro w' g1 HM) | (clear tg2 HM; intro w' g2 HM) | (clear tg3 HM; intro w' g3 HM) | (clear tg4 HM; intro w' g4 HM) | (clear HM; intro w' g' HM))) | ((with_reducible apply own_cell HM); exact rfl; exact rfl; (first | (with_reducible exact one8) | (with_reducible exact oneInt)); exact sS; exact dS; exact rfl) | ((with_reducible apply own_load HM); exact rfl; exact rfl; (first | (with_reducible exact agg11)); exact sS; exact dS; exact tS; exact rfl) | ((with_reducible apply own_store HM); exact rfl; exact rfl; (conv => lhs; whnf); exact rfl; exact sS; exact vS; exact sS; (first | (with_reducible exact (agg11).size) | (with_reducible exact (one8).size) | (with_reducible exact (oneInt).size)); exact rfl; exact rfl; exact rfl; exact rfl; clear HM; intro w' HM) | (go_at_call 49; (with_reducible refine (at_at a n cap xs _ (b + j) _ hk hv _ (HV.out.under (Own.fin HM))).mono ?_); rintro e w' ⟨rfl, rfl⟩) | (go_at_call 50; (with_reducible refine (first_at y Y8.out t ht _).mono ?_); rintro e w' ⟨rfl, rfl⟩))
          go_roundw
          case rel =>
            refine ⟨j + 1, _, done, by have := HJ.out; omega, by go_num, HR, ?_, HM⟩
            refine Lib.hid ⟨?_, HD.out.2.1, by have := HD.out.2.2; omega⟩
            have := HD.out.1
            rw [show 64 - j = (64 - (j + 1)) + 1 by have := HJ.out; omega, spFrom_off Hy.out H0.out t ht.out (fun hh => by have := HK1.out; omega)] at this
            exact this
          case measure => have := HJ.out; simp [intOf]; omega
    · obtain rfl : j = 64 := by omega
      go_wp2_with (first | ((with_reducible apply own_box HM); exact rfl; (conv => lhs; whnf); exact rfl; exact rfl; (first | (clear tg1 HM; intro w' g1 HM) | (clear tg2 HM; intro w' g2 HM) | (clear tg3 HM; intro w' g3 HM) | (clear tg4 HM; intro w' g4 HM) | (clear HM; intro w' g' HM))) | ((with_reducible apply own_cell HM); exact rfl; exact rfl; (first | (with_reducible exact one8) | (with_reducible exact oneInt)); exact sS; exact dS; exact rfl) | ((with_reducible apply own_load HM); exact rfl; exact rfl; (first | (with_reducible exact agg11)); exact sS; exact dS; exact tS; exact rfl) | ((with_reducible apply own_store HM); exact rfl; exact rfl; (conv => lhs; whnf); exact rfl; exact sS; exact vS; exact sS; (first | (with_reducible exact (agg11).size) | (with_reducible exact (one8).size) | (with_reducible exact (oneInt).size)); exact rfl; exact rfl; exact rfl; exact rfl; clear HM; intro w' HM))
      go_ret2
      have e1 : done = L := by have := HD.out.1; rw [show 64 - 64 = 0 from rfl] at this; unfold spFrom at this; rw [List.append_nil] at this; exact this
      have e2 : L.take 8 = done := by rw [← e1]; exact List.take_of_length_le HD.out.2.1
      have e3 : decide (8 < L.length) = false := by rw [← e1, decide_eq_false_iff_not]; have := HD.out.2.1; omega
      rw [e3, e2]
      exact ⟨_, R, rfl, HR.out, Own.rows (l := [_]) HM.out, Own.fin HM⟩
def rcells (f : Nat → Nat) (o c : Bool) : List Value := (List.range 256).map (fun x => .int .u8 (f x : Int)) ++ [.bool o, .bool c]
abbrev rowV (f : Nat → Nat) (o c : Bool) : Value := .agg (rcells f o c).toArray
theorem rcells_length (f : Nat → Nat) (o c : Bool) : (rcells f o c).length = 258 := by simp [rcells]
theorem rcells_color (f : Nat → Nat) (o c : Bool) (x : Nat) (h : x < 256) : (rcells f o c)[x]? = some (.int .u8 (f x : Int)) := by
  unfold rcells
  rw [List.getElem?_append_left (by simpa using h)]
  simp [h]
theorem rcells_over (f : Nat → Nat) (o c : Bool) : (rcells f o c)[256]? = some (.bool o) := by
  unfold rcells
  rw [List.getElem?_append_right (by simp)]
  simp
theorem rcells_meets (f : Nat → Nat) (o c : Bool) : (rcells f o c)[257]? = some (.bool c) := by
  unfold rcells
  rw [List.getElem?_append_right (by simp)]
  simp
theorem rcells_one (f : Nat → Nat) (o c : Bool) : (rcells f o c).all (·.oneCell') = true := by
  rw [List.all_eq_true]
  intro v hv
  unfold rcells at hv
  rcases List.mem_append.1 hv with h | h
  · obtain ⟨x, _, rfl⟩ := List.mem_map.1 h; rfl
  · simp at h
    rcases h with rfl | rfl <;> rfl
theorem aggRow : Agg Try.prog 53 258 := ⟨⟨_, Try.underlying53, rfl⟩, by kernel_rfl⟩
theorem zeroRow : Zero Try.prog 53 (rcells (fun _ => 0) false false) := ⟨rowV (fun _ => 0) false false, fun _ => by kernel_rfl, rfl⟩
theorem spFrom_top {Y : Nat → Nat} {h : Nat} {line : Int} : ∀ k i, ∀ x ∈ spFrom Y h line k i, spTop (Y x) ≤ line
  | 0, _, x, hx => by simp [spFrom] at hx
  | k + 1, i, x, hx => by
    have hx' : x ∈ (if Y i = 208 then [] else if spIs h line (Y i) = true then i :: spFrom Y h line k (i + 1) else spFrom Y h line k (i + 1)) := hx
    split at hx'
    · simp at hx'
    · split at hx'
      · rename_i h1 h2
        rcases List.mem_cons.1 hx' with rfl | hx'
        · unfold spIs at h2; simp at h2; exact h2.1
        · exact spFrom_top k (i + 1) x hx'
      · exact spFrom_top k (i + 1) x hx'
theorem spCol_snoc (l : List Nat) (d : Nat) : spCol (l ++ [d]) = if spCnt l = 0 then (if d = 0 then 0 else 16 + d) else spCol l := by
  induction l with
  | nil => rfl
  | cons e l ih =>
    show (if e = 0 then spCol (l ++ [d]) else 16 + e) = (if (if e = 0 then spCnt l else 1 + spCnt l) = 0 then _ else (if e = 0 then spCol l else 16 + e))
    by_cases h : e = 0
    · simp only [h, if_true]; exact ih
    · simp only [h, if_false]
      rw [if_neg (by omega)]
theorem spCol_none : ∀ l : List Nat, spCnt l = 0 → spCol l = 0
  | [], _ => rfl
  | e :: l, h => by
    have h' : (if e = 0 then spCnt l else 1 + spCnt l) = 0 := h
    show (if e = 0 then spCol l else 16 + e) = 0
    by_cases c : e = 0
    · rw [if_pos c] at h' ⊢
      exact spCol_none l h'
    · rw [if_neg c] at h'
      omega
theorem spCnt_snoc (l : List Nat) (d : Nat) : spCnt (l ++ [d]) = if d = 0 then spCnt l else spCnt l + 1 := by
  induction l with
  | nil => show (if d = 0 then 0 else 1 + 0) = (if d = 0 then 0 else 0 + 1); rfl
  | cons e l ih =>
    show (if e = 0 then spCnt (l ++ [d]) else 1 + spCnt (l ++ [d])) = (if d = 0 then (if e = 0 then spCnt l else 1 + spCnt l) else (if e = 0 then spCnt l else 1 + spCnt l) + 1)
    rw [ih]
    split <;> split <;> omega
def layD (X : Int) (D : Nat → Nat) (s : Nat) (a : Nat) : Nat := if (a : Int) - X < 0 ∨ (8 * s : Nat) ≤ (a : Int) - X then 0 else D (((a : Int) - X).toNat / s)
def layC (f dd : Nat → Nat) (a : Nat) : Nat := if f a = 0 then (if dd a = 0 then 0 else 16 + dd a) else f a
def meets (f dd : Nat → Nat) (a : Nat) : Bool := decide (f a ≠ 0) && decide (dd a ≠ 0)
def layU (f dd : Nat → Nat) (x : Int) (a : Nat) : Nat := if (a : Int) < x then layC f dd a else f a
def layV (f dd : Nat → Nat) (x : Int) : Bool := (List.range 256).any fun a => decide ((a : Int) < x) && meets f dd a
def layK (f dd : Nat → Nat) : Bool := (List.range 256).any fun a => meets f dd a
theorem rcells_ext {f f' : Nat → Nat} {o c : Bool} (h : ∀ x, x < 256 → f x = f' x) : rcells f o c = rcells f' o c := by
  unfold rcells
  congr 1
  exact List.map_congr_left fun x hx => by rw [h x (List.mem_range.1 hx)]
theorem layU_start (f dd : Nat → Nat) (X : Int) (D : Nat → Nat) (s : Nat) (hd : dd = layD X D s) : layU f dd X = f := by
  funext a
  unfold layU
  split
  · rename_i h
    have h0 : dd a = 0 := by rw [hd]; unfold layD; rw [if_pos (.inl (by omega))]
    unfold layC
    rw [h0]
    split
    · rename_i h1; rw [h1]; rfl
    · rfl
  · rfl
theorem layV_start (f dd : Nat → Nat) (X : Int) (D : Nat → Nat) (s : Nat) (hd : dd = layD X D s) : layV f dd X = false := by
  unfold layV
  rw [List.any_eq_false]
  intro a _ h
  rw [Bool.and_eq_true, decide_eq_true_eq] at h
  have h0 : dd a = 0 := by rw [hd]; unfold layD; rw [if_pos (.inl (by omega))]
  unfold meets at h
  rw [h0] at h
  simp at h
theorem layU_end (f dd : Nat → Nat) (x : Int) (o c : Bool) (h : 256 ≤ x) : rcells (layU f dd x) o c = rcells (layC f dd) o c := rcells_ext fun a ha => by unfold layU; rw [if_pos (by omega)]
theorem layV_end (f dd : Nat → Nat) (x : Int) (h : 256 ≤ x) : layV f dd x = layK f dd := by
  unfold layV layK
  rw [Bool.eq_iff_iff, List.any_eq_true, List.any_eq_true]
  constructor
  · rintro ⟨a, ha, h1⟩; rw [Bool.and_eq_true] at h1; exact ⟨a, ha, h1.2⟩
  · rintro ⟨a, ha, h1⟩; exact ⟨a, ha, by rw [Bool.and_eq_true, decide_eq_true_eq]; exact ⟨by have := List.mem_range.1 ha; omega, h1⟩⟩
theorem lay_past (f dd : Nat → Nat) (X x : Int) (D : Nat → Nat) (s : Nat) (hd : dd = layD X D s) (h : X + (8 * s : Nat) ≤ x) : layU f dd x = layC f dd ∧ layV f dd x = layK f dd := by
  have key : ∀ a : Nat, ¬ (a : Int) < x → dd a = 0 := fun a ha => by rw [hd]; unfold layD; rw [if_pos (.inr (by omega))]
  refine ⟨?_, ?_⟩
  · funext a
    unfold layU
    split
    · rfl
    · rename_i ha
      unfold layC
      rw [key a ha]
      split
      · rename_i h1; rw [h1]; rfl
      · rfl
  · unfold layV layK
    rw [Bool.eq_iff_iff, List.any_eq_true, List.any_eq_true]
    constructor
    · rintro ⟨a, ha, h1⟩; rw [Bool.and_eq_true] at h1; exact ⟨a, ha, h1.2⟩
    · rintro ⟨a, ha, h1⟩
      refine ⟨a, ha, ?_⟩
      by_cases hx : (a : Int) < x
      · rw [Bool.and_eq_true, decide_eq_true_eq]; exact ⟨hx, h1⟩
      · unfold meets at h1; rw [key a hx] at h1; simp at h1
theorem lay_skip (f dd : Nat → Nat) (x : Int) (h : ∀ a : Nat, (a : Int) = x → dd a = 0) : layU f dd (x + 1) = layU f dd x ∧ layV f dd (x + 1) = layV f dd x := by
  refine ⟨?_, ?_⟩
  · funext a
    unfold layU
    by_cases h1 : (a : Int) < x
    · rw [if_pos (by omega), if_pos h1]
    · by_cases h2 : (a : Int) = x
      · rw [if_pos (by omega), if_neg h1]
        unfold layC
        rw [h a h2]
        split
        · rename_i h3; rw [h3]; rfl
        · rfl
      · rw [if_neg (by omega), if_neg h1]
  · unfold layV
    rw [Bool.eq_iff_iff, List.any_eq_true, List.any_eq_true]
    constructor
    · rintro ⟨a, ha, h1⟩
      rw [Bool.and_eq_true, decide_eq_true_eq] at h1
      refine ⟨a, ha, ?_⟩
      rw [Bool.and_eq_true, decide_eq_true_eq]
      refine ⟨?_, h1.2⟩
      by_cases h2 : (a : Int) = x
      · have := h1.2; unfold meets at this; rw [h a h2] at this; simp at this
      · omega
    · rintro ⟨a, ha, h1⟩
      rw [Bool.and_eq_true, decide_eq_true_eq] at h1
      exact ⟨a, ha, by rw [Bool.and_eq_true, decide_eq_true_eq]; exact ⟨by omega, h1.2⟩⟩
theorem layU_here (f dd : Nat → Nat) (x : Nat) : layU f dd (x : Int) x = f x := by unfold layU; rw [if_neg (by omega)]
theorem lay_new (f dd : Nat → Nat) (x d : Nat) (hd : dd x = d) (h0 : d ≠ 0) (hf : f x = 0) : layU f dd ((x : Int) + 1) = upd (layU f dd (x : Int)) x (16 + d) ∧ layV f dd ((x : Int) + 1) = layV f dd (x : Int) := by
  refine ⟨?_, ?_⟩
  · funext a
    unfold upd
    by_cases h2 : a = x
    · subst h2
      rw [if_pos rfl]
      unfold layU
      rw [if_pos (by omega)]
      unfold layC
      rw [if_pos hf, hd, if_neg h0]
    · rw [if_neg h2]
      unfold layU
      by_cases h1 : (a : Int) < (x : Int)
      · rw [if_pos (by omega), if_pos h1]
      · rw [if_neg (by omega), if_neg h1]
  · unfold layV
    rw [Bool.eq_iff_iff, List.any_eq_true, List.any_eq_true]
    constructor
    · rintro ⟨a, ha, h1⟩
      rw [Bool.and_eq_true, decide_eq_true_eq] at h1
      refine ⟨a, ha, ?_⟩
      rw [Bool.and_eq_true, decide_eq_true_eq]
      refine ⟨?_, h1.2⟩
      by_cases h2 : a = x
      · have := h1.2; unfold meets at this; rw [h2, hf] at this; simp at this
      · omega
    · rintro ⟨a, ha, h1⟩
      rw [Bool.and_eq_true, decide_eq_true_eq] at h1
      exact ⟨a, ha, by rw [Bool.and_eq_true, decide_eq_true_eq]; exact ⟨by omega, h1.2⟩⟩
theorem lay_hit (f dd : Nat → Nat) (x d : Nat) (hx : x < 256) (hd : dd x = d) (h0 : d ≠ 0) (hf : ¬ f x = 0) : layU f dd ((x : Int) + 1) = layU f dd (x : Int) ∧ layV f dd ((x : Int) + 1) = true := by
  refine ⟨?_, ?_⟩
  · funext a
    unfold layU
    by_cases h1 : (a : Int) < (x : Int)
    · rw [if_pos (by omega), if_pos h1]
    · by_cases h2 : a = x
      · subst h2
        rw [if_pos (by omega), if_neg h1]
        unfold layC
        rw [if_neg hf]
      · rw [if_neg (by omega), if_neg h1]
  · unfold layV
    rw [List.any_eq_true]
    refine ⟨x, List.mem_range.2 hx, ?_⟩
    rw [Bool.and_eq_true, decide_eq_true_eq]
    refine ⟨by omega, ?_⟩
    unfold meets
    rw [hd]
    simp [hf, h0]
theorem layD_at (X x : Int) (D : Nat → Nat) (s j t : Nat) (ht : t < s) (hj : j < 8) (hx : x = X + (j * s + t : Nat)) (a : Nat) (ha : (a : Int) = x) : layD X D s a = D j := by
  have e : (a : Int) - X = ((j * s + t : Nat) : Int) := by omega
  have hs : (j * s + t) / s = j := by
    rw [Nat.mul_comm, Nat.mul_add_div (by omega), Nat.div_eq_of_lt ht, Nat.add_zero]
  have hb : j * s + t < 8 * s := by
    have : (j + 1) * s ≤ 8 * s := Nat.mul_le_mul_right s (by omega)
    rw [Nat.add_mul] at this
    omega
  unfold layD
  rw [e, Int.toNat_natCast, hs, if_neg (by omega)]
theorem spCol_seen : ∀ l : List Nat, ¬ spCnt l = 0 → ¬ spCol l = 0
  | [], h => absurd rfl h
  | e :: l, h => by
    have h' : ¬ (if e = 0 then spCnt l else 1 + spCnt l) = 0 := h
    show ¬ (if e = 0 then spCol l else 16 + e) = 0
    by_cases c : e = 0
    · rw [if_pos c] at h' ⊢
      exact spCol_seen l h'
    · rw [if_neg c]; omega
theorem col_more (l : List Nat) (d : Nat) : spCol (l ++ [d]) = if spCol l = 0 then (if d = 0 then 0 else 16 + d) else spCol l := by
  rw [spCol_snoc]
  by_cases h : spCnt l = 0
  · rw [if_pos h, if_pos (spCol_none l h)]
  · rw [if_neg h, if_neg (spCol_seen l h)]
theorem layC_snoc (l : List Nat) (g : Nat → Nat → Nat) (i : Nat) (dd : Nat → Nat) (h : ∀ a, dd a = g a i) : layC (fun a => spCol (l.map (g a))) dd = fun a => spCol ((l ++ [i]).map (g a)) := by
  funext a
  show layC _ dd a = _
  rw [List.map_append, List.map_cons, List.map_nil, col_more]
  unfold layC
  rw [h]
theorem layK_snoc (l : List Nat) (g : Nat → Nat → Nat) (i : Nat) (dd : Nat → Nat) (h : ∀ a, dd a = g a i) : ((List.range 256).any (fun a => decide (2 ≤ spCnt (l.map (g a)))) || layK (fun a => spCol (l.map (g a))) dd) = (List.range 256).any fun a => decide (2 ≤ spCnt ((l ++ [i]).map (g a))) := by
  have key : ∀ a, (2 ≤ spCnt ((l ++ [i]).map (g a)) ↔ (2 ≤ spCnt (l.map (g a)) ∨ meets (fun a => spCol (l.map (g a))) dd a = true)) := by
    intro a
    rw [List.map_append, List.map_cons, List.map_nil, spCnt_snoc]
    unfold meets
    rw [h, Bool.and_eq_true, decide_eq_true_eq, decide_eq_true_eq]
    by_cases c0 : spCnt (l.map (g a)) = 0
    · have e1 := spCol_none _ c0
      by_cases c1 : g a i = 0
      · rw [if_pos c1]; constructor
        · intro h2; exact .inl h2
        · rintro (h2 | h2); exact h2; exact absurd c1 h2.2
      · rw [if_neg c1]; constructor
        · intro h2; omega
        · rintro (h2 | h2); omega; exact absurd e1 h2.1
    · have e1 := spCol_seen _ c0
      by_cases c1 : g a i = 0
      · rw [if_pos c1]; constructor
        · intro h2; exact .inl h2
        · rintro (h2 | h2); exact h2; exact absurd c1 h2.2
      · rw [if_neg c1]; constructor
        · intro _; exact .inr ⟨e1, c1⟩
        · intro _; omega
  rw [Bool.eq_iff_iff, Bool.or_eq_true, List.any_eq_true, List.any_eq_true]
  unfold layK
  rw [List.any_eq_true]
  constructor
  · rintro (⟨a, ha, h1⟩ | ⟨a, ha, h1⟩)
    · exact ⟨a, ha, decide_eq_true ((key a).2 (.inl (of_decide_eq_true h1)))⟩
    · exact ⟨a, ha, decide_eq_true ((key a).2 (.inr h1))⟩
  · rintro ⟨a, ha, h1⟩
    rcases (key a).1 (of_decide_eq_true h1) with h2 | h2
    · exact .inl ⟨a, ha, decide_eq_true h2⟩
    · exact .inr ⟨a, ha, h2⟩
section
variable {P : Program} {md : Region.Mode} {ops : Array Oper} {Q : Exit → Act → World → Prop} {S : World → Prop}
theorem inv_run {Inv : Nat → Array Bool → Act → World → Prop} (hS : ∀ n l a w, Inv n l a w → S w) (h0 : ∀ n l a w, Inv n l a w → Region.ready md ops l = [] → Q .normal a w) (hz : ∀ l a w, Inv 0 l a w → Region.ready md ops l = [])
    (hst : ∀ n l a w, Inv (n + 1) l a w → ∀ i ∈ Region.ready md ops l, wpOp P ops Q i (fun a' w' => Inv n (l.setIfInBounds i true) a' w') a w) : ∀ n l a w, Inv n l a w → wpAnyH P md ops Q S n l a w
  | 0, l, a, w, h => ⟨hz l a w h, h0 0 l a w h (hz l a w h)⟩
  | n + 1, l, a, w, h => ⟨fun hr => h0 _ l a w h hr, fun i hi => wpOp_mono (fun _ _ h' => ⟨hS _ _ _ _ h', inv_run hS h0 hz hst n _ _ _ h'⟩) (hst n l a w h i hi)⟩
end
def cput (b : Bool) (a : Act) (k : Tmp) (v : Value) : Act := if b = true then a.put (some k) v else a
theorem put_cput (b : Bool) (a : Act) (k j : Tmp) (v u : Value) (h : k ≠ j) : (cput b a k v).put (some j) u = cput b (a.put (some j) u) k v := by
  unfold cput
  split
  · exact Act.put_comm a v u (fun d hd => by cases hd; intro hj; cases hj; exact h rfl)
  · rfl
theorem eval_put_ne (a : Act) (k j : Tmp) (v : Value) (h : k ≠ j) : (a.put (some k) v).eval (.tmp j) = a.eval (.tmp j) := by
  show (a.tmps.setIfInBounds k v).getD j undef = a.tmps.getD j undef
  simp [Array.getD_eq_getD_getElem?, h]
theorem eval_put_eq (a : Act) (k : Tmp) (v : Value) (h : k < a.tmps.size) : (a.put (some k) v).eval (.tmp k) = v := by
  show (a.tmps.setIfInBounds k v).getD k undef = v
  simp [Array.getD_eq_getD_getElem?, h]
theorem size_put (a : Act) (k : Tmp) (v : Value) : (a.put (some k) v).tmps.size = a.tmps.size := by
  show (a.tmps.setIfInBounds k v).size = _
  simp
theorem eval_cput_ne (b : Bool) (a : Act) (k j : Tmp) (v : Value) (h : k ≠ j) : (cput b a k v).eval (.tmp j) = a.eval (.tmp j) := by
  unfold cput
  split
  · exact eval_put_ne a k j v h
  · rfl
theorem size_cput (b : Bool) (a : Act) (k : Tmp) (v : Value) : (cput b a k v).tmps.size = a.tmps.size := by
  unfold cput
  split
  · exact size_put a k v
  · rfl
def L3 (c : Nat) (bA bB bC : Bool) (s : Nat) : Array Bool :=
  #[true, true, true, true, decide (1 ≤ c), true, true, true, true, decide (2 ≤ c), true, true, true, true, decide (3 ≤ c), bA, bB, bC, decide (1 ≤ s), decide (2 ≤ s), decide (3 ≤ s)]
def St3 (A : Act) (k1 k2 k3 kA kB kC : Tmp) (v1 v2 v3 pA pB pC : Value) (c : Nat) (bA bB bC : Bool) : Act :=
  cput bC (cput bB (cput bA (cput (decide (3 ≤ c)) (cput (decide (2 ≤ c)) (cput (decide (1 ≤ c)) A k1 v1) k2 v2) k3 v3) kA pA) kB pB) kC pC
def B3 (t : TypeId) (z cA cB cC : List Value) (bA bB bC : Bool) (s gA gB gC : Nat) : List (Nat × TypeId × List Value) :=
  (if bC = true then [(gC, t, if 3 ≤ s then cC else z)] else []) ++ ((if bB = true then [(gB, t, if 2 ≤ s then cB else z)] else []) ++ (if bA = true then [(gA, t, if 1 ≤ s then cA else z)] else []))
theorem Own.behind {W0 w : World} : ∀ {l l' : List (Nat × TypeId × List Value)}, Own W0 w (l ++ l') → Own W0 w l'
  | [], _, h => h
  | _ :: l, _, h => Own.behind (l := l) h.forget
def ok3 (c : Nat) (bA bB bC : Bool) (s i : Nat) : Prop :=
  (i = 4 ∧ c = 0) ∨ (i = 9 ∧ c = 1) ∨ (i = 14 ∧ c = 2) ∨ (i = 15 ∧ bA = false) ∨ (i = 16 ∧ bB = false) ∨ (i = 17 ∧ bC = false) ∨ (i = 18 ∧ s = 0 ∧ c = 3 ∧ bA = true ∧ bB = true ∧ bC = true) ∨ (i = 19 ∧ s = 1) ∨ (i = 20 ∧ s = 2)
instance (c : Nat) (bA bB bC : Bool) (s i : Nat) : Decidable (ok3 c bA bB bC s i) := by unfold ok3; infer_instance
abbrev ready3 (ops : Array Oper) : Prop := ∀ c, c < 4 → ∀ bA bB bC : Bool, ∀ s, s < 4 → (0 < s → c = 3 ∧ bA = true ∧ bB = true ∧ bC = true) →
  (∀ i ∈ Region.ready .any ops (L3 c bA bB bC s), ok3 c bA bB bC s i) ∧ (Region.ready .any ops (L3 c bA bB bC s) = [] ↔ s = 3)
def check3 (ops : Array Oper) : Bool :=
  (List.range 4).all fun c => [false, true].all fun bA => [false, true].all fun bB => [false, true].all fun bC => (List.range 4).all fun s =>
    (decide (0 < s) && !(decide (c = 3) && bA && bB && bC)) || ((Region.ready .any ops (L3 c bA bB bC s)).all (fun i => decide (ok3 c bA bB bC s i)) && (Region.ready .any ops (L3 c bA bB bC s)).isEmpty == decide (s = 3))
theorem mem_two (b : Bool) : b ∈ [false, true] := by cases b <;> simp
theorem ready3_of {ops : Array Oper} (h : check3 ops = true) : ready3 ops := by
  intro c hc bA bB bC s hs hv
  unfold check3 at h
  have h1 := List.all_eq_true.1 (List.all_eq_true.1 (List.all_eq_true.1 (List.all_eq_true.1 (List.all_eq_true.1 h c (List.mem_range.2 hc)) bA (mem_two bA)) bB (mem_two bB)) bC (mem_two bC)) s (List.mem_range.2 hs)
  rw [Bool.or_eq_true] at h1
  rcases h1 with h1 | h1
  · rw [Bool.and_eq_true, decide_eq_true_eq] at h1
    obtain ⟨rfl, rfl, rfl, rfl⟩ := hv h1.1
    simp at h1
  · rw [Bool.and_eq_true, List.all_eq_true, beq_iff_eq] at h1
    refine ⟨fun i hi => of_decide_eq_true (h1.1 i hi), ?_⟩
    rw [← List.isEmpty_iff, h1.2, decide_eq_true_eq]
abbrev Ptr (g : Nat) : Value := .pointer (some ⟨g, 0, none⟩)
theorem three {P : Program} {ops : Array Oper} {Q : Exit → Act → World → Prop} {W0 w : World} {L0 : List (Nat × TypeId × List Value)} {t : TypeId} {z cA cB cC : List Value} {A : Act} {k1 k2 k3 kA kB kC : Tmp}
    (hk : ready3 ops) (hne : [k1, k2, k3, kA, kB, kC].Pairwise (· ≠ ·)) (hsz : k1 < A.tmps.size ∧ k2 < A.tmps.size ∧ k3 < A.tmps.size ∧ kA < A.tmps.size ∧ kB < A.tmps.size ∧ kC < A.tmps.size)
    (h4 : ∀ a w' K, (∀ j, j ∉ [k1, k2, k3, kA, kB, kC] → a.eval (.tmp j) = A.eval (.tmp j)) → Hid (Own W0 w' L0) → (∀ w'', Below w'.heap.size w' w'' → K (a.put (some k1) (.agg cA.toArray)) w'') → wpOp P ops Q 4 K a w')
    (h9 : ∀ a w' K, (∀ j, j ∉ [k1, k2, k3, kA, kB, kC] → a.eval (.tmp j) = A.eval (.tmp j)) → Hid (Own W0 w' L0) → (∀ w'', Below w'.heap.size w' w'' → K (a.put (some k2) (.agg cB.toArray)) w'') → wpOp P ops Q 9 K a w')
    (h14 : ∀ a w' K, (∀ j, j ∉ [k1, k2, k3, kA, kB, kC] → a.eval (.tmp j) = A.eval (.tmp j)) → Hid (Own W0 w' L0) → (∀ w'', Below w'.heap.size w' w'' → K (a.put (some k3) (.agg cC.toArray)) w'') → wpOp P ops Q 14 K a w')
    (h15 : ∀ a w' l K, Hid (Own W0 w' l) → (∀ w'' g, Hid (Own W0 w'' ((g, t, z) :: l)) → K (a.put (some kA) (Ptr g)) w'') → wpOp P ops Q 15 K a w')
    (h16 : ∀ a w' l K, Hid (Own W0 w' l) → (∀ w'' g, Hid (Own W0 w'' ((g, t, z) :: l)) → K (a.put (some kB) (Ptr g)) w'') → wpOp P ops Q 16 K a w')
    (h17 : ∀ a w' l K, Hid (Own W0 w' l) → (∀ w'' g, Hid (Own W0 w'' ((g, t, z) :: l)) → K (a.put (some kC) (Ptr g)) w'') → wpOp P ops Q 17 K a w')
    (h18 : ∀ a w' l l' g K, a.eval (.tmp kA) = Ptr g → a.eval (.tmp k1) = .agg cA.toArray → Hid (Own W0 w' l) → Sel l g t z → Put l g t z cA l' → (∀ w'', Hid (Own W0 w'' l') → K a w'') → wpOp P ops Q 18 K a w')
    (h19 : ∀ a w' l l' g K, a.eval (.tmp kB) = Ptr g → a.eval (.tmp k2) = .agg cB.toArray → Hid (Own W0 w' l) → Sel l g t z → Put l g t z cB l' → (∀ w'', Hid (Own W0 w'' l') → K a w'') → wpOp P ops Q 19 K a w')
    (h20 : ∀ a w' l l' g K, a.eval (.tmp kC) = Ptr g → a.eval (.tmp k3) = .agg cC.toArray → Hid (Own W0 w' l) → Sel l g t z → Put l g t z cC l' → (∀ w'', Hid (Own W0 w'' l') → K a w'') → wpOp P ops Q 20 K a w')
    (hQ : ∀ w' gA gB gC, Hid (Own W0 w' ((gC, t, cC) :: (gB, t, cB) :: (gA, t, cA) :: L0)) → Q .normal ((((((A.put (some k1) (.agg cA.toArray)).put (some k2) (.agg cB.toArray)).put (some k3) (.agg cC.toArray)).put (some kA) (Ptr gA)).put (some kB) (Ptr gB)).put (some kC) (Ptr gC)) w')
    (HM : Hid (Own W0 w L0)) : wpAnyH P .any ops Q (fun w' => Own W0 w' L0) 9 (L3 0 false false false 0) A w := by
  obtain ⟨s1, s2, s3, sA, sB, sC⟩ := hsz
  simp only [List.pairwise_cons, List.mem_cons, List.not_mem_nil, or_false, forall_eq_or_imp, forall_eq, false_imp_iff, implies_true, and_true, List.Pairwise.nil] at hne
  obtain ⟨⟨n12, n13, n1A, n1B, n1C⟩, ⟨n23, n2A, n2B, n2C⟩, ⟨n3A, n3B, n3C⟩, ⟨nAB, nAC⟩, nBC⟩ := hne
  have same : ∀ c bA bB bC pA pB pC, ∀ j, j ∉ [k1, k2, k3, kA, kB, kC] → (St3 A k1 k2 k3 kA kB kC (.agg cA.toArray) (.agg cB.toArray) (.agg cC.toArray) pA pB pC c bA bB bC).eval (.tmp j) = A.eval (.tmp j) := by
    intro c bA bB bC pA pB pC j hj
    simp only [List.mem_cons, List.not_mem_nil, or_false, not_or] at hj
    obtain ⟨j1, j2, j3, jA, jB, jC⟩ := hj
    unfold St3
    rw [eval_cput_ne _ _ _ _ _ (Ne.symm jC), eval_cput_ne _ _ _ _ _ (Ne.symm jB), eval_cput_ne _ _ _ _ _ (Ne.symm jA), eval_cput_ne _ _ _ _ _ (Ne.symm j3), eval_cput_ne _ _ _ _ _ (Ne.symm j2), eval_cput_ne _ _ _ _ _ (Ne.symm j1)]
  refine inv_run (Inv := fun n l a w' => ∃ c bA bB bC s gA gB gC, c ≤ 3 ∧ s ≤ 3 ∧ (0 < s → c = 3 ∧ bA = true ∧ bB = true ∧ bC = true) ∧ n = (3 - c) + (!bA).toNat + (!bB).toNat + (!bC).toNat + (3 - s) ∧ l = L3 c bA bB bC s ∧
    a = St3 A k1 k2 k3 kA kB kC (.agg cA.toArray) (.agg cB.toArray) (.agg cC.toArray) (Ptr gA) (Ptr gB) (Ptr gC) c bA bB bC ∧ Hid (Own W0 w' (B3 t z cA cB cC bA bB bC s gA gB gC ++ L0))) ?_ ?_ ?_ ?_ 9 _ _ _ ⟨0, false, false, false, 0, 0, 0, 0, by omega, by omega, by omega, rfl, rfl, rfl, HM⟩
  · rintro n l a w' ⟨c, bA, bB, bC, s, gA, gB, gC, _, _, _, _, _, _, hO⟩
    exact hO.out.behind
  · rintro n l a w' ⟨c, bA, bB, bC, s, gA, gB, gC, hc, hs, hv, _, rfl, rfl, hO⟩ hr
    obtain rfl : s = 3 := (hk c (by omega) bA bB bC s (by omega) hv).2.1 hr
    obtain ⟨rfl, rfl, rfl, rfl⟩ := hv (by omega)
    exact hQ w' gA gB gC hO
  · rintro l a w' ⟨c, bA, bB, bC, s, gA, gB, gC, hc, hs, hv, hn, rfl, rfl, hO⟩
    exact (hk c (by omega) bA bB bC s (by omega) hv).2.2 (by omega)
  · rintro n l a w' ⟨c, bA, bB, bC, s, gA, gB, gC, hc, hs, hv, hn, rfl, rfl, hO⟩ i hi
    have hok := (hk c (by omega) bA bB bC s (by omega) hv).1 i hi
    unfold ok3 at hok
    rcases hok with ⟨rfl, rfl⟩ | ⟨rfl, rfl⟩ | ⟨rfl, rfl⟩ | ⟨rfl, rfl⟩ | ⟨rfl, rfl⟩ | ⟨rfl, rfl⟩ | ⟨rfl, rfl, rfl, rfl, rfl, rfl⟩ | ⟨rfl, rfl⟩ | ⟨rfl, rfl⟩
    · have s0 : s = 0 := by rcases Nat.eq_zero_or_pos s with h | h; exact h; have := (hv h).1; omega
      subst s0
      refine h4 _ _ _ (same _ _ _ _ _ _ _) (Lib.hid hO.out.behind) fun w'' hb => ⟨1, bA, bB, bC, 0, gA, gB, gC, by omega, by omega, by omega, by omega, rfl, ?_, Lib.hid (hO.out.call hb)⟩
      unfold St3
      rw [put_cput _ _ _ _ _ _ (Ne.symm n1C), put_cput _ _ _ _ _ _ (Ne.symm n1B), put_cput _ _ _ _ _ _ (Ne.symm n1A), put_cput _ _ _ _ _ _ (Ne.symm n13), put_cput _ _ _ _ _ _ (Ne.symm n12)]
      rfl
    · have s0 : s = 0 := by rcases Nat.eq_zero_or_pos s with h | h; exact h; have := (hv h).1; omega
      subst s0
      refine h9 _ _ _ (same _ _ _ _ _ _ _) (Lib.hid hO.out.behind) fun w'' hb => ⟨2, bA, bB, bC, 0, gA, gB, gC, by omega, by omega, by omega, by omega, rfl, ?_, Lib.hid (hO.out.call hb)⟩
      unfold St3
      rw [put_cput _ _ _ _ _ _ (Ne.symm n2C), put_cput _ _ _ _ _ _ (Ne.symm n2B), put_cput _ _ _ _ _ _ (Ne.symm n2A), put_cput _ _ _ _ _ _ (Ne.symm n23)]
      rfl
    · have s0 : s = 0 := by rcases Nat.eq_zero_or_pos s with h | h; exact h; have := (hv h).1; omega
      subst s0
      refine h14 _ _ _ (same _ _ _ _ _ _ _) (Lib.hid hO.out.behind) fun w'' hb => ⟨3, bA, bB, bC, 0, gA, gB, gC, by omega, by omega, by omega, by omega, rfl, ?_, Lib.hid (hO.out.call hb)⟩
      unfold St3
      rw [put_cput _ _ _ _ _ _ (Ne.symm n3C), put_cput _ _ _ _ _ _ (Ne.symm n3B), put_cput _ _ _ _ _ _ (Ne.symm n3A)]
      rfl
    · have s0 : s = 0 := by rcases Nat.eq_zero_or_pos s with h | h; exact h; have := (hv h).2.1; cases this
      subst s0
      refine h15 _ _ _ _ hO fun w'' g hO2 => ⟨c, true, bB, bC, 0, g, gB, gC, hc, by omega, by omega, by simp at hn ⊢; omega, rfl, ?_, Lib.hid (hO2.out.perm ?_)⟩
      · unfold St3
        rw [put_cput _ _ _ _ _ _ (Ne.symm nAC), put_cput _ _ _ _ _ _ (Ne.symm nAB)]
        rfl
      · cases bB <;> cases bC <;> simp only [B3, if_true, Bool.false_eq_true, if_false, List.nil_append, List.cons_append, List.append_nil]
        · exact List.Perm.refl _
        · exact List.Perm.swap _ _ _
        · exact List.Perm.swap _ _ _
        · exact (List.Perm.swap _ _ _).trans (List.Perm.cons _ (List.Perm.swap _ _ _))
    · have s0 : s = 0 := by rcases Nat.eq_zero_or_pos s with h | h; exact h; have := (hv h).2.2.1; cases this
      subst s0
      refine h16 _ _ _ _ hO fun w'' g hO2 => ⟨c, bA, true, bC, 0, gA, g, gC, hc, by omega, by omega, by simp at hn ⊢; omega, rfl, ?_, Lib.hid (hO2.out.perm ?_)⟩
      · unfold St3
        rw [put_cput _ _ _ _ _ _ (Ne.symm nBC)]
        rfl
      · cases bA <;> cases bC <;> simp only [B3, if_true, Bool.false_eq_true, if_false, List.nil_append, List.cons_append, List.append_nil]
        · exact List.Perm.refl _
        · exact List.Perm.swap _ _ _
        · exact List.Perm.refl _
        · exact List.Perm.swap _ _ _
    · have s0 : s = 0 := by rcases Nat.eq_zero_or_pos s with h | h; exact h; have := (hv h).2.2.2; cases this
      subst s0
      refine h17 _ _ _ _ hO fun w'' g hO2 => ⟨c, bA, bB, true, 0, gA, gB, g, hc, by omega, by omega, by simp at hn ⊢; omega, rfl, rfl, Lib.hid (hO2.out.perm ?_)⟩
      cases bA <;> cases bB <;> simp only [B3, if_true, Bool.false_eq_true, if_false, List.nil_append, List.cons_append, List.append_nil] <;> exact List.Perm.refl _
    · refine h18 _ _ _ _ gA _ ?_ ?_ hO (.s (.s .z)) (.s (.s .z)) fun w'' hO2 => ⟨3, true, true, true, 1, gA, gB, gC, by omega, by omega, fun _ => ⟨rfl, rfl, rfl, rfl⟩, by simp at hn ⊢; omega, rfl, rfl, hO2⟩
      · unfold St3
        rw [eval_cput_ne _ _ _ _ _ (Ne.symm nAC), eval_cput_ne _ _ _ _ _ (Ne.symm nAB)]
        exact eval_put_eq _ _ _ (by rw [size_cput, size_cput, size_cput]; exact sA)
      · unfold St3
        rw [eval_cput_ne _ _ _ _ _ (Ne.symm n1C), eval_cput_ne _ _ _ _ _ (Ne.symm n1B), eval_cput_ne _ _ _ _ _ (Ne.symm n1A), eval_cput_ne _ _ _ _ _ (Ne.symm n13), eval_cput_ne _ _ _ _ _ (Ne.symm n12)]
        exact eval_put_eq _ _ _ s1
    · obtain ⟨rfl, rfl, rfl, rfl⟩ := hv (by omega)
      refine h19 _ _ _ _ gB _ ?_ ?_ hO (.s .z) (.s .z) fun w'' hO2 => ⟨3, true, true, true, 2, gA, gB, gC, by omega, by omega, fun _ => ⟨rfl, rfl, rfl, rfl⟩, by simp at hn ⊢; omega, rfl, rfl, hO2⟩
      · unfold St3
        rw [eval_cput_ne _ _ _ _ _ (Ne.symm nBC)]
        exact eval_put_eq _ _ _ (by rw [size_cput, size_cput, size_cput, size_cput]; exact sB)
      · unfold St3
        rw [eval_cput_ne _ _ _ _ _ (Ne.symm n2C), eval_cput_ne _ _ _ _ _ (Ne.symm n2B), eval_cput_ne _ _ _ _ _ (Ne.symm n2A), eval_cput_ne _ _ _ _ _ (Ne.symm n23)]
        exact eval_put_eq _ _ _ (by rw [size_cput]; exact s2)
    · obtain ⟨rfl, rfl, rfl, rfl⟩ := hv (by omega)
      refine h20 _ _ _ _ gC _ ?_ ?_ hO .z .z fun w'' hO2 => ⟨3, true, true, true, 3, gA, gB, gC, by omega, by omega, fun _ => ⟨rfl, rfl, rfl, rfl⟩, by simp at hn ⊢; omega, rfl, rfl, hO2⟩
      · unfold St3
        exact eval_put_eq _ _ _ (by rw [size_cput, size_cput, size_cput, size_cput, size_cput]; exact sC)
      · unfold St3
        rw [eval_cput_ne _ _ _ _ _ (Ne.symm n3C), eval_cput_ne _ _ _ _ _ (Ne.symm n3B), eval_cput_ne _ _ _ _ _ (Ne.symm n3A)]
        exact eval_put_eq _ _ _ (by rw [size_cput, size_cput]; exact s3)
end Go.Proofs.Ytijjigacmmhloaa
