import Derived.Test.YtijjigacmmhloaaQ16
import Derived.Laws.BytesArg
namespace Go.Proofs.Ytijjigacmmhloaa
open Go.RowKit
theorem spK_two (n : Nat) (xs : Nat → Nat) (r0 r1 r5 r6 : Nat) (line : Int) (b : Bool) (h : b = true ↔ ∃ x, x < 256 ∧ 1 < spCnt (spDots n xs r0 r1 r5 r6 line x)) : spK n xs r0 r1 r5 r6 line = b := by
  rw [Bool.eq_iff_iff, h]
  unfold spK
  rw [List.any_eq_true]
  constructor
  · rintro ⟨x, h1, h2⟩; exact ⟨x, List.mem_range.1 h1, of_decide_eq_true h2⟩
  · rintro ⟨x, h1, h2⟩; exact ⟨x, List.mem_range.2 h1, decide_eq_true h2⟩
set_option maxRecDepth 100000 in
set_option maxHeartbeats 3200000 in
theorem rtold_in (a : Option Addr) (n cap : Nat) (xs : Nat → Nat) (r0 r1 r2 r3 r4 r5 r6 r7 r8 r9 r10 line : Nat) (h0 : r0 < 256) (h1 : r1 < 256) (h2 : r2 < 256) (h5 : r5 < 256) (h6 : r6 < 256) (h7 : r7 < 256) (h8 : r8 < 256) (h9 : r9 < 256) (hl : line < 192) (k o : Bool) (hk : Hid (liK n xs r0 r1 r5 r6 (line : Int) = k)) (ho : Hid (liO n xs r1 r5 (line : Int) = o)) (w : World) (hV : ByteRow w a n xs) :
    Calls Try.prog 14 #[.slice a n cap, regsV r0 r1 r2 r3 r4 r5 r6 r7 r8 r9 r10, .int .i64 (line : Int)] w fun e w' => e = .returned (.tuple #[.bool k, .bool o]) ∧ Below w.heap.size w w' := by
  have HM := Lib.hid (Own.start w)
  have tg1 : Hid True := trivial
  have HV := Lib.hid hV
  have H0 := Lib.hid h0
  have H1 := Lib.hid h1
  have H2 := Lib.hid h2
  have H5 := Lib.hid h5
  have H6 := Lib.hid h6
  have H7 := Lib.hid h7
  have H8 := Lib.hid h8
  have H9 := Lib.hid h9
  have l1 : ¬ (line : Int) < 0 := by omega
  have l2 : (line : Int) < 192 := by omega
  have l3 : ¬ (191 : Int) < (line : Int) := by omega
  have L1 : ((line : Int) < 0) = False := eq_false (by omega)
  have L3 : ((191 : Int) < (line : Int)) = False := eq_false (by omega)
  have HL0 : Hid (0 ≤ (line : Int)) := Lib.hid (by omega)
  have HL1 : Hid ((line : Int) ≤ 191) := Lib.hid (by omega)
  have ek := hk.out
  have eo := ho.out
  unfold liK at ek
  unfold liO at eo
  obtain ⟨p1, hp1⟩ : ∃ p1 : Nat, r1 / 64 = p1 := ⟨_, rfl⟩
  obtain ⟨q1, hq1⟩ : ∃ q1 : Nat, p1 % 2 = q1 := ⟨_, rfl⟩
  have p1a : (r1 : Int) / 64 = (p1 : Int) := by omega
  have p1b : (r1 : Int).tdiv 64 = (p1 : Int) := by rw [Int.tdiv_eq_ediv_of_nonneg (by omega)]; exact p1a
  have p1c : IntKind.u8.wrap (p1 : Int) = (p1 : Int) := by rw [IntKind.wrap_u8]; omega
  have q1a : (p1 : Int) % 2 = (q1 : Int) := by omega
  have q1b : (p1 : Int).tmod 2 = (q1 : Int) := by rw [Int.tmod_eq_emod_of_nonneg (by omega)]; exact q1a
  have q1l : q1 < 2 := by omega
  rw [hp1, hq1] at ek eo
  obtain ⟨ln, hln⟩ : ∃ z, Hid ((spL n xs r1 r5 (line : Int)).length = z) := ⟨_, rfl⟩
  have e0 : spO n xs r1 r5 (line : Int) = decide (8 < ln) := by unfold spO; rw [hln.out]
  rw [e0] at eo
  clear h0 h1 h2 h5 h6 h7 h8 h9 hl hV hp1 hq1 e0 hk ho
  rcases (show q1 = 0 ∨ q1 = 1 by omega) with rfl | rfl
  · obtain rfl : false = k := by rw [← ek]; rfl
    obtain rfl : false = o := by rw [← eo]; rfl
    clear ek eo
    go_enter Try.func14, Try.ntmps14
    go_upto_region 1 with (first | ((with_reducible apply own_box HM); exact rfl; (conv => lhs; whnf); exact rfl; exact rfl; (first | (clear tg1 HM; intro w' g1 HM) | (clear tg2 HM; intro w' g2 HM) | (clear tg3 HM; intro w' g3 HM) | (clear tg4 HM; intro w' g4 HM) | (clear HM; intro w' g' HM))) | ((with_reducible apply own_cell HM); exact rfl; exact rfl; (first | (with_reducible exact one8) | (with_reducible exact oneInt) | (with_reducible exact oneBool)); exact sS; exact dS; exact rfl) | ((with_reducible apply own_load HM); exact rfl; exact rfl; (first | (with_reducible exact agg11) | (with_reducible exact agg2i)); exact sS; exact dS; exact tS; exact rfl) | ((with_reducible apply own_store HM); exact rfl; exact rfl; (conv => lhs; whnf); exact rfl; exact sS; exact vS; exact sS; (first | (with_reducible exact (agg11).size) | (with_reducible exact (agg2i).size) | (with_reducible exact (one8).size) | (with_reducible exact (oneInt).size) | (with_reducible exact (oneBool).size)); exact rfl; exact rfl; exact rfl; exact rfl; clear HM; intro w' HM))
    (refine own_inorder HM ?_; (try simp only [Act.put, List.setIfInBounds_toArray, List.set_cons_zero, List.set_cons_succ]); repeat ((fail_if_success (with_reducible refine wpQuiet_nil ?_)); first | go_big_quiet_skip | (go_big_quiet_want; first | ((with_reducible apply quiet_load); exact rfl; (first | (with_reducible exact agg11)); exact sS; exact dS; exact tS; go_big_quiet_op; go_big_quiet_on) | ((with_reducible apply quiet_cell); exact rfl; (first | (with_reducible exact one8)); exact sS; exact dS; go_big_quiet_op; go_big_quiet_on) | (go_big_quiet_op; go_big_quiet_on) | (go_big_quiet_op; go_big_quiet_on) | (go_big_quiet_op; refine ⟨_, fun _ _ => rfl, ?_⟩; go_big_quiet_on))))
    refine wpQuiet_nil ?_
    intro w' HM'
    clear HM; have HM := HM'; clear HM'
    go_wp2_with (first | ((with_reducible apply own_box HM); exact rfl; (conv => lhs; whnf); exact rfl; exact rfl; (first | (clear tg1 HM; intro w' g1 HM) | (clear tg2 HM; intro w' g2 HM) | (clear tg3 HM; intro w' g3 HM) | (clear tg4 HM; intro w' g4 HM) | (clear HM; intro w' g' HM))) | ((with_reducible apply own_cell HM); exact rfl; exact rfl; (first | (with_reducible exact one8) | (with_reducible exact oneInt) | (with_reducible exact oneBool)); exact sS; exact dS; exact rfl) | ((with_reducible apply own_load HM); exact rfl; exact rfl; (first | (with_reducible exact agg11) | (with_reducible exact agg2i)); exact sS; exact dS; exact tS; exact rfl) | ((with_reducible apply own_store HM); exact rfl; exact rfl; (conv => lhs; whnf); exact rfl; exact sS; exact vS; exact sS; (first | (with_reducible exact (agg11).size) | (with_reducible exact (agg2i).size) | (with_reducible exact (one8).size) | (with_reducible exact (oneInt).size) | (with_reducible exact (oneBool).size)); exact rfl; exact rfl; exact rfl; exact rfl; clear HM; intro w' HM))
    go_ret2
    exact ⟨rfl, Own.fin HM⟩
  · have EK : Hid (spK n xs r0 r1 r5 r6 (line : Int) = k) := Lib.hid (by rw [← ek]; rfl)
    have EO : Hid (decide (8 < ln) = o) := Lib.hid (by rw [← eo]; rfl)
    clear ek eo
    go_enter Try.func14, Try.ntmps14
    go_upto_region 1 with (first | ((with_reducible apply own_box HM); exact rfl; (conv => lhs; whnf); exact rfl; exact rfl; (first | (clear tg1 HM; intro w' g1 HM) | (clear tg2 HM; intro w' g2 HM) | (clear tg3 HM; intro w' g3 HM) | (clear tg4 HM; intro w' g4 HM) | (clear HM; intro w' g' HM))) | ((with_reducible apply own_cell HM); exact rfl; exact rfl; (first | (with_reducible exact one8) | (with_reducible exact oneInt) | (with_reducible exact oneBool)); exact sS; exact dS; exact rfl) | ((with_reducible apply own_load HM); exact rfl; exact rfl; (first | (with_reducible exact agg11) | (with_reducible exact agg2i)); exact sS; exact dS; exact tS; exact rfl) | ((with_reducible apply own_store HM); exact rfl; exact rfl; (conv => lhs; whnf); exact rfl; exact sS; exact vS; exact sS; (first | (with_reducible exact (agg11).size) | (with_reducible exact (agg2i).size) | (with_reducible exact (one8).size) | (with_reducible exact (oneInt).size) | (with_reducible exact (oneBool).size)); exact rfl; exact rfl; exact rfl; exact rfl; clear HM; intro w' HM))
    (refine own_inorder HM ?_; (try simp only [Act.put, List.setIfInBounds_toArray, List.set_cons_zero, List.set_cons_succ]); repeat ((fail_if_success (with_reducible refine wpQuiet_nil ?_)); first | go_big_quiet_skip | (go_big_quiet_want; first | ((with_reducible apply quiet_load); exact rfl; (first | (with_reducible exact agg11)); exact sS; exact dS; exact tS; go_big_quiet_op; go_big_quiet_on) | ((with_reducible apply quiet_cell); exact rfl; (first | (with_reducible exact one8)); exact sS; exact dS; go_big_quiet_op; go_big_quiet_on) | (go_big_quiet_op; go_big_quiet_on) | (go_big_quiet_op; go_big_quiet_on) | (go_big_quiet_op; refine ⟨_, fun _ _ => rfl, ?_⟩; go_big_quiet_on))))
    refine wpQuiet_nil ?_
    intro w' HM'
    clear HM; have HM := HM'; clear HM'
    clear p1a p1b p1c q1a q1b q1l
    go_upto_region 5 with (first | ((with_reducible apply own_box HM); exact rfl; (conv => lhs; whnf); exact rfl; exact rfl; (first | (clear tg1 HM; intro w' g1 HM) | (clear tg2 HM; intro w' g2 HM) | (clear tg3 HM; intro w' g3 HM) | (clear tg4 HM; intro w' g4 HM) | (clear HM; intro w' g' HM))) | ((with_reducible apply own_cell HM); exact rfl; exact rfl; (first | (with_reducible exact one8) | (with_reducible exact oneInt) | (with_reducible exact oneBool)); exact sS; exact dS; exact rfl) | ((with_reducible apply own_load HM); exact rfl; exact rfl; (first | (with_reducible exact agg11) | (with_reducible exact agg2i)); exact sS; exact dS; exact tS; exact rfl) | ((with_reducible apply own_store HM); exact rfl; exact rfl; (conv => lhs; whnf); exact rfl; exact sS; exact vS; exact sS; (first | (with_reducible exact (agg11).size) | (with_reducible exact (agg2i).size) | (with_reducible exact (one8).size) | (with_reducible exact (oneInt).size) | (with_reducible exact (oneBool).size)); exact rfl; exact rfl; exact rfl; exact rfl; clear HM; intro w' HM))
    go_loopw [8, 9] (fun mv xv wr => ∃ (x : Nat) (b : Bool), x ≤ 256 ∧ xv = .int .i64 (x : Int) ∧ mv = .bool b ∧ Hid (b = true ↔ ∃ z, z < x ∧ 1 < spCnt (spDots n xs r0 r1 r5 r6 (line : Int) z)) ∧ Hid (Own w wr [(g1, 27, [.int .u8 (r0 : Int), .int .u8 (r1 : Int), .int .u8 (r2 : Int), .int .u8 (r3 : Int), .int .u8 (r4 : Int), .int .u8 (r5 : Int), .int .u8 (r6 : Int), .int .u8 (r7 : Int), .int .u8 (r8 : Int), .int .u8 (r9 : Int), .int .u8 (r10 : Int)])])) (fun _ xv _ => 256 - (intOf xv).toNat)
    case atStart => exact ⟨0, false, by omega, rfl, rfl, Lib.hid ⟨(fun h => by cases h), (fun ⟨z, h, _⟩ => by omega)⟩, HM⟩
    case round =>
      clear HM
      obtain ⟨x, b, hx, rfl, rfl, HB, HM⟩ := hrel
      by_cases hlt : x < 256
      · have hlt' : (x : Int) < 256 := by omega
        have HX := Lib.hid hlt
        obtain ⟨sc, hsc⟩ : ∃ z, Hid (spC n xs r0 r1 r5 r6 (line : Int) x = z) := ⟨_, rfl⟩
        obtain ⟨sm, hsm⟩ : ∃ z, Hid (decide (1 < spCnt (spDots n xs r0 r1 r5 r6 (line : Int) x)) = z) := ⟨_, rfl⟩
        clear hlt hx
        have hrel2 : Hid ((b || sm) = true ↔ ∃ z, z < x + 1 ∧ 1 < spCnt (spDots n xs r0 r1 r5 r6 (line : Int) z)) := Lib.hid (by
          rw [Bool.or_eq_true, HB.out, ← hsm.out, decide_eq_true_eq]
          constructor
          · rintro (⟨z, h1, h2⟩ | h)
            · exact ⟨z, by omega, h2⟩
            · exact ⟨x, by omega, h⟩
          · rintro ⟨z, h1, h2⟩
            by_cases c : z = x
            · subst c; exact .inr h2
            · exact .inl ⟨z, by omega, h2⟩)
        clear HB
        rcases Bool.eq_false_or_eq_true b with hbb | hbb
        all_goals
          subst hbb
          go_wp2_with (first | ((with_reducible apply own_box HM); exact rfl; (conv => lhs; whnf); exact rfl; exact rfl; (first | (clear tg1 HM; intro w' g1 HM) | (clear tg2 HM; intro w' g2 HM) | (clear tg3 HM; intro w' g3 HM) | (clear tg4 HM; intro w' g4 HM) | (clear HM; intro w' g' HM))) | ((with_reducible apply own_cell HM); exact rfl; exact rfl; (first | (with_reducible exact one8) | (with_reducible exact oneInt) | (with_reducible exact oneBool)); exact sS; exact dS; exact rfl) | ((with_reducible apply own_load HM); exact rfl; exact rfl; (first | (with_reducible exact agg11) | (with_reducible exact agg2i)); exact sS; exact dS; exact tS; exact rfl) | ((with_reducible apply own_store HM); exact rfl; exact rfl; (conv => lhs; whnf); exact rfl; exact sS; exact vS; exact sS; (first | (with_reducible exact (agg11).size) | (with_reducible exact (agg2i).size) | (with_reducible exact (one8).size) | (with_reducible exact (oneInt).size) | (with_reducible exact (oneBool).size)); exact rfl; exact rfl; exact rfl; exact rfl; clear HM; intro w' HM) | (go_at_call 24; (with_reducible refine (ratsp_in a n cap xs r0 r1 r2 r3 r4 r5 r6 r7 r8 r9 r10 x (line : Int) H0.out H1.out H5.out H6.out HL0.out HL1.out HX.out sc sm hsc hsm _ (HV.out.under (Own.fin HM))).mono ?_); rintro e w' ⟨rfl, hb⟩; replace HM := Lib.hid (HM.out.call hb); clear hb))
          go_roundw
          case rel => exact ⟨x + 1, _, by have := HX.out; omega, by go_num, rfl, hrel2, HM⟩
          case measure => have := HX.out; simp [intOf]; omega
      · obtain rfl : x = 256 := by omega
        have ek : b = k := by rw [← EK.out]; exact (spK_two n xs r0 r1 r5 r6 (line : Int) b HB.out).symm
        subst ek
        clear HB EK
        by_cases h8 : 8 < ln
        · have K8 : ((8 : Int) < (ln : Int)) = True := eq_true (by omega)
          obtain rfl : true = o := by rw [← EO.out]; exact (decide_eq_true h8).symm
          clear h8 EO
          go_wp2_with (first | ((with_reducible apply own_box HM); exact rfl; (conv => lhs; whnf); exact rfl; exact rfl; (first | (clear tg1 HM; intro w' g1 HM) | (clear tg2 HM; intro w' g2 HM) | (clear tg3 HM; intro w' g3 HM) | (clear tg4 HM; intro w' g4 HM) | (clear HM; intro w' g' HM))) | ((with_reducible apply own_cell HM); exact rfl; exact rfl; (first | (with_reducible exact one8) | (with_reducible exact oneInt) | (with_reducible exact oneBool)); exact sS; exact dS; exact rfl) | ((with_reducible apply own_load HM); exact rfl; exact rfl; (first | (with_reducible exact agg11) | (with_reducible exact agg2i)); exact sS; exact dS; exact tS; exact rfl) | ((with_reducible apply own_store HM); exact rfl; exact rfl; (conv => lhs; whnf); exact rfl; exact sS; exact vS; exact sS; (first | (with_reducible exact (agg11).size) | (with_reducible exact (agg2i).size) | (with_reducible exact (one8).size) | (with_reducible exact (oneInt).size) | (with_reducible exact (oneBool).size)); exact rfl; exact rfl; exact rfl; exact rfl; clear HM; intro w' HM) | (go_at_call 25; (with_reducible refine (ron_n a n cap xs r0 r1 r2 r3 r4 r5 r6 r7 r8 r9 r10 (line : Int) H1.out H5.out HL0.out HL1.out _ ln (Lib.hid rfl) hln _ (HV.out.under (Own.fin HM))).mono ?_); rintro e w' ⟨pO, cO, rfl, -, hb⟩; replace HM := Lib.hid (HM.out.call hb); clear hb))
          go_ret2
          exact ⟨rfl, Own.fin HM⟩
        · have K8 : ((8 : Int) < (ln : Int)) = False := eq_false (by omega)
          obtain rfl : false = o := by rw [← EO.out]; exact (decide_eq_false h8).symm
          clear h8 EO
          go_wp2_with (first | ((with_reducible apply own_box HM); exact rfl; (conv => lhs; whnf); exact rfl; exact rfl; (first | (clear tg1 HM; intro w' g1 HM) | (clear tg2 HM; intro w' g2 HM) | (clear tg3 HM; intro w' g3 HM) | (clear tg4 HM; intro w' g4 HM) | (clear HM; intro w' g' HM))) | ((with_reducible apply own_cell HM); exact rfl; exact rfl; (first | (with_reducible exact one8) | (with_reducible exact oneInt) | (with_reducible exact oneBool)); exact sS; exact dS; exact rfl) | ((with_reducible apply own_load HM); exact rfl; exact rfl; (first | (with_reducible exact agg11) | (with_reducible exact agg2i)); exact sS; exact dS; exact tS; exact rfl) | ((with_reducible apply own_store HM); exact rfl; exact rfl; (conv => lhs; whnf); exact rfl; exact sS; exact vS; exact sS; (first | (with_reducible exact (agg11).size) | (with_reducible exact (agg2i).size) | (with_reducible exact (one8).size) | (with_reducible exact (oneInt).size) | (with_reducible exact (oneBool).size)); exact rfl; exact rfl; exact rfl; exact rfl; clear HM; intro w' HM) | (go_at_call 25; (with_reducible refine (ron_n a n cap xs r0 r1 r2 r3 r4 r5 r6 r7 r8 r9 r10 (line : Int) H1.out H5.out HL0.out HL1.out _ ln (Lib.hid rfl) hln _ (HV.out.under (Own.fin HM))).mono ?_); rintro e w' ⟨pO, cO, rfl, -, hb⟩; replace HM := Lib.hid (HM.out.call hb); clear hb))
          go_ret2
          exact ⟨rfl, Own.fin HM⟩
set_option maxRecDepth 100000 in
theorem rtold_o0 (a : Option Addr) (n cap : Nat) (r0 r1 r2 r3 r4 r5 r6 r7 r8 r9 r10 : Nat) (line : Int) (hl : line < 0) (w : World) :
    Calls Try.prog 14 #[.slice a n cap, regsV r0 r1 r2 r3 r4 r5 r6 r7 r8 r9 r10, .int .i64 line] w fun e w' => e = .returned (.tuple #[.bool false, .bool false]) ∧ Below w.heap.size w w' := by
  have HM := Lib.hid (Own.start w)
  have tg1 : Hid True := trivial
  have K0 : (line < 0) = True := eq_true hl
  go_enter Try.func14, Try.ntmps14
  go_upto_region 1 with (first | ((with_reducible apply own_box HM); exact rfl; (conv => lhs; whnf); exact rfl; exact rfl; (first | (clear tg1 HM; intro w' g1 HM) | (clear tg2 HM; intro w' g2 HM) | (clear tg3 HM; intro w' g3 HM) | (clear tg4 HM; intro w' g4 HM) | (clear HM; intro w' g' HM))) | ((with_reducible apply own_cell HM); exact rfl; exact rfl; (first | (with_reducible exact one8) | (with_reducible exact oneInt) | (with_reducible exact oneBool)); exact sS; exact dS; exact rfl) | ((with_reducible apply own_load HM); exact rfl; exact rfl; (first | (with_reducible exact agg11) | (with_reducible exact agg2i)); exact sS; exact dS; exact tS; exact rfl) | ((with_reducible apply own_store HM); exact rfl; exact rfl; (conv => lhs; whnf); exact rfl; exact sS; exact vS; exact sS; (first | (with_reducible exact (agg11).size) | (with_reducible exact (agg2i).size) | (with_reducible exact (one8).size) | (with_reducible exact (oneInt).size) | (with_reducible exact (oneBool).size)); exact rfl; exact rfl; exact rfl; exact rfl; clear HM; intro w' HM))
  (refine own_inorder HM ?_; (try simp only [Act.put, List.setIfInBounds_toArray, List.set_cons_zero, List.set_cons_succ]); repeat ((fail_if_success (with_reducible refine wpQuiet_nil ?_)); first | go_big_quiet_skip | (go_big_quiet_want; first | ((with_reducible apply quiet_load); exact rfl; (first | (with_reducible exact agg11)); exact sS; exact dS; exact tS; go_big_quiet_op; go_big_quiet_on) | ((with_reducible apply quiet_cell); exact rfl; (first | (with_reducible exact one8)); exact sS; exact dS; go_big_quiet_op; go_big_quiet_on) | (go_big_quiet_op; go_big_quiet_on) | (go_big_quiet_op; go_big_quiet_on) | (go_big_quiet_op; refine ⟨_, fun _ _ => rfl, ?_⟩; go_big_quiet_on))))
  refine wpQuiet_nil ?_
  intro w' HM'
  clear HM; have HM := HM'; clear HM'
  go_wp2_with (first | ((with_reducible apply own_box HM); exact rfl; (conv => lhs; whnf); exact rfl; exact rfl; (first | (clear tg1 HM; intro w' g1 HM) | (clear tg2 HM; intro w' g2 HM) | (clear tg3 HM; intro w' g3 HM) | (clear tg4 HM; intro w' g4 HM) | (clear HM; intro w' g' HM))) | ((with_reducible apply own_cell HM); exact rfl; exact rfl; (first | (with_reducible exact one8) | (with_reducible exact oneInt) | (with_reducible exact oneBool)); exact sS; exact dS; exact rfl) | ((with_reducible apply own_load HM); exact rfl; exact rfl; (first | (with_reducible exact agg11) | (with_reducible exact agg2i)); exact sS; exact dS; exact tS; exact rfl) | ((with_reducible apply own_store HM); exact rfl; exact rfl; (conv => lhs; whnf); exact rfl; exact sS; exact vS; exact sS; (first | (with_reducible exact (agg11).size) | (with_reducible exact (agg2i).size) | (with_reducible exact (one8).size) | (with_reducible exact (oneInt).size) | (with_reducible exact (oneBool).size)); exact rfl; exact rfl; exact rfl; exact rfl; clear HM; intro w' HM))
  go_ret2
  exact ⟨rfl, Own.fin HM⟩
set_option maxRecDepth 100000 in
theorem rtold_o1 (a : Option Addr) (n cap : Nat) (r0 r1 r2 r3 r4 r5 r6 r7 r8 r9 r10 : Nat) (line : Int) (hl : 191 < line) (w : World) :
    Calls Try.prog 14 #[.slice a n cap, regsV r0 r1 r2 r3 r4 r5 r6 r7 r8 r9 r10, .int .i64 line] w fun e w' => e = .returned (.tuple #[.bool false, .bool false]) ∧ Below w.heap.size w w' := by
  have HM := Lib.hid (Own.start w)
  have tg1 : Hid True := trivial
  have K0 : (line < 0) = False := eq_false (by omega)
  have K1 : (191 < line) = True := eq_true hl
  go_enter Try.func14, Try.ntmps14
  go_upto_region 1 with (first | ((with_reducible apply own_box HM); exact rfl; (conv => lhs; whnf); exact rfl; exact rfl; (first | (clear tg1 HM; intro w' g1 HM) | (clear tg2 HM; intro w' g2 HM) | (clear tg3 HM; intro w' g3 HM) | (clear tg4 HM; intro w' g4 HM) | (clear HM; intro w' g' HM))) | ((with_reducible apply own_cell HM); exact rfl; exact rfl; (first | (with_reducible exact one8) | (with_reducible exact oneInt) | (with_reducible exact oneBool)); exact sS; exact dS; exact rfl) | ((with_reducible apply own_load HM); exact rfl; exact rfl; (first | (with_reducible exact agg11) | (with_reducible exact agg2i)); exact sS; exact dS; exact tS; exact rfl) | ((with_reducible apply own_store HM); exact rfl; exact rfl; (conv => lhs; whnf); exact rfl; exact sS; exact vS; exact sS; (first | (with_reducible exact (agg11).size) | (with_reducible exact (agg2i).size) | (with_reducible exact (one8).size) | (with_reducible exact (oneInt).size) | (with_reducible exact (oneBool).size)); exact rfl; exact rfl; exact rfl; exact rfl; clear HM; intro w' HM))
  (refine own_inorder HM ?_; (try simp only [Act.put, List.setIfInBounds_toArray, List.set_cons_zero, List.set_cons_succ]); repeat ((fail_if_success (with_reducible refine wpQuiet_nil ?_)); first | go_big_quiet_skip | (go_big_quiet_want; first | ((with_reducible apply quiet_load); exact rfl; (first | (with_reducible exact agg11)); exact sS; exact dS; exact tS; go_big_quiet_op; go_big_quiet_on) | ((with_reducible apply quiet_cell); exact rfl; (first | (with_reducible exact one8)); exact sS; exact dS; go_big_quiet_op; go_big_quiet_on) | (go_big_quiet_op; go_big_quiet_on) | (go_big_quiet_op; go_big_quiet_on) | (go_big_quiet_op; refine ⟨_, fun _ _ => rfl, ?_⟩; go_big_quiet_on))))
  refine wpQuiet_nil ?_
  intro w' HM'
  clear HM; have HM := HM'; clear HM'
  go_wp2_with (first | ((with_reducible apply own_box HM); exact rfl; (conv => lhs; whnf); exact rfl; exact rfl; (first | (clear tg1 HM; intro w' g1 HM) | (clear tg2 HM; intro w' g2 HM) | (clear tg3 HM; intro w' g3 HM) | (clear tg4 HM; intro w' g4 HM) | (clear HM; intro w' g' HM))) | ((with_reducible apply own_cell HM); exact rfl; exact rfl; (first | (with_reducible exact one8) | (with_reducible exact oneInt) | (with_reducible exact oneBool)); exact sS; exact dS; exact rfl) | ((with_reducible apply own_load HM); exact rfl; exact rfl; (first | (with_reducible exact agg11) | (with_reducible exact agg2i)); exact sS; exact dS; exact tS; exact rfl) | ((with_reducible apply own_store HM); exact rfl; exact rfl; (conv => lhs; whnf); exact rfl; exact sS; exact vS; exact sS; (first | (with_reducible exact (agg11).size) | (with_reducible exact (agg2i).size) | (with_reducible exact (one8).size) | (with_reducible exact (oneInt).size) | (with_reducible exact (oneBool).size)); exact rfl; exact rfl; exact rfl; exact rfl; clear HM; intro w' HM))
  go_ret2
  exact ⟨rfl, Own.fin HM⟩
theorem Own.addN {W0 w w' : World} {l R : List (Nat × TypeId × List Value)} {sz : Nat} {t : TypeId} {v : Value} {k : Nat} {xs : List Value} (h : Own W0 w l) (hb : Below w.heap.size w w') (hR : RowN sz t R v k xs) (hW : ∀ e ∈ R, w.heap.size ≤ e.1 ∧ Whole w' e.1 e.2.1 e.2.2) : Own W0 w' (l ++ R) := by
  have h' := h.call hb
  refine ⟨h'.below, ?_, ?_⟩
  · intro e he
    rcases List.mem_append.1 he with he | he
    · exact h'.whole e he
    · exact ⟨Nat.le_trans h.below.size (hW e he).1, (hW e he).2⟩
  · rw [List.pairwise_append]
    refine ⟨h.apart, ?_, ?_⟩
    · obtain ⟨-, ⟨rfl, -⟩ | ⟨g, cap, cur, rfl, -⟩⟩ := hR
      · exact .nil
      · exact List.pairwise_singleton _ _
    · intro a ha b hb'
      have := (h.whole a ha).2.inside
      have := (hW b hb').1
      omega
theorem spCol_some : ∀ l : List Nat, 0 < spCnt l → 0 < spCol l
  | [], h => by simp [spCnt] at h
  | e :: l, h => by
    have h' : 0 < (if e = 0 then spCnt l else 1 + spCnt l) := h
    show 0 < (if e = 0 then spCol l else 16 + e)
    by_cases c : e = 0
    · rw [if_pos c] at h' ⊢
      exact spCol_some l h'
    · rw [if_neg c]; omega
def dC (n : Nat) (xs : Nat → Nat) (r0 r1 r5 r6 : Nat) (line : Int) (j x : Nat) : Nat := spCol ((spDots n xs r0 r1 r5 r6 line x).take j)
def dN (n : Nat) (xs : Nat → Nat) (r0 r1 r5 r6 : Nat) (line : Int) (j x : Nat) : Nat := spCnt ((spDots n xs r0 r1 r5 r6 line x).take j)
section
variable {n : Nat} {xs : Nat → Nat} {r0 r1 r5 r6 : Nat} {line : Int}
theorem d_more (j x i d : Nat) (h8 : j < 8) (hi : (spL n xs r1 r5 line)[j]? = some i) (hd : spDot n xs r0 r1 r5 r6 line x i = d) :
    dC n xs r0 r1 r5 r6 line (j + 1) x = (if dN n xs r0 r1 r5 r6 line j x = 0 then (if d = 0 then 0 else 16 + d) else dC n xs r0 r1 r5 r6 line j x) ∧ dN n xs r0 r1 r5 r6 line (j + 1) x = (if d = 0 then dN n xs r0 r1 r5 r6 line j x else dN n xs r0 r1 r5 r6 line j x + 1) := by
  have e : (spDots n xs r0 r1 r5 r6 line x)[j]? = some d := by
    unfold spDots
    rw [List.getElem?_map, List.getElem?_take, if_pos h8, hi]
    exact congrArg some hd
  have et : (spDots n xs r0 r1 r5 r6 line x).take (j + 1) = (spDots n xs r0 r1 r5 r6 line x).take j ++ [d] := by rw [List.take_add_one, e]; rfl
  unfold dC dN
  rw [et]
  exact ⟨spCol_snoc _ _, spCnt_snoc _ _⟩
theorem d_same (j x : Nat) (h8 : ¬ j < 8) : dC n xs r0 r1 r5 r6 line (j + 1) x = dC n xs r0 r1 r5 r6 line j x ∧ dN n xs r0 r1 r5 r6 line (j + 1) x = dN n xs r0 r1 r5 r6 line j x := by
  have : (spDots n xs r0 r1 r5 r6 line x).length ≤ 8 := by unfold spDots; rw [List.length_map, List.length_take]; omega
  unfold dC dN
  rw [List.take_of_length_le (by omega), List.take_of_length_le (by omega)]
  exact ⟨rfl, rfl⟩
theorem dN_mono (j x : Nat) : dN n xs r0 r1 r5 r6 line j x ≤ dN n xs r0 r1 r5 r6 line (j + 1) x := by
  unfold dN
  rw [List.take_add_one]
  cases (spDots n xs r0 r1 r5 r6 line x)[j]? with
  | none => simp
  | some d =>
    show _ ≤ spCnt (_ ++ [d])
    rw [spCnt_snoc]
    split <;> omega
theorem dC_zero (j x : Nat) : dC n xs r0 r1 r5 r6 line j x = 0 ↔ dN n xs r0 r1 r5 r6 line j x = 0 := by
  unfold dC dN
  constructor
  · intro h
    by_cases c : spCnt ((spDots n xs r0 r1 r5 r6 line x).take j) = 0
    · exact c
    · have := spCol_some _ (by omega : 0 < spCnt ((spDots n xs r0 r1 r5 r6 line x).take j)); omega
  · exact spCol_none _
theorem d_all (j x : Nat) (hj : (spL n xs r1 r5 line).length ≤ j) : dC n xs r0 r1 r5 r6 line j x = spC n xs r0 r1 r5 r6 line x ∧ dN n xs r0 r1 r5 r6 line j x = spCnt (spDots n xs r0 r1 r5 r6 line x) := by
  have : (spDots n xs r0 r1 r5 r6 line x).length ≤ j := by unfold spDots; rw [List.length_map, List.length_take]; omega
  unfold dC dN spC
  rw [List.take_of_length_le this]
  exact ⟨rfl, rfl⟩
end
theorem ron_r (a : Option Addr) (n cap : Nat) (xs : Nat → Nat) (r0 r1 r2 r3 r4 r5 r6 r7 r8 r9 r10 : Nat) (line : Int) (b1 : r1 < 256) (b5 : r5 < 256) (l0 : 0 ≤ line) (l1 : line ≤ 191) (L : List Nat) (k : Nat) (hL : Hid (spL n xs r1 r5 line = L)) (hk : Hid (L.length = k)) (w : World) (hV : ByteRow w a n xs) :
    Calls Try.prog 25 #[.slice a n cap, regsV r0 r1 r2 r3 r4 r5 r6 r7 r8 r9 r10, .int .i64 line] w fun e w' => ∃ p c R, e = .returned (.slice p k c) ∧ RowN 1 3 R (.slice p k c) k (nts L) ∧ (∀ x ∈ R, w.heap.size ≤ x.1 ∧ Whole w' x.1 x.2.1 x.2.2) ∧ Below w.heap.size w w' := by
  obtain rfl : L.length = k := hk.out
  exact (ron_at a n cap xs r0 r1 r2 r3 r4 r5 r6 r7 r8 r9 r10 line b1 b5 l0 l1 L hL w hV).mono fun e w' ⟨v, R, h1, h2, h3, h4⟩ => by
    have hs := h2
    obtain ⟨-, ⟨-, rfl, h0⟩ | ⟨g, c, cur, -, rfl, -⟩⟩ := hs
    · exact ⟨none, 0, R, by rw [h1, h0], by rw [h0] at h2 ⊢; exact h2, h3, h4⟩
    · exact ⟨_, c, R, h1, h2, h3, h4⟩
set_option maxRecDepth 100000 in
set_option maxHeartbeats 12800000 in
theorem rrowsp_in (a : Option Addr) (n cap : Nat) (xs : Nat → Nat) (r0 r1 r2 r3 r4 r5 r6 r7 r8 r9 r10 : Nat) (line : Int) (b0 : r0 < 256) (b1 : r1 < 256) (b5 : r5 < 256) (b6 : r6 < 256) (l0 : 0 ≤ line) (l1 : line ≤ 191) (m : Bool) (hm : Hid (spK n xs r0 r1 r5 r6 line = m)) (w : World) (hV : ByteRow w a n xs) :
    Calls Try.prog 26 #[.slice a n cap, regsV r0 r1 r2 r3 r4 r5 r6 r7 r8 r9 r10, .int .i64 line] w fun e w' => ∃ g ys, e = .returned (.tuple #[.slice (some ⟨g, 0, none⟩) 256 256, .bool m]) ∧ w.heap.size ≤ g ∧ Whole w' g 5 (b8 256 ys) ∧ (∀ x, x < 256 → ys x = spC n xs r0 r1 r5 r6 line x) ∧ (∀ i, ys i < 256) ∧ Below w.heap.size w w' := by
  have HM := Lib.hid (Own.start w)
  have tg1 : Hid True := trivial
  have tg2 : Hid True := trivial
  have HV := Lib.hid hV
  have H0 := Lib.hid b0
  have H1 := Lib.hid b1
  have H5 := Lib.hid b5
  have H6 := Lib.hid b6
  have L0 := Lib.hid l0
  have L1 := Lib.hid l1
  obtain ⟨L, hL⟩ : ∃ L, Hid (spL n xs r1 r5 line = L) := ⟨_, rfl⟩
  obtain ⟨k, hk⟩ : ∃ k, Hid (L.length = k) := ⟨_, rfl⟩
  have HK : Hid (k ≤ 64) := Lib.hid (by rw [← hk.out, ← hL.out]; exact spFrom_le _ _ _ _ _)
  have HLT : Hid (∀ i ∈ L, i < 64 ∧ spTop (mem n xs (spBase r5 + i)) ≤ line) := Lib.hid fun i hi => by
    rw [← hL.out] at hi
    have h1 := spFrom_lt _ _ _ _ _ i hi
    exact ⟨by omega, spFrom_top (Y := spY n xs r5) _ _ i hi⟩
  have hmk := Lib.hid (made_bytes 256 (by decide))
  clear hV b0 b1 b5 b6 l0 l1
  go_enter Try.func26, Try.ntmps26
  go_upto_region 4 with (first
    | (simp only [Act.put, List.setIfInBounds_toArray, List.set_cons_zero, List.set_cons_succ])
    | ((with_reducible apply own_makes (cs := b8 256 (fun _ => 0)) (e := 5) (n := 256) HM); exact rfl; exact rfl; exact rfl; exact hmk.out; exact rfl; clear HM; clear tg2; intro w' g2 HM)
    | (go_at_call 25; (with_reducible refine (ron_r a n cap xs r0 r1 r2 r3 r4 r5 r6 r7 r8 r9 r10 line H1.out H5.out L0.out L1.out L k hL hk _ (HV.out.under (Own.fin HM))).mono ?_); rintro e w' ⟨p2, cp2, R, rfl, HR, hW, hb⟩; have HM' := Lib.hid (HM.out.addN hb HR hW); simp only [List.cons_append, List.nil_append] at HM'; clear HM hb hW; have HM := HM'; clear HM')
    | ((with_reducible apply own_box HM); exact rfl; (conv => lhs; whnf); exact rfl; exact rfl; (first | (clear tg1 HM; intro w' g1 HM) | (clear tg2 HM; intro w' g2 HM) | (clear tg3 HM; intro w' g3 HM) | (clear tg4 HM; intro w' g4 HM) | (clear HM; intro w' g' HM))) | ((with_reducible apply own_cell HM); exact rfl; exact rfl; (first | (with_reducible exact one8) | (with_reducible exact oneInt)); exact sS; exact dS; exact rfl) | ((with_reducible apply own_load HM); exact rfl; exact rfl; (first | (with_reducible exact agg11) | (with_reducible exact agg2i)); exact sS; exact dS; exact tS; exact rfl) | ((with_reducible apply own_store HM); exact rfl; exact rfl; (conv => lhs; whnf); exact rfl; exact sS; exact vS; exact sS; (first | (with_reducible exact (agg11).size) | (with_reducible exact (agg2i).size) | (with_reducible exact (one8).size) | (with_reducible exact (oneInt).size)); exact rfl; exact rfl; exact rfl; exact rfl; clear HM; intro w' HM))
  have HRR := Lib.hid HR
  clear HR hmk
  have zD : ∀ x, dC n xs r0 r1 r5 r6 line 0 x = 0 ∧ dN n xs r0 r1 r5 r6 line 0 x = 0 := fun x => ⟨rfl, rfl⟩
  go_loopw [9, 20] (fun mv iv wr => ∃ (j : Nat) (b : Bool) (ys : Nat → Nat), j ≤ k ∧ iv = .int .i64 (j : Int) ∧ mv = .bool b ∧ Hid ((∀ x, x < 256 → ys x = dC n xs r0 r1 r5 r6 line j x) ∧ (∀ i, ys i < 256) ∧ (b = true ↔ ∃ x, x < 256 ∧ 2 ≤ dN n xs r0 r1 r5 r6 line j x)) ∧ Hid (Own w wr ((g2, 5, b8 256 ys) :: (g1, 27, [.int .u8 (r0 : Int), .int .u8 (r1 : Int), .int .u8 (r2 : Int), .int .u8 (r3 : Int), .int .u8 (r4 : Int), .int .u8 (r5 : Int), .int .u8 (r6 : Int), .int .u8 (r7 : Int), .int .u8 (r8 : Int), .int .u8 (r9 : Int), .int .u8 (r10 : Int)]) :: R))) (fun _ iv _ => k - (intOf iv).toNat)
  case atStart =>
    refine ⟨0, false, fun _ => 0, by omega, rfl, rfl, Lib.hid ⟨fun x _ => ((zD x).1).symm, fun _ => by show 0 < 256; decide, ?_⟩, HM⟩
    constructor
    · intro h; cases h
    · rintro ⟨x, _, h⟩; rw [(zD x).2] at h; omega
  case round =>
    clear HM zD
    obtain ⟨j, b, ys, hj, rfl, rfl, HS, HM⟩ := hrel
    by_cases hlt : j < k
    · have hlt' : (j : Int) < (k : Int) := by omega
      have k64 : (k : Int) ≤ 64 := by have := HK.out; omega
      have HJ := Lib.hid hlt
      have hkl : j < L.length := by rw [hk.out]; exact hlt
      obtain ⟨i, hi⟩ : ∃ i, L[j]? = some i := ⟨_, List.getElem?_eq_getElem hkl⟩
      have HI : Hid (i < 64 ∧ spTop (mem n xs (spBase r5 + i)) ≤ line) := Lib.hid (HLT.out i (List.mem_of_getElem? hi))
      have HLI : Hid ((spL n xs r1 r5 line)[j]? = some i) := Lib.hid (by rw [hL.out]; exact hi)
      obtain ⟨-, ⟨-, -, h0⟩ | ⟨gr, cpx, cur, eR, ev, -, -, -, h4⟩⟩ := HRR.out
      · exfalso; omega
      · subst eR
        cases ev
        have HCUR : Hid (cur[j]? = some (.int .i64 (i : Int))) := Lib.hid (by
          have e1 : (cur.take (k * 1))[j]? = cur[j]? := by rw [List.getElem?_take, if_pos (by omega)]
          rw [← e1, h4]
          exact nts_get L j i hi)
        have j64 : (j : Int) < 64 := by omega
        clear h4 hi hkl hlt hj
        go_upto_region 7 with (first | (simp only [Act.put, List.setIfInBounds_toArray, List.set_cons_zero, List.set_cons_succ]) | ((with_reducible apply own_get HM); exact rfl; exact rfl; (with_reducible exact oneInt'); (first | with_reducible exact .z | with_reducible exact .s .z | with_reducible exact .s (.s .z)); exact HCUR.out; exact rfl) | ((with_reducible apply own_box HM); exact rfl; (conv => lhs; whnf); exact rfl; exact rfl; (first | (clear tg1 HM; intro w' g1 HM) | (clear tg2 HM; intro w' g2 HM) | (clear tg3 HM; intro w' g3 HM) | (clear tg4 HM; intro w' g4 HM) | (clear HM; intro w' g' HM))) | ((with_reducible apply own_cell HM); exact rfl; exact rfl; (first | (with_reducible exact one8) | (with_reducible exact oneInt)); exact sS; exact dS; exact rfl) | ((with_reducible apply own_load HM); exact rfl; exact rfl; (first | (with_reducible exact agg11) | (with_reducible exact agg2i)); exact sS; exact dS; exact tS; exact rfl) | ((with_reducible apply own_store HM); exact rfl; exact rfl; (conv => lhs; whnf); exact rfl; exact sS; exact vS; exact sS; (first | (with_reducible exact (agg11).size) | (with_reducible exact (agg2i).size) | (with_reducible exact (one8).size) | (with_reducible exact (oneInt).size)); exact rfl; exact rfl; exact rfl; exact rfl; clear HM; intro w' HM))
        go_loopw [9, 12] (fun mv xv wr => ∃ (y : Nat) (b' : Bool) (zs : Nat → Nat), y ≤ 256 ∧ xv = .int .i64 (y : Int) ∧ mv = .bool b' ∧ Hid ((∀ x, x < 256 → zs x = if x < y then dC n xs r0 r1 r5 r6 line (j + 1) x else dC n xs r0 r1 r5 r6 line j x) ∧ (∀ i, zs i < 256) ∧ (b' = true ↔ (∃ x, x < 256 ∧ 2 ≤ dN n xs r0 r1 r5 r6 line j x) ∨ ∃ x, x < y ∧ 2 ≤ dN n xs r0 r1 r5 r6 line (j + 1) x)) ∧ Hid (Own w wr ((g2, 5, b8 256 zs) :: (g1, 27, [.int .u8 (r0 : Int), .int .u8 (r1 : Int), .int .u8 (r2 : Int), .int .u8 (r3 : Int), .int .u8 (r4 : Int), .int .u8 (r5 : Int), .int .u8 (r6 : Int), .int .u8 (r7 : Int), .int .u8 (r8 : Int), .int .u8 (r9 : Int), .int .u8 (r10 : Int)]) :: [(gr, 3, cur)]))) (fun _ xv _ => 256 - (intOf xv).toNat)
        case atStart =>
          refine ⟨0, b, ys, by omega, rfl, rfl, Lib.hid ⟨fun x hx => ?_, HS.out.2.1, ?_⟩, HM⟩
          · rw [if_neg (by omega)]; exact HS.out.1 x hx
          · rw [HS.out.2.2]
            constructor
            · exact .inl
            · rintro (h | ⟨x, h, _⟩)
              · exact h
              · omega
        case round =>
          clear HM HS
          obtain ⟨y, b', zs, hy, rfl, rfl, HS, HM⟩ := hrel
          have HY := Lib.hid hy
          by_cases go : y < 256 ∧ j < 8
          · obtain ⟨hy1, hj8⟩ := go
            have hy' : (y : Int) < 256 := by omega
            have hj' : (j : Int) < 8 := by omega
            have HYY := Lib.hid hy1
            obtain ⟨d, hd⟩ : ∃ d, Hid (spDot n xs r0 r1 r5 r6 line y i = d) := ⟨_, rfl⟩
            have HDM := Lib.hid (d_more j y i d hj8 HLI.out hd.out)
            have d16 : d < 16 := hd.out ▸ spDotV_lt (tAt_lt n xs) _ _ _ _ _ _ _ _
            obtain ⟨z, hz⟩ : ∃ z, zs y = z := ⟨_, rfl⟩
            have HYG : Hid ((b8 256 zs)[y]? = some (.int .u8 (z : Int))) := Lib.hid (by rw [b8_get 256 zs y hy1, hz])
            have HZ : Hid (z = dC n xs r0 r1 r5 r6 line j y) := Lib.hid (by rw [← hz, HS.out.1 y hy1, if_neg (by omega)])
            have HZ0 : Hid (z = 0 ↔ dN n xs r0 r1 r5 r6 line j y = 0) := Lib.hid (by rw [HZ.out]; exact dC_zero j y)
            clear hz hy hy1 hj8
            by_cases d0 : d = 0
            · have D0 : ¬ (0 : Int) < (d : Int) := by omega
              have Hd0 := Lib.hid d0
              clear d0 d16
              go_wp2_with (first | ((with_reducible apply own_get HM); exact rfl; exact rfl; (with_reducible exact one8); (first | with_reducible exact .z | with_reducible exact .s .z | with_reducible exact .s (.s .z)); exact HYG.out; exact rfl) | (go_at_call 38; (with_reducible refine (rspdot_in a n cap xs r0 r1 r2 r3 r4 r5 r6 r7 r8 r9 r10 i y line H0.out H1.out H5.out H6.out HI.out.1 L1.out HYY.out HI.out.2 d hd _ (HV.out.under (Own.fin HM))).mono ?_); rintro e w' ⟨rfl, hb⟩; replace HM := Lib.hid (HM.out.call hb); clear hb) | ((with_reducible apply own_box HM); exact rfl; (conv => lhs; whnf); exact rfl; exact rfl; (first | (clear tg1 HM; intro w' g1 HM) | (clear tg2 HM; intro w' g2 HM) | (clear tg3 HM; intro w' g3 HM) | (clear tg4 HM; intro w' g4 HM) | (clear HM; intro w' g' HM))) | ((with_reducible apply own_cell HM); exact rfl; exact rfl; (first | (with_reducible exact one8) | (with_reducible exact oneInt)); exact sS; exact dS; exact rfl) | ((with_reducible apply own_load HM); exact rfl; exact rfl; (first | (with_reducible exact agg11) | (with_reducible exact agg2i)); exact sS; exact dS; exact tS; exact rfl) | ((with_reducible apply own_store HM); exact rfl; exact rfl; (conv => lhs; whnf); exact rfl; exact sS; exact vS; exact sS; (first | (with_reducible exact (agg11).size) | (with_reducible exact (agg2i).size) | (with_reducible exact (one8).size) | (with_reducible exact (oneInt).size)); exact rfl; exact rfl; exact rfl; exact rfl; clear HM; intro w' HM))
              go_roundw
              case rel =>
                refine ⟨y + 1, b', zs, by have := HYY.out; omega, by go_num, rfl, Lib.hid ⟨fun x hx => ?_, HS.out.2.1, ?_⟩, HM⟩
                · have e1 := HDM.out.1
                  rw [Hd0.out] at e1
                  rw [HS.out.1 x hx]
                  by_cases c : x = y
                  · subst c
                    rw [if_neg (by omega), if_pos (by omega), e1]
                    split
                    · rename_i h0; exact (dC_zero j x).2 h0
                    · rfl
                  · by_cases c2 : x < y
                    · rw [if_pos c2, if_pos (by omega)]
                    · rw [if_neg c2, if_neg (by omega)]
                · rw [HS.out.2.2]
                  have e2 := HDM.out.2
                  rw [if_pos Hd0.out] at e2
                  constructor
                  · rintro (h | ⟨x, h1, h2⟩)
                    · exact .inl h
                    · exact .inr ⟨x, by omega, h2⟩
                  · rintro (h | ⟨x, h1, h2⟩)
                    · exact .inl h
                    · by_cases c : x = y
                      · subst c; exact .inl ⟨x, HYY.out, by omega⟩
                      · exact .inr ⟨x, by omega, h2⟩
              case measure => have := HYY.out; simp [intOf]; omega
            · have D1 : (0 : Int) < (d : Int) := by omega
              have Hd0 := Lib.hid d0
              by_cases z0 : z = 0
              · have Z0 : ¬ (0 : Int) < (z : Int) := by omega
                obtain ⟨c2, hc2⟩ : ∃ c, 16 + d = c := ⟨_, rfl⟩
                have C2 : 16 + (d : Int) = (c2 : Int) := by omega
                have C3 : (c2 : Int) < 32 := by omega
                have HC2 : Hid (16 + d = c2 ∧ c2 < 256 ∧ dN n xs r0 r1 r5 r6 line j y = 0) := Lib.hid ⟨hc2, by omega, HZ0.out.1 z0⟩
                clear d0 d16 z0 hc2
                go_wp2_with (first | (simp only [Act.put, List.setIfInBounds_toArray, List.set_cons_zero, List.set_cons_succ]) | ((with_reducible apply own_get HM); exact rfl; exact rfl; (with_reducible exact one8); (first | with_reducible exact .z | with_reducible exact .s .z | with_reducible exact .s (.s .z)); exact HYG.out; exact rfl) | (go_at_call 38; (with_reducible refine (rspdot_in a n cap xs r0 r1 r2 r3 r4 r5 r6 r7 r8 r9 r10 i y line H0.out H1.out H5.out H6.out HI.out.1 L1.out HYY.out HI.out.2 d hd _ (HV.out.under (Own.fin HM))).mono ?_); rintro e w' ⟨rfl, hb⟩; replace HM := Lib.hid (HM.out.call hb); clear hb) | ((with_reducible apply own_b8 (v := c2) HM); exact rfl; exact rfl; exact rfl; exact one8; exact HYY.out; exact rfl; exact rfl; clear HM; intro w' HM) | ((with_reducible apply own_box HM); exact rfl; (conv => lhs; whnf); exact rfl; exact rfl; (first | (clear tg1 HM; intro w' g1 HM) | (clear tg2 HM; intro w' g2 HM) | (clear tg3 HM; intro w' g3 HM) | (clear tg4 HM; intro w' g4 HM) | (clear HM; intro w' g' HM))) | ((with_reducible apply own_cell HM); exact rfl; exact rfl; (first | (with_reducible exact one8) | (with_reducible exact oneInt)); exact sS; exact dS; exact rfl) | ((with_reducible apply own_load HM); exact rfl; exact rfl; (first | (with_reducible exact agg11) | (with_reducible exact agg2i)); exact sS; exact dS; exact tS; exact rfl) | ((with_reducible apply own_store HM); exact rfl; exact rfl; (conv => lhs; whnf); exact rfl; exact sS; exact vS; exact sS; (first | (with_reducible exact (agg11).size) | (with_reducible exact (agg2i).size) | (with_reducible exact (one8).size) | (with_reducible exact (oneInt).size)); exact rfl; exact rfl; exact rfl; exact rfl; clear HM; intro w' HM))
                go_roundw
                case rel =>
                  refine ⟨y + 1, b', upd zs y c2, by have := HYY.out; omega, by go_num, rfl, Lib.hid ⟨fun x hx => ?_, upd_lt HS.out.2.1 y HC2.out.2.1, ?_⟩, HM⟩
                  · have e1 := HDM.out.1
                    rw [if_pos HC2.out.2.2, if_neg Hd0.out] at e1
                    unfold upd
                    by_cases c : x = y
                    · subst c
                      rw [if_pos rfl, if_pos (by omega), e1]; exact HC2.out.1.symm
                    · rw [if_neg c, HS.out.1 x hx]
                      by_cases c2 : x < y
                      · rw [if_pos c2, if_pos (by omega)]
                      · rw [if_neg c2, if_neg (by omega)]
                  · rw [HS.out.2.2]
                    have e2 := HDM.out.2
                    rw [if_neg Hd0.out, HC2.out.2.2] at e2
                    constructor
                    · rintro (h | ⟨x, h1, h2⟩)
                      · exact .inl h
                      · exact .inr ⟨x, by omega, h2⟩
                    · rintro (h | ⟨x, h1, h2⟩)
                      · exact .inl h
                      · by_cases c : x = y
                        · subst c; omega
                        · exact .inr ⟨x, by omega, h2⟩
                case measure => have := HYY.out; simp [intOf]; omega
              · have Z0 : (0 : Int) < (z : Int) := by omega
                have HN0 : Hid (¬ dN n xs r0 r1 r5 r6 line j y = 0) := Lib.hid (fun h => z0 (HZ0.out.2 h))
                clear d0 d16 z0
                go_wp2_with (first | (simp only [Act.put, List.setIfInBounds_toArray, List.set_cons_zero, List.set_cons_succ]) | ((with_reducible apply own_get HM); exact rfl; exact rfl; (with_reducible exact one8); (first | with_reducible exact .z | with_reducible exact .s .z | with_reducible exact .s (.s .z)); exact HYG.out; exact rfl) | (go_at_call 38; (with_reducible refine (rspdot_in a n cap xs r0 r1 r2 r3 r4 r5 r6 r7 r8 r9 r10 i y line H0.out H1.out H5.out H6.out HI.out.1 L1.out HYY.out HI.out.2 d hd _ (HV.out.under (Own.fin HM))).mono ?_); rintro e w' ⟨rfl, hb⟩; replace HM := Lib.hid (HM.out.call hb); clear hb) | ((with_reducible apply own_box HM); exact rfl; (conv => lhs; whnf); exact rfl; exact rfl; (first | (clear tg1 HM; intro w' g1 HM) | (clear tg2 HM; intro w' g2 HM) | (clear tg3 HM; intro w' g3 HM) | (clear tg4 HM; intro w' g4 HM) | (clear HM; intro w' g' HM))) | ((with_reducible apply own_cell HM); exact rfl; exact rfl; (first | (with_reducible exact one8) | (with_reducible exact oneInt)); exact sS; exact dS; exact rfl) | ((with_reducible apply own_load HM); exact rfl; exact rfl; (first | (with_reducible exact agg11) | (with_reducible exact agg2i)); exact sS; exact dS; exact tS; exact rfl) | ((with_reducible apply own_store HM); exact rfl; exact rfl; (conv => lhs; whnf); exact rfl; exact sS; exact vS; exact sS; (first | (with_reducible exact (agg11).size) | (with_reducible exact (agg2i).size) | (with_reducible exact (one8).size) | (with_reducible exact (oneInt).size)); exact rfl; exact rfl; exact rfl; exact rfl; clear HM; intro w' HM))
                go_roundw
                case rel =>
                  refine ⟨y + 1, true, zs, by have := HYY.out; omega, by go_num, rfl, Lib.hid ⟨fun x hx => ?_, HS.out.2.1, ?_⟩, HM⟩
                  · have e1 := HDM.out.1
                    rw [if_neg HN0.out] at e1
                    rw [HS.out.1 x hx]
                    by_cases c : x = y
                    · subst c
                      rw [if_neg (by omega), if_pos (by omega), e1]
                    · by_cases c2 : x < y
                      · rw [if_pos c2, if_pos (by omega)]
                      · rw [if_neg c2, if_neg (by omega)]
                  · have e2 := HDM.out.2
                    rw [if_neg Hd0.out] at e2
                    have := HN0.out
                    exact ⟨fun _ => .inr ⟨y, by omega, by omega⟩, fun _ => rfl⟩
                case measure => have := HYY.out; simp [intOf]; omega
          · have stop : Hid (y = 256 ∨ ¬ j < 8) := Lib.hid (by omega)
            have hs2 : ¬ (y : Int) < 256 ∨ ((y : Int) < 256 ∧ ¬ (j : Int) < 8) := by omega
            clear hy go
            rcases hs2 with h1 | ⟨h1, h2⟩
            all_goals
              go_wp2_with (first | (simp only [Act.put, List.setIfInBounds_toArray, List.set_cons_zero, List.set_cons_succ]) | ((with_reducible apply own_box HM); exact rfl; (conv => lhs; whnf); exact rfl; exact rfl; (first | (clear tg1 HM; intro w' g1 HM) | (clear tg2 HM; intro w' g2 HM) | (clear tg3 HM; intro w' g3 HM) | (clear tg4 HM; intro w' g4 HM) | (clear HM; intro w' g' HM))) | ((with_reducible apply own_cell HM); exact rfl; exact rfl; (first | (with_reducible exact one8) | (with_reducible exact oneInt)); exact sS; exact dS; exact rfl) | ((with_reducible apply own_load HM); exact rfl; exact rfl; (first | (with_reducible exact agg11) | (with_reducible exact agg2i)); exact sS; exact dS; exact tS; exact rfl) | ((with_reducible apply own_store HM); exact rfl; exact rfl; (conv => lhs; whnf); exact rfl; exact sS; exact vS; exact sS; (first | (with_reducible exact (agg11).size) | (with_reducible exact (agg2i).size) | (with_reducible exact (one8).size) | (with_reducible exact (oneInt).size)); exact rfl; exact rfl; exact rfl; exact rfl; clear HM; intro w' HM))
              go_roundw
              case rel =>
                refine ⟨j + 1, b', zs, by have := HJ.out; omega, by go_num, rfl, Lib.hid ⟨fun x hx => ?_, HS.out.2.1, ?_⟩, HM⟩
                · rw [HS.out.1 x hx]
                  rcases stop.out with h | h
                  · rw [if_pos (by omega)]
                  · rw [(d_same j x h).1]; split <;> rfl
                · rw [HS.out.2.2]
                  rcases stop.out with h | h
                  · constructor
                    · rintro (⟨x, h1, h2⟩ | ⟨x, h1, h2⟩)
                      · exact ⟨x, h1, Nat.le_trans h2 (dN_mono j x)⟩
                      · exact ⟨x, by omega, h2⟩
                    · rintro ⟨x, h1, h2⟩
                      exact .inr ⟨x, by omega, h2⟩
                  · constructor
                    · rintro (⟨x, h1, h2⟩ | ⟨x, h1, h2⟩)
                      · exact ⟨x, h1, by rw [(d_same j x h).2]; exact h2⟩
                      · exact ⟨x, by have := HY.out; omega, h2⟩
                    · rintro ⟨x, h1, h2⟩
                      exact .inl ⟨x, h1, by rw [← (d_same j x h).2]; exact h2⟩
              case measure => have := HJ.out; simp [intOf]; omega
    · have hge : ¬ (j : Int) < (k : Int) := by omega
      have HJK : Hid ((spL n xs r1 r5 line).length ≤ j) := Lib.hid (by rw [hL.out, hk.out]; omega)
      have EB : b = m := by
        rw [← hm.out, Bool.eq_iff_iff, HS.out.2.2]
        unfold spK
        simp only [List.any_eq_true, List.mem_range, decide_eq_true_eq]
        constructor
        · rintro ⟨x, h1, h2⟩; exact ⟨x, h1, by rw [← (d_all j x HJK.out).2]; exact h2⟩
        · rintro ⟨x, h1, h2⟩; exact ⟨x, h1, by rw [(d_all j x HJK.out).2]; exact h2⟩
      subst EB
      clear hlt hj
      go_wp2_with (first | (simp only [Act.put, List.setIfInBounds_toArray, List.set_cons_zero, List.set_cons_succ]) | ((with_reducible apply own_box HM); exact rfl; (conv => lhs; whnf); exact rfl; exact rfl; (first | (clear tg1 HM; intro w' g1 HM) | (clear tg2 HM; intro w' g2 HM) | (clear tg3 HM; intro w' g3 HM) | (clear tg4 HM; intro w' g4 HM) | (clear HM; intro w' g' HM))) | ((with_reducible apply own_cell HM); exact rfl; exact rfl; (first | (with_reducible exact one8) | (with_reducible exact oneInt)); exact sS; exact dS; exact rfl) | ((with_reducible apply own_load HM); exact rfl; exact rfl; (first | (with_reducible exact agg11) | (with_reducible exact agg2i)); exact sS; exact dS; exact tS; exact rfl) | ((with_reducible apply own_store HM); exact rfl; exact rfl; (conv => lhs; whnf); exact rfl; exact sS; exact vS; exact sS; (first | (with_reducible exact (agg11).size) | (with_reducible exact (agg2i).size) | (with_reducible exact (one8).size) | (with_reducible exact (oneInt).size)); exact rfl; exact rfl; exact rfl; exact rfl; clear HM; intro w' HM))
      go_ret2
      have e := HM.out.whole (g2, 5, b8 256 ys) (by simp)
      exact ⟨g2, rfl, e.1, ys, e.2, fun x hx => by rw [HS.out.1 x hx]; exact (d_all j x HJK.out).1, HS.out.2.1, Own.fin HM⟩
def tbx (n : Nat) (F : Nat → Nat) : ByteArray := strOfNums ((List.range n).map fun i => (F i : Int))
section
variable {W0 w : World} {l : List (Nat × TypeId × List Value)} {a : Act} {K' : Act → Prop} {dst : Option Tmp} {ty0 : TypeId} {pos : String} {aft : Array Edge} {gd : Option (Nat × Bool)} {x : Operand} {g n c : Nat} {t : TypeId} {cs : List Value} {F : Nat → Nat} {T : ByteArray}
theorem txt_run (h : Own W0 w l) (hs : Sel l g t cs) (hc : ∀ i, i < n → cs[i]? = some (.int .u8 (F i : Int))) : (convert 22 9 (.slice (some ⟨g, 0, none⟩) n c)).run Try.prog w = .ok (.string (tbx n F)) w := by
  have hl : ((List.range n).map fun i => (F i : Int)).length = n := by simp
  refine run_convert_bytes_arg w 22 5 Try.underlying22 Try.underlying5 g 0 n c _ hl (fun i hi => ?_) 9 Try.underlying9
  rw [Nat.zero_add, (h.at_ hs).at_ i, hc i (by simpa using hi)]
  simp [List.getD_eq_getElem?_getD, (by simpa using hi : i < n)]
theorem quiet_txt (hT : tbx n F = T) (hx : a.eval x = .slice (some ⟨g, 0, none⟩) n c) (hs : Sel l g t cs) (hc : ∀ i, i < n → cs[i]? = some (.int .u8 (F i : Int)))
    (h : Oper.quiet Try.prog ⟨dst, .move (.const (.string T)), ty0, pos, aft, gd⟩ a (fun w' => Own W0 w' l) K') : Oper.quiet Try.prog ⟨dst, .convert 22 9 x, ty0, pos, aft, gd⟩ a (fun w' => Own W0 w' l) K' :=
  quiet_as (fun w hC => by
    unfold execOp
    simp only [hx, Sem.run_bind, txt_run (c := c) hC hs hc, hT]
    rfl) h
end
end Go.Proofs.Ytijjigacmmhloaa
